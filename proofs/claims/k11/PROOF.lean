import PyProof.Rows.All
import Wide.All
import OpenK.AllK
import Wide.FinOn
import Lean
import PyProof.EqAt
import PyProof.EqKinds
import PyProof.TupleCall
import PyProof.FString
import OpenK.KOwn
import KE.KTryMore
import PyProof.NsDelKeeps
import PyProof.StrBlock2
import PyProof.AutoListH
import KE.KIntText
import PyProof.Rows.StrIntSpec
import KE.KRevIter
import PyProof.StrWalks
import PyProof.CompUse
import PyProof.NeKinds
import PyProof.Rows.Range3
import PyProof.Rows.EnumRows
import PyProof.ConsumeWalk
import PyProof.Rows.SeqGen
import PyProof.StrLawsRepr
import PyProof.ZipIter
import PyProof.Rows.FactsT2
import PyProof.EnumMake
import PyProof.DictWalks
import PyProof.DictTruth
import PyProof.ListRange
import PyProof.ListStr
import PyProof.TupleOfGen
import PyProof.TupleOfSeq
import PyProof.MinMaxWalk
import PyProof.WalkInts
import KE.KSortAsk
import PyProof.MeetsSeq3
import KE.KRevSl
import PyProof.Rows.SeqMore
import PyProof.ListMulRoad
import PyProof.Rows.SumAny
import PyProof.SeqI3
import PyProof.AttrMissSeq
import KE.KDictOf
import PySem.Challenge.RW_cosetyard_k11_rooms_made
-- CHANGE: your row's module here, as the last of these rows
set_option Elab.async false
set_option linter.all false
set_option maxRecDepth 100000
namespace L2
open PySem PySem.Spec PyProof.Rows
abbrev Key := Sum Int Str
def keyIs : Key → Value → Bool
  | .inl k, v => Value.isInt k v
  | .inr x, v => Value.isStrOf x v
def keyH (w : World) : Key → Int
  | .inl k => hashInt k
  | .inr x => hashStr w x
theorem keyIs_shape : ∀ {k : Key} {v : Value}, keyIs k v = true → (∃ i t, k = Sum.inl i ∧ v = Value.int i t) ∨ (∃ x t, k = Sum.inr x ∧ v = Value.str x t)
  | .inl i, v, h => by
    obtain ⟨t, e⟩ := Value.isInt_shape (k := i) (v := v) h
    exact .inl ⟨i, t, rfl, e⟩
  | .inr x, v, h => by
    obtain ⟨t, e⟩ := Value.isStrOf_shape (x := x) (v := v) h
    exact .inr ⟨x, t, rfl, e⟩
theorem keyIs_int (i : Int) (t : Tok) : keyIs (.inl i) (.int i t) = true := by simp [keyIs, Value.isInt]
theorem keyIs_str (x : Str) (t : Tok) : keyIs (.inr x) (.str x t) = true := by simp [keyIs, Value.isStrOf]
theorem key_ll (a b : Int) : decide ((Sum.inl a : Key) = Sum.inl b) = (a == b) := by
  by_cases e : a = b
  · subst e; simp
  · have h : ¬ (Sum.inl a : Key) = Sum.inl b := fun q => e (Sum.inl.inj q)
    rw [decide_eq_false h]
    exact (beq_eq_false_iff_ne.mpr e).symm
theorem key_rr (a b : Str) : decide ((Sum.inr a : Key) = Sum.inr b) = decide (a = b) := by
  by_cases e : a = b
  · subst e; simp
  · have h : ¬ (Sum.inr a : Key) = Sum.inr b := fun q => e (Sum.inr.inj q)
    rw [decide_eq_false h, decide_eq_false e]
theorem key_lr (a : Int) (b : Str) : decide ((Sum.inl a : Key) = Sum.inr b) = false := decide_eq_false (fun q => nomatch q)
theorem key_rl (a : Str) (b : Int) : decide ((Sum.inr a : Key) = Sum.inl b) = false := decide_eq_false (fun q => nomatch q)
def mixKind (prog : Program) (w : World) : PySem.KeyKind prog w Key where
  is := keyIs
  hash := keyH w
  inj := fun v a b ha hb => by
    rcases keyIs_shape ha with ⟨i, t, rfl, rfl⟩ | ⟨x, t, rfl, rfl⟩
    · rcases keyIs_shape hb with ⟨j, u, rfl, e⟩ | ⟨y, u, rfl, e⟩
      · injection e with e1 _; rw [e1]
      · exact nomatch e
    · rcases keyIs_shape hb with ⟨j, u, rfl, e⟩ | ⟨y, u, rfl, e⟩
      · exact nomatch e
      · injection e with e1 _; rw [e1]
  byValue := fun k v h => by
    rcases keyIs_shape h with ⟨i, t, rfl, rfl⟩ | ⟨x, t, rfl, rfl⟩ <;> rfl
  pyHash := fun hv h => by
    rcases keyIs_shape hv with ⟨i, t, rfl, rfl⟩ | ⟨x, t, rfl, rfl⟩
    · exact wpAny_pyHash_int h
    · exact wpAny_pyHash_str h
  eqBool := fun hu hv h => by
    rcases keyIs_shape hu with ⟨i, t, rfl, rfl⟩ | ⟨x, t, rfl, rfl⟩
    · rcases keyIs_shape hv with ⟨j, u, rfl, rfl⟩ | ⟨y, u, rfl, rfl⟩
      · rw [key_ll] at h; exact wpAny_eqBool_int h
      · rw [key_lr] at h; exact SeqAt.EqAt.int_str i t y u _ _ _ _ h
    · rcases keyIs_shape hv with ⟨j, u, rfl, rfl⟩ | ⟨y, u, rfl, rfl⟩
      · rw [key_rl] at h; exact SeqAt.EqAt.str_int x t j u _ _ _ _ h
      · rw [key_rr] at h; exact wpAny_eqBool_str h
  «strs» := fun k x t v h => by
    rcases keyIs_shape h with ⟨i, u, rfl, e⟩ | ⟨y, u, rfl, e⟩
    · exact nomatch e
    · injection e with e1 _
      subst e1
      cases v <;> rfl
theorem mixKind_int (prog : Program) (w : World) (i : Int) (t : Tok) : (mixKind prog w).is (.inl i) (.int i t) = true := keyIs_int i t
theorem mixKind_str (prog : Program) (w : World) (x : Str) (t : Tok) : (mixKind prog w).is (.inr x) (.str x t) = true := keyIs_str x t
end L2
namespace L2
open PySem PySem.Spec PyProof.Rows
inductive V where
  | non | bl (b : Bool) | int (i : Int) | str (x : Str) | byt (b : Array UInt8) | flt (b : UInt64) | ref (a : Addr) | ty (n : String)
  deriving DecidableEq
def RelV : V → Value → Prop
  | .non, u => u = Value.none
  | .bl b, u => u = Value.bool b
  | .int i, u => ∃ t, u = Value.int i t
  | .str x, u => ∃ t, u = Value.str x t
  | .byt b, u => ∃ t, u = Value.bytes b t
  | .flt b, u => ∃ t, u = Value.float b t
  | .ref a, u => u = Value.ref a
  | .ty n, u => u = Value.type n
abbrev Vals : List V → List Value → Prop := Paired RelV
theorem Vals.length {xs : List V} {us : List Value} (r : Vals xs us) : xs.length = us.length := Paired.length r
theorem Vals.get : ∀ {xs : List V} {us : List Value} {i : Nat} {x : V}, Vals xs us → xs[i]? = some x → ∃ u, us[i]? = some u ∧ RelV x u
  | _, _, _, _, .nil, e => by simp at e
  | _, _, 0, _, .cons r _, e => by simp at e; subst e; exact ⟨_, rfl, r⟩
  | _, _, i + 1, x, .cons _ t, e => by
    obtain ⟨u, h1, h2⟩ := Vals.get (i := i) (x := x) t (by simpa using e)
    exact ⟨u, by simpa using h1, h2⟩
theorem Vals.set {x : V} {u : Value} (r : RelV x u) : ∀ {xs : List V} {us : List Value} (i : Nat), Vals xs us → Vals (xs.set i x) (us.set i u)
  | _, _, _, .nil => .nil
  | _, _, 0, .cons _ t => .cons r t
  | _, _, i + 1, .cons q t => .cons q (Vals.set r i t)
theorem Vals.append : ∀ {xs ys : List V} {us ws : List Value}, Vals xs us → Vals ys ws → Vals (xs ++ ys) (us ++ ws)
  | _, _, _, _, .nil, s => s
  | _, _, _, _, .cons r t, s => .cons r (Vals.append t s)
theorem Vals.take : ∀ {xs : List V} {us : List Value} (n : Nat), Vals xs us → Vals (xs.take n) (us.take n)
  | _, _, 0, _ => .nil
  | _, _, _ + 1, .nil => .nil
  | _, _, n + 1, .cons r t => .cons r (Vals.take n t)
theorem Vals.drop : ∀ {xs : List V} {us : List Value} (n : Nat), Vals xs us → Vals (xs.drop n) (us.drop n)
  | _, _, 0, r => r
  | _, _, _ + 1, .nil => .nil
  | _, _, n + 1, .cons _ t => Vals.drop n t
theorem Vals.none_of : ∀ {xs : List V} {us : List Value} {i : Nat}, Vals xs us → xs[i]? = none → us[i]? = none := fun {xs us i} r e => by
  have h1 := r.length
  have h2 : xs.length ≤ i := List.getElem?_eq_none_iff.mp e
  exact List.getElem?_eq_none_iff.mpr (by omega)
def RelO : Option V → Option Value → Prop
  | some v, some u => RelV v u
  | none, none => True
  | _, _ => False
def KV {κ : Type} : List (κ × V) → List (κ × Value) → Prop := Paired fun (p : κ × V) (q : κ × Value) => p.1 = q.1 ∧ RelV p.2 q.2
def kV : Key → V
  | .inl i => .int i
  | .inr x => .str x
inductive HO where
  /-- a list -/
  | lst (xs : List V)
  /-- a tuple (never changes) -/
  | tup (xs : List V)
  /-- a dict whose keys are ints and texts; one whose keys are tuples of ints and texts (the empty one is both) -/
  | dK (kvs : List (Key × V)) | dT (kvs : List (List Key × V))
  /-- a set of ints: its members, its size -/
  | set (S : Int → Bool) (n : Nat)
  /-- an instance of the class at C, its dict at dx, its attributes -/
  | ins (C dx : Addr) (fs : List (Str × V))
  /-- the dict of the instance at x -/
  | own (x : Addr)
  /-- the dict of an exception -/
  | xd (fs : List (Str × V))
  /-- a bound method, f of x -/
  | met (f x : Addr)
  /-- a range object lo, lo + 1, .. below hi -/
  | rng (lo hi : Int)
  /-- a thing that is known to the object (the script; a dict while a loop walks it): read, never written while it is so -/
  | frz (o : Obj) (u : HO)
  /-- a code object's table -/
  | tbl (ps : Array Value)
  /-- any other thing, by what is true of its one object (a def of one's own: SetO a S n := HO.ext fun h => ..) -/
  | ext (φ : Heap → Prop)
abbrev Hp := Addr → Option HO
def upd (H : Hp) (a : Addr) (o : HO) : Hp := fun b => if b = a then some o else H b
theorem upd_same {H : Hp} {a : Addr} {o : HO} : upd H a o a = some o := by unfold upd; rw [if_pos rfl]
theorem upd_ne {H : Hp} {a b : Addr} {o : HO} (h : b ≠ a) : upd H a o b = H b := by unfold upd; rw [if_neg h]
theorem ne_of {H : Hp} {a b : Addr} {o u : HO} (h : H a = some o) (h' : H b = some u) (d : o ≠ u) : a ≠ b := by
  intro e; subst e; rw [h] at h'; exact d (Option.some.inj h')
theorem ne_of_none {H : Hp} {a b : Addr} {o : HO} (h : H a = some o) (h' : H b = none) : a ≠ b := by
  intro e; subst e; rw [h] at h'; cases h'
section
variable (P : Program) (w : World)
def ObjOk (H : Hp) (h : Heap) (a : Addr) : HO → Prop
  | .lst xs => xs.length ≤ sizeLine ∧ ∃ (its : List Value) (n : Nat), Vals xs its ∧ h.get? a = some { cls := .type "list", data := .seq its.toArray n }
  | .tup xs => xs.length ≤ sizeLine ∧ ∃ its : List Value, Vals xs its ∧ IsTup h a its.toArray
  | .dK kvs => kvs.length ≤ sizeLine ∧ (a == sysModules) = false ∧ ∃ vs, KV kvs vs ∧ h.DictOf (mixKind P w) a vs
  | .dT kvs => kvs.length ≤ sizeLine ∧ (a == sysModules) = false ∧ ∃ xs : List (List Key × Addr × Value),
      Paired (fun (p : List Key × V) (q : List Key × Addr × Value) => p.1 = q.1 ∧ H q.2.1 = some (.tup (p.1.map kV)) ∧ RelV p.2 q.2.2) kvs xs ∧
      ∃ o es ep, h.get? a = some o ∧ o.ExactDict ∧ o.data = .dict es ep ∧ es.toList = xs.map (entryOfKey (tupleKind (mixKind P w))) ∧ (xs.map (·.1)).Nodup
  | .set S n => h.SetOf (intKind P w) a S n
  | .ins C dx fs => H dx = some (.own a) ∧ fs.length ≤ 1000 ∧ dx ≠ a ∧ h.get? a = some (PySem.W.instObj C dx) ∧
      ∃ mA, h.Ns1 dx mA ∧ (∀ f, RelO (fs.lookup f) (mA f)) ∧ PySem.Within mA (fs.map (·.1))
  | .own _ => ∃ o, h.get? a = some o
  | .xd fs => ∃ mA, h.Ns1 a mA ∧ ∀ f, RelO (fs.lookup f) (mA f)
  | .rng lo hi => ∃ t u v, h.get? a = some { cls := .type "range", data := .fields #[.int lo t, .int hi u, .int 1 v] }
  | .frz o u => h.get? a = some o ∧ ObjOk H h a u
  | .tbl ps => h.get? a = some { cls := .none, data := .fields ps }
  | .met f x => h.get? a = some (PySem.W.methodObj (.ref f) (.ref x))
  | .ext φ => φ h ∧ (∃ o, h.get? a = some o) ∧ ∀ h1 h2 : Heap, φ h1 → (∀ o, h1.get? a = some o → h2.get? a = some o) → φ h2
def HOk (H : Hp) (h : Heap) : Prop := ∀ a o, H a = some o → ObjOk P w H h a o
end
section
variable {P : Program} {w : World} {H H' : Hp} {h h' : Heap} {a : Addr} {o : HO}
theorem ObjOk.lt (x : ObjOk P w H h a o) : a < h.objs.size := by
  cases o with
  | lst xs => obtain ⟨_, _, _, _, e⟩ := x; exact Heap.lt_size e
  | tup xs => obtain ⟨_, _, _, p⟩ := x; exact p.lt
  | dK kvs => obtain ⟨_, _, _, _, o, _, _, e, _⟩ := x; exact Heap.lt_size e
  | dT kvs => obtain ⟨_, _, _, _, o, _, _, e, _⟩ := x; exact Heap.lt_size e
  | set S n => obtain ⟨o, _, _, _, e, _⟩ := x; exact Heap.lt_size e
  | ins C dx fs => obtain ⟨_, _, _, e, _⟩ := x; exact Heap.lt_size e
  | own y => obtain ⟨_, e⟩ := x; exact Heap.lt_size e
  | xd fs => obtain ⟨_, ⟨_, _, _, e, _⟩, _⟩ := x; exact Heap.lt_size e
  | rng lo hi => obtain ⟨_, _, _, e⟩ := x; exact Heap.lt_size e
  | frz ob u => obtain ⟨e, _⟩ := x; exact Heap.lt_size e
  | tbl ps => exact Heap.lt_size (show h.get? a = some _ from x)
  | met f y => exact Heap.lt_size (show h.get? a = some _ from x)
  | ext φ => obtain ⟨_, ⟨_, e⟩, _⟩ := x; exact Heap.lt_size e
theorem Paired.mapP {α β : Type} {F G : α → β → Prop} : ∀ {l₁ : List α} {l₂ : List β}, Paired F l₁ l₂ → (∀ a b, F a b → G a b) → Paired G l₁ l₂
  | _, _, .nil, _ => .nil
  | _, _, .cons r t, f => .cons (f _ _ r) (Paired.mapP t f)
theorem ObjOk.stay (x : ObjOk P w H h a o) (k : ∀ b u, (b = a ∨ H b = some (.own a)) → h.get? b = some u → h'.get? b = some u)
    (ho : ∀ b, H b = some (.own a) → H' b = some (.own a)) (ht : ∀ b xs, H b = some (.tup xs) → H' b = some (.tup xs)) : ObjOk P w H' h' a o := by
  induction o with
  | lst xs => obtain ⟨z, its, n, r, e⟩ := x; exact ⟨z, its, n, r, k _ _ (.inl rfl) e⟩
  | tup xs => obtain ⟨z, its, r, ob, e, c⟩ := x; exact ⟨z, its, r, ob, k _ _ (.inl rfl) e, c⟩
  | dK kvs => obtain ⟨z, y, vs, r, ob, es, ep, e, c⟩ := x; exact ⟨z, y, vs, r, ob, es, ep, k _ _ (.inl rfl) e, c⟩
  | dT kvs =>
    obtain ⟨z, y, xs, r, ob, es, ep, e, c⟩ := x
    exact ⟨z, y, xs, Paired.mapP r fun p q z => ⟨z.1, ht _ _ z.2.1, z.2.2⟩, ob, es, ep, k _ _ (.inl rfl) e, c⟩
  | set S n => obtain ⟨ob, es, ep, t, e, c⟩ := x; exact ⟨ob, es, ep, t, k _ _ (.inl rfl) e, c⟩
  | ins C dx fs =>
    obtain ⟨d, z, ne, e, mA, ⟨od, es, ep, e2, c⟩, r⟩ := x
    exact ⟨ho _ d, z, ne, k _ _ (.inl rfl) e, mA, ⟨od, es, ep, k _ _ (.inr d) e2, c⟩, r⟩
  | own y => obtain ⟨ob, e⟩ := x; exact ⟨ob, k _ _ (.inl rfl) e⟩
  | xd fs => obtain ⟨mA, ⟨od, es, ep, e, c⟩, r⟩ := x; exact ⟨mA, ⟨od, es, ep, k _ _ (.inl rfl) e, c⟩, r⟩
  | rng lo hi => obtain ⟨t, u, v, e⟩ := x; exact ⟨t, u, v, k _ _ (.inl rfl) e⟩
  | frz ob u ih => obtain ⟨e, q⟩ := x; exact ⟨k _ _ (.inl rfl) e, ih q⟩
  | tbl ps =>
    have e : h.get? a = some { cls := .none, data := .fields ps } := x
    show h'.get? a = some { cls := .none, data := .fields ps }
    exact k a _ (.inl rfl) e
  | met f y =>
    have e : h.get? a = some (PySem.W.methodObj (.ref f) (.ref y)) := x
    show h'.get? a = some (PySem.W.methodObj (.ref f) (.ref y))
    exact k a _ (.inl rfl) e
  | ext φ => obtain ⟨p, ⟨o, e⟩, st⟩ := x; exact ⟨st _ _ p fun o q => k _ _ (.inl rfl) q, ⟨o, k _ _ (.inl rfl) e⟩, st⟩
theorem HOk.lt (x : HOk P w H h) (e : H a = some o) : a < h.objs.size := (x a o e).lt
theorem HOk.fresh (x : HOk P w H h) (e : h.objs.size ≤ a) : H a = none := by
  cases q : H a with
  | none => rfl
  | some u => exact absurd (Nat.lt_of_lt_of_le (x.lt q) e) (Nat.lt_irrefl _)
theorem HOk.kept (x : HOk P w H h) (k : ∀ b u, h.get? b = some u → h'.get? b = some u) : HOk P w H h' := fun a o e =>
  (x a o e).stay (fun b u _ q => k b u q) (fun _ q => q) fun _ _ q => q
theorem HOk.laid (x : HOk P w H h) (k : ∀ b u, h.get? b = some u → h'.get? b = some u) (hp : h.objs.size ≤ a) (new : ObjOk P w (upd H a o) h' a o) : HOk P w (upd H a o) h' := fun b u e => by
  have hn := x.fresh hp
  by_cases hb : b = a
  · subst hb; rw [upd_same] at e; cases e; exact new
  · rw [upd_ne hb] at e
    exact (x b u e).stay (fun c v _ q => k c v q) (fun c q => by rw [upd_ne (ne_of_none q hn)]; exact q) fun c xs q => by rw [upd_ne (ne_of_none q hn)]; exact q
end
def Rd (H : Hp) (a : Addr) (u : HO) : Prop := H a = some u ∨ ∃ o, H a = some (.frz o u)
theorem Rd.of {H : Hp} {a : Addr} {u : HO} (h : H a = some u) : Rd H a u := .inl h
theorem Rd.ok {P : Program} {w : World} {H : Hp} {h : Heap} {a : Addr} {u : HO} (r : Rd H a u) (x : HOk P w H h) : ObjOk P w H h a u := by
  rcases r with r | ⟨o, r⟩
  · exact x a u r
  · obtain ⟨_, q⟩ := x a _ r
    exact q
def Mut : Option HO → Prop
  | some (.lst _) => True
  | some (.dK _) => True
  | some (.dT _) => True
  | some (.set _ _) => True
  | some (.ins _ _ _) => True
  | some (.ext _) => True
  | _ => False
section
variable {P : Program} {w : World} {H : Hp} {h h' : Heap} {x e : Addr} {o' : HO}
theorem HOk.write (ok : HOk P w H h) (mu : Mut (H x)) (he : e = x ∨ H e = some (.own x)) (k : ∀ b u, b ≠ e → h.get? b = some u → h'.get? b = some u) (heo : ∃ u, h'.get? e = some u)
    (new : ObjOk P w (upd H x o') h' x o') : HOk P w (upd H x o') h' := fun b u q => by
  have nown : ∀ c y, H c = some (.own y) → c ≠ x := fun c y r z => by subst z; rw [r] at mu; exact mu
  have ntup : ∀ c xs, H c = some (.tup xs) → c ≠ x := fun c xs r z => by subst z; rw [r] at mu; exact mu
  by_cases hb : b = x
  · subst hb; rw [upd_same] at q; cases q; exact new
  · rw [upd_ne hb] at q
    by_cases hbe : b = e
    · have q' : H b = some (.own x) := by
        rcases he with z | z
        · exact absurd (hbe.trans z) hb
        · rw [hbe]; exact z
      rw [q] at q'; cases q'
      obtain ⟨v, hv⟩ := heo
      exact ⟨v, by rw [hbe]; exact hv⟩
    · refine (ok b u q).stay (fun c v hc r => k c v ?_ r) (fun c r => by rw [upd_ne (nown c b r)]; exact r) fun c xs r => by rw [upd_ne (ntup c xs r)]; exact r
      rcases hc with rfl | hc
      · exact hbe
      · rintro rfl
        rcases he with z | z
        · exact nown c b hc z
        · rw [hc] at z; cases z; exact hb rfl
end
structure Un (fs ex : List Addr) (H H' : Hp) (h h' : Heap) : Prop where
  keep : ∀ b o, h.get? b = some o → H b = none → b ∉ fs → b ∉ ex → h'.get? b = some o
  slot : ∀ b o, h.get? b = some o → H b = none → b ∈ fs → b ∉ ex → ∃ sl, h'.get? b = some { o with slots := sl }
  free : ∀ b o, h.get? b = some o → H b = none → b ∉ ex → H' b = none
  there : ∀ b o, h.get? b = some o → b ∉ ex → ∃ o', h'.get? b = some o'
  tups : ∀ b xs, H b = some (.tup xs) → H' b = some (.tup xs)
  frzs : ∀ b o u, H b = some (.frz o u) → H' b = some (.frz o u)
  tbls : ∀ b ps, H b = some (.tbl ps) → ∃ more, H' b = some (.tbl (ps ++ more))
section
variable {fs fs' ex ex' : List Addr} {H H1 H2 : Hp} {h h1 h2 h' : Heap} {a x e : Addr} {o : HO}
theorem Un.any (u : Un fs ex H H1 h h1) {b : Addr} {ob : Obj} (q : h.get? b = some ob) (n : H b = none) (hx : b ∉ ex) : ∃ sl, h1.get? b = some { ob with slots := sl } := by
  by_cases hb : b ∈ fs
  · exact u.slot b ob q n hb hx
  · exact ⟨ob.slots, u.keep b ob q n hb hx⟩
theorem Un.trans (a : Un fs ex H H1 h h1) (b : Un fs ex H1 H2 h1 h2) : Un fs ex H H2 h h2 where
  keep := fun c ob q n hc hx => b.keep c ob (a.keep c ob q n hc hx) (a.free c ob q n hx) hc hx
  slot := fun c ob q n hc hx => by
    obtain ⟨sl, e1⟩ := a.slot c ob q n hc hx
    obtain ⟨sl', e2⟩ := b.slot c _ e1 (a.free c ob q n hx) hc hx
    exact ⟨sl', e2⟩
  free := fun c ob q n hx => by
    obtain ⟨o', e1⟩ := a.there c ob q hx
    exact b.free c o' e1 (a.free c ob q n hx) hx
  there := fun c ob q hx => by
    obtain ⟨o', e1⟩ := a.there c ob q hx
    exact b.there c o' e1 hx
  tups := fun c xs q => b.tups c xs (a.tups c xs q)
  frzs := fun c ob xs q => b.frzs c ob xs (a.frzs c ob xs q)
  tbls := fun c ps q => by
    obtain ⟨m1, e1⟩ := a.tbls c ps q
    obtain ⟨m2, e2⟩ := b.tbls c _ e1
    exact ⟨m1 ++ m2, by rw [e2, Array.append_assoc]⟩
theorem Un.kept (k : ∀ b u, h.get? b = some u → h'.get? b = some u) : Un fs ex H H h h' :=
  ⟨fun b ob q _ _ _ => k b ob q, fun b ob q _ _ _ => ⟨ob.slots, k b ob q⟩, fun _ _ _ n _ => n, fun b ob q _ => ⟨ob, k b ob q⟩, fun _ _ q => q, fun _ _ _ q => q, fun _ ps q => ⟨#[], by rw [q]; simp⟩⟩
theorem Un.refl : Un fs ex H H h h := Un.kept fun _ _ q => q
theorem Un.laid (k : ∀ b u, h.get? b = some u → h'.get? b = some u) (hp : h.objs.size ≤ a) (hn : H a = none) : Un fs ex H (upd H a o) h h' where
  keep := fun b u q _ _ _ => k b u q
  slot := fun b u q _ _ _ => ⟨u.slots, k b u q⟩
  free := fun b u q n _ => by rw [upd_ne (Nat.ne_of_lt (Nat.lt_of_lt_of_le (Heap.lt_size q) hp))]; exact n
  there := fun b u q _ => ⟨u, k b u q⟩
  tups := fun b xs q => by rw [upd_ne (ne_of_none q hn)]; exact q
  frzs := fun b u xs q => by rw [upd_ne (ne_of_none q hn)]; exact q
  tbls := fun b ps q => ⟨#[], by rw [upd_ne (ne_of_none q hn), q]; simp⟩
theorem Un.write (mu : Mut (H x)) (he : e = x ∨ H e = some (.own x)) (k : ∀ b u, b ≠ e → h.get? b = some u → h'.get? b = some u) (heo : ∃ u, h'.get? e = some u) : Un fs ex H (upd H x o) h h' := by
  have hx : ∀ b, H b = none → b ≠ x := fun b n z => by subst z; rw [n] at mu; exact mu
  have hb : ∀ b, H b = none → b ≠ e := fun b n z => by
    subst z
    rcases he with r | r
    · exact hx b n r
    · rw [n] at r; cases r
  have hm : ∀ b u, H b = some u → ¬ Mut (some u) → b ≠ x := fun b u q nm z => by subst z; rw [q] at mu; exact nm mu
  refine ⟨fun b u q n _ _ => k b u (hb b n) q, fun b u q n _ _ => ⟨u.slots, k b u (hb b n) q⟩, fun b u q n _ => by rw [upd_ne (hx b n)]; exact n, fun b u q _ => ?_,
    fun b xs q => by rw [upd_ne (hm b _ q fun z => z)]; exact q, fun b u xs q => by rw [upd_ne (hm b _ q fun z => z)]; exact q, fun b ps q => ⟨#[], by rw [upd_ne (hm b _ q fun z => z), q]; simp⟩⟩
  by_cases hbe : b = e
  · subst hbe; exact heo
  · exact ⟨u, k b u hbe q⟩
theorem Un.mono (u : Un fs ex H H1 h h1) (hs : ∀ b ∈ fs, b ∈ fs') (hx : ∀ b ∈ ex, b ∈ ex') : Un fs' ex' H H1 h h1 :=
  ⟨fun b ob q n hb he => u.keep b ob q n (fun z => hb (hs b z)) fun z => he (hx b z), fun _ _ q n _ he => u.any q n fun z => he (hx _ z), fun b ob q n he => u.free b ob q n fun z => he (hx b z), fun b ob q he => u.there b ob q fun z => he (hx b z), u.tups, u.frzs, u.tbls⟩
end
def trk (h : Heap) (H : Hp) : List Addr := (List.range h.objs.size).filter fun a => (H a).isSome
def hidT (h : Heap) (H : Hp) : Heap := PySem.W.hideAll h (trk h H)
theorem hidT_size (h : Heap) (H : Hp) : (hidT h H).objs.size = h.objs.size := PySem.W.hideAll_size _ _
theorem hidT_get {h : Heap} {H : Hp} {b : Addr} {o : Obj} (e : h.get? b = some o) (n : H b = none) : (hidT h H).get? b = some o :=
  PySem.W.hideAll_get _ e fun hm => by
    have q : (H b).isSome = true := (List.mem_filter.mp hm).2
    rw [n] at q; simp at q
theorem of_hidT {h : Heap} {H : Hp} {b : Addr} {o : Obj} (e : (hidT h H).get? b = some o) : h.get? b = some o ∧ H b = none := by
  have e' : h.get? b = some o := PySem.W.of_hideAll (trk h H) e
  refine ⟨e', ?_⟩
  cases q : H b with
  | none => rfl
  | some x =>
    have hm : b ∈ trk h H := List.mem_filter.mpr ⟨List.mem_range.mpr (Heap.lt_size e'), by simp [q]⟩
    have z : (hidT h H).get? b = none := PySem.W.hideAll_none (trk h H) hm
    rw [z] at e; cases e
def allNews (g h : Heap) (L : Addr) : List (Addr × Obj) := (List.range h.objs.size).filterMap fun a => if a = L ∨ (g.get? a).isSome = true then none else (h.get? a).map fun o => (a, o)
def rest (g h : Heap) (L d : Addr) : List (Addr × Obj) := (allNews g h L).filter fun p => decide (p.1 ≠ d)
end L2
namespace L2
open PySem PySem.Spec PyProof.Rows
structure Mod (K : PySem.W.Frag) (mg : Str → Option Value) (base : Heap) : Prop where
  kin : K.In base
  glob : base.Ns mainGlobals mg
  blt : ∃ mb, base.Ns builtinsNs mb ∧ ∀ x : Str, x ≠ "__name__" → mb x = bootBuiltins x
  nolimit : base.NoLimit
structure Cx where
  prog : Program
  w : World
  K : PySem.W.Frag
  mg : Str → Option Value
  base : Heap
  A : Around
  N : List Str
  s₀ : Shared
  H₀ : Hp
  env : Env
  outer : List Env
  stack : List Env
  ex : List Addr
  fn : Str → Bool
  calm : Bool
  pn : List (Addr × Obj)
  xe : Value → Shared → Prop
def frs (l : List Env) : List Addr := l.filterMap (·.frame)
abbrev Cx.fs (X : Cx) : List Addr := frs X.outer
def Vis (sc : Scope) (x : Str) : Prop := sc.names.lookup x = some .local ∨ sc.names.lookup x = some .cell ∨ sc.names.lookup x = some .free
def Loc (sc : Scope) (x : Str) : Prop := sc.names.lookup x = some .local ∨ sc.names.lookup x = some .cell
def Look (env : Env) (h : Heap) (m : Str → Option Value) (x : Str) (u : Value) : Prop :=
  (env.kindOf x = some .local ∧ m x = some u) ∨ ((env.kindOf x = some .cell ∨ env.kindOf x = some .free) ∧ ∃ c, env.cells.lookup x = some c ∧ h.IsCell c (some u))
structure Cx.Ok (X : Cx) : Prop where
  mod : Mod X.K X.mg X.base
  kind : X.env.scope.kind = .function
  glob : X.env.globals = mainGlobals
  blt : X.env.builtins = builtinsNs
  above : X.s₀.heap.objs.size ≤ X.env.locals
  inj : ∀ x y c, X.env.cells.lookup x = some c → X.env.cells.lookup y = some c → x = y
  has : ∀ x, (X.env.kindOf x = some .cell ∨ X.env.kindOf x = some .free) → ∃ c, X.env.cells.lookup x = some c
  cab : ∀ x c, X.fn x = true → X.env.cells.lookup x = some c → X.s₀.heap.objs.size ≤ c
  hd : X.calm = true → X.A.handled = none
  frames : X.A.frames = some X.stack
  stk : X.stack = X.outer ∨ (X.stack = X.env :: X.outer ∧ X.env.frame = some X.env.locals)
  exf : ∀ b ∈ X.ex, b ≠ X.env.locals ∧ ∀ x c, X.env.cells.lookup x = some c → c ≠ b
  bs : ∀ b o, X.base.get? b = some o → X.s₀.heap.get? b = some o ∧ X.H₀ b = none
  bsz : X.base.objs.size ≤ X.s₀.heap.objs.size
  noex : ∀ b o, X.base.get? b = some o → b ∉ X.ex
  exfs : ∀ b ∈ X.ex, b ∉ X.fs
  funs : X.s₀.heap.FunFrames X.base X.outer
  frf : ∀ b ∈ X.fs, X.H₀ b = none
structure Inv (X : Cx) (pins : List (Addr × Obj)) (σ : List (Option V)) (H : Hp) (s : Shared) : Prop where
  ok : X.Ok
  os : s.os = X.s₀.os
  bare : AllBare s.gens
  base : Un X.fs X.ex X.H₀ H X.s₀.heap s.heap
  loc : ∃ m, s.heap.Ns X.env.locals m ∧ ∀ (i : Nat) (x : Str) (v : V), X.N[i]? = some x → σ[i]? = some (some v) → Vis X.env.scope x → ∃ u, RelV v u ∧ Look X.env s.heap m x u
  cell : ∀ x c, X.env.cells.lookup x = some c → ∃ v, s.heap.IsCell c v
  free : H X.env.locals = none
  freeC : ∀ x c, X.env.cells.lookup x = some c → H c = none
  pin : ∀ p ∈ X.pn ++ pins, s.heap.get? p.1 = some p.2 ∧ H p.1 = none ∧ p.1 ≠ X.env.locals ∧ p.1 ∉ X.fs ∧ ∀ v, p.2.data ≠ .cell v
  hok : HOk X.prog X.w H s.heap
  len : σ.length = X.N.length
section
variable {X : Cx} {pins : List (Addr × Obj)} {σ : List (Option V)} {H H' : Hp} {s : Shared} {h' : Heap}
theorem Cx.Ok.nofr (ok : X.Ok) {b : Addr} {o : Obj} (e : X.base.get? b = some o) : b ∉ X.fs := fun hb => by
  have := (ok.funs.mem hb).1
  rw [e] at this; cases this
theorem Inv.bs (I : Inv X pins σ H s) : ∀ b o, X.base.get? b = some o → s.heap.get? b = some o ∧ H b = none := fun b o e =>
  ⟨I.base.keep b o (I.ok.bs b o e).1 (I.ok.bs b o e).2 (I.ok.nofr e) (I.ok.noex b o e), I.base.free b o (I.ok.bs b o e).1 (I.ok.bs b o e).2 (I.ok.noex b o e)⟩
theorem Inv.bk (I : Inv X pins σ H s) : ∀ b o, X.base.get? b = some o → s.heap.get? b = some o := fun b o e => (I.bs b o e).1
theorem Inv.mod (I : Inv X pins σ H s) : Mod X.K X.mg X.base := I.ok.mod
theorem Inv.kIn (I : Inv X pins σ H s) : X.K.In s.heap := I.ok.mod.kin.keeps I.bk
theorem Inv.nolimit (I : Inv X pins σ H s) : s.heap.NoLimit := I.ok.mod.nolimit.keeps I.bk
theorem Inv.fr (I : Inv X pins σ H s) : ∃ m, Fr X.base X.env.locals s.heap m :=
  let ⟨m, hn, _⟩ := I.loc
  ⟨m, hn, I.bk, Nat.le_trans I.ok.bsz I.ok.above⟩
theorem Inv.lt (I : Inv X pins σ H s) : X.env.locals < s.heap.objs.size := let ⟨_, hn, _⟩ := I.loc; hn.lt
theorem Inv.sz (I : Inv X pins σ H s) : X.s₀.heap.objs.size ≤ s.heap.objs.size := Nat.le_trans I.ok.above (Nat.le_of_lt I.lt)
theorem Inv.nofs (I : Inv X pins σ H s) {a : Addr} (h : s.heap.objs.size ≤ a) : a ∉ X.fs := fun hb => by
  obtain ⟨_, o, ho, _⟩ := I.ok.funs.mem hb
  exact absurd (Nat.lt_of_lt_of_le (Heap.lt_size ho) (Nat.le_trans I.sz h)) (Nat.lt_irrefl _)
theorem Inv.cne (I : Inv X pins σ H s) : ∀ x c, X.env.cells.lookup x = some c → c ≠ X.env.locals := fun x c e z => by
  obtain ⟨v, o, ho, hd⟩ := I.cell x c e
  obtain ⟨m, ⟨o', es, ep, ho', hd', _⟩, _⟩ := I.loc
  rw [z, ho'] at ho; cases ho; rw [hd'] at hd; cases hd
theorem Inv.funs (I : Inv X pins σ H s) : s.heap.FunFrames X.base X.outer := by
  have all : ∀ (l : List Env), (∀ b ∈ frs l, b ∈ X.fs) → X.s₀.heap.FunFrames X.base l → s.heap.FunFrames X.base l := by
    intro l
    induction l with
    | nil => intro _ _; trivial
    | cons env r ih =>
      intro hs hl
      obtain ⟨hk, ⟨L, o, hf, hn, ho, hd⟩, hr⟩ := hl
      have hL : L ∈ X.fs := hs L (by unfold frs; rw [List.filterMap_cons, hf]; exact List.mem_cons_self)
      obtain ⟨sl, e⟩ := I.base.slot L o ho (I.ok.frf L hL) hL fun z => I.ok.exfs L z hL
      exact ⟨hk, ⟨L, _, hf, hn, e, hd⟩, ih (fun b hb => hs b (by unfold frs; rw [List.filterMap_cons, hf]; exact List.mem_cons_of_mem _ hb)) hr⟩
  exact all X.outer (fun _ hb => hb) I.ok.funs
theorem Inv.stack (I : Inv X pins σ H s) : s.heap.FunFrames X.base X.stack := by
  rcases I.ok.stk with e | ⟨e, hf⟩
  · rw [e]; exact I.funs
  · rw [e]
    obtain ⟨m, hn, _⟩ := I.loc
    refine .cons (by rw [I.ok.kind]; decide) hf hn ?_ I.funs
    exact Heap.get?_none_of_le (Nat.le_trans I.ok.bsz I.ok.above)
theorem Inv.stkSub (I : Inv X pins σ H s) : ∀ b ∈ frs X.stack, b ∈ X.env.locals :: X.fs := fun b hb => by
  rcases I.ok.stk with e | ⟨e, hf⟩
  · rw [e] at hb; exact List.mem_cons_of_mem _ hb
  · rw [e] at hb
    unfold frs at hb
    rw [List.filterMap_cons, hf] at hb
    exact hb
theorem Inv.stkFree (I : Inv X pins σ H s) : ∀ b ∈ frs X.stack, H b = none := fun b hb => by
  rcases List.mem_cons.mp (I.stkSub b hb) with e | hb
  · rw [e]; exact I.free
  · obtain ⟨_, o, ho, _⟩ := I.ok.funs.mem hb
    exact I.base.free b o ho (I.ok.frf b hb) fun z => I.ok.exfs b z hb
theorem Inv.step {g' : Array GenState} {t' : Nat} {d' : Drawn} {ch : List Addr} (I : Inv X pins σ H s)
    (hch : ∀ b ∈ ch, (b ∈ X.ex ∨ X.s₀.heap.objs.size ≤ b) ∧ b ≠ X.env.locals ∧ (∀ x c, X.env.cells.lookup x = some c → c ≠ b) ∧ ∀ p ∈ X.pn ++ pins, p.1 ≠ b)
    (keep : ∀ b o, b ≠ X.env.locals → b ∉ X.fs → b ∉ ch → s.heap.get? b = some o → H b = none → h'.get? b = some o)
    (slot : ∀ b o, b ≠ X.env.locals → b ∈ X.fs → b ∉ ch → s.heap.get? b = some o → H b = none → ∃ sl, h'.get? b = some { o with slots := sl }) (free : ∀ b o, b ∉ ch → s.heap.get? b = some o → H b = none → H' b = none)
    (there : ∀ b o, b ∉ ch → s.heap.get? b = some o → ∃ o', h'.get? b = some o')
    (tups : ∀ b xs, H b = some (.tup xs) → H' b = some (.tup xs)) (frzs : ∀ b o u, H b = some (.frz o u) → H' b = some (.frz o u)) (tbls : ∀ b ps, H b = some (.tbl ps) → ∃ more, H' b = some (.tbl (ps ++ more)))
    (ns : ∀ m, s.heap.Ns X.env.locals m → h'.Ns X.env.locals m) (hok : HOk X.prog X.w H' h') (hg : AllBare g') :
    Inv X pins σ H' { s with heap := h', gens := g', drawn := d', toks := t' } := by
  have neL : ∀ b o, X.s₀.heap.get? b = some o → b ≠ X.env.locals := fun b o e => Nat.ne_of_lt (Nat.lt_of_lt_of_le (Heap.lt_size e) I.ok.above)
  have neC : ∀ b o, X.s₀.heap.get? b = some o → b ∉ X.ex → b ∉ ch := fun b o e hx hb => by
    rcases (hch b hb).1 with z | z
    · exact hx z
    · exact absurd (Nat.lt_of_lt_of_le (Heap.lt_size e) z) (Nat.lt_irrefl _)
  have cellK : ∀ x c, X.env.cells.lookup x = some c → ∀ v, s.heap.IsCell c v → h'.IsCell c v := fun x c e v ⟨o, ho, hd⟩ => by
    have nch : c ∉ ch := fun z => (hch c z).2.2.1 x c e rfl
    by_cases hc : c ∈ X.fs
    · obtain ⟨sl, q⟩ := slot c o (I.cne x c e) hc nch ho (I.freeC x c e)
      exact ⟨_, q, hd⟩
    · exact ⟨o, keep c o (I.cne x c e) hc nch ho (I.freeC x c e), hd⟩
  refine ⟨I.ok, I.os, hg, ⟨fun b o e n hb hx => ?_, fun b o e n hb hx => ?_, fun b o e n hx => ?_, fun b o e hx => ?_, fun b xs e => tups b xs (I.base.tups b xs e), fun b o xs e => frzs b o xs (I.base.frzs b o xs e), fun b ps e => ?_⟩, ?_, fun x c e => ?_, ?_, fun x c e => ?_, fun p hp => ?_, hok, I.len⟩
  · exact keep b o (neL b o e) hb (neC b o e hx) (I.base.keep b o e n hb hx) (I.base.free b o e n hx)
  · obtain ⟨sl, e1⟩ := I.base.slot b o e n hb hx
    obtain ⟨sl', e2⟩ := slot b _ (neL b o e) hb (neC b o e hx) e1 (I.base.free b o e n hx)
    exact ⟨sl', e2⟩
  · obtain ⟨o', e1⟩ := I.base.there b o e hx
    exact free b o' (neC b o e hx) e1 (I.base.free b o e n hx)
  · obtain ⟨o', e1⟩ := I.base.there b o e hx
    exact there b o' (neC b o e hx) e1
  · obtain ⟨m1, e1⟩ := I.base.tbls b ps e
    obtain ⟨m2, e2⟩ := tbls b _ e1
    exact ⟨m1 ++ m2, by rw [e2, Array.append_assoc]⟩
  · obtain ⟨m, hn, hl⟩ := I.loc
    refine ⟨m, ns m hn, fun i x v e1 e2 e3 => ?_⟩
    obtain ⟨u, r, l⟩ := hl i x v e1 e2 e3
    refine ⟨u, r, ?_⟩
    rcases l with l | ⟨k, c, e, z⟩
    · exact .inl l
    · exact .inr ⟨k, c, e, cellK x c e _ z⟩
  · obtain ⟨v, z⟩ := I.cell x c e
    exact ⟨v, cellK x c e v z⟩
  · obtain ⟨m, ⟨o, _, _, ho, _⟩, _⟩ := I.loc
    exact free _ o (fun z => (hch _ z).2.1 rfl) ho I.free
  · obtain ⟨v, o, ho, hd⟩ := I.cell x c e
    exact free c o (fun z => (hch c z).2.2.1 x c e rfl) ho (I.freeC x c e)
  · obtain ⟨e, n, ne, nf, d⟩ := I.pin p hp
    have nch : p.1 ∉ ch := fun z => (hch p.1 z).2.2.2 p hp rfl
    exact ⟨keep p.1 p.2 ne nf nch e n, free p.1 p.2 nch e n, ne, nf, d⟩
theorem Inv.un {t' : Nat} (I : Inv X pins σ H s) (u : Un X.fs [] H H' s.heap h') (hok : HOk X.prog X.w H' h') : Inv X pins σ H' { s with heap := h', toks := t' } := by
  obtain ⟨m, ⟨o, es, ep, ho, r⟩, _⟩ := id I.loc
  obtain ⟨sl, hL⟩ := u.any ho I.free (by simp)
  exact I.step (g' := s.gens) (d' := s.drawn) (ch := []) (fun _ z => nomatch z) (fun b o _ hb _ e n => u.keep b o e n hb (by simp)) (fun b o _ hb _ e n => u.slot b o e n hb (by simp)) (fun b o _ e n => u.free b o e n (by simp)) (fun b o _ e => u.there b o e (by simp)) u.tups u.frzs u.tbls (fun m' hm => by
    obtain ⟨o', es', ep', ho', r'⟩ := hm
    rw [ho] at ho'; cases ho'
    exact ⟨_, es', ep', hL, r'⟩) hok I.bare
theorem Inv.call {g' : Array GenState} {t' : Nat} {d' : Drawn} {ch : List Addr} (I : Inv X pins σ H s) (u : Un (frs X.stack) ch H H' s.heap h') (hok : HOk X.prog X.w H' h') (hg : AllBare g')
    (hch : ∀ b ∈ ch, (b ∈ X.ex ∨ X.s₀.heap.objs.size ≤ b) ∧ b ≠ X.env.locals ∧ (∀ x c, X.env.cells.lookup x = some c → c ≠ b) ∧ ∀ p ∈ X.pn ++ pins, p.1 ≠ b) :
    Inv X pins σ H' { s with heap := h', gens := g', drawn := d', toks := t' } := by
  obtain ⟨m, ⟨o, es, ep, ho, r⟩, _⟩ := id I.loc
  obtain ⟨sl, hL⟩ := u.any ho I.free fun z => (hch _ z).2.1 rfl
  exact I.step (ch := ch) hch (fun b o hL hb hc e n => u.keep b o e n (fun z => (List.mem_cons.mp (I.stkSub b z)).elim hL hb) hc) (fun b o _ _ hc e n => u.any e n hc) (fun b o hc e n => u.free b o e n hc) (fun b o hc e => u.there b o e hc) u.tups u.frzs u.tbls (fun m' hm => by
    obtain ⟨o', es', ep', ho', r'⟩ := hm
    rw [ho] at ho'; cases ho'
    exact ⟨_, es', ep', hL, r'⟩) hok hg
theorem Inv.turned {t' : Nat} {it : Addr} (I : Inv X pins σ H s) (k : ∀ b o, b ≠ it → s.heap.get? b = some o → h'.get? b = some o) (hn : H it = none) (hL : it ≠ X.env.locals)
    (h1 : it ∈ X.ex ∨ X.s₀.heap.objs.size ≤ it) (h2 : ∀ x c, X.env.cells.lookup x = some c → c ≠ it) (h3 : ∀ p ∈ X.pn ++ pins, p.1 ≠ it) : Inv X pins σ H { s with heap := h', toks := t' } := by
  have nit : ∀ b u, H b = some u → b ≠ it := fun b u e z => by rw [z, hn] at e; cases e
  refine I.step (g' := s.gens) (d' := s.drawn) (ch := [it]) (fun b hb => ?_) (fun b o _ _ hc e _ => k b o (fun z => hc (by simp [z])) e) (fun b o _ _ hc e _ => ⟨o.slots, k b o (fun z => hc (by simp [z])) e⟩) (fun _ _ _ _ n => n)
    (fun b o hc e => ⟨o, k b o (fun z => hc (by simp [z])) e⟩) (fun _ _ e => e) (fun _ _ _ e => e) (fun b ps e => ⟨#[], by rw [e]; simp⟩) (fun m hm => ?_) (fun b u e => ?_) I.bare
  · have e : b = it := by simpa using hb
    subst e
    exact ⟨h1, hL, h2, h3⟩
  · obtain ⟨o, es, ep, ho, r⟩ := hm
    exact ⟨o, es, ep, k _ o (Ne.symm hL) ho, r⟩
  · refine (I.hok b u e).stay (fun c v hc q => k c v ?_ q) (fun _ q => q) fun _ _ q => q
    rcases hc with z | z
    · rw [z]; exact nit b u e
    · exact nit c _ z
theorem Inv.tok (I : Inv X pins σ H s) (t : Nat) : Inv X pins σ H { s with toks := t } := I.un (h' := s.heap) (t' := t) Un.refl I.hok
theorem Inv.kept {t' : Nat} (I : Inv X pins σ H s) (k : ∀ b u, s.heap.get? b = some u → h'.get? b = some u) : Inv X pins σ H { s with heap := h', toks := t' } := I.un (Un.kept k) (I.hok.kept k)
theorem Inv.laid {a : Addr} {o : HO} {t' : Nat} (I : Inv X pins σ H s) (k : ∀ b u, s.heap.get? b = some u → h'.get? b = some u) (hp : s.heap.objs.size ≤ a) (new : ObjOk X.prog X.w (upd H a o) h' a o) :
    Inv X pins σ (upd H a o) { s with heap := h', toks := t' } := I.un (Un.laid k hp (I.hok.fresh hp)) (I.hok.laid k hp new)
theorem Inv.write {x e : Addr} {o : HO} {t' : Nat} (I : Inv X pins σ H s) (mu : Mut (H x)) (he : e = x ∨ H e = some (.own x)) (k : ∀ b u, b ≠ e → s.heap.get? b = some u → h'.get? b = some u) (heo : ∃ u, h'.get? e = some u)
    (new : ObjOk X.prog X.w (upd H x o) h' x o) : Inv X pins σ (upd H x o) { s with heap := h', toks := t' } := I.un (Un.write mu he k heo) (I.hok.write mu he k heo new)
theorem Inv.pins_of {pins' : List (Addr × Obj)} (I : Inv X pins σ H s) (h : ∀ p ∈ pins', s.heap.get? p.1 = some p.2 ∧ H p.1 = none ∧ p.1 ≠ X.env.locals ∧ p.1 ∉ X.fs ∧ ∀ v, p.2.data ≠ .cell v) : Inv X pins' σ H s :=
  ⟨I.ok, I.os, I.bare, I.base, I.loc, I.cell, I.free, I.freeC, fun p hp => (List.mem_append.mp hp).elim (fun z => I.pin p (List.mem_append_left _ z)) (h p), I.hok, I.len⟩
theorem nodup_ix {N : List Str} (hN : N.Nodup) {i j : Nat} {x : Str} (a : N[i]? = some x) (b : N[j]? = some x) : i = j := by
  obtain ⟨h1, e1⟩ := List.getElem?_eq_some_iff.mp a
  obtain ⟨h2, e2⟩ := List.getElem?_eq_some_iff.mp b
  exact (List.getElem_inj hN).mp (e1.trans e2.symm)
theorem store_ok2 {M : Model} {A : Around} {E : Value → Shared → Prop} {i : Nat} {x : Str} {v : V} {u : Value} {Q : Unit → Shared → Prop} (I : Inv X pins σ H s) (hN : X.N.Nodup) (hi : X.N[i]? = some x) (hx : Loc X.env.scope x) (r : RelV v u)
    (h : ∀ s', Inv X pins (σ.set i (some v)) H s' → (∃ a, Heap.SameBut a s.heap s'.heap ∧ (a = X.env.locals ∨ X.env.cells.lookup x = some a)) → Q () s') (hf : X.fn x = true ∨ X.env.scope.names.lookup x = some .local := by first | exact .inl rfl | exact .inr rfl | assumption) : wpAny M A (storeName X.env x u) Q E s := by
  obtain ⟨m, hn, hl⟩ := id I.loc
  have hcls : (X.env.scope.kind == .class || (X.env.scope.kind == .module && X.env.locals != X.env.globals)) = false := by rw [I.ok.kind]; rfl
  have hiσ : i < σ.length := by rw [I.len]; exact (List.getElem?_eq_some_iff.mp hi).1
  have cne := I.cne
  have tracked : ∀ {a : Addr} {h' : Heap}, (∃ o, s.heap.get? a = some o ∧ H a = none) → Heap.SameBut a s.heap h' → HOk X.prog X.w H h' := fun {a h'} ha hs b ob e => by
    obtain ⟨_, _, hfree⟩ := ha
    refine (I.hok b ob e).stay (fun c w' hc q => (hs.2 c ?_).trans q) (fun _ q => q) fun _ _ q => q
    rintro rfl
    rcases hc with rfl | hc
    · rw [hfree] at e; cases e
    · rw [hfree] at hc; cases hc
  rcases hx with hk | hk
  · refine wpAny_storeName_local hk hn (fun h' hn' hs => ?_) hcls
    obtain ⟨oL, _, _, hoL, _⟩ := id hn
    refine h _ ⟨I.ok, I.os, I.bare, ⟨fun b o e n hb hx => ?_, fun b o e n hb hx => ?_, I.base.free, fun b o e hx => ?_, I.base.tups, I.base.frzs, I.base.tbls⟩, ⟨_, hn', fun j y v' e1 e2 e3 => ?_⟩, fun y c e => ?_, I.free, I.freeC, fun p hp => ?_, tracked ⟨oL, hoL, I.free⟩ hs, by simpa using I.len⟩ ⟨_, hs, .inl rfl⟩
    · exact (hs.2 b (Nat.ne_of_lt (Nat.lt_of_lt_of_le (Heap.lt_size e) I.ok.above))).trans (I.base.keep b o e n hb hx)
    · obtain ⟨sl, e1⟩ := I.base.slot b o e n hb hx
      exact ⟨sl, (hs.2 b (Nat.ne_of_lt (Nat.lt_of_lt_of_le (Heap.lt_size e) I.ok.above))).trans e1⟩
    · obtain ⟨o', e1⟩ := I.base.there b o e hx
      exact ⟨o', (hs.2 b (Nat.ne_of_lt (Nat.lt_of_lt_of_le (Heap.lt_size e) I.ok.above))).trans e1⟩
    · by_cases hj : j = i
      · subst hj
        rw [hi] at e1; cases e1
        rw [List.getElem?_set_self hiσ] at e2
        cases e2
        exact ⟨u, r, .inl ⟨hk, by simp⟩⟩
      · rw [List.getElem?_set_ne (Ne.symm hj)] at e2
        obtain ⟨u', r', q⟩ := hl j y v' e1 e2 e3
        refine ⟨u', r', ?_⟩
        rcases q with ⟨k, e⟩ | ⟨k, c, e, z⟩
        · refine .inl ⟨k, ?_⟩
          have : y ≠ x := fun e => hj (nodup_ix hN e1 (e ▸ hi))
          simp [this, e]
        · exact .inr ⟨k, c, e, z.sameBut hs (cne y c e)⟩
    · obtain ⟨w', z⟩ := I.cell y c e
      exact ⟨w', z.sameBut hs (cne y c e)⟩
    · obtain ⟨e, n, ne, nf, d⟩ := I.pin p hp
      exact ⟨(hs.2 p.1 ne).trans e, n, ne, nf, d⟩
  · have hfn : X.fn x = true := by
      rcases hf with z | z
      · exact z
      · rw [z] at hk; cases hk
    obtain ⟨c, hc⟩ := I.ok.has x (.inl hk)
    obtain ⟨w', z⟩ := I.cell x c hc
    refine wpAny_storeName_cell I.ok.kind hk hc z (fun h' hc' hs => ?_)
    obtain ⟨oc, hoc, hocd⟩ := id z
    refine h { s with heap := h' } ⟨I.ok, I.os, I.bare, ⟨fun b o e n hb hx => ?_, fun b o e n hb hx => ?_, I.base.free, fun b o e hx => ?_, I.base.tups, I.base.frzs, I.base.tbls⟩, ⟨m, hn.sameBut hs (Ne.symm (cne x c hc)), fun j y v' e1 e2 e3 => ?_⟩, fun y c' e => ?_, I.free, I.freeC, fun p hp => ?_, tracked ⟨oc, hoc, I.freeC x c hc⟩ hs, by simpa using I.len⟩ ⟨c, hs, .inr hc⟩
    · exact (hs.2 b (Nat.ne_of_lt (Nat.lt_of_lt_of_le (Heap.lt_size e) (I.ok.cab x c hfn hc)))).trans (I.base.keep b o e n hb hx)
    · obtain ⟨sl, e1⟩ := I.base.slot b o e n hb hx
      exact ⟨sl, (hs.2 b (Nat.ne_of_lt (Nat.lt_of_lt_of_le (Heap.lt_size e) (I.ok.cab x c hfn hc)))).trans e1⟩
    · obtain ⟨o', e1⟩ := I.base.there b o e hx
      exact ⟨o', (hs.2 b (Nat.ne_of_lt (Nat.lt_of_lt_of_le (Heap.lt_size e) (I.ok.cab x c hfn hc)))).trans e1⟩
    · by_cases hj : j = i
      · subst hj
        rw [hi] at e1; cases e1
        rw [List.getElem?_set_self hiσ] at e2
        cases e2
        exact ⟨u, r, .inr ⟨.inl hk, c, hc, hc'⟩⟩
      · rw [List.getElem?_set_ne (Ne.symm hj)] at e2
        obtain ⟨u', r', q⟩ := hl j y v' e1 e2 e3
        refine ⟨u', r', ?_⟩
        rcases q with q | ⟨k, c', e, z'⟩
        · exact .inl q
        · refine .inr ⟨k, c', e, z'.sameBut hs ?_⟩
          rintro rfl
          exact hj (nodup_ix hN e1 (I.ok.inj _ _ _ e hc ▸ hi))
    · by_cases hcc : c' = c
      · subst hcc; exact ⟨_, hc'⟩
      · obtain ⟨w2, z2⟩ := I.cell y c' e
        exact ⟨w2, z2.sameBut hs hcc⟩
    · obtain ⟨e, n, ne, nf, d⟩ := I.pin p hp
      refine ⟨(hs.2 p.1 ?_).trans e, n, ne, nf, d⟩
      intro q
      rw [q, hoc] at e
      have q' : oc = p.2 := Option.some.inj e
      exact d w' (by rw [← q']; exact hocd)
theorem store_ok {M : Model} {A : Around} {E : Value → Shared → Prop} {i : Nat} {x : Str} {v : V} {u : Value} {Q : Unit → Shared → Prop} (I : Inv X pins σ H s) (hN : X.N.Nodup) (hi : X.N[i]? = some x) (hx : Loc X.env.scope x) (r : RelV v u)
    (h : ∀ s', Inv X pins (σ.set i (some v)) H s' → Q () s') (hf : X.fn x = true ∨ X.env.scope.names.lookup x = some .local := by first | exact .inl rfl | exact .inr rfl | assumption) : wpAny M A (storeName X.env x u) Q E s :=
  store_ok2 I hN hi hx r (fun s' I' _ => h s' I') hf
theorem Inv.call' {s' : Shared} {ch : List Addr} (I : Inv X pins σ H s) (ho : s'.os = s.os) (u : Un (frs X.stack) ch H H' s.heap s'.heap) (hok : HOk X.prog X.w H' s'.heap) (hg : AllBare s'.gens)
    (hch : ∀ b ∈ ch, (b ∈ X.ex ∨ X.s₀.heap.objs.size ≤ b) ∧ b ≠ X.env.locals ∧ (∀ x c, X.env.cells.lookup x = some c → c ≠ b) ∧ ∀ p ∈ X.pn ++ pins, p.1 ≠ b) : Inv X pins σ H' s' := by
  obtain ⟨h', g', d', t', o'⟩ := s'
  have e : o' = s.os := ho
  subst e
  exact I.call (g' := g') (t' := t') (d' := d') u hok hg hch
end
abbrev XK := Value → Option Addr → Hp → Prop
abbrev St := List (Option V)
abbrev VK := V → Hp → Prop
abbrev TE := St → Hp → VK → Prop
abbrev TT := St → Hp → (Bool → Hp → Prop) → Prop
abbrev TA := St → Hp → (List V → Hp → Prop) → Prop
structure Ends where
  nx : St → Hp → Prop
  rt : VK
  bk : St → Hp → Prop := fun _ _ => False
  ct : St → Hp → Prop := fun _ _ => False
abbrev TS := Ends → St → Hp → Prop
def EP (X : Cx) (pins : List (Addr × Obj)) (σ : St) (Q : VK) (u : Value) (s' : Shared) : Prop := ∃ v H', Inv X pins σ H' s' ∧ RelV v u ∧ Q v H'
def TP (X : Cx) (pins : List (Addr × Obj)) (σ : St) (Q : Bool → Hp → Prop) (b : Bool) (s' : Shared) : Prop := ∃ H', Inv X pins σ H' s' ∧ Q b H'
def AP (X : Cx) (pins : List (Addr × Obj)) (σ : St) (Q : List V → Hp → Prop) (us : List Value) (s' : Shared) : Prop := ∃ vs H', Inv X pins σ H' s' ∧ Vals vs us ∧ Q vs H'
def SP (X : Cx) (pins : List (Addr × Obj)) (D : Ends) (f : Flow) (s' : Shared) : Prop :=
  match f with
  | .next => ∃ σ' H', Inv X pins σ' H' s' ∧ D.nx σ' H'
  | .brk => ∃ σ' H', Inv X pins σ' H' s' ∧ D.bk σ' H'
  | .cont => ∃ σ' H', Inv X pins σ' H' s' ∧ D.ct σ' H'
  | .ret u => ∃ v σ' H', Inv X pins σ' H' s' ∧ RelV v u ∧ D.rt v H'
def PE (X : Cx) (e : Expr) (t : TE) : Prop :=
  ∀ (pins : List (Addr × Obj)) (s : Shared) (σ : St) (H : Hp) (Q : VK), Inv X pins σ H s → t σ H Q → wpAny (model X.prog X.w) X.A (eval e X.env) (EP X pins σ Q) X.xe s
def PT (X : Cx) (e : Expr) (t : TT) : Prop :=
  ∀ (pins : List (Addr × Obj)) (s : Shared) (σ : St) (H : Hp) (Q : Bool → Hp → Prop), Inv X pins σ H s → t σ H Q → wpAny (model X.prog X.w) X.A (isTrue e X.env (eval e X.env)) (TP X pins σ Q) X.xe s
def PW (X : Cx) (e : Expr) (t : TT) : Prop :=
  ∀ (whole : Sem Value) (pins : List (Addr × Obj)) (s : Shared) (σ : St) (H : Hp) (Q : Bool → Hp → Prop), Inv X pins σ H s → t σ H Q → wpAny (model X.prog X.w) X.A (isTrue e X.env whole) (TP X pins σ Q) X.xe s
theorem PW.pt {X : Cx} {e : Expr} {t : TT} (h : PW X e t) : PT X e t := h _
def PA (X : Cx) (es : List Expr) (t : TA) : Prop :=
  ∀ (pos : Pos) (pins : List (Addr × Obj)) (s : Shared) (σ : St) (H : Hp) (Q : List V → Hp → Prop), Inv X pins σ H s → t σ H Q → wpAny (model X.prog X.w) X.A (spliced (backTo pos (starEach es X.env))) (AP X pins σ Q) X.xe s
def PS (X : Cx) (st : Stmt) (t : TS) : Prop :=
  ∀ (pins : List (Addr × Obj)) (s : Shared) (σ : St) (H : Hp) (D : Ends), Inv X pins σ H s → t D σ H → wpAny (model X.prog X.w) X.A (exec st X.env) (SP X pins D) X.xe s
def PSs (X : Cx) (st : List Stmt) (t : TS) : Prop :=
  ∀ (pins : List (Addr × Obj)) (s : Shared) (σ : St) (H : Hp) (D : Ends), Inv X pins σ H s → t D σ H → wpAny (model X.prog X.w) X.A (execs st X.env) (SP X pins D) X.xe s
theorem thn {α : Type} {t : Sem α} {Q Q' : α → Shared → Prop} {M : Model} {A : Around} {E : Value → Shared → Prop} {s : Shared} (h : wpAny M A t Q E s) (hQ : ∀ a s, Q a s → Q' a s) : wpAny M A t Q' E s := wpAny_mono h hQ fun _ _ x => x
end L2
namespace L2
open PySem PySem.Spec PyProof.Rows
section
variable {X : Cx}
def tVar (i : Nat) : TE := fun σ H Q => ∃ v, σ[i]? = some (some v) ∧ Q v H
def tC (v : V) : TE := fun _ H Q => Q v H
theorem pe_var {i : Nat} {x : Str} {pos : Pos} (hN : X.N[i]? = some x) (hv : Vis X.env.scope x) (hd : (x == ("__debug__" : Str)) = false := by decide) (hcd : (x == ("__classdict__" : Str)) = false := by decide) : PE X (.Name x pos) (tVar i) := by
  intro pins s σ H Q I h
  obtain ⟨v, e, h⟩ := h
  obtain ⟨m, hn, hl⟩ := I.loc
  obtain ⟨u, r, l⟩ := hl i x v hN e hv
  have fin : EP X pins σ Q u s := ⟨v, H, I, r, h⟩
  rcases l with ⟨hk, hm⟩ | ⟨hk, c, hc, hcell⟩
  · exact wpAny_Name (wpAny_loadName_local I.ok.kind hk hn hm fin) hd
  · rcases hk with hk | hk
    · exact wpAny_Name (wpAny_loadName_cell I.ok.kind hk hc hcell fin) hd
    · exact wpAny_Name (wpAny_loadName_free I.ok.kind hk hc hcell fin hcd) hd
theorem pe_int {i j pos} : PE X (.Constant (.int i) j pos) (tC (.int i)) := fun _ _ _ H _ I h => wpAny_Constant_int ⟨.int i, H, I.tok _, ⟨_, rfl⟩, h⟩
theorem pe_bl {b j pos} : PE X (.Constant (.bool b) j pos) (tC (.bl b)) := fun _ _ _ H _ I h => Constant_bool ⟨.bl b, H, I, rfl, h⟩
theorem pe_non {j pos} : PE X (.Constant .none j pos) (tC .non) := fun _ _ _ H _ I h => Constant_none ⟨.non, H, I, rfl, h⟩
theorem pe_str {x j pos} : PE X (.Constant (.str x) j pos) (tC (.str x)) := fun _ _ _ H _ I h => Calls.Constant_str ⟨.str x, H, I.tok _, ⟨_, rfl⟩, h⟩
def Gl (X : Cx) (x : Str) : Prop := X.env.kindOf x = some .globalImplicit
theorem ld_glob {E : Value → Shared → Prop} {pins : List (Addr × Obj)} {s : Shared} {σ : St} {H : Hp} {x : Str} {u : Value} {pos : Pos} {Q : Value → Shared → Prop} (I : Inv X pins σ H s) (hg : Gl X x) (hm : X.mg x = some u) (h : Q u s)
    (hd : (x == ("__debug__" : Str)) = false := by decide) : wpAny (model X.prog X.w) X.A (eval (.Name x pos) X.env) Q E s :=
  Calls.Name_function_global I.ok.kind hg (Calls.loadGlobal_global (by rw [I.ok.glob]; exact I.mod.glob.keeps I.bk) hm h) hd
theorem ld_blt {E : Value → Shared → Prop} {pins : List (Addr × Obj)} {s : Shared} {σ : St} {H : Hp} {x : Str} {u : Value} {pos : Pos} {Q : Value → Shared → Prop} (I : Inv X pins σ H s) (hg : Gl X x) (hm : X.mg x = none) (hv : bootBuiltins x = some u) (h : Q u s)
    (hn : x ≠ "__name__" := by decide) (hd : (x == ("__debug__" : Str)) = false := by decide) : wpAny (model X.prog X.w) X.A (eval (.Name x pos) X.env) Q E s := by
  obtain ⟨mb, h1, h2⟩ := I.mod.blt
  exact Calls.Name_function_global I.ok.kind hg (Calls.loadGlobal_builtin (by rw [I.ok.glob]; exact I.mod.glob.keeps I.bk) hm (by rw [I.ok.blt]; exact h1.keeps I.bk) ((h2 x hn).trans hv) h) hd
theorem pe_bltn {x : Str} {v : V} {u : Value} {pos : Pos} (hg : Gl X x) (hm : X.mg x = none) (hv : bootBuiltins x = some u) (r : RelV v u) (hn : x ≠ "__name__" := by decide) (hd : (x == ("__debug__" : Str)) = false := by decide) : PE X (.Name x pos) (tC v) :=
  fun _ _ _ H _ I h => ld_blt I hg hm hv ⟨v, H, I, r, h⟩ hn hd
variable {a b : Expr} {ta tb : TE} {pos : Pos}
def PC (X : Cx) (op : CmpOp) (a b : Expr) (t : TE) : Prop :=
  ∀ (pins : List (Addr × Obj)) (s : Shared) (σ : St) (H : Hp) (Q : VK), Inv X pins σ H s → t σ H Q →
    wpAny (model X.prog X.w) X.A (eval a X.env) (fun v s₁ => wpAny (model X.prog X.w) X.A (eval b X.env) (fun u s₂ => wpAny (model X.prog X.w) X.A (compareOp op v u) (EP X pins σ Q) X.xe s₂) X.xe s₁) X.xe s
theorem nobehind (b : Expr) {op : CmpOp} (h : op ≠ .In) (h2 : op ≠ .NotIn) : behindInMarks op b = false := by
  have e1 : (op == CmpOp.In) = false := by cases op <;> first | rfl | exact absurd rfl h
  have e2 : (op == CmpOp.NotIn) = false := by cases op <;> first | rfl | exact absurd rfl h2
  cases b <;> simp [behindInMarks, e1, e2]
def tB (t : TE) : TT := fun σ H Q => t σ H fun x H1 => ∃ c, x = .bl c ∧ Q c H1
theorem pt_cmp {op : CmpOp} {t : TE} (h : PC X op a b t) (h1 : behindInMarks op b = false := by first | exact nobehind _ (by decide) (by decide) | rfl) : PT X (.Compare a [op] [b] pos) (tB t) := by
  intro pins s σ H Q I hw
  refine wpAny_isTrue_Compare1 (thn (h pins s σ H _ I hw) fun v s1 h1 => thn h1 fun u s2 h2 => thn h2 fun c s3 ⟨x, H1, I1, r1, q1⟩ => ?_) h1
  obtain ⟨d, rfl, q⟩ := q1
  cases r1
  exact wpAny_truthy_bool ⟨H1, I1, q⟩
theorem pt_val {e : Expr} {t : TE} (h : PE X e t) (he : ∀ whole, isTrue e X.env whole = (do let v ← whole; standAt e.pos; holding [v] (truthy v)) := by intro _; rfl) : PT X e (tB t) := by
  intro pins s σ H Q I hw
  refine isTrue_plain (thn (h pins s σ H _ I hw) fun v s1 ⟨x, H1, I1, r1, q1⟩ => ?_) (he _)
  obtain ⟨d, rfl, q⟩ := q1
  cases r1
  exact wpAny_truthy_bool ⟨H1, I1, q⟩
variable {tA tB' : TT} {rest : List Expr}
def tOr (t u : TT) : TT := fun σ H Q => t σ H fun c H1 => if c = true then Q true H1 else u σ H1 Q
def tNot (t : TT) : TT := fun σ H Q => t σ H fun c H1 => Q (!c) H1
theorem pw_or1 (ha : PT X a tA) : PW X (.BoolOp .Or [a] pos) tA := by
  intro wh pins s σ H Q I h
  refine isTrue_or (thn (ha pins s σ H Q I h) fun c s1 e => ?_)
  cases c with
  | false => exact isTrue_or_nil e
  | true => exact e
theorem pw_or (ha : PT X a tA) (hb : PW X (.BoolOp .Or (b :: rest) pos) tB') : PW X (.BoolOp .Or (a :: b :: rest) pos) (tOr tA tB') := by
  intro wh pins s σ H Q I h
  refine isTrue_or (thn (ha pins s σ H _ I h) fun c s1 ⟨H1, I1, q1⟩ => ?_)
  cases c with
  | true => exact ⟨H1, I1, q1⟩
  | false => exact hb wh pins s1 σ H1 Q I1 q1
theorem pt_not (ha : PT X a tA) : PT X (.UnaryOp .Not a pos) (tNot tA) := by
  intro pins s σ H Q I h
  exact isTrue_not (ha pins s σ H (fun c H1 => Q (!c) H1) I h)
def tAndV (ta tb : TE) : TE := fun σ H Q => ta σ H fun x H1 => ∃ c, x = .bl c ∧ if c = true then tb σ H1 Q else Q (.bl false) H1
def tNotV (ta : TE) : TE := fun σ H Q => ta σ H fun x H1 => ∃ c, x = .bl c ∧ Q (.bl (!c)) H1
theorem pe_one {op} {t : TE} (h : PE X a t) : PE X (.BoolOp op [a] pos) t := fun pins s σ H Q I hw => BoolOp_one (h pins s σ H Q I hw)
theorem pe_and (ha : PE X a ta) (hb : PE X (.BoolOp .And (b :: rest) pos) tb) : PE X (.BoolOp .And (a :: b :: rest) pos) (tAndV ta tb) := by
  intro pins s σ H Q I h
  refine BoolOp_and (thn (ha pins s σ H _ I h) fun v s1 ⟨x, H1, I1, r1, q1⟩ => ?_)
  obtain ⟨c, rfl, q1⟩ := q1
  cases r1
  refine wpAny_truthy_bool ?_
  cases c with
  | true => exact hb pins s1 σ H1 Q I1 q1
  | false => exact ⟨.bl false, H1, I1, rfl, q1⟩
theorem pe_not (ha : PE X a ta) : PE X (.UnaryOp .Not a pos) (tNotV ta) := by
  intro pins s σ H Q I h
  refine UnaryOp_ (thn (ha pins s σ H _ I h) fun v s1 ⟨x, H1, I1, r1, q1⟩ => ?_)
  obtain ⟨c, rfl, q1⟩ := q1
  cases r1
  exact not_of (wpAny_truthy_bool ⟨.bl (!c), H1, I1, rfl, q1⟩)
end
end L2
namespace L2
open PySem PySem.Spec PyProof.Rows
def SqL (K : PySem.W.Frag) (H : Hp) (a : Addr) (xs : List V) : Prop :=
  Rd H a (.lst xs) ∨
    ∃ (o : Obj) (its : Array Value) (n : Nat), K.lookup a = some o ∧ o.cls = .type "list" ∧ o.dict = none ∧ o.data = .seq its n ∧ its.size ≤ sizeLine ∧ Vals xs its.toList
def SqT (K : PySem.W.Frag) (H : Hp) (a : Addr) (xs : List V) : Prop :=
  Rd H a (.tup xs) ∨
    ∃ (o : Obj) (its : Array Value) (n : Nat), K.lookup a = some o ∧ o.cls = .type "tuple" ∧ o.data = .seq its n ∧ its.size ≤ sizeLine ∧ Vals xs its.toList
def absV : Value → Option V
  | .none => some .non
  | .bool b => some (.bl b)
  | .int i _ => some (.int i)
  | .str x _ => some (.str x)
  | .bytes b _ => some (.byt b)
  | .float b _ => some (.flt b)
  | .ref a => some (.ref a)
  | .type n => some (.ty n)
  | _ => none
theorem RelV.abs {x : V} {u : Value} (r : RelV x u) : absV u = some x := by
  cases x with
  | non => cases r; rfl
  | bl _ => cases r; rfl
  | int _ => obtain ⟨t, rfl⟩ := r; rfl
  | str _ => obtain ⟨t, rfl⟩ := r; rfl
  | byt _ => obtain ⟨t, rfl⟩ := r; rfl
  | flt _ => obtain ⟨t, rfl⟩ := r; rfl
  | ref _ => cases r; rfl
  | ty _ => cases r; rfl
theorem RelV.inj {x y : V} {u : Value} (r : RelV x u) (q : RelV y u) : x = y := Option.some.inj (r.abs.symm.trans q.abs)
theorem Vals.inj : ∀ {xs ys : List V} {us : List Value}, Vals xs us → Vals ys us → xs = ys
  | _, _, _, .nil, .nil => rfl
  | _, _, _, .cons r t, .cons r' t' => by rw [r.inj r', Vals.inj t t']
section
variable {X : Cx} {pins : List (Addr × Obj)} {σ : St} {H : Hp} {s : Shared} {a : Addr} {xs ys : List V}
theorem SqL.of {K : PySem.W.Frag} (h : H a = some (.lst xs)) : SqL K H a xs := .inl (.inl h)
theorem SqT.of {K : PySem.W.Frag} (h : H a = some (.tup xs)) : SqT K H a xs := .inl (.inl h)
theorem Inv.list (I : Inv X pins σ H s) (h : SqL X.K H a xs) : ∃ its : List Value, Vals xs its ∧ PlainL s.heap a its.toArray ∧ xs.length ≤ sizeLine := by
  rcases h with h | ⟨o, its, n, hk, hc, hd, hs, hz, r⟩
  · obtain ⟨z, its, n, r, e⟩ := h.ok I.hok
    exact ⟨its, r, ⟨_, n, e, rfl, rfl, rfl⟩, z⟩
  · refine ⟨its.toList, r, ⟨o, n, I.kIn a o hk, hc, hd, by simpa using hs⟩, ?_⟩
    have e := r.length
    simp only [Array.length_toList] at e
    omega
theorem Inv.tuple (I : Inv X pins σ H s) (h : SqT X.K H a xs) : ∃ its : List Value, Vals xs its ∧ IsTup s.heap a its.toArray ∧ xs.length ≤ sizeLine := by
  rcases h with h | ⟨o, its, n, hk, hc, hs, hz, r⟩
  · obtain ⟨z, its, r, p⟩ := h.ok I.hok
    exact ⟨its, r, p, z⟩
  · refine ⟨its.toList, r, ⟨o, I.kIn a o hk, hc, n, by simpa using hs⟩, ?_⟩
    have e := r.length
    simp only [Array.length_toList] at e
    omega
theorem Inv.list_inj (I : Inv X pins σ H s) (h : SqL X.K H a xs) (h' : SqL X.K H a ys) : xs = ys := by
  obtain ⟨its, r, ⟨o, n, e, _, _, d⟩, _⟩ := I.list h
  obtain ⟨its', r', ⟨o', n', e', _, _, d'⟩, _⟩ := I.list h'
  rw [e] at e'; cases e'
  rw [d] at d'
  injection d' with d1 _
  have : its = its' := by simpa using congrArg Array.toList d1
  subst this
  exact r.inj r'
theorem Inv.tuple_inj (I : Inv X pins σ H s) (h : SqT X.K H a xs) (h' : SqT X.K H a ys) : xs = ys := by
  obtain ⟨its, r, ⟨o, e, _, n, d⟩, _⟩ := I.tuple h
  obtain ⟨its', r', ⟨o', e', _, n', d'⟩, _⟩ := I.tuple h'
  rw [e] at e'; cases e'
  rw [d] at d'
  injection d' with d1 _
  have : its = its' := by simpa using congrArg Array.toList d1
  subst this
  exact r.inj r'
end
abbrev Cx.wish (X : Cx) (E : Value → Shared → Prop) : Cx := { X with xe := E }
abbrev Cx.nox (X : Cx) : Cx := X.wish fun _ _ => False
theorem Cx.Ok.wish {X : Cx} (ok : X.Ok) (E : Value → Shared → Prop) : (X.wish E).Ok :=
  ⟨ok.mod, ok.kind, ok.glob, ok.blt, ok.above, ok.inj, ok.has, ok.cab, ok.hd, ok.frames, ok.stk, ok.exf, ok.bs, ok.bsz, ok.noex, ok.exfs, ok.funs, ok.frf⟩
theorem Cx.Ok.unwish {X : Cx} {E : Value → Shared → Prop} (ok : (X.wish E).Ok) : X.Ok :=
  ⟨ok.mod, ok.kind, ok.glob, ok.blt, ok.above, ok.inj, ok.has, ok.cab, ok.hd, ok.frames, ok.stk, ok.exf, ok.bs, ok.bsz, ok.noex, ok.exfs, ok.funs, ok.frf⟩
section
variable {X : Cx} {pins : List (Addr × Obj)} {σ : St} {H : Hp} {s : Shared} {E : Value → Shared → Prop}
theorem Inv.wish (I : Inv X pins σ H s) (E : Value → Shared → Prop) : Inv (X.wish E) pins σ H s := ⟨I.ok.wish E, I.os, I.bare, I.base, I.loc, I.cell, I.free, I.freeC, I.pin, I.hok, I.len⟩
theorem Inv.unwish (I : Inv (X.wish E) pins σ H s) : Inv X pins σ H s := ⟨I.ok.unwish, I.os, I.bare, I.base, I.loc, I.cell, I.free, I.freeC, I.pin, I.hok, I.len⟩
theorem SP.unwish {D : Ends} {f : Flow} {s' : Shared} (h : SP (X.wish E) pins D f s') : SP X pins D f s' := by
  cases f with
  | next => obtain ⟨σ', H', I, q⟩ := h; exact ⟨σ', H', I.unwish, q⟩
  | brk => obtain ⟨σ', H', I, q⟩ := h; exact ⟨σ', H', I.unwish, q⟩
  | cont => obtain ⟨σ', H', I, q⟩ := h; exact ⟨σ', H', I.unwish, q⟩
  | ret u => obtain ⟨v, σ', H', I, r, q⟩ := h; exact ⟨v, σ', H', I.unwish, r, q⟩
theorem PE.nox {e : Expr} {t : TE} (h : PE X.nox e t) : PE X e t := fun pins s σ H Q I hw =>
  wpAny_mono (h pins s σ H Q (I.wish _) hw) (fun _ _ ⟨v, H', I', r, q⟩ => ⟨v, H', I'.unwish, r, q⟩) fun _ _ z => False.elim z
theorem PT.nox {e : Expr} {t : TT} (h : PT X.nox e t) : PT X e t := fun pins s σ H Q I hw =>
  wpAny_mono (h pins s σ H Q (I.wish _) hw) (fun _ _ ⟨H', I', q⟩ => ⟨H', I'.unwish, q⟩) fun _ _ z => False.elim z
theorem PSs.nox {st : List Stmt} {t : TS} (h : PSs X.nox st t) : PSs X st t := fun pins s σ H D I hw =>
  wpAny_mono (h pins s σ H D (I.wish _) hw) (fun _ _ q => q.unwish) fun _ _ z => False.elim z
end
section
variable {X : Cx} {st : Stmt} {rest : List Stmt} {t u : TS} {e : Expr} {te : TE} {pos : Pos}
def tNext : TS := fun D σ H => D.nx σ H
def tSeq (t u : TS) : TS := fun D σ H => t { D with nx := u D } σ H
theorem pss_nil : PSs X [] tNext := fun _ _ σ H _ I h => wpAny_execs_nil ⟨σ, H, I, h⟩
theorem pss_cons (h1 : PS X st t) (h2 : PSs X rest u) : PSs X (st :: rest) (tSeq t u) := by
  intro pins s σ H D I h
  refine wpAny_execs_cons (thn (h1 pins s σ H { D with nx := u D } I h) fun f s1 q => ?_)
  cases f with
  | next =>
    obtain ⟨σ', H', I', q⟩ := q
    exact h2 pins s1 σ' H' D I' q
  | ret v => exact q
  | brk => exact q
  | cont => exact q
theorem pss_one (h1 : PS X st t) : PSs X [st] t := by
  intro pins s σ H D I h
  refine wpAny_execs_cons (thn (h1 pins s σ H D I h) fun f s1 q => ?_)
  cases f with
  | next => exact wpAny_execs_nil q
  | ret v => exact q
  | brk => exact q
  | cont => exact q
theorem Inv.quiet {pins : List (Addr × Obj)} {σ : St} {H : Hp} {s : Shared} (I : Inv X pins σ H s) : interactive X.env = false := by simp [interactive, I.ok.kind]
def tDrop (te : TE) : TS := fun D σ H => te σ H fun _ H1 => D.nx σ H1
theorem ps_expr (he : PE X e te) (hs : swapsWith e none pos.line X.env = pure false := by rfl) : PS X (.Expr e pos) (tDrop te) := by
  intro pins s σ H D I h
  exact wpAny_Expr_any (thn (he pins s σ H _ I h) fun v s1 ⟨x, H1, I1, r1, q1⟩ => ⟨σ, H1, I1, q1⟩) I.quiet hs
def tRet (te : TE) : TS := fun D σ H => te σ H D.rt
theorem ps_ret (he : PE X e te) : PS X (.Return (some e) pos) (tRet te) := by
  intro pins s σ H D I h
  exact wpAny_Return_some (thn (he pins s σ H _ I h) fun v s1 ⟨x, H1, I1, r1, q1⟩ => ⟨x, σ, H1, I1, r1, q1⟩)
def tIfS (c : TT) (t u : TS) : TS := fun D σ H => c σ H fun b H1 => if b = true then t D σ H1 else u D σ H1
theorem ps_if {c : Expr} {a b : List Stmt} {tc : TT} (hc : PT X c tc) (ha : PSs X a t) (hb : PSs X b u) : PS X (.If c a b pos) (tIfS tc t u) := by
  intro pins s σ H D I h
  refine wpAny_If (thn (hc pins s σ H _ I h) fun d s1 ⟨H1, I1, q1⟩ => ?_)
  cases d with
  | true => exact ha pins s1 σ H1 D I1 q1
  | false => exact hb pins s1 σ H1 D I1 q1
end
abbrev TG := V → St → Hp → (St → Hp → Prop) → Prop
abbrev TGs := List V → St → Hp → (St → Hp → Prop) → Prop
def PG (X : Cx) (target : Expr) (t : TG) : Prop :=
  ∀ (pins : List (Addr × Obj)) (s : Shared) (σ : St) (H : Hp) (v : V) (u : Value) (Q : St → Hp → Prop), Inv X pins σ H s → RelV v u → t v σ H Q →
    wpAny (model X.prog X.w) X.A (assign target X.env u) (fun _ s' => ∃ σ' H', Inv X pins σ' H' s' ∧ Q σ' H') X.xe s
def PGs (X : Cx) (ts : List Expr) (t : TGs) : Prop :=
  ∀ (pins : List (Addr × Obj)) (s : Shared) (σ : St) (H : Hp) (vs : List V) (us : List Value) (Q : St → Hp → Prop), Inv X pins σ H s → Vals vs us → t vs σ H Q →
    wpAny (model X.prog X.w) X.A (assignInOrder ((assignEach ts X.env).map (·.2)) us) (fun _ s' => ∃ σ' H', Inv X pins σ' H' s' ∧ Q σ' H') X.xe s
section
variable {X : Cx} {pos : Pos}
def gName (i : Nat) : TG := fun v σ H Q => Q (σ.set i (some v)) H
theorem pg_name {i : Nat} {x : Str} (hN : X.N.Nodup) (hi : X.N[i]? = some x) (hx : Loc X.env.scope x) (hf : X.fn x = true ∨ X.env.scope.names.lookup x = some .local := by first | exact .inl rfl | exact .inr rfl | assumption) : PG X (.Name x pos) (gName i) := by
  intro pins s σ H v u Q I r h
  exact wpAny_assign_Name (store_ok I hN hi hx r (fun s' I' => ⟨_, H, I', h⟩) hf)
def gNil : TGs := fun vs σ H Q => vs = [] ∧ Q σ H
def gCons (t : TG) (u : TGs) : TGs := fun vs σ H Q => ∃ v r, vs = v :: r ∧ t v σ H fun σ' H' => u r σ' H' Q
theorem pgs_nil : PGs X [] gNil := by
  intro pins s σ H vs us Q I r h
  obtain ⟨e, h⟩ := h
  subst e
  cases r
  exact assignInOrder_nil ⟨σ, H, I, h⟩
theorem pgs_cons {e : Expr} {es : List Expr} {t : TG} {u : TGs} (h1 : PG X e t) (h2 : PGs X es u)
    (hs : (assignEach (e :: es) X.env).map (·.2) = assign e X.env :: (assignEach es X.env).map (·.2) := by rfl) : PGs X (e :: es) (gCons t u) := by
  intro pins s σ H vs us Q I r h
  obtain ⟨v, vr, e1, h⟩ := h
  subst e1
  cases r with
  | cons r rr =>
    rw [hs]
    refine assignInOrder_cons (thn (h1 pins s σ H _ _ _ I r h) fun _ s1 ⟨σ1, H1, I1, q1⟩ => ?_)
    exact h2 pins s1 σ1 H1 _ _ Q I1 rr q1
def gTup (K : PySem.W.Frag) (n : Nat) (t : TGs) : TG := fun v σ H Q => ∃ a xs, v = .ref a ∧ SqT K H a xs ∧ xs.length = n ∧ t xs σ H Q
theorem pg_tup {es : List Expr} {k : Nat} {t : TGs} {n : Nat} (hc : X.calm = true) (h : PGs X es t)
    (hn : (assignEach es X.env).length = n := by rfl) (hst : (assignEach es X.env).findIdx? (·.1) = none := by rfl) : PG X (.Tuple es k pos) (gTup X.K n t) := by
  intro pins s σ H v u Q I r hw
  obtain ⟨a, xs, e1, hq, hl, hw⟩ := hw
  subst e1
  cases r
  obtain ⟨its, rv, ht, hz⟩ := I.tuple hq
  refine assign_Tuple_tuple (I.ok.hd hc) ht (by simp [hn, ← hl, rv.length]) hst fun h' hx => ?_
  have I1 : Inv X pins σ H { s with heap := h' } := I.kept (t' := s.toks) fun b o e => hx b o (Nat.ne_of_lt (Heap.lt_size e)) e
  exact h pins _ σ H xs _ Q I1 (by simpa using rv) hw
def tAsg (te : TE) (g : TG) : TS := fun D σ H => te σ H fun x H1 => g x σ H1 D.nx
theorem ps_set {i : Nat} {x : Str} {e : Expr} {te : TE} {pos' : Pos} (hN : X.N.Nodup) (hi : X.N[i]? = some x) (hx : Loc X.env.scope x) (he : PE X e te) (hs : swapsWith e (some (.Name x pos')) pos.line X.env = pure false := by rfl) (hf : X.fn x = true ∨ X.env.scope.names.lookup x = some .local := by first | exact .inl rfl | exact .inr rfl | assumption) :
    PS X (.Assign [.Name x pos'] e pos) (tAsg te (gName i)) := by
  intro pins s σ H D I h
  refine wpAny_Assign_Name (thn (he pins s σ H _ I h) fun v s1 ⟨y, H1, I1, r1, q1⟩ => ?_) hs
  exact store_ok I1 hN hi hx r1 (fun s2 I2 => ⟨_, H1, I2, q1⟩) hf
end
section
variable {X : Cx} {pos : Pos}
end
structure It where
  go : Nat → Hp → Prop
  yld : Nat → Hp → V → Hp → Prop
  stop : Nat → Hp → Prop
def FpOk (X : Cx) (pins : List (Addr × Obj)) (H : Hp) (b : Addr) : Prop :=
  H b = none ∧ b ≠ X.env.locals ∧ b ∉ X.fs ∧ (b ∈ X.ex ∨ X.s₀.heap.objs.size ≤ b) ∧ (∀ x c, X.env.cells.lookup x = some c → c ≠ b) ∧ ∀ p ∈ X.pn ++ pins, p.1 ≠ b
theorem Inv.fpOk {X : Cx} {pins : List (Addr × Obj)} {σ : St} {H H' : Hp} {s : Shared} {b : Addr} (I : Inv X pins σ H s) (hb : s.heap.objs.size ≤ b) (hn : H' b = none) : FpOk X pins H' b := by
  refine ⟨hn, Nat.ne_of_gt (Nat.lt_of_lt_of_le I.lt hb), I.nofs hb, .inr (Nat.le_trans I.sz hb), fun x c e z => ?_, fun p hp z => ?_⟩
  · obtain ⟨v, q⟩ := I.cell x c e
    exact absurd (Nat.lt_of_lt_of_le q.lt (by rw [z]; exact hb)) (Nat.lt_irrefl _)
  · exact absurd (Nat.lt_of_lt_of_le (Heap.lt_size (I.pin p hp).1) (by rw [z]; exact hb)) (Nat.lt_irrefl _)
structure Turn (P : Program) (w : World) (K : PySem.W.Frag) (tg : Expr) (J : It) (fp : List Addr) (it : Addr) (tn : Nat → Heap → Prop) : Prop where
  mem : it ∈ fp
  obj : ∀ i h, tn i h → ∀ b ∈ fp, ∃ o, h.get? b = some o ∧ ∀ v, o.data ≠ .cell v
  keep : ∀ i h h', tn i h → (∀ b ∈ fp, ∀ o, h.get? b = some o → h'.get? b = some o) → tn i h'
  item : ∀ (X : Cx), X.prog = P → X.w = w → X.K = K → X.calm = true → ∀ (i : Nat) (pins : List (Addr × Obj)) (s : Shared) (σ : St) (H : Hp) (E : Value → Shared → Prop), Inv X pins σ H s → (∀ b ∈ fp, FpOk X pins H b) → tn i s.heap → J.go i H →
    wpAny (model P w) X.A (pyNext (.ref it)) (fun r s1 => ∃ u, r = some u ∧
      wpAny (model P w) X.A (letOwnedTupleGo tg (.ref it) u) (fun _ s2 => ∃ x H', Inv X pins σ H' s2 ∧ RelV x u ∧ J.yld i H x H' ∧ tn (i + 1) s2.heap ∧ ∀ b ∈ fp, H' b = none) E s1) E s
  done : ∀ (X : Cx), X.prog = P → X.w = w → X.K = K → X.calm = true → ∀ (i : Nat) (pins : List (Addr × Obj)) (s : Shared) (σ : St) (H : Hp) (E : Value → Shared → Prop), Inv X pins σ H s → (∀ b ∈ fp, FpOk X pins H b) → tn i s.heap → J.stop i H →
    wpAny (model P w) X.A (pyNext (.ref it)) (fun r s1 => r = none ∧ Inv X pins σ H s1) E s
  self : ∀ (A : Around) (i : Nat) (s : Shared) (Q : Value → Shared → Prop) (E : Value → Shared → Prop), tn i s.heap → Q (.ref it) s → wpAny (model P w) A (pyIter (.ref it)) Q E s
abbrev TI := St → Hp → (It → Hp → Prop) → Prop
def PIE (X : Cx) (pins : List (Addr × Obj)) (σ : St) (tg : Expr) (R : It → Hp → Prop) (itv : Value) (s2 : Shared) : Prop :=
  ∃ (it : Addr) (fp : List Addr) (tn : Nat → Heap → Prop) (J : It) (H' : Hp), itv = .ref it ∧ Inv X pins σ H' s2 ∧ Turn X.prog X.w X.K tg J fp it tn ∧ tn 0 s2.heap ∧ (∀ b ∈ fp, FpOk X pins H' b) ∧ R J H'
def PI (X : Cx) (tg iter : Expr) (wi : TI) : Prop :=
  ∀ (pins : List (Addr × Obj)) (s : Shared) (σ : St) (H : Hp) (R : It → Hp → Prop), Inv X pins σ H s → wi σ H R →
    wpAny (model X.prog X.w) X.A (eval iter X.env) (fun v s1 => wpAny (model X.prog X.w) X.A (pyIter v) (PIE X pins σ tg R) X.xe s1) X.xe s
theorem go_of {M : Model} {A : Around} {E : Value → Shared → Prop} {s : Shared} {tg : Expr} {it : Addr} {u : Value} {o : Obj} {n : String} {vs : Array Value} {Q : Unit → Shared → Prop} (ho : s.heap.get? it = some o) (hc : o.cls = .type n) (hd : o.data = .fields vs)
    (hn : ["enumerate", "zip", "dict_itemiterator", "dict_reverseitemiterator", "odict_iterator", "itertools.zip_longest", "itertools.pairwise"].contains n = false) (hQ : Q () s) : wpAny M A (letOwnedTupleGo tg (.ref it) u) Q E s := by
  unfold letOwnedTupleGo
  cases tg <;> first
    | exact wpAny_pure hQ
    | (cases u <;> first
        | exact wpAny_pure hQ
        | (refine wpAny_bind (wpAny_load ho ?_)
           rw [hc, hd]
           show wpAny M A (if (["enumerate", "zip", "dict_itemiterator", "dict_reverseitemiterator", "odict_iterator", "itertools.zip_longest", "itertools.pairwise"].contains n && vs[0]? == some (rawInt _)) = true then _ else _) Q E s
           rw [if_neg (by intro h; rw [hn, Bool.false_and] at h; cases h)]
           exact wpAny_pure hQ))
def Itl (K : PySem.W.Frag) (a : Addr) : It :=
  ⟨fun i H => ∃ xs x, SqL K H a xs ∧ xs[i]? = some x, fun i H x H' => H' = H ∧ ∀ xs, SqL K H a xs → xs[i]? = some x, fun i H => ∃ xs, SqL K H a xs ∧ xs.length ≤ i⟩
def Itt (K : PySem.W.Frag) (a : Addr) : It :=
  ⟨fun i H => ∃ xs x, SqT K H a xs ∧ xs[i]? = some x, fun i H x H' => H' = H ∧ ∀ xs, SqT K H a xs → xs[i]? = some x, fun i H => ∃ xs, SqT K H a xs ∧ xs.length ≤ i⟩
def Itr (lo : Int) (n : Nat) : It := ⟨fun i _ => i < n, fun i H x H' => H' = H ∧ x = .int (lo + i), fun i _ => n ≤ i⟩
theorem turn_list {P : Program} {w : World} {K : PySem.W.Frag} {tg : Expr} (a it : Addr) : Turn P w K tg (Itl K a) [it] it (fun i h => h.IsListIter it a i) where
  mem := by simp
  obj := fun i h st b hb => by
    have e : b = it := by simpa using hb
    subst e
    obtain ⟨o, e, c, d⟩ := st
    exact ⟨o, e, fun v z => by rw [d] at z; cases z⟩
  keep := fun i h h' st k => st.at fun o e => k it (by simp) o e
  item := by
    intro X hP hw hK hc i pins s σ H E I hf st hg
    subst hP hw hK
    obtain ⟨xs, x, hq, hx⟩ := hg
    obtain ⟨its, rv, p, hz⟩ := I.list hq
    obtain ⟨u, hu, ru⟩ := rv.get hx
    obtain ⟨f0, f1, f2, f3, f4, f5⟩ := hf it (by simp)
    refine wpAny_pyNext_list_item st p.isList (x := u) (by simpa using hu) fun h' st' sb => ?_
    have I1 : Inv X pins σ H { s with heap := h' } := I.turned (t' := s.toks) (fun b o hb e => (sb.2 b hb).trans e) f0 f1 f3 f4 f5
    obtain ⟨o, e, c, d⟩ := id st'
    exact ⟨u, rfl, go_of (s := { s with heap := h' }) e c d (by decide) ⟨x, H, I1, ru, ⟨rfl, fun ys hy => by rw [I.list_inj hy hq]; exact hx⟩, st', fun b hb => (hf b hb).1⟩⟩
  done := by
    intro X hP hw hK hc i pins s σ H E I hf st hg
    subst hP hw hK
    obtain ⟨xs, hq, hx⟩ := hg
    obtain ⟨its, rv, p, hz⟩ := I.list hq
    obtain ⟨f0, f1, f2, f3, f4, f5⟩ := hf it (by simp)
    have hl := rv.length
    exact wpAny_pyNext_list_end (I.ok.hd hc) st p.isList (by simp; omega) fun h' eb => ⟨rfl, I.turned (t' := s.toks) (fun b o hb e => eb b o hb e) f0 f1 f3 f4 f5⟩
  self := fun _ _ _ _ _ st h => wpAny_pyIter_listiter st h
theorem turn_tuple {P : Program} {w : World} {K : PySem.W.Frag} {tg : Expr} (a it : Addr) : Turn P w K tg (Itt K a) [it] it (fun i h => h.IsTupleIter it a i) where
  mem := by simp
  obj := fun i h st b hb => by
    have e : b = it := by simpa using hb
    subst e
    obtain ⟨o, e, c, d⟩ := st
    exact ⟨o, e, fun v z => by rw [d] at z; cases z⟩
  keep := fun i h h' st k => st.at fun o e => k it (by simp) o e
  item := by
    intro X hP hw hK hc i pins s σ H E I hf st hg
    subst hP hw hK
    obtain ⟨xs, x, hq, hx⟩ := hg
    obtain ⟨its, rv, p, hz⟩ := I.tuple hq
    obtain ⟨u, hu, ru⟩ := rv.get hx
    obtain ⟨f0, f1, f2, f3, f4, f5⟩ := hf it (by simp)
    refine wpAny_pyNext_tuple_item st (show s.heap.IsTuple a its.toArray from p) (x := u) (by simpa using hu) fun h' st' sb => ?_
    have I1 : Inv X pins σ H { s with heap := h' } := I.turned (t' := s.toks) (fun b o hb e => (sb.2 b hb).trans e) f0 f1 f3 f4 f5
    obtain ⟨o, e, c, d⟩ := id st'
    exact ⟨u, rfl, go_of (s := { s with heap := h' }) e c d (by decide) ⟨x, H, I1, ru, ⟨rfl, fun ys hy => by rw [I.tuple_inj hy hq]; exact hx⟩, st', fun b hb => (hf b hb).1⟩⟩
  done := by
    intro X hP hw hK hc i pins s σ H E I hf st hg
    subst hP hw hK
    obtain ⟨xs, hq, hx⟩ := hg
    obtain ⟨its, rv, p, hz⟩ := I.tuple hq
    obtain ⟨f0, f1, f2, f3, f4, f5⟩ := hf it (by simp)
    have hl := rv.length
    exact wpAny_pyNext_tuple_end (I.ok.hd hc) st (show s.heap.IsTuple a its.toArray from p) (by simp; omega) fun h' eb => ⟨rfl, I.turned (t' := s.toks) (fun b o hb e => eb b o hb e) f0 f1 f3 f4 f5⟩
  self := fun _ _ _ _ _ st h => wpAny_pyIter_tupleiter st h
theorem turn_range {P : Program} {w : World} {K : PySem.W.Frag} {tg : Expr} (it : Addr) (lo : Int) (n : Nat) : Turn P w K tg (Itr lo n) [it] it (fun i h => IsRangeIter h it (lo + (i : Nat) * 1) ((n : Int) - (i : Nat)) 1) where
  mem := by simp
  obj := fun i h st b hb => by
    have e : b = it := by simpa using hb
    subst e
    exact ⟨_, st, fun v z => by
      have z' : Data.fields _ = Data.cell v := z
      cases z'⟩
  keep := fun i h h' st k => k it (by simp) _ st
  item := by
    intro X hP hw hK hc i pins s σ H E I hf st hg
    subst hP hw hK
    obtain ⟨f0, f1, f2, f3, f4, f5⟩ := hf it (by simp)
    have W := Walks.range (prog := X.prog) (w := X.w) (I.ok.hd hc) it lo 1 n
    refine W.item i s _ _ hg st fun v h' tk hv st' kk => ?_
    obtain ⟨t, rfl⟩ := hv
    have I1 : Inv X pins σ H { s with heap := h', toks := tk } := I.turned (fun b o hb e => kk b o (by simpa using hb) e) f0 f1 f3 f4 f5
    refine ⟨_, rfl, go_of (s := { s with heap := h', toks := tk }) (n := "range_iterator") st' rfl rfl (by decide) ⟨.int (lo + i), H, I1, ⟨t, ?_⟩, ⟨rfl, rfl⟩, st', fun b hb => (hf b hb).1⟩⟩
    rw [Int.mul_one]
  done := by
    intro X hP hw hK hc i pins s σ H E I hf st hg
    subst hP hw hK
    obtain ⟨f0, f1, f2, f3, f4, f5⟩ := hf it (by simp)
    exact wpAny_pyNext_range_end (I.ok.hd hc) st (by have : n ≤ i := hg; omega) fun h' eb => ⟨rfl, I.turned (t' := s.toks) (fun b o hb e => eb b o hb e) f0 f1 f3 f4 f5⟩
  self := fun _ _ _ _ _ st h => wpAny_pyIter_rangeiter st h
end L2
namespace L2
open PySem PySem.Spec PyProof.Rows
section
variable {X : Cx} {tg : Expr}
def iList (K : PySem.W.Frag) (tl : TE) : TI := fun σ H R => tl σ H fun x H1 => ∃ a, x = .ref a ∧ (∃ xs, SqL K H1 a xs) ∧ R (Itl K a) H1
def iTup (K : PySem.W.Frag) (tl : TE) : TI := fun σ H R => tl σ H fun x H1 => ∃ a, x = .ref a ∧ (∃ xs, SqT K H1 a xs) ∧ R (Itt K a) H1
theorem pi_list {l : Expr} {tl : TE} (hl : PE X l tl) : PI X tg l (iList X.K tl) := by
  intro pins s σ H R I h
  refine thn (hl pins s σ H _ I h) fun v s1 ⟨x, H1, I1, r1, q1⟩ => ?_
  obtain ⟨a, e, ⟨xs, hq⟩, q⟩ := q1
  subst e
  cases r1
  obtain ⟨its, rv, p, hz⟩ := I1.list hq
  refine wpAny_pyIter_list p.isList ?_
  refine ⟨s1.heap.objs.size, [s1.heap.objs.size], _, _, H1, rfl, I1.kept (t' := s1.toks) fun b o e => Heap.get?_push_of_some _ e, turn_list a _, ⟨_, Heap.get?_push_size _ rfl, rfl, rfl⟩, fun b hb => ?_, q⟩
  have e : b = s1.heap.objs.size := by simpa using hb
  subst e
  exact I1.fpOk (Nat.le_refl _) (I1.hok.fresh (Nat.le_refl _))
theorem pi_tup {l : Expr} {tl : TE} (hl : PE X l tl) : PI X tg l (iTup X.K tl) := by
  intro pins s σ H R I h
  refine thn (hl pins s σ H _ I h) fun v s1 ⟨x, H1, I1, r1, q1⟩ => ?_
  obtain ⟨a, e, ⟨xs, hq⟩, q⟩ := q1
  subst e
  cases r1
  obtain ⟨its, rv, p, hz⟩ := I1.tuple hq
  refine wpAny_pyIter_tuple (show s1.heap.IsTuple a its.toArray from p) ?_
  refine ⟨s1.heap.objs.size, [s1.heap.objs.size], _, _, H1, rfl, I1.kept (t' := s1.toks) fun b o e => Heap.get?_push_of_some _ e, turn_tuple a _, ⟨_, Heap.get?_push_size _ rfl, rfl, rfl⟩, fun b hb => ?_, q⟩
  have e : b = s1.heap.objs.size := by simpa using hb
  subst e
  exact I1.fpOk (Nat.le_refl _) (I1.hok.fresh (Nat.le_refl _))
theorem range_it {pins : List (Addr × Obj)} {σ : St} {H : Hp} {s : Shared} {R : It → Hp → Prop} {E : Value → Shared → Prop} {lo hi : Int} {t u v : Tok} {tk : Nat} (I : Inv X pins σ H s) (h1 : -(2 ^ 62) ≤ lo) (h2 : lo < 2 ^ 62) (h3 : -(2 ^ 62) ≤ hi) (h4 : hi < 2 ^ 62)
    (q : R (Itr lo (hi - lo).toNat) H) : wpAny (model X.prog X.w) X.A (pyIter (.ref s.heap.objs.size)) (PIE X pins σ tg R) E { s with heap := s.heap.push { cls := .type "range", data := .fields #[.int lo t, .int hi u, .int 1 v] }, toks := tk } := by
  refine wpAny_pyIter_range (IsRange.new ..) (small_one h1 h2 h3 h4) ?_
  have I1 : Inv X pins σ H { s with heap := s.heap.push { cls := .type "range", data := .fields #[.int lo t, .int hi u, .int 1 v] }, toks := tk } := I.kept fun b o e => Heap.get?_push_of_some _ e
  refine ⟨(s.heap.push { cls := .type "range", data := .fields #[.int lo t, .int hi u, .int 1 v] }).objs.size, [(s.heap.push { cls := .type "range", data := .fields #[.int lo t, .int hi u, .int 1 v] }).objs.size], _, _, H, rfl,
    I1.kept (t' := tk) fun b o e => Heap.get?_push_of_some _ e, turn_range _ lo (hi - lo).toNat, ?_, fun b hb => ?_, q⟩
  · have e1 : lo + ((0 : Nat) : Int) * 1 = lo := by simp
    have e2 : (((hi - lo).toNat : Nat) : Int) - ((0 : Nat) : Int) = Builtin.Range.rangeSize lo hi 1 := by rw [rangeSize_one]; split <;> omega
    show IsRangeIter _ _ (lo + ((0 : Nat) : Int) * 1) ((((hi - lo).toNat : Nat) : Int) - ((0 : Nat) : Int)) 1
    rw [e1, e2]
    exact Heap.get?_push_size _ rfl
  · have e : b = (s.heap.push { cls := .type "range", data := .fields #[.int lo t, .int hi u, .int 1 v] }).objs.size := by simpa using hb
    subst e
    exact I1.fpOk (Nat.le_refl _) (I1.hok.fresh (Nat.le_refl _))
def iRng1 (ta : TA) : TI := fun σ H R => ta σ H fun vs H1 => ∃ j : Int, vs = [.int j] ∧ -(2 ^ 62) ≤ j ∧ j < 2 ^ 62 ∧ R (Itr 0 j.toNat) H1
def iRng2 (ta : TA) : TI := fun σ H R => ta σ H fun vs H1 => ∃ i j : Int, vs = [.int i, .int j] ∧ (-(2 ^ 62) ≤ i ∧ i < 2 ^ 62 ∧ -(2 ^ 62) ≤ j ∧ j < 2 ^ 62) ∧ R (Itr i (j - i).toNat) H1
theorem pi_range1 {a : Expr} {ta : TA} {p pos : Pos} (hg : Gl X "range") (hm : X.mg "range" = none) (ha : PA X [a] ta) (hs : starEach [a] X.env = [(false, eval a X.env)] := by rfl) : PI X tg (.Call (.Name "range" p) [a] [] pos) (iRng1 ta) := by
  intro pins s σ H R I h
  refine Call_ (ld_blt I hg hm boot_range (PyProof.Rows.callWith_type1 (thn (ha pos pins s σ H _ I h) fun us s1 ⟨vs, H1, I1, r1, q1⟩ => ?_) hs rfl))
  obtain ⟨j, e, q1, q2, q⟩ := q1
  subst e
  cases r1 with
  | cons r rr =>
    cases rr
    obtain ⟨t, rfl⟩ := r
    exact call_range_1 (range_it I1 (by omega) (by omega) q1 q2 (by simpa using q))
theorem pi_range2 {a b : Expr} {ta : TA} {p pos : Pos} (hg : Gl X "range") (hm : X.mg "range" = none) (ha : PA X [a, b] ta) (hs : starEach [a, b] X.env = [(false, eval a X.env), (false, eval b X.env)] := by rfl) (hs2 : starEach [b] X.env = [(false, eval b X.env)] := by rfl) :
    PI X tg (.Call (.Name "range" p) [a, b] [] pos) (iRng2 ta) := by
  intro pins s σ H R I h
  refine Call_ (ld_blt I hg hm boot_range (PyProof.Rows.callWith_type1 (thn (ha pos pins s σ H _ I h) fun us s1 ⟨vs, H1, I1, r1, q1⟩ => ?_) (by rw [hs, hs2]) (by rw [hs2]; rfl)))
  obtain ⟨i, j, e, ⟨q1, q2, q3, q4⟩, q⟩ := q1
  subst e
  cases r1 with
  | cons r rr =>
    cases rr with
    | cons r' rr =>
      cases rr
      obtain ⟨t, rfl⟩ := r
      obtain ⟨t', rfl⟩ := r'
      exact call_range_2 (range_it I1 q1 q2 q3 q4 q)
def tFor (wi : TI) (g : TG) (tb : TS) : TS := fun D σ H => wi σ H fun J H1 => ∃ W : Nat → Nat → St → Hp → Prop, (∃ m, W 0 m σ H1) ∧ ∀ i m σ H, W i m σ H →
  (J.stop i H ∧ D.nx σ H) ∨ (J.go i H ∧ ∃ N : St → Hp → Prop, (∀ σ' H', N σ' H' → ∃ m', m' < m ∧ W (i + 1) m' σ' H') ∧ ∀ x H', J.yld i H x H' → g x σ H' fun σ2 H2 => tb { D with nx := N, ct := N, bk := D.nx } σ2 H2)
def pinsAt (fp : List Addr) (h : Heap) : List (Addr × Obj) := fp.filterMap fun b => (h.get? b).map fun o => (b, o)
theorem mem_pinsAt {fp : List Addr} {h : Heap} {b : Addr} {o : Obj} (hb : b ∈ fp) (e : h.get? b = some o) : (b, o) ∈ pinsAt fp h := List.mem_filterMap.mpr ⟨b, hb, by rw [e]; rfl⟩
theorem of_pinsAt {fp : List Addr} {h : Heap} {p : Addr × Obj} (hp : p ∈ pinsAt fp h) : p.1 ∈ fp ∧ h.get? p.1 = some p.2 := by
  obtain ⟨b, hb, e⟩ := List.mem_filterMap.mp hp
  cases q : h.get? b with
  | none => rw [q] at e; cases e
  | some o =>
    rw [q] at e
    have e' : (b, o) = p := Option.some.inj e
    subst e'
    exact ⟨hb, q⟩
theorem Inv.pinned {pins : List (Addr × Obj)} {σ : St} {H : Hp} {s : Shared} {fp : List Addr} (I : Inv X pins σ H s) (hf : ∀ b ∈ fp, FpOk X pins H b) (ho : ∀ b ∈ fp, ∃ o, s.heap.get? b = some o ∧ ∀ v, o.data ≠ .cell v) : Inv X (pins ++ pinsAt fp s.heap) σ H s :=
  I.pins_of fun p hp => (List.mem_append.mp hp).elim (fun z => I.pin p (List.mem_append_right _ z)) fun z => by
    obtain ⟨hb, e⟩ := of_pinsAt z
    obtain ⟨f0, f1, f2, _⟩ := hf p.1 hb
    obtain ⟨o, e', d⟩ := ho p.1 hb
    rw [e] at e'; cases e'
    exact ⟨e, f0, f1, f2, d⟩
theorem Inv.unpinned {pins pl : List (Addr × Obj)} {σ : St} {H : Hp} {s : Shared} (I : Inv X (pins ++ pl) σ H s) : Inv X pins σ H s := I.pins_of fun p hp => I.pin p (List.mem_append_right _ (List.mem_append_left _ hp))
theorem ps_for {iter : Expr} {body : List Stmt} {wi : TI} {g : TG} {tb : TS} {pos : Pos} (hp : PassesOwn (model X.prog X.w) X.A X.env X.xe) (hc : X.calm = true) (hi : PI X tg iter wi) (hg : PG X tg g) (hb : PSs X body tb)
    (hs : ∀ x, foldedSetIterable iter X.env x = pure x := by intro _; rfl) : PS X (.For tg iter body [] pos) (tFor wi g tb) := by
  intro pins s σ H D I h
  refine wpAny_For (thn (hi pins s σ H _ I h) fun v s1 h1 => thn h1 fun itv s2 h2 => ?_) hs
  obtain ⟨it, fp, tn, J, H2, e, I2, T, st2, f2, W, ⟨m0, w0⟩, turn⟩ := h2
  subst e
  -- what stays true of the iterator's objects through the loop
  have stat : ∀ {H' : Hp}, (∀ b ∈ fp, H' b = none) → ∀ b ∈ fp, FpOk X pins H' b := fun hn b hb => ⟨hn b hb, (f2 b hb).2⟩
  refine codeAny_forLoop_any (fun n s' => ∃ i σ' H', Inv X pins σ' H' s' ∧ tn i s'.heap ∧ (∀ b ∈ fp, H' b = none) ∧ W i n σ' H') ?_ m0 ⟨0, σ, H2, I2, st2, fun b hb => (f2 b hb).1, w0⟩
  rintro n s3 ⟨i, σ3, H3, I3, st3, fr3, w3⟩
  rcases turn i n σ3 H3 w3 with ⟨stop, qn⟩ | ⟨go, N, hN, step⟩
  · refine wpAny_passesOwn hp (thn (T.done X rfl rfl rfl hc i pins s3 σ3 H3 X.xe I3 (stat fr3) st3 stop) fun r s4 ⟨hr, I4⟩ => ?_)
    subst hr
    exact wpAny_execs_nil ⟨σ3, H3, I4, qn⟩
  · refine wpAny_passesOwn hp (thn (T.item X rfl rfl rfl hc i pins s3 σ3 H3 X.xe I3 (stat fr3) st3 go) fun r s4 ⟨u, hr, h4⟩ => ?_)
    subst hr
    refine wpAny_passesOwn hp (thn h4 fun _ s5 ⟨x, H5, I5, r5, y5, st5, fr5⟩ => ?_)
    have I5' := I5.pinned (stat fr5) (T.obj _ _ st5)
    refine wpAny_passesOwn hp (thn (hg _ s5 σ3 H5 x u _ I5' r5 (step x H5 y5)) fun _ s6 ⟨σ6, H6, I6, q6⟩ => ?_)
    refine wpAny_passesOwn hp (thn (hb _ s6 σ6 H6 _ I6 q6) fun f s7 q7 => ?_)
    have again : ∀ {σ7 : St} {H7 : Hp}, Inv X (pins ++ pinsAt fp s5.heap) σ7 H7 s7 → N σ7 H7 → ∃ m, m < n ∧ ∃ i σ' H', Inv X pins σ' H' s7 ∧ tn i s7.heap ∧ (∀ b ∈ fp, H' b = none) ∧ W i m σ' H' := fun {σ7 H7} I7 n7 => by
      obtain ⟨m', hm, w7⟩ := hN σ7 H7 n7
      refine ⟨m', hm, i + 1, σ7, H7, I7.unpinned, T.keep _ _ _ st5 fun b hb o e => (I7.pin (b, o) (List.mem_append_right _ (List.mem_append_right _ (mem_pinsAt hb e)))).1, fun b hb => ?_, w7⟩
      obtain ⟨o, e, d⟩ := T.obj _ _ st5 b hb
      exact (I7.pin (b, o) (List.mem_append_right _ (List.mem_append_right _ (mem_pinsAt hb e)))).2.1
    cases f with
    | next => obtain ⟨σ7, H7, I7, n7⟩ := q7; exact again I7 n7
    | cont => obtain ⟨σ7, H7, I7, n7⟩ := q7; exact again I7 n7
    | brk => obtain ⟨σ7, H7, I7, q7⟩ := q7; exact ⟨σ7, H7, I7.unpinned, q7⟩
    | ret v => obtain ⟨x7, σ7, H7, I7, r7, q7⟩ := q7; exact ⟨x7, σ7, H7, I7.unpinned, r7, q7⟩
end
theorem for_list {K : PySem.W.Frag} {a : Addr} {xs : List V} {g : TG} {tb : TS} {D : Ends} {σ : St} {H : Hp} (Pv : Nat → St → Hp → Prop) (h0 : Pv 0 σ H) (hl : ∀ i σ H, i ≤ xs.length → Pv i σ H → SqL K H a xs)
    (hs : ∀ i x σ H, xs[i]? = some x → Pv i σ H → g x σ H fun σ2 H2 => tb { D with nx := Pv (i + 1), ct := Pv (i + 1), bk := D.nx } σ2 H2) (hd : ∀ σ H, Pv xs.length σ H → D.nx σ H) :
    ∃ W : Nat → Nat → St → Hp → Prop, (∃ m, W 0 m σ H) ∧ ∀ i m σ H, W i m σ H →
      ((Itl K a).stop i H ∧ D.nx σ H) ∨ ((Itl K a).go i H ∧ ∃ N : St → Hp → Prop, (∀ σ' H', N σ' H' → ∃ m', m' < m ∧ W (i + 1) m' σ' H') ∧ ∀ x H', (Itl K a).yld i H x H' → g x σ H' fun σ2 H2 => tb { D with nx := N, ct := N, bk := D.nx } σ2 H2) := by
  refine ⟨fun i m σ H => m = xs.length - i ∧ i ≤ xs.length ∧ Pv i σ H, ⟨xs.length, by simp, Nat.zero_le _, h0⟩, ?_⟩
  rintro i m σ H ⟨rfl, hi, p⟩
  have q := hl i σ H hi p
  by_cases hlt : i < xs.length
  · refine .inr ⟨⟨xs, xs[i], q, by simp [hlt]⟩, Pv (i + 1), fun σ' H' p' => ⟨xs.length - (i + 1), by omega, rfl, hlt, p'⟩, fun x H' y => ?_⟩
    obtain ⟨e, y⟩ := y
    subst e
    exact hs i x σ _ (y xs q) p
  · have e : i = xs.length := by omega
    subst e
    exact .inl ⟨⟨xs, q, Nat.le_refl _⟩, hd σ H p⟩
theorem for_range {lo : Int} {n : Nat} {g : TG} {tb : TS} {D : Ends} {σ : St} {H : Hp} (Pv : Nat → St → Hp → Prop) (h0 : Pv 0 σ H)
    (hs : ∀ i σ H, i < n → Pv i σ H → g (.int (lo + i)) σ H fun σ2 H2 => tb { D with nx := Pv (i + 1), ct := Pv (i + 1), bk := D.nx } σ2 H2) (hd : ∀ σ H, Pv n σ H → D.nx σ H) :
    ∃ W : Nat → Nat → St → Hp → Prop, (∃ m, W 0 m σ H) ∧ ∀ i m σ H, W i m σ H →
      ((Itr lo n).stop i H ∧ D.nx σ H) ∨ ((Itr lo n).go i H ∧ ∃ N : St → Hp → Prop, (∀ σ' H', N σ' H' → ∃ m', m' < m ∧ W (i + 1) m' σ' H') ∧ ∀ x H', (Itr lo n).yld i H x H' → g x σ H' fun σ2 H2 => tb { D with nx := N, ct := N, bk := D.nx } σ2 H2) := by
  refine ⟨fun i m σ H => m = n - i ∧ i ≤ n ∧ Pv i σ H, ⟨n, by simp, Nat.zero_le _, h0⟩, ?_⟩
  rintro i m σ H ⟨rfl, hi, p⟩
  by_cases hlt : i < n
  · refine .inr ⟨hlt, Pv (i + 1), fun σ' H' p' => ⟨n - (i + 1), by omega, rfl, hlt, p'⟩, fun x H' y => ?_⟩
    obtain ⟨e, y⟩ := y
    subst e y
    exact hs i σ _ hlt p
  · have e : i = n := by omega
    subst e
    exact .inl ⟨Nat.le_refl _, hd σ H p⟩
end L2
namespace L2
open PySem PySem.Spec PyProof.Rows
abbrev R2 := V → V → Hp → VK → Prop
def OpR (X : Cx) (f : Value → Value → Sem Value) (r : R2) : Prop :=
  ∀ (pins : List (Addr × Obj)) (s : Shared) (σ : St) (H : Hp) (x y : V) (v u : Value) (Q : VK), Inv X pins σ H s → RelV x v → RelV y u → r x y H Q →
    wpAny (model X.prog X.w) X.A (f v u) (EP X pins σ Q) X.xe s
def UnR (X : Cx) (f : Value → Sem Value) (r : V → Hp → VK → Prop) : Prop :=
  ∀ (pins : List (Addr × Obj)) (s : Shared) (σ : St) (H : Hp) (x : V) (v : Value) (Q : VK), Inv X pins σ H s → RelV x v → r x H Q →
    wpAny (model X.prog X.w) X.A (f v) (EP X pins σ Q) X.xe s
def CallR (X : Cx) (f : Value) (r : List V → Hp → VK → Prop) : Prop :=
  ∀ (pins : List (Addr × Obj)) (s : Shared) (σ : St) (H : Hp) (xs : List V) (us : List Value) (Q : VK), Inv X pins σ H s → Vals xs us → r xs H Q →
    wpAny (model X.prog X.w) X.A (call f us) (EP X pins σ Q) X.xe s
def tOp (r : R2) (ta tb : TE) : TE := fun σ H Q => ta σ H fun x H1 => tb σ H1 fun y H2 => r x y H2 Q
def tUn (r : V → Hp → VK → Prop) (ta : TE) : TE := fun σ H Q => ta σ H fun x H1 => r x H1 Q
def rI (C : Int → Int → Prop) (g : Int → Int → V) : R2 := fun x y H Q => ∃ i j, x = .int i ∧ y = .int j ∧ C i j ∧ Q (g i j) H
def rI0 (g : Int → Int → V) : R2 := fun x y H Q => ∃ i j, x = .int i ∧ y = .int j ∧ Q (g i j) H
def rU (g : Int → V) : V → Hp → VK → Prop := fun x H Q => ∃ i, x = .int i ∧ Q (g i) H
section
variable {X : Cx} {a b c : Expr} {ta tb tc : TE} {pos : Pos}
theorem binT (ha : PE X a ta) (hb : PE X b tb) {pins : List (Addr × Obj)} {s : Shared} {σ : St} {H : Hp} {R : V → V → Hp → Prop} (I : Inv X pins σ H s)
    (h : ta σ H fun x H1 => tb σ H1 fun y H2 => R x y H2) {Q : Value → Shared → Prop} {f : Value → Value → Sem Value}
    (hf : ∀ v u s2 x y H2, Inv X pins σ H2 s2 → RelV x v → RelV y u → R x y H2 → wpAny (model X.prog X.w) X.A (f v u) Q X.xe s2) :
    wpAny (model X.prog X.w) X.A (eval a X.env) (fun v s₁ => wpAny (model X.prog X.w) X.A (eval b X.env) (fun u s₂ => wpAny (model X.prog X.w) X.A (f v u) Q X.xe s₂) X.xe s₁) X.xe s := by
  refine thn (ha pins s σ H _ I h) fun v s1 ⟨x, H1, I1, r1, q1⟩ => ?_
  refine thn (hb pins s1 σ H1 _ I1 q1) fun u s2 ⟨y, H2, I2, r2, q2⟩ => ?_
  exact hf v u s2 x y H2 I2 r1 r2 q2
theorem pe_op {op : Operator} {r : R2} (ho : OpR X (binaryOp op) r) (ha : PE X a ta) (hb : PE X b tb) : PE X (.BinOp a op b pos) (tOp r ta tb) := by
  intro pins s σ H Q I h
  exact wpAny_BinOp (binT ha hb I h fun v u s2 x y H2 I2 rx ry q => ho pins s2 σ H2 x y v u Q I2 rx ry q)
theorem pe_un {op : UnaryOp} {r : V → Hp → VK → Prop} (ho : UnR X (unaryOp op) r) (ha : PE X a ta) : PE X (.UnaryOp op a pos) (tUn r ta) := by
  intro pins s σ H Q I h
  exact UnaryOp_ (thn (ha pins s σ H _ I h) fun v s1 ⟨x, H1, I1, r1, q1⟩ => ho pins s1 σ H1 x v Q I1 r1 q1)
theorem opI {f : Value → Value → Sem Value} {C : Int → Int → Prop} {g : Int → Int → Int}
    (rule : ∀ (i j : Int) (t u : Tok) (s : Shared) (Q : Value → Shared → Prop) (E : Value → Shared → Prop), C i j → Q (.int (g i j) s.toks) { s with toks := s.toks + 1 } → wpAny (model X.prog X.w) X.A (f (.int i t) (.int j u)) Q E s) :
    OpR X f (rI C fun i j => .int (g i j)) := by
  intro pins s σ H x y v u Q I rx ry h
  obtain ⟨i, j, rfl, rfl, hc, q⟩ := h
  obtain ⟨t, rfl⟩ := rx
  obtain ⟨t', rfl⟩ := ry
  exact rule i j t t' s _ _ hc ⟨.int (g i j), H, I.tok _, ⟨_, rfl⟩, q⟩
theorem opI0 {f : Value → Value → Sem Value} {g : Int → Int → Int}
    (rule : ∀ (i j : Int) (t u : Tok) (s : Shared) (Q : Value → Shared → Prop) (E : Value → Shared → Prop), Q (.int (g i j) s.toks) { s with toks := s.toks + 1 } → wpAny (model X.prog X.w) X.A (f (.int i t) (.int j u)) Q E s) :
    OpR X f (rI0 fun i j => .int (g i j)) := by
  intro pins s σ H x y v u Q I rx ry h
  obtain ⟨i, j, rfl, rfl, q⟩ := h
  obtain ⟨t, rfl⟩ := rx
  obtain ⟨t', rfl⟩ := ry
  exact rule i j t t' s _ _ ⟨.int (g i j), H, I.tok _, ⟨_, rfl⟩, q⟩
theorem opB0 {f : Value → Value → Sem Value} {g : Int → Int → Bool}
    (rule : ∀ (i j : Int) (t u : Tok) (s : Shared) (Q : Value → Shared → Prop) (E : Value → Shared → Prop), Q (.bool (g i j)) s → wpAny (model X.prog X.w) X.A (f (.int i t) (.int j u)) Q E s) :
    OpR X f (rI0 fun i j => .bl (g i j)) := by
  intro pins s σ H x y v u Q I rx ry h
  obtain ⟨i, j, rfl, rfl, q⟩ := h
  obtain ⟨t, rfl⟩ := rx
  obtain ⟨t', rfl⟩ := ry
  exact rule i j t t' s _ _ ⟨.bl (g i j), H, I, rfl, q⟩
def CDiv (i j : Int) : Prop := 0 < j ∧ j < 1073741824
def CMul (i j : Int) : Prop := (-(2 ^ 64) < i ∧ i < 2 ^ 64) ∨ (-(2 ^ 64) < j ∧ j < 2 ^ 64)
theorem CMul.ok {i j : Int} (h : CMul i j) : IntMulOk i j := by
  rcases h with ⟨h1, h2⟩ | ⟨h1, h2⟩
  · exact .of_left (intBits_le_64 h1 h2)
  · exact .of_right (intBits_le_64 h1 h2)
theorem op_add : OpR X (binaryOp .Add) (rI0 fun i j => .int (i + j)) := opI0 fun _ _ _ _ _ _ _ q => add_int q
theorem op_mul : OpR X (binaryOp .Mult) (rI CMul fun i j => .int (i * j)) := opI fun _ _ _ _ _ _ _ hc q => mul_int q hc.ok
theorem op_fdiv : OpR X (binaryOp .FloorDiv) (rI CDiv fun i j => .int (i / j)) := opI fun i j _ _ _ _ _ hc q => by
  have h1 : (0 : Int) < j := hc.1
  have h2 : j < 1073741824 := hc.2
  exact floordiv_int (by omega) (by rw [Int.fdiv_eq_ediv_of_nonneg i (by omega)]; exact q) (.inl (PyProof.noPylong_small (by omega)))
theorem op_mod : OpR X (binaryOp .Mod) (rI (fun _ j => 0 < j) fun i j => .int (i % j)) := opI fun i j _ _ _ _ _ hc q => by
  have h1 : (0 : Int) < j := hc
  exact mod_int' (by omega) (by rw [Int.fmod_eq_emod_of_nonneg i (by omega)]; exact q)
theorem unI {f : Value → Sem Value} {g : Int → Int}
    (rule : ∀ (i : Int) (t : Tok) (s : Shared) (Q : Value → Shared → Prop) (E : Value → Shared → Prop), Q (.int (g i) s.toks) { s with toks := s.toks + 1 } → wpAny (model X.prog X.w) X.A (f (.int i t)) Q E s) :
    UnR X f (rU fun i => .int (g i)) := by
  intro pins s σ H x v Q I rx h
  obtain ⟨i, rfl, q⟩ := h
  obtain ⟨t, rfl⟩ := rx
  exact rule i t s _ _ ⟨.int (g i), H, I.tok _, ⟨_, rfl⟩, q⟩
theorem un_neg : UnR X (unaryOp .USub) (rU fun i => .int (-i)) := unI fun _ _ _ _ _ q => neg_int q
end
def scal : V → V → Bool
  | .non, .non => true | .non, .int _ => true | .int _, .non => true | .non, .bl _ => true | .bl _, .non => true | .non, .str _ => true | .str _, .non => true
  | .int _, .int _ => true | .bl _, .bl _ => true | .str _, .str _ => true | .byt _, .byt _ => true
  | .int _, .str _ => true | .str _, .int _ => true | .bl _, .str _ => true | .str _, .bl _ => true
  | _, _ => false
def rEq : R2 := fun x y H Q => scal x y = true ∧ Q (.bl (decide (x = y))) H
def rNe : R2 := fun x y H Q => scal x y = true ∧ Q (.bl (!decide (x = y))) H
theorem dec_int {i j : Int} : decide (V.int i = V.int j) = (i == j) := by
  rw [Bool.eq_iff_iff]
  simp
theorem dec_bl {i j : Bool} : decide (V.bl i = V.bl j) = (i == j) := by
  rw [Bool.eq_iff_iff]
  simp
theorem dec_str {i j : Str} : decide (V.str i = V.str j) = (i == j) := by
  rw [Bool.eq_iff_iff]
  simp
theorem dec_byt {i j : Array UInt8} : decide (V.byt i = V.byt j) = (i.toList == j.toList) := by
  rw [Bool.eq_iff_iff]
  cases i
  cases j
  simp
section
variable {X : Cx} {a b c : Expr} {ta tb tc : TE} {pos : Pos}
theorem fin_bl {pins : List (Addr × Obj)} {σ : St} {H : Hp} {s : Shared} {Q : VK} {k k' : Bool} (I : Inv X pins σ H s) (q : Q (.bl k) H) (e : k = k') : EP X pins σ Q (.bool k') s := by
  subst e
  exact ⟨.bl k, H, I, rfl, q⟩
theorem op_eq : OpR X (compareOp .Eq) rEq := by
  intro pins s σ H x y v u Q I rx ry h
  obtain ⟨hs, q⟩ := h
  cases x with
  | non =>
    cases rx
    cases y with
    | non => cases ry; exact PySem.EqNone.eq_none_none (fin_bl I q (by simp))
    | bl j => cases ry; exact PySem.EqNone.eq_none_bool (fin_bl I q (by simp))
    | int j => obtain ⟨t', rfl⟩ := ry; exact PySem.EqNone.eq_none_int (fin_bl I q (by simp))
    | str j => obtain ⟨t', rfl⟩ := ry; exact PySem.EqNone.eq_none_str (fin_bl I q (by simp))
    | _ => exact absurd (show false = true from hs) Bool.false_ne_true
  | bl i =>
    cases rx
    cases y with
    | non => cases ry; exact PySem.EqNone.eq_bool_none (fin_bl I q (by simp))
    | bl j => cases ry; exact eq_bool (fin_bl I q dec_bl)
    | str j => obtain ⟨t', rfl⟩ := ry; exact PySem.EqMixed.eq_bool_str (fin_bl I q (by simp))
    | _ => exact absurd (show false = true from hs) Bool.false_ne_true
  | int i =>
    obtain ⟨t, rfl⟩ := rx
    cases y with
    | non => cases ry; exact PySem.EqNone.eq_int_none (fin_bl I q (by simp))
    | int j => obtain ⟨t', rfl⟩ := ry; exact eq_int (fin_bl I q dec_int)
    | str j => obtain ⟨t', rfl⟩ := ry; exact PySem.EqMixed.eq_int_str (fin_bl I q (by simp))
    | _ => exact absurd (show false = true from hs) Bool.false_ne_true
  | str i =>
    obtain ⟨t, rfl⟩ := rx
    cases y with
    | non => cases ry; exact PySem.EqNone.eq_str_none (fin_bl I q (by simp))
    | bl j => cases ry; exact PySem.EqMixed.eq_str_bool (fin_bl I q (by simp))
    | int j => obtain ⟨t', rfl⟩ := ry; exact PySem.EqMixed.eq_str_int (fin_bl I q (by simp))
    | str j => obtain ⟨t', rfl⟩ := ry; exact eq_str (fin_bl I q dec_str)
    | _ => exact absurd (show false = true from hs) Bool.false_ne_true
  | byt i =>
    obtain ⟨t, rfl⟩ := rx
    cases y with
    | byt j => obtain ⟨t', rfl⟩ := ry; exact PySem.W.eq_bytes (fin_bl I q dec_byt)
    | _ => exact absurd (show false = true from hs) Bool.false_ne_true
  | _ => cases y <;> exact absurd (show false = true from hs) Bool.false_ne_true
theorem op_ne : OpR X (compareOp .NotEq) rNe := by
  intro pins s σ H x y v u Q I rx ry h
  obtain ⟨hs, q⟩ := h
  cases x with
  | non =>
    cases rx
    cases y with
    | non => cases ry; exact PySem.EqNone.ne_none_none (fin_bl I q (by simp))
    | bl j => cases ry; exact PySem.EqNone.ne_none_bool (fin_bl I q (by simp))
    | int j => obtain ⟨t', rfl⟩ := ry; exact PySem.EqNone.ne_none_int (fin_bl I q (by simp))
    | str j => obtain ⟨t', rfl⟩ := ry; exact PySem.EqNone.ne_none_str (fin_bl I q (by simp))
    | _ => exact absurd (show false = true from hs) Bool.false_ne_true
  | bl i =>
    cases rx
    cases y with
    | non => cases ry; exact PySem.EqNone.ne_bool_none (fin_bl I q (by simp))
    | bl j => cases ry; exact ne_bool (fin_bl I q (congrArg not dec_bl))
    | str j => obtain ⟨t', rfl⟩ := ry; exact PySem.EqMixed.ne_bool_str (fin_bl I q (by simp))
    | _ => exact absurd (show false = true from hs) Bool.false_ne_true
  | int i =>
    obtain ⟨t, rfl⟩ := rx
    cases y with
    | non => cases ry; exact PySem.EqNone.ne_int_none (fin_bl I q (by simp))
    | int j => obtain ⟨t', rfl⟩ := ry; exact ne_int (fin_bl I q (congrArg not dec_int))
    | str j => obtain ⟨t', rfl⟩ := ry; exact PySem.EqMixed.ne_int_str (fin_bl I q (by simp))
    | _ => exact absurd (show false = true from hs) Bool.false_ne_true
  | str i =>
    obtain ⟨t, rfl⟩ := rx
    cases y with
    | non => cases ry; exact PySem.EqNone.ne_str_none (fin_bl I q (by simp))
    | bl j => cases ry; exact PySem.EqMixed.ne_str_bool (fin_bl I q (by simp))
    | int j => obtain ⟨t', rfl⟩ := ry; exact PySem.EqMixed.ne_str_int (fin_bl I q (by simp))
    | str j => obtain ⟨t', rfl⟩ := ry; exact ne_str (fin_bl I q (congrArg not dec_str))
    | _ => exact absurd (show false = true from hs) Bool.false_ne_true
  | byt i =>
    obtain ⟨t, rfl⟩ := rx
    cases y with
    | byt j => obtain ⟨t', rfl⟩ := ry; exact PySem.W.ne_bytes (fin_bl I q (congrArg not dec_byt))
    | _ => exact absurd (show false = true from hs) Bool.false_ne_true
  | _ => cases y <;> exact absurd (show false = true from hs) Bool.false_ne_true
theorem op_lt : OpR X (compareOp .Lt) (rI0 fun i j => .bl (decide (i < j))) := opB0 fun _ _ _ _ _ _ _ q => lt_int q
theorem op_isN : OpR X (compareOp .Is) (fun x y H Q => y = .non ∧ Q (.bl (decide (x = .non))) H) := by
  intro pins s σ H x y v u Q I rx ry h
  obtain ⟨rfl, q⟩ := h
  cases ry
  refine is_none_gen (fin_bl I q ?_)
  cases x <;> first
    | (cases rx; rfl)
    | (obtain ⟨t, rfl⟩ := rx; rfl)
theorem nomark (b : Expr) {op : CmpOp} (h : op ≠ .In := by decide) (h2 : op ≠ .NotIn := by decide) : behindInMarks op b = false := by
  have e1 : (op == CmpOp.In) = false := by cases op <;> first | rfl | exact absurd rfl h
  have e2 : (op == CmpOp.NotIn) = false := by cases op <;> first | rfl | exact absurd rfl h2
  cases b <;> simp [behindInMarks, e1, e2]
theorem pe_cmpR {op : CmpOp} {r : R2} (ho : OpR X (compareOp op) r) (ha : PE X a ta) (hb : PE X b tb) (hm : behindInMarks op b = false) : PE X (.Compare a [op] [b] pos) (tOp r ta tb) := by
  intro pins s σ H Q I h
  exact wpAny_Compare1 (binT ha hb I h fun v u s2 x y H2 I2 rx ry q => ho pins s2 σ H2 x y v u Q I2 rx ry q) hm
def tTest (t : TE) : TT := fun σ H Q => t σ H fun x H' => ∃ k, x = .bl k ∧ Q k H'
theorem pt_cmpR {op : CmpOp} {r : R2} (ho : OpR X (compareOp op) r) (ha : PE X a ta) (hb : PE X b tb) (hm : behindInMarks op b = false) : PT X (.Compare a [op] [b] pos) (tTest (tOp r ta tb)) := by
  intro pins s σ H Q I h
  refine wpAny_isTrue_Compare1 (thn (ha pins s σ H _ I h) fun v s1 ⟨x, H1, I1, r1, q1⟩ => thn (hb pins s1 σ H1 _ I1 q1) fun u s2 ⟨y, H2, I2, r2, q2⟩ =>
    thn (ho pins s2 σ H2 x y v u _ I2 r1 r2 q2) fun c s3 ⟨z, H3, I3, r3, k, e, q3⟩ => ?_) hm
  subst e
  cases r3
  exact wpAny_truthy_bool ⟨H3, I3, q3⟩
theorem line63 : (sizeLine : Nat) < 2 ^ 63 := by rw [sizeLine_eq]; decide
theorem vals1 {x : V} {us : List Value} (r : Vals [x] us) : ∃ u, us = [u] ∧ RelV x u := by
  cases r with
  | cons r1 r2 => cases r2; exact ⟨_, rfl, r1⟩
theorem vals2 {x y : V} {us : List Value} (r : Vals [x, y] us) : ∃ u w', us = [u, w'] ∧ RelV x u ∧ RelV y w' := by
  cases r with
  | cons r1 r2 =>
    cases r2 with
    | cons r3 r4 => cases r4; exact ⟨_, _, rfl, r1, r3⟩
end
end L2
namespace L2
open PySem PySem.Spec PyProof.Rows
structure ObjM (h : Heap) (x dx C : Addr) (mA : Str → Option Value) : Prop where
  obj : h.get? x = some (PySem.W.instObj C dx)
  ns : h.Ns1 dx mA
  ne : dx ≠ x
theorem lookIn_ns {h : Heap} {dx : Addr} {mA : Str → Option Value} (n : h.Ns1 dx mA) : ∃ od, h.get? dx = some od ∧ ∀ name, PySem.W.lookIn name od = some (mA name) := by
  obtain ⟨o, es, ep, ho, hd, hk, _, hm⟩ := n
  refine ⟨o, ho, fun name => ?_⟩
  have e := hm name
  unfold nsFind findBy at e
  rw [← Array.find?_toList] at e
  unfold PySem.W.lookIn
  rw [hd]
  dsimp only
  split
  · rename_i y q
    rw [q] at e
    exact congrArg some e
  · rename_i q
    rw [q] at e
    have a : es.toList.any (·.refKey) = false := by
      rw [List.any_eq_false]
      intro y hy
      obtain ⟨z, t, hkey⟩ := hk y (Array.mem_toList_iff.mp hy)
      simp [DictEntry.refKey, hkey]
    have a' : ¬ es.toList.any (·.refKey) = true := by rw [a]; exact Bool.false_ne_true
    rw [if_neg a']
    exact congrArg some e
theorem ObjM.look {h : Heap} {x dx C : Addr} {mA : Str → Option Value} (I : ObjM h x dx C mA) : ∃ od, PySem.W.InstAt h x (PySem.W.instObj C dx) C (some od) ∧ ∀ name, PySem.W.lookIn name od = some (mA name) :=
  let ⟨od, ho, hl⟩ := lookIn_ns I.ns
  ⟨od, ⟨I.obj, rfl, rfl, ho⟩, hl⟩
section
variable {prog : Program} {w : World} {A : Around} {E : Value → Shared → Prop} {s : Shared} {K : PySem.W.Frag} {x dx C f : Addr} {mA : Str → Option Value} {name : Str} {v : Value}
theorem get_map {expr : Bool} {Q : Value → Shared → Prop} (X : K.In s.heap) (I : ObjM s.heap x dx C mA) (hg : PySem.W.plainGet K C name = true) (hh : PySem.W.hasDictIn K C = true)
    (ha : PySem.W.findIn K (.ref C) name = some none) (hv : mA name = some v) (hv' : PySem.W.handedIn v = true) (h : Q v { s with toks := s.toks + 1 }) :
    wpAny (model prog w) A (getAttr (.ref x) name expr) Q E s := by
  obtain ⟨od, J, hl⟩ := I.look
  exact PySem.W.get_value X J (PySem.W.plainGet_of hg).1 (PySem.W.findObj_own hh ha rfl (by rw [hl, hv])) hv' h
theorem get_meth {pl : Sem Bool} {Q : Value × List Value → Shared → Prop} (X : K.In s.heap) (I : ObjM s.heap x dx C mA) (hg : PySem.W.plainGet K C name = true)
    (hf : PySem.W.findIn K (.ref C) name = some (some (.ref f))) (ht : PySem.W.isFn K (.ref f) = true) (hv : mA name = none) (h : Q (.ref f, [.ref x]) s) :
    wpAny (model prog w) A (getMethod (.ref x) name pl) Q E s := by
  obtain ⟨od, J, hl⟩ := I.look
  exact PySem.W.method_fn X J (PySem.W.plainGet_of hg).1 (PySem.W.plainGet_of hg).2 hf (beq_iff_eq.mp ht) (by show (PySem.W.lookIn name od).map (·.isSome) = some false; rw [hl, hv]; rfl) h
theorem set_map {ns : List Str} {Q : Unit → Shared → Prop} (X : K.In s.heap) (I : ObjM s.heap x dx C mA)
    (hs : PySem.W.findIn K (.ref C) "__setattr__" = some (some (.builtin "object.__setattr__"))) (hp : PySem.W.plainOver K C = true) (ht : PySem.W.takerIn K C name = some none) (hh : PySem.W.hasDictIn K C = true)
    (hw : PySem.Within mA ns) (hsz : ns.length ≤ sizeLine)
    (h : ∀ h', ObjM h' x dx C (fun y => if y = name then some v else mA y) → Heap.SameBut dx s.heap h' → Q () { s with heap := h', toks := s.toks + 2 }) :
    wpAny (model prog w) A (setAttr (.ref x) name v) Q E s := by
  obtain ⟨od, J, hl⟩ := I.look
  refine PySem.W.set_plain X J hs (PySem.W.osa_open (s := { s with toks := s.toks + 1 }) (r := none) X J hp ht fun b => ?_)
  obtain ⟨cd, hc, hd'⟩ := PySem.W.any_some hh
  have hx : s.heap.get? x = some ⟨.ref C, some dx, .plain, #[]⟩ := I.obj
  refine wpAny_bind (wpAny_pure (wpAny_bind (wpAny_bind (wpAny_loadPart hx (wpAny_bind (PySem.W.Looks.here (s := { s with toks := s.toks + 1 }) (PySem.W.looks_clsIn X hc) ?_))))))
  rw [hd']
  refine wpAny_pure (a := some dx) (wpAny_bind (wpAny_pure (wpAny_bind ?_)))
  refine wpAny_nsSet1 (s := { s with toks := s.toks + 1 }) I.ns fun h' hn2 hs2 => ?_
  obtain ⟨oD, esD, epD, hoD, hdD, hcD⟩ := hn2.count (PySem.Within.cons name v hw)
  refine wpAny_bind (wpAny_lookBehind hoD (by rw [hdD]; exact pastItsLine_dict (Nat.le_trans hcD (by rw [List.length_cons]; omega))) ?_)
  exact wpAny_pure (h _ ⟨(hs2.2 _ (Ne.symm I.ne)).trans I.obj, hn2, I.ne⟩ hs2)
theorem make_map {R : Result → Shared → Prop} {vs : List Value} {kw : List (Str × Value)} (X : K.In s.heap) (hm : PySem.W.makesIn K C = true)
    (hi : PySem.W.findIn K (.ref C) "__init__" = some (some (.ref f))) (hf : PySem.W.typeIn K (.ref f) = some (.type "function"))
    (h : codeAny (model prog w) (A.under (.builtin "type.__call__" ⟨.ref C :: vs, kw⟩)) (.call (.ref f) ⟨.ref (s.heap.objs.size + 1) :: vs, kw⟩) (PySem.W.InitBack (s.heap.objs.size + 1) R)
      { s with heap := (s.heap.push PySem.W.emptyDict).push (PySem.W.instObj C s.heap.objs.size) }) :
    codeAny (model prog w) A (.call (.ref C) ⟨vs, kw⟩) R s := by
  obtain ⟨hh, g, d, t, os⟩ := s
  exact PySem.W.make_core (PySem.W.makes_of X hm) (PySem.W.looks_findIn X hi) (fun self => PySem.W.bind_fn X self hf) (.inl rfl) h
end
def putF (f : Str) (v : V) : List (Str × V) → List (Str × V)
  | [] => [(f, v)]
  | (g, x) :: r => if g = f then (g, v) :: r else (g, x) :: putF f v r
theorem lookup_putF (f g : Str) (v : V) : ∀ fs : List (Str × V), (putF f v fs).lookup g = if g = f then some v else fs.lookup g
  | [] => by
    show List.lookup g [(f, v)] = _
    by_cases h : g = f
    · have hb : (g == f) = true := beq_iff_eq.mpr h
      simp only [List.lookup, hb, if_pos h]
    · have hb : (g == f) = false := beq_eq_false_iff_ne.mpr h
      simp only [List.lookup, hb, if_neg h]
  | (k, x) :: r => by
    have ih := lookup_putF f g v r
    rw [show putF f v ((k, x) :: r) = (if k = f then (k, v) :: r else (k, x) :: putF f v r) from rfl]
    by_cases hk : k = f
    · rw [if_pos hk]
      by_cases h : g = k
      · have hb : (g == k) = true := beq_iff_eq.mpr h
        simp only [List.lookup, hb, if_pos (h.trans hk)]
      · have hb : (g == k) = false := beq_eq_false_iff_ne.mpr h
        simp only [List.lookup, hb, if_neg (fun e : g = f => h (e.trans hk.symm))]
    · rw [if_neg hk]
      by_cases h : g = k
      · have hb : (g == k) = true := beq_iff_eq.mpr h
        simp only [List.lookup, hb, if_neg (fun e : g = f => hk (h.symm.trans e))]
      · have hb : (g == k) = false := beq_eq_false_iff_ne.mpr h
        simp only [List.lookup, hb]
        exact ih
theorem keys_putF (f : Str) (v : V) : ∀ fs : List (Str × V), f ∈ (putF f v fs).map (·.1) ∧ ∀ g, g ∈ fs.map (·.1) → g ∈ (putF f v fs).map (·.1)
  | [] => ⟨by simp [putF], fun g h => by simp at h⟩
  | (k, x) :: r => by
    obtain ⟨i1, i2⟩ := keys_putF f v r
    rw [show putF f v ((k, x) :: r) = (if k = f then (k, v) :: r else (k, x) :: putF f v r) from rfl]
    by_cases hk : k = f
    · rw [if_pos hk]
      subst hk
      exact ⟨by simp, fun g h => by simpa using h⟩
    · rw [if_neg hk]
      refine ⟨?_, fun g h => ?_⟩
      · rw [List.map_cons]
        exact List.mem_cons_of_mem _ i1
      · rw [List.map_cons] at h ⊢
        rcases List.mem_cons.mp h with e | e
        · exact List.mem_cons.mpr (.inl e)
        · exact List.mem_cons_of_mem _ (i2 g e)
theorem length_putF (f : Str) (v : V) : ∀ fs : List (Str × V), (putF f v fs).length ≤ fs.length + 1
  | [] => by simp [putF]
  | (k, x) :: r => by
    have ih := length_putF f v r
    rw [show putF f v ((k, x) :: r) = (if k = f then (k, v) :: r else (k, x) :: putF f v r) from rfl]
    by_cases hk : k = f
    · rw [if_pos hk, List.length_cons, List.length_cons]; omega
    · rw [if_neg hk, List.length_cons, List.length_cons]; omega
theorem RelO.some_of {v : V} {o : Option Value} (r : RelO (some v) o) : ∃ u, o = some u ∧ RelV v u := by
  cases o with
  | none => exact (show False from r).elim
  | some u => exact ⟨u, rfl, r⟩
theorem RelO.none_of {o : Option Value} (r : RelO none o) : o = none := by
  cases o with
  | none => rfl
  | some u => exact (show False from r).elim
theorem handed_of {v : V} {u : Value} (r : RelV v u) : PySem.W.handedIn u = true := by
  cases v with
  | non => cases (show u = Value.none from r); rfl
  | bl b => cases (show u = Value.bool b from r); rfl
  | int i => obtain ⟨t, e⟩ := (show ∃ t, u = Value.int i t from r); cases e; rfl
  | str x => obtain ⟨t, e⟩ := (show ∃ t, u = Value.str x t from r); cases e; rfl
  | byt b => obtain ⟨t, e⟩ := (show ∃ t, u = Value.bytes b t from r); cases e; rfl
  | flt b => obtain ⟨t, e⟩ := (show ∃ t, u = Value.float b t from r); cases e; rfl
  | ref a => cases (show u = Value.ref a from r); rfl
  | ty n => cases (show u = Value.type n from r); rfl
section
variable {P : Program} {w : World} {H H' : Hp} {h h' : Heap} {a C dx : Addr} {fs fs' : List (Str × V)}
theorem ins_get (hok : HOk P w H h) (e : H a = some (.ins C dx fs)) : ∃ mA, ObjM h a dx C mA ∧ (∀ f, RelO (fs.lookup f) (mA f)) ∧ PySem.Within mA (fs.map (·.1)) ∧ fs.length ≤ 1000 ∧ H dx = some (.own a) := by
  obtain ⟨d, z, ne, ob, mA, n, r, q⟩ := (show ObjOk P w H h a (.ins C dx fs) from hok a _ e)
  exact ⟨mA, ⟨ob, n, ne⟩, r, q, z, d⟩
end
structure Cls (K : PySem.W.Frag) (C : Addr) : Prop where
  pg : PySem.W.plainGet K C Str.empty = true
  hd : PySem.W.hasDictIn K C = true
  po : PySem.W.plainOver K C = true
  sa : PySem.W.findIn K (.ref C) "__setattr__" = some (some (.builtin "object.__setattr__"))
theorem Cls.get {K : PySem.W.Frag} {C : Addr} (c : Cls K C) (f : Str) : PySem.W.plainGet K C f = true := c.pg
def NoAttr (K : PySem.W.Frag) (C : Addr) (f : Str) : Prop := PySem.W.findIn K (.ref C) f = some none
theorem NoAttr.taker {K : PySem.W.Frag} {C : Addr} {f : Str} (n : NoAttr K C f) : PySem.W.takerIn K C f = some none := by
  unfold PySem.W.takerIn
  rw [show PySem.W.findIn K (.ref C) f = some none from n]
  rfl
structure Con (K : PySem.W.Frag) (C : Addr) (f : Str) (v : V) (u : Value) : Prop where
  at_ : PySem.W.findIn K (.ref C) f = some (some u)
  rel : RelV v u
  get : PySem.W.specialIn K u "__get__" = some none
  cp : PySem.W.copiedNames.contains f = false
structure Meth (K : PySem.W.Frag) (C : Addr) (m : Str) (f : Addr) : Prop where
  at_ : PySem.W.findIn K (.ref C) m = some (some (.ref f))
  fn : PySem.W.isFn K (.ref f) = true
  kp : PySem.W.keepIn K (.ref f) = true
section
variable {X : Cx} {pins : List (Addr × Obj)} {σ : St} {H : Hp} {s : Shared} {a C dx : Addr} {fs : List (Str × V)} {f : Str} {v : V} {A : Around} {E : Value → Shared → Prop}
theorem getattr_ok {b : Bool} {Q : Value → Shared → Prop} (I : Inv X pins σ H s) (e : H a = some (.ins C dx fs)) (c : Cls X.K C) (n : NoAttr X.K C f) (l : fs.lookup f = some v)
    (h : ∀ u s', Inv X pins σ H s' → RelV v u → Q u s') : wpAny (model X.prog X.w) A (getAttr (.ref a) f b) Q E s := by
  obtain ⟨mA, O, r, _, _, _⟩ := ins_get I.hok e
  obtain ⟨u, hu, ru⟩ := RelO.some_of (v := v) (o := mA f) (by rw [← l]; exact r f)
  exact get_map I.kIn O (c.get f) c.hd n hu (handed_of ru) (h u _ (I.tok _) ru)
theorem getmeth_ok {m : Str} {g : Addr} {pl : Sem Bool} {Q : Value × List Value → Shared → Prop} (I : Inv X pins σ H s) (e : H a = some (.ins C dx fs)) (c : Cls X.K C) (k : Meth X.K C m g) (l : fs.lookup m = none)
    (h : Q (.ref g, [.ref a]) s) : wpAny (model X.prog X.w) A (getMethod (.ref a) m pl) Q E s := by
  obtain ⟨mA, O, r, _, _, _⟩ := ins_get I.hok e
  have hn : mA m = none := RelO.none_of (by rw [← l]; exact r m)
  exact get_meth I.kIn O (c.get m) k.at_ k.fn hn h
theorem setattr_ok {y : V} {u : Value} {Q : Unit → Shared → Prop} (I : Inv X pins σ H s) (e : H a = some (.ins C dx fs)) (c : Cls X.K C) (n : NoAttr X.K C f) (hl : fs.length < 1000) (ry : RelV y u)
    (h : ∀ s', Inv X pins σ (upd H a (.ins C dx (putF f y fs))) s' → Q () s') : wpAny (model X.prog X.w) A (setAttr (.ref a) f u) Q E s := by
  obtain ⟨mA, O, r, wi, _, ho⟩ := ins_get I.hok e
  have hz : (fs.map (·.1)).length ≤ sizeLine := by rw [List.length_map, sizeLine_eq]; omega
  refine set_map I.kIn O c.sa c.po n.taker c.hd wi hz fun h' O' sb => h _ ?_
  have hd : ∃ o, h'.get? dx = some o := let ⟨o, _, _, e', _⟩ := O'.ns; ⟨o, e'⟩
  refine I.write (x := a) (e := dx) (by rw [e]; exact True.intro) (.inr ho) (fun b q hb z => (sb.2 b hb).trans z) hd ?_
  refine ⟨by rw [upd_ne O.ne]; exact ho, ?_, O.ne, O'.obj, _, O'.ns, fun g => ?_, fun g hg => ?_⟩
  · have := length_putF f y fs; omega
  · show RelO ((putF f y fs).lookup g) (if g = f then some u else mA g)
    rw [lookup_putF]
    by_cases q : g = f
    · rw [if_pos q, if_pos q]; exact ry
    · rw [if_neg q, if_neg q]; exact r g
  · by_cases q : g = f
    · rw [q]; exact (keys_putF f y fs).1
    · refine (keys_putF f y fs).2 g (wi g fun z => hg ?_)
      show (if g = f then some u else mA g) = none
      rw [if_neg q]; exact z
theorem Inv.made (I : Inv X pins σ H s) : Inv X pins σ (upd (upd H s.heap.objs.size (.own (s.heap.objs.size + 1))) (s.heap.objs.size + 1) (.ins C s.heap.objs.size []))
    { s with heap := (s.heap.push PySem.W.emptyDict).push (PySem.W.instObj C s.heap.objs.size) } := by
  have e1 : (s.heap.push PySem.W.emptyDict).get? s.heap.objs.size = some PySem.W.emptyDict := Heap.get?_push_size s.heap rfl
  have e2 : ((s.heap.push PySem.W.emptyDict).push (PySem.W.instObj C s.heap.objs.size)).get? (s.heap.objs.size + 1) = some (PySem.W.instObj C s.heap.objs.size) := by
    have := Heap.get?_push_size (s.heap.push PySem.W.emptyDict) (o := PySem.W.instObj C s.heap.objs.size) rfl
    rwa [Heap.size_push] at this
  have e3 : (s.heap.push PySem.W.emptyDict).Ns s.heap.objs.size (fun _ => none) := ⟨PySem.W.emptyDict, #[], _, e1, rfl, (fun e he => absurd he (by simp)), fun _ => rfl⟩
  have I1 := I.laid (a := s.heap.objs.size) (o := .own (s.heap.objs.size + 1)) (h' := s.heap.push PySem.W.emptyDict) (t' := s.toks) (fun b u q => Heap.get?_push_of_some _ q) (Nat.le_refl _) ⟨_, e1⟩
  refine I1.laid (a := s.heap.objs.size + 1) (o := .ins C s.heap.objs.size []) (t' := s.toks) (fun b u q => Heap.get?_push_of_some _ q) (Nat.le_of_eq (Heap.size_push _ _)) ?_
  have ne : s.heap.objs.size ≠ s.heap.objs.size + 1 := Nat.ne_of_lt (Nat.lt_succ_self _)
  refine ⟨by rw [upd_ne ne, upd_same], Nat.zero_le _, ne, e2, fun _ => none, (Heap.Ns1.of_empty e3).at fun o q => Heap.get?_push_of_some _ q, fun _ => True.intro, fun y hy => absurd rfl hy⟩
theorem attr_of {prog : Program} {w : World} {env : Env} {e : Expr} {f : Str} {pos : Pos} {s : Shared} {Q : Value → Shared → Prop} (hb : attributeBase e f env (eval e env) = eval e env)
    (h : wpAny (model prog w) A (eval e env) (fun o s₁ => wpAny (model prog w) A (getAttr o f true) Q E s₁) E s) : wpAny (model prog w) A (eval (.Attribute e f pos) env) Q E s :=
  Attribute_any_ h (by rw [arm_eval_Attribute, hb])
end
def tFld (K : PySem.W.Frag) (ta : TE) (f : Str) : TE := fun σ H Q => ta σ H fun x H1 => ∃ a C dx fs v, x = .ref a ∧ H1 a = some (.ins C dx fs) ∧ Cls K C ∧ NoAttr K C f ∧ fs.lookup f = some v ∧ Q v H1
def sFld (K : PySem.W.Frag) (ta tv : TE) (f : Str) : TS := fun D σ H => tv σ H fun y H1 => ta σ H1 fun x H2 => ∃ a C dx fs, x = .ref a ∧ H2 a = some (.ins C dx fs) ∧ Cls K C ∧ NoAttr K C f ∧ fs.length < 1000 ∧
  D.nx σ (upd H2 a (.ins C dx (putF f y fs)))
section
variable {X : Cx} {o e value : Expr} {f : Str} {pos pos' tpos : Pos} {ta tv : TE}
theorem pe_fld (he : PE X e ta) (hb : attributeBase e f X.env (eval e X.env) = eval e X.env) : PE X (.Attribute e f pos) (tFld X.K ta f) := by
  intro pins s σ H Q I h
  refine attr_of hb (thn (he pins s σ H _ I h) fun u s1 ⟨x, H1, I1, rx, a, C, dx, fs, v, ex, ea, c, n, l, q⟩ => ?_)
  subst ex
  obtain rfl : u = Value.ref a := rx
  exact getattr_ok I1 ea c n l fun u' s2 I2 ru => ⟨v, H1, I2, ru, q⟩
theorem ps_fld (ha : PE X o ta) (hv : PE X value tv) (hs : swapsWith value (some (.Attribute o f pos')) pos.line X.env = pure false) : PS X (.Assign [.Attribute o f pos'] value pos) (sFld X.K ta tv f) := by
  intro pins s σ H D I h
  refine plainObj_wpAny_Assign_Attribute (thn (hv pins s σ H _ I h) fun u s1 ⟨y, H1, I1, ry, q⟩ => thn (ha pins s1 σ H1 _ I1 q) fun ov s2 ⟨x, H2, I2, rx, a, C, dx, fs, ex, ea, c, n, l, q2⟩ => ?_) hs
  subst ex
  obtain rfl : ov = Value.ref a := rx
  exact setattr_ok I2 ea c n l ry fun s3 I3 => ⟨σ, _, I3, q2⟩
end
section
variable {X : Cx} {pins : List (Addr × Obj)} {σ : St} {H : Hp} {s : Shared} {A : Around} {E : Value → Shared → Prop} {Q : Value → Shared → Prop} {c : Value} {b : Bool}
inductive TyOf (K : PySem.W.Frag) (H : Hp) : V → Value → Prop where
  | non : TyOf K H .non (.type "NoneType")
  | bl (x : Bool) : TyOf K H (.bl x) (.type "bool")
  | int (i : Int) : TyOf K H (.int i) (.type "int")
  | str (x : Str) : TyOf K H (.str x) (.type "str")
  | flt (x : UInt64) : TyOf K H (.flt x) (.type "float")
  | lst {a : Addr} {xs : List V} (e : H a = some (.lst xs)) : TyOf K H (.ref a) (.type "list")
  | frz {a : Addr} {o : Obj} {xs : List V} (e : H a = some (.frz o (.lst xs))) : TyOf K H (.ref a) (.type "list")
  | tup {a : Addr} {xs : List V} (e : H a = some (.tup xs)) : TyOf K H (.ref a) (.type "tuple")
  | dK {a : Addr} {kvs : List (Key × V)} (e : H a = some (.dK kvs)) : TyOf K H (.ref a) (.type "dict")
  | dT {a : Addr} {kvs : List (List Key × V)} (e : H a = some (.dT kvs)) : TyOf K H (.ref a) (.type "dict")
  | ins {a C dx : Addr} {fs : List (Str × V)} (e : H a = some (.ins C dx fs)) (cl : Cls K C) (ha : PySem.W.findIn K (.ref C) "__class__" = some (some (.builtin "object.__class__")))
      (hn : PySem.W.specialIn K (.builtin "object.__class__") "__get__" = some (some (.builtin "getset_descriptor.__get__"))) (htk : PySem.W.takesIn K (.builtin "object.__class__") = some true)
      (hm : PySem.W.mroIn K C (.type "object") = some true) : TyOf K H (.ref a) (.ref C)
theorem isinst_ok {x : V} {u t : Value} (I : Inv X pins σ H s) (rx : RelV x u) (ty : TyOf X.K H x t) (e : PySem.W.kitOne X.K t c = some b) (h : ∀ tk, Q (.bool b) { s with toks := tk }) :
    wpAny (model X.prog X.w) A (call (.builtin "isinstance") [u, c]) Q E s := by
  cases ty with
  | non => cases (show u = Value.none from rx); exact PySem.W.kia_one PySem.W.kitx_none I.kIn True.intro e (fun z => nomatch z) h
  | bl y => cases (show u = Value.bool y from rx); exact PySem.W.kia_one PySem.W.kitx_bool I.kIn True.intro e (fun z => nomatch z) h
  | int i => obtain ⟨t, q⟩ := (show ∃ t, u = Value.int i t from rx); cases q; exact PySem.W.kia_one PySem.W.kitx_int I.kIn True.intro e (fun z => nomatch z) h
  | str y => obtain ⟨t, q⟩ := (show ∃ t, u = Value.str y t from rx); cases q; exact PySem.W.kia_one PySem.W.kitx_str I.kIn True.intro e (fun z => nomatch z) h
  | flt y => obtain ⟨t, q⟩ := (show ∃ t, u = Value.float y t from rx); cases q; exact PySem.W.kia_one PySem.W.kitx_float I.kIn True.intro e (fun z => nomatch z) h
  | @lst a xs ea =>
    cases (show u = Value.ref a from rx)
    obtain ⟨_, _, n, _, h1⟩ := (show ObjOk X.prog X.w H s.heap a (.lst xs) from I.hok a _ ea)
    exact PySem.W.kia_one PySem.W.kitx_list I.kIn ⟨_, h1, rfl⟩ e (fun z => nomatch z) h
  | @frz a ob xs ea =>
    cases (show u = Value.ref a from rx)
    obtain ⟨_, _, _, n, _, h1⟩ := (show ObjOk X.prog X.w H s.heap a (.frz ob (.lst xs)) from I.hok a _ ea)
    exact PySem.W.kia_one PySem.W.kitx_list I.kIn ⟨_, h1, rfl⟩ e (fun z => nomatch z) h
  | @tup a xs ea =>
    cases (show u = Value.ref a from rx)
    obtain ⟨_, _, _, p⟩ := (show ObjOk X.prog X.w H s.heap a (.tup xs) from I.hok a _ ea)
    obtain ⟨o, h1, h2, _⟩ := p
    exact PySem.W.kia_one PySem.W.kitx_tuple I.kIn ⟨o, h1, h2⟩ e (fun z => nomatch z) h
  | @dK a kvs ea =>
    cases (show u = Value.ref a from rx)
    obtain ⟨_, _, vs, _, p⟩ := (show ObjOk X.prog X.w H s.heap a (.dK kvs) from I.hok a _ ea)
    obtain ⟨o, es, ep, h1, h2, _⟩ := p
    exact PySem.W.kia_one PySem.W.kitx_dict I.kIn ⟨o, h1, h2.1⟩ e (fun z => nomatch z) h
  | @dT a kvs ea =>
    cases (show u = Value.ref a from rx)
    obtain ⟨_, _, xs, _, o, es, ep, h1, h2, _⟩ := (show ObjOk X.prog X.w H s.heap a (.dT kvs) from I.hok a _ ea)
    exact PySem.W.kia_one PySem.W.kitx_dict I.kIn ⟨o, h1, h2.1⟩ e (fun z => nomatch z) h
  | @ins a C dx fs ea cl ha hn htk hm =>
    cases (show u = Value.ref a from rx)
    obtain ⟨mA, O, _⟩ := ins_get I.hok ea
    obtain ⟨od, J, _⟩ := O.look
    exact PySem.W.kia_one (PySem.W.kitx_own (cl.get _) cl.hd ha hn htk hm) I.kIn J e (fun z => nomatch z) h
end
end L2
namespace L2
open PySem PySem.Spec PyProof.Rows
structure Room (k : Nat) (A : Around) : Prop where
  hd : A.handled = none
  dp : A.depth + 3 * k + 5 < recursionLimit
  un : A.units + 16 * k + 200 < cLine
theorem Room.mono {j k : Nat} {A : Around} (r : Room k A) (h : j ≤ k) : Room j A := ⟨r.hd, by have := r.dp; omega, by have := r.un; omega⟩
theorem Room.deeper {k : Nat} {A : Around} (r : Room (k + 1) A) (env : Env) : Room k (A.deeper env) :=
  ⟨r.hd, by have := r.dp; show A.depth + 1 + 3 * k + 5 < _; omega, by have := r.un; show A.units + 3 + 16 * k + 200 < _; omega⟩
theorem Room.in1 {k : Nat} {A : Around} (r : Room (k + 1) A) : Room k A.in1 :=
  ⟨r.hd, by have := r.dp; show A.depth + 3 * k + 5 < _; omega, by have := r.un; show A.units + 1 + 16 * k + 200 < _; omega⟩
theorem make_depth {A : Around} {C : Addr} {us : List Value} {kw : List (Str × Value)} : (A.under (.builtin "type.__call__" ⟨.ref C :: us, kw⟩)).depth = A.depth + 1 := by
  first | rfl | simp [Around.under, Code.weight, Code.isCreation, Code.isGuard, Code.isCaller, Code.frames, Code.isFrame, guardIds]
theorem make_units {A : Around} {C : Addr} {us : List Value} {kw : List (Str × Value)} : (A.under (.builtin "type.__call__" ⟨.ref C :: us, kw⟩)).units = A.units + 1 := by
  first | rfl | simp [Around.under, Code.cUnits, Code.frames, Code.isFrame]
theorem Room.make {k : Nat} {A : Around} (r : Room (k + 1) A) (C : Addr) (us : List Value) (kw : List (Str × Value)) : Room k (A.under (.builtin "type.__call__" ⟨.ref C :: us, kw⟩)) :=
  ⟨r.hd, by have := r.dp; rw [make_depth]; omega, by have := r.un; rw [make_units]; omega⟩
theorem Room.depth {k : Nat} {A : Around} (r : Room k A) : A.depth < recursionLimit := by have := r.dp; omega
theorem Room.units {k : Nat} {A : Around} (r : Room k A) : A.units + 64 < cLine := by have := r.un; omega
def tNil : TA := fun _ H Q => Q [] H
def tCons (ta : TE) (tr : TA) : TA := fun σ H Q => ta σ H fun x H1 => tr σ H1 fun xs H2 => Q (x :: xs) H2
section
variable {X : Cx} {e : Expr} {es : List Expr} {te : TE} {t : TA} {pos : Pos}
theorem pa_nil : PA X [] tNil := fun _ _ _ _ H Q I h => Calls.spliced_nil ⟨[], H, I, .nil, h⟩
theorem pa_cons (ha : PE X e te) (hr : PA X es t) (hs : starEach (e :: es) X.env = (false, eval e X.env) :: starEach es X.env := by rfl) : PA X (e :: es) (tCons te t) := by
  intro pos pins s σ H Q I h
  rw [hs]
  show wpAny _ _ (spliced ((false, eval e X.env) :: backTo pos (starEach es X.env))) _ _ s
  refine Calls.spliced_cons (thn (ha pins s σ H _ I h) fun u s1 ⟨x, H1, I1, r1, q1⟩ => ?_)
  exact thn (hr pos pins s1 σ H1 _ I1 q1) fun us s2 ⟨xs, H2, I2, r2, q2⟩ => ⟨x :: xs, H2, I2, .cons r1 r2, q2⟩
def tTup (t : TA) : TE := fun σ H Q => t σ H fun xs H1 => xs.length ≤ sizeLine ∧ ∀ p, H1 p = none → Q (.ref p) (upd H1 p (.tup xs))
def tLst (t : TA) : TE := fun σ H Q => t σ H fun xs H1 => xs.length ≤ sizeLine ∧ ∀ p, H1 p = none → Q (.ref p) (upd H1 p (.lst xs))
theorem pe_tup {x1} (h : PA X es t) : PE X (.Tuple es x1 pos) (tTup t) := by
  intro pins s σ H Q I hq
  refine wpAny_Tuple_spliced (thn (h pos pins s σ H _ I hq) fun us s1 ⟨xs, H1, I1, r, z, q⟩ => ⟨by rw [← r.length]; exact z, ?_⟩)
  have hf : H1 s1.heap.objs.size = none := I1.hok.fresh (Nat.le_refl _)
  refine ⟨.ref s1.heap.objs.size, upd H1 s1.heap.objs.size (.tup xs), I1.laid (t' := s1.toks) (fun b u e => Heap.get?_push_of_some _ e) (Nat.le_refl _) ?_, rfl, q _ hf⟩
  exact ⟨z, us, r, ⟨_, Heap.get?_push_size _ rfl, rfl, _, rfl⟩⟩
theorem pe_lst (h : PA X es t) : PE X (.List es pos) (tLst t) := by
  intro pins s σ H Q I hq
  refine wpAny_List_spliced (thn (h pos pins s σ H _ I hq) fun us s1 ⟨xs, H1, I1, r, z, q⟩ => ⟨by rw [← r.length]; exact z, ?_⟩)
  have hf : H1 s1.heap.objs.size = none := I1.hok.fresh (Nat.le_refl _)
  refine ⟨.ref s1.heap.objs.size, upd H1 s1.heap.objs.size (.lst xs), I1.laid (t' := s1.toks) (fun b u e => Heap.get?_push_of_some _ e) (Nat.le_refl _) ?_, rfl, q _ hf⟩
  exact ⟨z, us, 0, r, Heap.get?_push_size _ rfl⟩
end
abbrev Sp := List V → Hp → VK → XK → Prop
abbrev CXT := List Env → Hp → Shared → XK → Value → Shared → Prop
structure Env0 (P : Program) (w : World) (K : PySem.W.Frag) (mg : Str → Option Value) (base : Heap) (A : Around) (outer : List Env) (s : Shared) (H : Hp) : Prop where
  frames : A.frames = some outer
  mod : Mod K mg base
  bs : ∀ b o, base.get? b = some o → s.heap.get? b = some o ∧ H b = none
  bsz : base.objs.size ≤ s.heap.objs.size
  funs : s.heap.FunFrames base outer
  frf : ∀ b ∈ frs outer, H b = none
  hok : HOk P w H s.heap
  bare : AllBare s.gens
def CE (outer : List Env) (P : Program) (w : World) (H : Hp) (s : Shared) (Q : VK) (u : Value) (s' : Shared) : Prop :=
  ∃ v H', s'.os = s.os ∧ AllBare s'.gens ∧ Un (frs outer) [] H H' s.heap s'.heap ∧ HOk P w H' s'.heap ∧ RelV v u ∧ Q v H'
def CR (CX : CXT) (outer : List Env) (P : Program) (w : World) (H : Hp) (s : Shared) (Q : VK) (E : XK) (r : Result) (s' : Shared) : Prop :=
  match r with
  | .ok (.ret u) => CE outer P w H s Q u s'
  | .ok _ => False
  | .error e => CX outer H s E e s'
structure FnOk (P : Program) (w : World) (K : PySem.W.Frag) (mg : Str → Option Value) (base : Heap) (CX : CXT) (k : Nat) (f : Addr) (fd : FuncData) (ps : List Str) (sp : Sp) : Prop where
  len : ∀ vs H Q E, sp vs H Q E → vs.length = ps.length
  run : ∀ (A : Around) (outer : List Env) (s : Shared) (H : Hp) (args : Args) (us : List Value) (vs : List V) (Q : VK) (E : XK), Room k A → Env0 P w K mg base A outer s H → BindsTo s fd args (ps.zip us) → Vals vs us → sp vs H Q E →
    codeAny (model P w) A (.call (.ref f) args) (CR CX outer P w H s Q E) s
theorem FnOk.mono {P : Program} {w : World} {K : PySem.W.Frag} {mg : Str → Option Value} {base : Heap} {CX : CXT} {j k : Nat} {f : Addr} {fd : FuncData} {ps : List Str} {sp : Sp} (F : FnOk P w K mg base CX j f fd ps sp) (h : j ≤ k) :
    FnOk P w K mg base CX k f fd ps sp := ⟨F.len, fun A outer s H args us vs Q E hr => F.run A outer s H args us vs Q E (hr.mono h)⟩
theorem FnOk.imp {P : Program} {w : World} {K : PySem.W.Frag} {mg : Str → Option Value} {base : Heap} {CX : CXT} {k : Nat} {f : Addr} {fd : FuncData} {ps : List Str} {sp sp' : Sp} (F : FnOk P w K mg base CX k f fd ps sp)
    (h : ∀ vs H Q E, sp' vs H Q E → sp vs H Q E) : FnOk P w K mg base CX k f fd ps sp' :=
  ⟨fun vs H Q E q => F.len vs H Q E (h _ _ _ _ q), fun A outer s H args us vs Q E hr he hb hv hs => F.run A outer s H args us vs Q E hr he hb hv (h _ _ _ _ hs)⟩
theorem Env0.make {P : Program} {w : World} {K : PySem.W.Frag} {mg : Str → Option Value} {base : Heap} {A : Around} {outer : List Env} {s : Shared} {H : Hp} (e : Env0 P w K mg base A outer s H) (C : Addr) (us : List Value) (kw : List (Str × Value)) :
    Env0 P w K mg base (A.under (.builtin "type.__call__" ⟨.ref C :: us, kw⟩)) outer s H := ⟨by first | exact e.frames | (simpa [Around.under, Code.envs, Code.isFrame, pushEnvs] using e.frames), e.mod, e.bs, e.bsz, e.funs, e.frf, e.hok, e.bare⟩
theorem Env0.in1 {P : Program} {w : World} {K : PySem.W.Frag} {mg : Str → Option Value} {base : Heap} {A : Around} {outer : List Env} {s : Shared} {H : Hp} (e : Env0 P w K mg base A outer s H) :
    Env0 P w K mg base A.in1 outer s H := ⟨e.frames, e.mod, e.bs, e.bsz, e.funs, e.frf, e.hok, e.bare⟩
section
variable {X : Cx} {pins : List (Addr × Obj)} {σ : St} {H : Hp} {s s' : Shared}
theorem Inv.env0 (I : Inv X pins σ H s) : Env0 X.prog X.w X.K X.mg X.base X.A X.stack s H :=
  ⟨I.ok.frames, I.ok.mod, I.bs, Nat.le_trans I.ok.bsz I.sz, I.stack, I.stkFree, I.hok, I.bare⟩
theorem Inv.after {Q : VK} {u : Value} (I : Inv X pins σ H s) (h : CE X.stack X.prog X.w H s Q u s') : EP X pins σ Q u s' := by
  obtain ⟨v, H', os, bare, un, hok, r, q⟩ := h
  obtain ⟨hh, g, d, t, os'⟩ := s'
  obtain rfl : os' = s.os := os
  exact ⟨v, H', I.call (h' := hh) (g' := g) (d' := d) (t' := t) (ch := []) un hok bare (fun b z => absurd z (by simp)), r, q⟩
end
def tCall (sp : Sp) (dvs : List V) (E : XK) (t : TA) : TE := fun σ H Q => t σ H fun vs H1 => sp (vs ++ dvs) H1 Q E
def tMeth (C : Addr) (m : Str) (sp : Sp) (dvs : List V) (E : XK) (ta : TE) (t : TA) : TE := fun σ H Q => ta σ H fun x H1 => ∃ a dx fs, x = .ref a ∧ H1 a = some (.ins C dx fs) ∧ fs.lookup m = none ∧
  t σ H1 fun vs H2 => sp (x :: (vs ++ dvs)) H2 Q E
def tMake (C : Addr) (sp : Sp) (dvs : List V) (E : XK) (t : TA) : TE := fun σ H Q => t σ H fun vs H1 => ∀ x dx, H1 x = none → H1 dx = none → dx ≠ x →
  sp (.ref x :: (vs ++ dvs)) (upd (upd H1 dx (.own x)) x (.ins C dx [])) (fun v H2 => v = .non ∧ Q (.ref x) H2) E
def Binds (K : PySem.W.Frag) (fd : FuncData) (ps : List Str) (ds : List Value) : Prop :=
  ∀ (s : Shared) (us : List Value), K.In s.heap → (us ++ ds).length = ps.length → BindsTo s fd ⟨us, []⟩ (ps.zip (us ++ ds))
theorem Binds.all {K : PySem.W.Frag} {fd : FuncData} {ps : List Str} (h : ∀ us : List Value, us.length = ps.length → bindArgs fd ⟨us, []⟩ = pure (ps.zip us)) : Binds K fd ps [] := fun s us _ hl => by
  rw [List.append_nil] at hl ⊢
  exact .of_eq (h us hl)
def Passes (CX : CXT) (X : Cx) (E : XK) : Prop := ∀ (pins : List (Addr × Obj)) (σ : St) (H : Hp) (s : Shared) (e : Value) (s' : Shared), Inv X pins σ H s → CX X.stack H s E e s' → X.xe e s'
section
variable {X : Cx} {CX : CXT} {k : Nat} {f C : Addr} {fd : FuncData} {ps : List Str} {sp : Sp} {dvs : List V} {ds : List Value} {E : XK} {x m : Str} {p pos apos : Pos} {e o : Expr} {es : List Expr} {ta : TE} {t : TA}
theorem run_fn {pins : List (Addr × Obj)} {σ : St} {H : Hp} {s : Shared} {Q : VK} {us : List Value} {vs : List V} (F : FnOk X.prog X.w X.K X.mg X.base CX k f fd ps sp) (hr : Room k X.A) (hb : Binds X.K fd ps ds) (hd : Vals dvs ds) (hx : Passes CX X E)
    (I : Inv X pins σ H s) (r : Vals vs us) (h : sp (vs ++ dvs) H Q E) : wpAny (model X.prog X.w) X.A (call (.ref f) us) (EP X pins σ Q) X.xe s := by
  have r2 : Vals (vs ++ dvs) (us ++ ds) := r.append hd
  have hl : (us ++ ds).length = ps.length := by rw [← r2.length]; exact F.len _ _ _ _ h
  refine wpAny_call (codeAny_mono (F.run X.A X.stack s H ⟨us, []⟩ (us ++ ds) (vs ++ dvs) Q E hr I.env0 (hb s us I.kIn hl) r2 h) fun r s' hq => ?_)
  cases r with
  | error e => exact hx pins σ H s e s' I hq
  | ok fl =>
    cases fl with
    | ret u => exact I.after hq
    | next => exact False.elim hq
    | brk => exact False.elim hq
    | cont => exact False.elim hq
theorem pe_call (F : FnOk X.prog X.w X.K X.mg X.base CX k f fd ps sp) (hr : Room k X.A) (hg : Gl X x) (hm : X.mg x = some (.ref f)) (hk : PySem.W.keepIn X.K (.ref f) = true) (hb : Binds X.K fd ps ds) (hd : Vals dvs ds) (hx : Passes CX X E)
    (ha : PA X (e :: es) t) (hdb : (x == ("__debug__" : Str)) = false := by decide) (he : starEach (e :: es) X.env = (false, eval e X.env) :: starEach es X.env := by rfl) (hpl : (backTo pos (starEach es X.env)).any (·.1) = false := by rfl) :
    PE X (.Call (.Name x p) (e :: es) [] pos) (tCall sp dvs E t) := by
  intro pins s σ H Q I h
  refine wpAny_Call_Name_kw (ld_glob I hg hm ?_ hdb)
  refine PySem.W.callWith_K (h₀ := X.base) I.ok.mod.kin hk (thn (ha pos pins s σ H _ I h) fun us s1 ⟨vs, H1, I1, r, q⟩ => ⟨I1.kIn, ?_⟩) he hpl
  exact run_fn F hr hb hd hx I1 r q
theorem pe_meth {pl : Sem Bool} (he : PE X o ta) (c : Cls X.K C) (hm : Meth X.K C m f) (F : FnOk X.prog X.w X.K X.mg X.base CX k f fd ps sp) (hr : Room k X.A) (hb : Binds X.K fd ps ds) (hd : Vals dvs ds) (hx : Passes CX X E) (ha : PA X (e :: es) t)
    (hst : starEach (e :: es) X.env = (false, eval e X.env) :: starEach es X.env := by rfl) (hpl : (backTo pos (starEach es X.env)).any (·.1) = false := by rfl)
    (ht : eval (.Call (.Attribute o m apos) (e :: es) [] pos) X.env = (do
      let ov ← eval o X.env
      standAt apos.atName
      let (f, first) ← holding [ov] (getMethod ov m pl)
      callWith pos f first (backTo pos (starEach (e :: es) X.env)) (backToKw pos (keywordEach [] X.env))) := by rfl) :
    PE X (.Call (.Attribute o m apos) (e :: es) [] pos) (tMeth C m sp dvs E ta t) := by
  intro pins s σ H Q I h
  refine PySem.W.methodCall_KW (pl := pl) (thn (he pins s σ H _ I h) fun u s1 ⟨x, H1, I1, rx, a, dx, fs, ex, ea, l, q⟩ => ?_) ht
  subst ex
  obtain rfl : u = Value.ref a := rx
  refine getmeth_ok I1 ea c hm l ?_
  refine PySem.W.callWith_K (first := [.ref a]) (h₀ := X.base) I.ok.mod.kin hm.kp (thn (ha pos pins s1 σ H1 _ I1 q) fun us s2 ⟨vs, H2, I2, r, q2⟩ => ⟨I2.kIn, ?_⟩) hst hpl
  exact run_fn (us := .ref a :: us) (vs := .ref a :: vs) F hr hb hd hx I2 (.cons rfl r) q2
theorem pe_meth0 {pl : Sem Bool} (he : PE X o ta) (c : Cls X.K C) (hm : Meth X.K C m f) (F : FnOk X.prog X.w X.K X.mg X.base CX k f fd ps sp) (hr : Room k X.A) (hb : Binds X.K fd ps ds) (hd : Vals dvs ds) (hx : Passes CX X E)
    (ht : eval (.Call (.Attribute o m apos) [] [] pos) X.env = (do
      let ov ← eval o X.env
      standAt apos.atName
      let (f, first) ← holding [ov] (getMethod ov m pl)
      callWith pos f first (backTo pos (starEach [] X.env)) (backToKw pos (keywordEach [] X.env))) := by rfl) :
    PE X (.Call (.Attribute o m apos) [] [] pos) (tMeth C m sp dvs E ta tNil) := by
  intro pins s σ H Q I h
  refine PySem.W.methodCall_KW (pl := pl) (thn (he pins s σ H _ I h) fun u s1 ⟨x, H1, I1, rx, a, dx, fs, ex, ea, l, q⟩ => ?_) ht
  subst ex
  obtain rfl : u = Value.ref a := rx
  refine getmeth_ok I1 ea c hm l ?_
  exact PySem.W.callWith_K0 (first := [.ref a]) I1.kIn hm.kp (run_fn (us := [.ref a]) (vs := [.ref a]) F hr hb hd hx I1 (.cons rfl .nil) q)
structure Mk (K : PySem.W.Frag) (C f : Addr) : Prop where
  makes : PySem.W.makesIn K C = true
  init : PySem.W.findIn K (.ref C) "__init__" = some (some (.ref f))
  fn : PySem.W.isFn K (.ref f) = true
  kp : PySem.W.keepIn K (.ref C) = true
theorem run_make {pins : List (Addr × Obj)} {σ : St} {H : Hp} {s : Shared} {Q : VK} {us : List Value} {vs : List V} (M : Mk X.K C f) (F : FnOk X.prog X.w X.K X.mg X.base CX k f fd ps sp) (hr : Room (k + 1) X.A) (hb : Binds X.K fd ps ds) (hd : Vals dvs ds)
    (hx : Passes CX X E) (I : Inv X pins σ H s) (r : Vals vs us)
    (h : ∀ x dx, H x = none → H dx = none → dx ≠ x → sp (.ref x :: (vs ++ dvs)) (upd (upd H dx (.own x)) x (.ins C dx [])) (fun v H2 => v = .non ∧ Q (.ref x) H2) E) :
    wpAny (model X.prog X.w) X.A (call (.ref C) us) (EP X pins σ Q) X.xe s := by
  have hq := h (s.heap.objs.size + 1) s.heap.objs.size (I.hok.fresh (Nat.le_succ _)) (I.hok.fresh (Nat.le_refl _)) (Nat.ne_of_lt (Nat.lt_succ_self _))
  have I2 := Inv.made (C := C) I
  have r2 : Vals (V.ref (s.heap.objs.size + 1) :: (vs ++ dvs)) (Value.ref (s.heap.objs.size + 1) :: (us ++ ds)) := .cons rfl (r.append hd)
  have hl : (Value.ref (s.heap.objs.size + 1) :: us ++ ds).length = ps.length := by
    have e := r2.length
    rw [F.len _ _ _ _ hq] at e
    exact e.symm
  refine wpAny_call (make_map (f := f) I.kIn M.makes M.init (beq_iff_eq.mp M.fn) (codeAny_mono (F.run _ X.stack _ _ ⟨Value.ref (s.heap.objs.size + 1) :: us, []⟩ (Value.ref (s.heap.objs.size + 1) :: (us ++ ds)) _ _ E (hr.make C us [])
    (I2.env0.make C us []) (hb _ (Value.ref (s.heap.objs.size + 1) :: us) I2.kIn hl) r2 hq) fun r s' hq' => ?_))
  cases r with
  | error e => exact hx pins σ _ _ e s' I2 hq'
  | ok fl =>
    cases fl with
    | ret u =>
      obtain ⟨v, H', I3, rv, ev, q3⟩ := I2.after hq'
      subst ev
      exact ⟨rv, ⟨V.ref (s.heap.objs.size + 1), H', I3, rfl, q3⟩⟩
    | next => exact False.elim hq'
    | brk => exact False.elim hq'
    | cont => exact False.elim hq'
theorem pe_make (M : Mk X.K C f) (F : FnOk X.prog X.w X.K X.mg X.base CX k f fd ps sp) (hr : Room (k + 1) X.A) (hg : Gl X x) (hm : X.mg x = some (.ref C)) (hb : Binds X.K fd ps ds) (hd : Vals dvs ds) (hx : Passes CX X E)
    (ha : PA X (e :: es) t) (hdb : (x == ("__debug__" : Str)) = false := by decide) (he : starEach (e :: es) X.env = (false, eval e X.env) :: starEach es X.env := by rfl) (hpl : (backTo pos (starEach es X.env)).any (·.1) = false := by rfl) :
    PE X (.Call (.Name x p) (e :: es) [] pos) (tMake C sp dvs E t) := by
  intro pins s σ H Q I h
  refine wpAny_Call_Name_kw (ld_glob I hg hm ?_ hdb)
  refine PySem.W.callWith_K (h₀ := X.base) I.ok.mod.kin M.kp (thn (ha pos pins s σ H _ I h) fun us s1 ⟨vs, H1, I1, r, q⟩ => ⟨I1.kIn, ?_⟩) he hpl
  exact run_make M F hr hb hd hx I1 r q
end
section
variable {X : Cx} {CX : CXT} {k : Nat} {f C : Addr} {fd : FuncData} {ps ks : List Str} {sp : Sp} {E : XK} {x m : Str} {p pos apos kpos : Pos} {e o : Expr} {es : List Expr} {kws : List Keyword} {te ta : TE} {t tk : TA} {nm : Option Str}
structure KBinds (K : PySem.W.Frag) (fd : FuncData) (ps ks : List Str) (g : List Value → List Value → List Value) (gV : List V → List V → List V) : Prop where
  to : ∀ (s : Shared) (us ws : List Value), K.In s.heap → (g us ws).length = ps.length → BindsTo s fd ⟨us, ks.zip ws⟩ (ps.zip (g us ws))
  rel : ∀ {vs : List V} {us : List Value} {zs : List V} {ws : List Value}, Vals vs us → Vals zs ws → Vals (gV vs zs) (g us ws)
variable {g : List Value → List Value → List Value} {gV : List V → List V → List V}
end
structure FnScope (N P : List Str) (sc : Scope) : Prop where
  kind : sc.kind = .function
  co : sc.isCoroutine = false
  gen : sc.isGenerator = false
  nd : N.Nodup
  pre : N.take P.length = P
  par : ∀ x ∈ P, sc.names.lookup x = some .local ∨ sc.names.lookup x = some .cell
  nofree : ∀ y ∈ sc.names, y.2 ≠ .free
theorem bindL_out {kindOf : Str → Option NameKind} {x : Str} : ∀ {binds : List (Str × Value)} {m : Str → Option Value}, (∀ v, (x, v) ∉ binds) → bindL kindOf binds m x = m x
  | [], _, _ => rfl
  | (n, v) :: r, m, h => by
    unfold bindL
    rw [bindL_out fun w hw => h w (List.mem_cons_of_mem _ hw)]
    split
    · have : x ≠ n := by rintro rfl; exact h v List.mem_cons_self
      simp [this]
    · rfl
theorem bindC_out {kindOf : Str → Option NameKind} {x : Str} : ∀ {binds : List (Str × Value)} {m : Str → Option Value}, (∀ v, (x, v) ∉ binds) → bindC kindOf binds m x = m x
  | [], _, _ => rfl
  | (n, v) :: r, m, h => by
    unfold bindC
    rw [bindC_out fun w hw => h w (List.mem_cons_of_mem _ hw)]
    split
    · rfl
    · have : x ≠ n := by rintro rfl; exact h v List.mem_cons_self
      simp [this]
theorem bindL_get {kindOf : Str → Option NameKind} {x : Str} {v : Value} : ∀ {P : List Str} {vs : List Value} {i : Nat} {m : Str → Option Value}, P.Nodup → P[i]? = some x → vs[i]? = some v → kindOf x = some .local →
    bindL kindOf (P.zip vs) m x = some v
  | [], _, _, _, _, h, _, _ => by simp at h
  | _ :: _, [], _, _, _, _, h, _ => by simp at h
  | p :: P, w :: vs, 0, m, nd, h1, h2, hk => by
    simp at h1 h2; subst h1; subst h2
    show bindL kindOf ((p, w) :: P.zip vs) m p = _
    unfold bindL
    rw [bindL_out fun v hv => (List.nodup_cons.mp nd).1 (List.of_mem_zip hv).1, if_pos hk]
    simp
  | p :: P, w :: vs, i + 1, m, nd, h1, h2, hk => by
    show bindL kindOf ((p, w) :: P.zip vs) m x = _
    unfold bindL
    exact bindL_get (i := i) (List.nodup_cons.mp nd).2 (by simpa using h1) (by simpa using h2) hk
theorem bindC_get {kindOf : Str → Option NameKind} {x : Str} {v : Value} : ∀ {P : List Str} {vs : List Value} {i : Nat} {m : Str → Option Value}, P.Nodup → P[i]? = some x → vs[i]? = some v → kindOf x ≠ some .local →
    bindC kindOf (P.zip vs) m x = some v
  | [], _, _, _, _, h, _, _ => by simp at h
  | _ :: _, [], _, _, _, _, h, _ => by simp at h
  | p :: P, w :: vs, 0, m, nd, h1, h2, hk => by
    simp at h1 h2; subst h1; subst h2
    show bindC kindOf ((p, w) :: P.zip vs) m p = _
    unfold bindC
    rw [bindC_out fun v hv => (List.nodup_cons.mp nd).1 (List.of_mem_zip hv).1, if_neg hk]
    simp
  | p :: P, w :: vs, i + 1, m, nd, h1, h2, hk => by
    show bindC kindOf ((p, w) :: P.zip vs) m x = _
    unfold bindC
    exact bindC_get (i := i) (List.nodup_cons.mp nd).2 (by simpa using h1) (by simpa using h2) hk
def start (N : List Str) (vs : List V) : St := vs.map some ++ List.replicate (N.length - vs.length) none
def cxOf (CX : CXT) (P : Program) (w : World) (K : PySem.W.Frag) (mg : Str → Option Value) (base : Heap) (N : List Str) (qual : Str) (scope : Scope) (f : Addr) (cd : Value) (A : Around) (outer : List Env) (s : Shared) (H : Hp) (E : XK) : Cx where
  prog := P
  w := w
  K := K
  mg := mg
  base := base
  A := A.deeper (envOfC qual scope s.heap.objs.size f cd)
  N := N
  s₀ := s
  H₀ := H
  env := envOfC qual scope s.heap.objs.size f cd
  outer := outer
  stack := envOfC qual scope s.heap.objs.size f cd :: outer
  ex := []
  calm := true
  fn := fun _ => true
  pn := []
  xe := fun e s' => wpAny (model P w) (A.deeper (envOfC qual scope s.heap.objs.size f cd)) (leaving (envOfC qual scope s.heap.objs.size f cd) e) (fun _ s'' => CX outer H s E e s'') (fun e' s'' => CX outer H s E e' s'') s'
theorem cell_has {sc : Scope} {n : Nat} {x : Str} (h : sc.names.lookup x = some .cell) : ∃ c, (cellsFrom n sc.names []).lookup x = some c := by
  have q := PySem.W.cellsFrom_some sc.names n [] (.inl h)
  exact Option.isSome_iff_exists.mp q
theorem inv_start {CX : CXT} {P : Program} {w : World} {K : PySem.W.Frag} {mg : Str → Option Value} {base : Heap} {N ps : List Str} {qual : Str} {scope : Scope} {f : Addr} {cd : Value} {A : Around} {outer : List Env} {s s1 : Shared} {H : Hp} {E : XK} {us : List Value} {vs : List V}
    (S : FnScope N ps scope) (hd : A.handled = none) (e0 : Env0 P w K mg base A outer s H) (hl : vs.length = ps.length) (r : Vals vs us)
    (x : InCallC s s.heap.objs.size (bindL (envOfC qual scope s.heap.objs.size f cd).kindOf (ps.zip us) fun _ => none) (cellsFrom (s.heap.objs.size + 1) scope.names []) (bindC (envOfC qual scope s.heap.objs.size f cd).kindOf (ps.zip us) fun _ => none) s1) :
    Inv (cxOf CX P w K mg base N qual scope f cd A outer s H E) [] (start N vs) H s1 := by
  have hpl : ps.length ≤ N.length := by have := congrArg List.length S.pre; rw [List.length_take] at this; omega
  obtain ⟨h1, tk, rfl, hk⟩ := x.done
  have noA : ∀ b : Addr, b ∉ (cxOf CX P w K mg base N qual scope f cd A outer s H E).ex := fun b z => absurd (show b ∈ ([] : List Addr) from z) (by simp)
  refine ⟨⟨e0.mod, S.kind, rfl, rfl, Nat.le_refl _, fun y z c h1 h2 => ?_, fun y hy => ?_, fun y c _ h => ?_, fun _ => hd, Around.frames_deeper e0.frames, .inr ⟨rfl, rfl⟩, fun b z => absurd z (noA b), e0.bs, e0.bsz, fun b _ _ => noA b, fun b z => absurd z (noA b), e0.funs, e0.frf⟩,
    rfl, e0.bare, Un.kept hk, ⟨_, x.toInCall.ns, fun i y v h1 h2 h3 => ?_⟩, fun y c h => ⟨_, x.cell y c h⟩, e0.hok.fresh (Nat.le_refl _), fun y c h => ?_, fun p hp => absurd (show p ∈ ([] : List (Addr × Obj)) from hp) (by simp), e0.hok.kept hk, ?_⟩
  · exact name_of_addr x.apart (PySem.mem_of_lookup h1) (PySem.mem_of_lookup h2)
  · have hy : scope.names.lookup y = some .cell ∨ scope.names.lookup y = some .free := hy
    rcases hy with hy | hy
    · exact cell_has hy
    · exact absurd rfl (S.nofree _ (PySem.mem_of_lookup hy))
  · exact Nat.le_of_lt (x.above y c (PySem.mem_of_lookup h))
  · have hi : i < vs.length := by
      unfold start at h2
      by_cases hi : i < vs.length
      · exact hi
      · rw [List.getElem?_append_right (by simpa using hi)] at h2
        rw [List.getElem?_replicate] at h2
        split at h2 <;> cases h2
    have ha : vs[i]? = some v := by
      unfold start at h2
      rw [List.getElem?_append_left (by simpa using hi), List.getElem?_map] at h2
      cases e : vs[i]? with
      | none => rw [e] at h2; cases h2
      | some a => rw [e] at h2; cases h2; rfl
    obtain ⟨u, hu, rv⟩ := r.get ha
    have hp : ps[i]? = some y := by
      rw [← S.pre, List.getElem?_take_of_lt (by omega)]; exact h1
    have ndP : ps.Nodup := by rw [← S.pre]; exact S.nd.sublist (List.take_sublist _ _)
    refine ⟨u, rv, ?_⟩
    rcases S.par y (List.mem_of_getElem? hp) with k | k
    · exact .inl ⟨k, bindL_get ndP hp hu k⟩
    · obtain ⟨c, e⟩ := cell_has (n := s.heap.objs.size + 1) k
      refine .inr ⟨.inl k, c, e, ?_⟩
      have q := x.cell y c e
      rw [bindC_get ndP hp hu (by show scope.names.lookup y ≠ _; rw [k]; decide)] at q
      exact q
  · exact e0.hok.fresh (Nat.le_of_lt (x.above y c (PySem.mem_of_lookup h)))
  · unfold start
    show _ = N.length
    rw [List.length_append, List.length_map, List.length_replicate]
    omega
theorem fn_of {CX : CXT} {P : Program} {w : World} {K : PySem.W.Frag} {mg : Str → Option Value} {base : Heap} {k : Nat} {f : Addr} {name qual : Str} {params : Arguments} {body : List Stmt} {scope : Scope} {dV kV doc pm cdv ct oc : Value} {an od : Option Addr}
    {osl : Array (Option Value)} {N ps : List Str} {sp : Sp} (lk : K.lookup f = some ⟨oc, od, .func (PySem.W.fnOf name qual params body scope dV kV doc pm an cdv ct), osl⟩) (hcd : PySem.W.codeIn K cdv qual = true) (S : FnScope N ps scope)
    (len : ∀ vs H Q E, sp vs H Q E → vs.length = ps.length)
    (hbody : ∀ (A : Around) (outer : List Env) (s : Shared) (H : Hp) (vs : List V) (Q : VK) (E : XK), Room k (A.deeper (envOfC qual scope s.heap.objs.size f cdv)) → sp vs H Q E →
      ∃ t, PSs (cxOf CX P w K mg base N qual scope f cdv A outer s H E) body t ∧ t { nx := fun _ H' => Q .non H', rt := Q } (start N vs) H) :
    FnOk P w K mg base CX (k + 1) f (PySem.W.fnOf name qual params body scope dV kV doc pm an cdv ct) ps sp := by
  refine ⟨len, fun A outer s H args us vs Q E hr e0 hb r hsp => ?_⟩
  have hl := len _ _ _ _ hsp
  have KX : K.In s.heap := e0.mod.kin.keeps fun b o e => (e0.bs b o e).1
  have lim : s.heap.NoLimit := e0.mod.nolimit.keeps fun b o e => (e0.bs b o e).1
  have hkind : ∀ y ∈ ps.zip us, scope.names.lookup y.1 = some .local ∨ (scope.names.lookup y.1 = some .cell ∧ ((cellsFrom (s.heap.objs.size + 1) scope.names []).lookup y.1).isSome = true) := fun ⟨n, v⟩ hy => by
    rcases S.par n (List.of_mem_zip hy).1 with q | q
    · exact .inl q
    · exact .inr ⟨q, PySem.W.cellsFrom_some _ _ _ (.inl q)⟩
  refine codeAny_call_function hr.depth (KX _ _ lk) rfl S.co S.gen rfl (PySem.W.codeRec_of KX hcd) (hb _ _ _ _ ?_)
  refine wpAny_newFunctionEnv_cells S.kind hkind fun env he s1 x => ?_
  subst he
  refine ⟨lim.keeps x.toInCall.keep, codeAny_func ?_⟩
  obtain ⟨t, ht, hq⟩ := hbody A outer s H vs Q E (hr.deeper _) hsp
  have I : Inv (cxOf CX P w K mg base N qual scope f cdv A outer s H E) [] (start N vs) H s1 := inv_start S hr.hd e0 hl r x
  refine wpAny_mono (ht [] s1 (start N vs) H _ I hq) (fun fl s' hs => ?_) fun e s' hs => hs
  have fin : ∀ {σ' : St} {H' : Hp} {v : V} {u : Value}, Inv (cxOf CX P w K mg base N qual scope f cdv A outer s H E) [] σ' H' s' → RelV v u → Q v H' → CE outer P w H s Q u s' :=
    fun {σ' H' v u} J rv q => ⟨v, H', J.os, J.bare, J.base, J.hok, rv, q⟩
  cases fl with
  | ret u =>
    obtain ⟨v, σ', H', J, rv, q⟩ := hs
    exact fin J rv q
  | next =>
    obtain ⟨σ', H', J, q⟩ := hs
    exact fin (v := V.non) (u := Value.none) J rfl q
  | brk =>
    obtain ⟨_, _, _, q⟩ := hs
    exact False.elim q
  | cont =>
    obtain ⟨_, _, _, q⟩ := hs
    exact False.elim q
end L2
namespace L2
open PySem PySem.Spec PyProof.Rows
section
variable {X : Cx} {x : Str} {p pos : Pos} {e : Expr} {es : List Expr} {t : TA} {id T : String} {r : List V → Hp → VK → Prop}
def tCB (r : List V → Hp → VK → Prop) (t : TA) : TE := fun σ H Q => t σ H fun vs H1 => r vs H1 Q
theorem pe_callB (hc : CallR X (.builtin id) r) (hg : Gl X x) (hm : X.mg x = none) (hv : bootBuiltins x = some (.builtin id)) (ha : PA X (e :: es) t) (hn : x ≠ "__name__" := by decide) (hdb : (x == ("__debug__" : Str)) = false := by decide)
    (he : starEach (e :: es) X.env = (false, eval e X.env) :: starEach es X.env := by rfl) (hpl : (backTo pos (starEach es X.env)).any (·.1) = false := by rfl) : PE X (.Call (.Name x p) (e :: es) [] pos) (tCB r t) := by
  intro pins s σ H Q I h
  refine wpAny_Call_Name_kw (ld_blt I hg hm hv ?_ hn hdb)
  exact PyProof.Rows.callWith_builtin1 (thn (ha pos pins s σ H _ I h) fun us s1 ⟨vs, H1, I1, r1, q1⟩ => hc pins s1 σ H1 vs us Q I1 r1 q1) he hpl
theorem pe_callTy (hc : CallR X (.type T) r) (hg : Gl X x) (hm : X.mg x = none) (hv : bootBuiltins x = some (.type T)) (ha : PA X (e :: es) t) (hn : x ≠ "__name__" := by decide) (hdb : (x == ("__debug__" : Str)) = false := by decide)
    (he : starEach (e :: es) X.env = (false, eval e X.env) :: starEach es X.env := by rfl) (hpl : (backTo pos (starEach es X.env)).any (·.1) = false := by rfl) : PE X (.Call (.Name x p) (e :: es) [] pos) (tCB r t) := by
  intro pins s σ H Q I h
  refine wpAny_Call_Name_kw (ld_blt I hg hm hv ?_ hn hdb)
  exact PyProof.Rows.callWith_type1 (thn (ha pos pins s σ H _ I h) fun us s1 ⟨vs, H1, I1, r1, q1⟩ => hc pins s1 σ H1 vs us Q I1 r1 q1) he hpl
end
end L2
namespace HT
open PySem PyProof.Rows
section
open PySem.SeqAt
open PySem.AutoSeq1 (wpAny_loadPart')
open PySem.MeetsSeq PySem.MeetsSeq2 PySem.MeetsSeq3
end
section
variable {prog : Program} {w : World} {A : Around} {E : Value → Shared → Prop} {s : Shared}
def sIx (n d : Nat) : Option Int → Nat
  | none => d
  | some v => if v < 0 then (v + (n : Int)).toNat else min v.toNat n
end
end HT
namespace L2
open PySem PySem.Spec PyProof.Rows
abbrev TO := St → Hp → (Option Int → Hp → Prop) → Prop
def PO (X : Cx) (e : Option Expr) (t : TO) : Prop :=
  ∀ (pins : List (Addr × Obj)) (s : Shared) (σ : St) (H : Hp) (Q : Option Int → Hp → Prop), Inv X pins σ H s → t σ H Q →
    wpAny (model X.prog X.w) X.A (evalPart e X.env) (fun u s' => ∃ o H', Inv X pins σ H' s' ∧ IsPart u o ∧ Q o H') X.xe s
def tPart (t : TE) : TO := fun σ H Q => t σ H fun x H1 => ∃ i, x = .int i ∧ Q (some i) H1
section
variable {X : Cx} {e : Expr} {te : TE} {lo hi : Option Expr} {tl th : TO} {pos p2 : Pos}
theorem po_some (h : PE X e te) : PO X (some e) (tPart te) := by
  intro pins s σ H Q I hw
  rw [evalPart_some]
  refine thn (h pins s σ H _ I hw) fun u s1 ⟨x, H1, I1, r1, q1⟩ => ?_
  obtain ⟨i, rfl, q⟩ := q1
  obtain ⟨t, rfl⟩ := r1
  exact ⟨some i, H1, I1, .int i t, q⟩
def SlR (X : Cx) (r : V → Option Int → Option Int → Hp → VK → Prop) : Prop :=
  ∀ (pins : List (Addr × Obj)) (s : Shared) (σ : St) (H : Hp) (x : V) (v vl vu : Value) (lo hi : Option Int) (sl : Addr) (Q : VK), Inv X pins σ H s → RelV x v → s.heap.IsSliceOf sl vl vu .none → IsPart vl lo → IsPart vu hi → r x lo hi H Q →
    ∃ T id, typeLookup (.type T) "__getitem__" = pure (some (.builtin id)) ∧ s.TypeIs v T ∧ wpAny (model X.prog X.w) X.A (getItem v (.ref sl)) (EP X pins σ Q) X.xe s
def tSl (r : V → Option Int → Option Int → Hp → VK → Prop) (te : TE) (tl th : TO) : TE := fun σ H Q => te σ H fun x H1 => tl σ H1 fun l H2 => th σ H2 fun u H3 => r x l u H3 Q
theorem pe_slice {r : V → Option Int → Option Int → Hp → VK → Prop} (hr : SlR X r) (he : PE X e te) (hl : PO X lo tl) (hu : PO X hi th) : PE X (.Subscript e (.Slice lo hi none p2) pos) (tSl r te tl th) := by
  intro pins s σ H Q I h
  refine Subscript_ (thn (he pins s σ H _ I h) fun v s1 ⟨x, H1, I1, r1, q1⟩ => ?_)
  refine wpAny_Slice (thn (hl pins s1 σ H1 _ I1 q1) fun vl s2 ⟨l, H2, I2, pl, q2⟩ => thn (hu pins s2 σ H2 _ I2 q2) fun vu s3 ⟨u, H3, I3, pu, q3⟩ => ?_)
  rw [evalPart_none]
  refine wpAny_pure ?_
  have I4 : Inv X pins σ H3 { s3 with heap := s3.heap.push { cls := .type "slice", data := .fields #[vl, vu, .none] } } := I3.kept (t' := s3.toks) fun b ob q => Heap.get?_push_of_some _ q
  obtain ⟨T, id, hT, ht, hg⟩ := hr pins { s3 with heap := s3.heap.push { cls := .type "slice", data := .fields #[vl, vu, .none] } } σ H3 x v vl vu l u s3.heap.objs.size Q I4 r1 (Heap.IsSliceOf.new ..) pl pu q3
  show wpAny (model X.prog X.w) X.A (subscriptTail e (.Slice lo hi none p2) v (.ref s3.heap.objs.size)) (EP X pins σ Q) X.xe { s3 with heap := s3.heap.push { cls := .type "slice", data := .fields #[vl, vu, .none] } }
  exact tail_any (ops := [.ref s3.heap.objs.size, v]) ht hT hg (by with_unfolding_all rfl)
def cutV (xs : List V) (lo hi : Option Int) : List V := (xs.drop (HT.sIx xs.length 0 lo)).take (HT.sIx xs.length xs.length hi - HT.sIx xs.length 0 lo)
theorem cutV_length (xs : List V) (lo hi : Option Int) : (cutV xs lo hi).length ≤ xs.length := by
  unfold cutV
  rw [List.length_take, List.length_drop]
  omega
end
end L2
namespace L2
open PySem PySem.Spec PyProof.Rows
def ixN (n : Nat) (i : Int) : Option Nat := if 0 ≤ i then (if i < n then some i.toNat else none) else if -(n : Int) ≤ i then some (i + n).toNat else none
def atI {α : Type} (xs : List α) (i : Int) : Option α := (ixN xs.length i).bind fun j => xs[j]?
theorem ixN_seq {n : Nat} {i : Int} {j : Nat} (h : ixN n i = some j) : seqIndex? i n = some j ∧ j < n ∧ -(n : Int) ≤ i ∧ i < n := by
  unfold ixN at h
  by_cases h0 : 0 ≤ i
  · rw [if_pos h0] at h
    by_cases h1 : i < n
    · rw [if_pos h1] at h
      have e : i.toNat = j := Option.some.inj h
      exact ⟨by rw [seqIndex_of h0 h1, e], by omega, by omega, h1⟩
    · rw [if_neg h1] at h; cases h
  · rw [if_neg h0] at h
    by_cases h1 : -(n : Int) ≤ i
    · rw [if_pos h1] at h
      have e : (i + n).toNat = j := Option.some.inj h
      exact ⟨by rw [seqIndex_neg (by omega) h1, e], by omega, h1, by omega⟩
    · rw [if_neg h1] at h; cases h
theorem atI_get {α : Type} {xs : List α} {i : Int} {v : α} (h : atI xs i = some v) : ∃ j, seqIndex? i xs.length = some j ∧ xs[j]? = some v ∧ j < xs.length ∧ -(xs.length : Int) ≤ i ∧ i < xs.length := by
  unfold atI at h
  cases e : ixN xs.length i with
  | none => rw [e] at h; cases h
  | some j =>
    rw [e] at h
    obtain ⟨h1, h2, h3, h4⟩ := ixN_seq e
    exact ⟨j, h1, h, h2, h3, h4⟩
theorem atI_nat {α : Type} {xs : List α} {j : Nat} {v : α} (h : xs[j]? = some v) : atI xs (j : Int) = some v := by
  have hj : j < xs.length := (List.getElem?_eq_some_iff.mp h).1
  have e : ixN xs.length (j : Int) = some j := by
    unfold ixN
    rw [if_pos (by omega), if_pos (by omega)]; simp
  unfold atI; rw [e]; exact h
def PlainIx (b : Expr) : Prop := ∀ o i, subscripted b false o i = operate [o, i] (getItem o i)
def IxR (X : Cx) (r : R2) : Prop :=
  ∀ (value slice : Expr) (pins : List (Addr × Obj)) (s : Shared) (σ : St) (H : Hp) (x y : V) (v u : Value) (Q : VK), Inv X pins σ H s → RelV x v → RelV y u → r x y H Q →
    subscripted slice false v u = operate [v, u] (getItem v u) → wpAny (model X.prog X.w) X.A (subscriptTail value slice v u) (EP X pins σ Q) X.xe s
def MtR (X : Cx) (id : String) (r : V → List V → Hp → VK → Prop) : Prop :=
  ∀ (pins : List (Addr × Obj)) (s : Shared) (σ : St) (H : Hp) (x : V) (xs : List V) (v : Value) (us : List Value) (Q : VK), Inv X pins σ H s → RelV x v → Vals xs us → r x xs H Q →
    wpAny (model X.prog X.w) X.A (call (.builtin id) (v :: us)) (EP X pins σ Q) X.xe s
section
variable {X : Cx} {a b : Expr} {ta tb : TE} {pos : Pos}
theorem pe_ix {r : R2} (hr : IxR X r) (ha : PE X a ta) (hb : PE X b tb) (hs : PlainIx b) : PE X (.Subscript a b pos) (tOp r ta tb) := by
  intro pins s σ H Q I h
  exact Subscript_ (binT ha hb I h fun v u s2 x y H2 I2 rx ry q => hr a b pins s2 σ H2 x y v u Q I2 rx ry q (hs _ _))
def rIxL (K : PySem.W.Frag) : R2 := fun x y H Q => ∃ p xs i v, x = .ref p ∧ y = .int i ∧ SqL K H p xs ∧ atI xs i = some v ∧ Q v H
def rIxT (K : PySem.W.Frag) : R2 := fun x y H Q => ∃ p xs i v, x = .ref p ∧ y = .int i ∧ SqT K H p xs ∧ atI xs i = some v ∧ Q v H
theorem ix_list : IxR X (rIxL X.K) := by
  intro value slice pins s σ H x y v u Q I rx ry h hs
  obtain ⟨p, xs, i, z, rfl, rfl, hq, he, q⟩ := h
  cases rx
  obtain ⟨t, rfl⟩ := ry
  obtain ⟨its, r, pl, hz⟩ := I.list hq
  obtain ⟨j, h1, h2, h3, h4, h5⟩ := atI_get he
  obtain ⟨w, ew, rw'⟩ := r.get h2
  have hl := r.length
  have hn := line63
  have fin : EP X pins σ Q w s := ⟨z, H, I, rw', q⟩
  by_cases h0 : 0 ≤ i
  · have hj : i.toNat = j := by
      rw [seqIndex_of h0 h5] at h1
      exact Option.some.inj h1
    exact item_listR pl.isList h0 (by omega) (by rw [hj]; simpa using ew) fin hs
  · have hj : (i + (its.toArray.size : Int)).toNat = j := by
      rw [seqIndex_neg (by omega) h4] at h1
      rw [List.size_toArray, ← hl]
      exact Option.some.inj h1
    exact subscriptTail_builtinR (x := w) pl.isList.typeIs slot_list_getitem.lookup
      (wpAny_getItem_list_neg (Q := fun r s' => r = w ∧ EP X pins σ Q r s') pl.isList (by omega) (by rw [List.size_toArray] <;> omega) (by omega) (by rw [hj]; simpa using ew) ⟨rfl, fin⟩) hs
theorem ix_tup : IxR X (rIxT X.K) := by
  intro value slice pins s σ H x y v u Q I rx ry h hs
  obtain ⟨p, xs, i, z, rfl, rfl, hq, he, q⟩ := h
  cases rx
  obtain ⟨t, rfl⟩ := ry
  obtain ⟨its, r, pl, hz⟩ := I.tuple hq
  obtain ⟨j, h1, h2, h3, h4, h5⟩ := atI_get he
  obtain ⟨w, ew, rw'⟩ := r.get h2
  have hl := r.length
  have hn := line63
  have fin : EP X pins σ Q w s := ⟨z, H, I, rw', q⟩
  exact subscriptTail_builtinR (x := w) pl.typeIs slot_tuple_getitem.lookup
    (getItem_tuple (j := j) (Q := fun r s' => r = w ∧ EP X pins σ Q r s') pl (by omega) (by omega) (by rw [List.size_toArray, ← hl]; exact h1) (by simpa using ew) ⟨rfl, fin⟩) hs
theorem Inv.lst {pins : List (Addr × Obj)} {σ : St} {H : Hp} {s : Shared} {p : Addr} {xs : List V} (I : Inv X pins σ H s) (h : H p = some (.lst xs)) :
    ∃ (its : List Value) (n : Nat), Vals xs its ∧ s.heap.get? p = some { cls := .type "list", data := .seq its.toArray n } ∧ xs.length ≤ sizeLine := by
  obtain ⟨z, its, n, r, e⟩ := I.hok p _ h
  exact ⟨its, n, r, e, z⟩
theorem slice_bounds (lo hi : Option Int) (n : Nat) : (sliceBounds lo hi none n).1 = ((HT.sIx n 0 lo : Nat) : Int) ∧ (sliceBounds lo hi none n).2.1 = ((HT.sIx n n hi : Nat) : Int) ∧ (sliceBounds lo hi none n).2.2 = 1 := by
  refine ⟨?_, ?_, rfl⟩
  · cases lo with
    | none => simp [sliceBounds, HT.sIx]
    | some i =>
      simp only [sliceBounds, HT.sIx, Option.getD_none, show (1 : Int) > 0 by decide, if_true]
      by_cases h : i < 0
      · simp only [h, if_true] <;> omega
      · simp only [h, if_false] <;> omega
  · cases hi with
    | none => simp [sliceBounds, HT.sIx]
    | some i =>
      simp only [sliceBounds, HT.sIx, Option.getD_none, show (1 : Int) > 0 by decide, if_true]
      by_cases h : i < 0
      · simp only [h, if_true] <;> omega
      · simp only [h, if_false] <;> omega
theorem slicePick_cut (its : List Value) (lo hi : Option Int) : slicePick its.toArray lo hi none = ((its.drop (HT.sIx its.length 0 lo)).take (HT.sIx its.length its.length hi - HT.sIx its.length 0 lo)).toArray := by
  obtain ⟨h1, h2, h3⟩ := slice_bounds lo hi its.toArray.size
  unfold slicePick
  rw [h1, h2, h3]
  simp only [sliceRange_one, pick_run, List.size_toArray] <;> rfl
def rSlL (K : PySem.W.Frag) : V → Option Int → Option Int → Hp → VK → Prop := fun x lo hi H Q => ∃ a xs, x = .ref a ∧ SqL K H a xs ∧ ∀ p, H p = none → Q (.ref p) (upd H p (.lst (cutV xs lo hi)))
theorem sl_list : SlR X (rSlL X.K) := by
  intro pins s σ H x v vl vu lo hi sl Q I rx hs pl pu h
  obtain ⟨a, xs, rfl, hx, q⟩ := h
  cases rx
  obtain ⟨its, r, ht, hz⟩ := I.list hx
  have hlen := r.length
  refine ⟨"list", _, slot_list_getitem.lookup, ht.isList.typeIs, ?_⟩
  refine wpAny_getItem_list_slice ht.isList hs pl pu .none (by simp) ?_ (by rw [List.size_toArray] <;> omega)
  rw [slicePick_cut, ← hlen]
  refine ⟨.ref s.heap.objs.size, _, I.laid (t' := s.toks) (o := .lst (cutV xs lo hi)) (fun b ob q => Heap.get?_push_of_some _ q) (Nat.le_refl _) ?_, rfl, q _ (I.hok.fresh (Nat.le_refl _))⟩
  exact ⟨Nat.le_trans (cutV_length xs lo hi) hz, _, 0, (r.drop (HT.sIx xs.length 0 lo)).take (HT.sIx xs.length xs.length hi - HT.sIx xs.length 0 lo), Heap.get?_push_size _ rfl⟩
theorem call_len_seq : CallR X (.builtin "len") (fun xs H Q => ∃ p ys, xs = [.ref p] ∧ (SqL X.K H p ys ∨ SqT X.K H p ys) ∧ Q (.int ys.length) H) := by
  intro pins s σ H xs us Q I r h
  obtain ⟨p, ys, rfl, hq, q⟩ := h
  obtain ⟨u, rfl, rx⟩ := vals1 r
  cases rx
  have hn := line63
  rcases hq with hq | hq
  · obtain ⟨its, r', pl, hz⟩ := I.list hq
    have hlen := r'.length
    exact Calls.call_len_list pl.isList (by simp only [List.size_toArray] <;> omega) ⟨.int ys.length, H, I.tok _, ⟨s.toks + 1, by rw [List.size_toArray, hlen]⟩, q⟩
  · obtain ⟨its, r', pl, hz⟩ := I.tuple hq
    have hlen := r'.length
    exact len_tuple pl (by simp only [List.size_toArray] <;> omega) ⟨.int ys.length, H, I.tok _, ⟨s.toks + 1, by rw [List.size_toArray, hlen]⟩, q⟩
theorem call_list_of : CallR X (.type "list") (fun xs H Q => ∃ p ys, xs = [.ref p] ∧ (SqL X.K H p ys ∨ SqT X.K H p ys) ∧ ∀ l, H l = none → Q (.ref l) (upd H l (.lst ys))) := by
  intro pins s σ H xs us Q I r h
  obtain ⟨p, ys, rfl, hq, q⟩ := h
  obtain ⟨u, rfl, rx⟩ := vals1 r
  cases rx
  have fin : ∀ (its : List Value), Vals ys its → ys.length ≤ sizeLine → ∀ (h' : Heap) (c' : Nat), (∀ b o', s.heap.get? b = some o' → h'.get? b = some o') →
      h'.get? s.heap.objs.size = some { cls := .type "list", dict := none, data := .seq its.toArray c', slots := #[] } → EP X pins σ Q (.ref s.heap.objs.size) { s with heap := h' } := fun its r' hz h' c' kp e =>
    ⟨.ref s.heap.objs.size, _, I.laid (t' := s.toks) kp (Nat.le_refl _) (show ObjOk X.prog X.w _ h' _ (.lst ys) from ⟨hz, its, c', r', e⟩), rfl, q _ (I.hok.fresh (Nat.le_refl _))⟩
  rcases hq with hq | hq
  · obtain ⟨its, r', pl, hz⟩ := I.list hq
    have hlen := r'.length
    obtain ⟨o, ho, hc, n, hd⟩ := pl.isList
    exact call_list_seq p (.inl rfl) ho hc hd (fun h' c' kp e => fin its r' hz h' c' kp e) (by simp only [List.size_toArray] <;> omega)
  · obtain ⟨its, r', pl, hz⟩ := I.tuple hq
    have hlen := r'.length
    obtain ⟨o, ho, hc, n, hd⟩ := pl
    exact call_list_seq p (.inr rfl) ho hc hd (fun h' c' kp e => fin its r' hz h' c' kp e) (by simp only [List.size_toArray] <;> omega)
theorem call_tuple_of : CallR X (.type "tuple") (fun xs H Q => ∃ p ys, xs = [.ref p] ∧ ((SqL X.K H p ys ∧ ∀ l, H l = none → Q (.ref l) (upd H l (.tup ys))) ∨ (SqT X.K H p ys ∧ Q (.ref p) H))) := by
  intro pins s σ H xs us Q I r h
  obtain ⟨p, ys, rfl, h⟩ := h
  obtain ⟨u, rfl, rx⟩ := vals1 r
  cases rx
  rcases h with ⟨hq, q⟩ | ⟨hq, q⟩
  · obtain ⟨its, r', pl, hz⟩ := I.list hq
    have hlen := r'.length
    refine call_tuple_list pl.isList (fun h' kp => ?_) (by simp only [List.size_toArray] <;> omega)
    have I1 : Inv X pins σ H { s with heap := h' } := I.kept (t' := s.toks) kp
    have I2 : Inv X pins σ (upd H h'.objs.size (.tup ys)) { s with heap := h'.push { cls := .type "tuple", data := .seq its.toArray } } :=
      I1.laid (t' := s.toks) (fun b o e => Heap.get?_push_of_some _ e) (Nat.le_refl _) (show ObjOk X.prog X.w _ _ _ (.tup ys) from ⟨hz, its, r', IsTup.new _ _⟩)
    exact ⟨.ref h'.objs.size, _, I2, rfl, q _ (I1.hok.fresh (Nat.le_refl _))⟩
  · obtain ⟨its, r', pl, hz⟩ := I.tuple hq
    exact call_tuple_same pl ⟨.ref p, H, I, rfl, q⟩
def tyV (K : PySem.W.Frag) (T : String) (x : V) (H : Hp) : Prop := match x with
  | .str _ => T = "str"
  | .int _ => T = "int"
  | .ref p => (T = "list" ∧ ∃ xs, SqL K H p xs) ∨ (T = "tuple" ∧ ∃ o, K.lookup p = some o ∧ o.cls = .type "tuple" ∧ o.dict = none) ∨
      (T = "dict" ∧ ((∃ kvs, H p = some (.dK kvs)) ∨ ∃ kvs, H p = some (.dT kvs))) ∨ (T = "set" ∧ ∃ S n, H p = some (.set S n))
  | _ => False
theorem tyV_is {pins : List (Addr × Obj)} {σ : St} {H : Hp} {s : Shared} {T : String} {x : V} {v : Value} (I : Inv X pins σ H s) (r : RelV x v) (ty : tyV X.K T x H) :
    s.TypeIs v T ∧ ∀ a, v = .ref a → ∃ ob, s.heap.get? a = some ob ∧ ob.dict = none := by
  cases x with
  | str z =>
    obtain ⟨t, rfl⟩ := r
    cases (show T = "str" from ty)
    exact ⟨typeIs_str s z t, fun _ e => nomatch e⟩
  | int i =>
    obtain ⟨t, rfl⟩ := r
    cases (show T = "int" from ty)
    exact ⟨typeIs_int s i t, fun _ e => nomatch e⟩
  | ref p =>
    cases r
    rcases ty with ⟨rfl, xs, hq⟩ | ⟨rfl, o, hk, hc, hd⟩ | ⟨rfl, hk⟩ | ⟨rfl, S, n, hk⟩
    · obtain ⟨its, _, pl, _⟩ := I.list hq
      refine ⟨pl.isList.typeIs, fun a e => ?_⟩
      cases e
      obtain ⟨o, n, e, c, hd, _⟩ := pl
      exact ⟨o, e, hd⟩
    · refine ⟨⟨o, I.kIn p o hk, hc⟩, fun a e => ?_⟩
      cases e
      exact ⟨o, I.kIn _ o hk, hd⟩
    · have z : ∃ o, s.heap.get? p = some o ∧ o.ExactDict := by
        rcases hk with ⟨kvs, hk⟩ | ⟨kvs, hk⟩
        · obtain ⟨_, _, _, _, o, _, _, e, ex, _⟩ := I.hok p _ hk
          exact ⟨o, e, ex⟩
        · obtain ⟨_, _, _, _, o, _, _, e, ex, _⟩ := I.hok p _ hk
          exact ⟨o, e, ex⟩
      obtain ⟨o, e, ex⟩ := z
      refine ⟨⟨o, e, ex.1⟩, fun a e2 => ?_⟩
      cases e2
      exact ⟨o, e, ex.2.1⟩
    · obtain ⟨o, _, _, _, e, ex, _⟩ := I.hok p _ hk
      refine ⟨⟨o, e, ex.1⟩, fun a e2 => ?_⟩
      cases e2
      exact ⟨o, e, ex.2.1⟩
  | _ => exact False.elim ty
def tBM0 (K : PySem.W.Frag) (T : String) (r : V → List V → Hp → VK → Prop) (to : TE) : TE := fun σ H Q => to σ H fun x H1 => tyV K T x H1 ∧ r x [] H1 Q
def tBM (K : PySem.W.Frag) (T : String) (r : V → List V → Hp → VK → Prop) (to : TE) (t : TA) : TE := fun σ H Q => to σ H fun x H1 => tyV K T x H1 ∧ t σ H1 fun xs H2 => r x xs H2 Q
variable {o e : Expr} {es : List Expr} {to : TE} {t : TA} {name : Str} {apos cpos : Pos} {T id : String} {r : V → List V → Hp → VK → Prop}
theorem pe_bm0 (pa : PlainAttrs T) (slot : Slot T name id) (hty : typeOf (.builtin id) = pure (.type "method_descriptor")) (hm : MtR X id r) (ho : PE X o to)
    (hbase : attributeBase o name X.env (eval o X.env) = eval o X.env := by rfl) (hline : (apos.endLine == cpos.line) = true := by rfl) : PE X (.Call (.Attribute o name apos) [] [] cpos) (tBM0 X.K T r to) := by
  intro pins s σ H Q I h
  refine wpAny_Call_method0_late hbase hline (thn (ho pins s σ H _ I h) fun v s1 ⟨x, H1, I1, r1, ty, q1⟩ => ?_)
  obtain ⟨h1, h2⟩ := tyV_is I1 r1 ty
  exact ⟨T, id, pa, slot, hty, h1, h2, Calls.callWith_builtin rfl (PySem.evalArgs_none (hm pins s1 σ H1 x [] v [] Q I1 r1 .nil q1))⟩
theorem pe_bm (pa : PlainAttrs T) (slot : Slot T name id) (hty : typeOf (.builtin id) = pure (.type "method_descriptor")) (hm : MtR X id r) (ho : PE X o to) (ha : PA X (e :: es) t)
    (hbase : attributeBase o name X.env (eval o X.env) = eval o X.env := by rfl)
    (hfew : ((backTo cpos (starEach (e :: es) X.env)).all (fun x => !x.1) && (backToKw cpos (keywordEach [] X.env)).all (fun x => x.1.isSome)
      && decide ((e :: es).length + ([] : List Keyword).length + (if ([] : List Keyword).isEmpty then 0 else 1) < 30)) = true := by rfl)
    (hline : (apos.endLine == cpos.line) = true := by rfl) (hs : starEach (e :: es) X.env = (false, eval e X.env) :: starEach es X.env := by rfl) (hplain : (backTo cpos (starEach es X.env)).any (·.1) = false := by rfl) :
    PE X (.Call (.Attribute o name apos) (e :: es) [] cpos) (tBM X.K T r to t) := by
  intro pins s σ H Q I h
  refine wpAny_Call_method_late hbase hfew hline rfl (thn (ho pins s σ H _ I h) fun v s1 ⟨x, H1, I1, r1, ty, q1⟩ => ?_)
  obtain ⟨h1, h2⟩ := tyV_is I1 r1 ty
  refine ⟨T, id, pa, slot, hty, h1, h2, ?_⟩
  have hA := ha cpos pins s1 σ H1 _ I1 q1
  rw [hs] at hA ⊢
  refine Calls.callWith_builtin (by show (false || (backTo cpos (starEach es X.env)).any (·.1)) = false; rw [hplain] <;> rfl) (Calls.evalArgs_plain ?_)
  exact thn hA fun us s2 ⟨vs, H2, I2, r2, q2⟩ => hm pins s2 σ H2 x vs v us Q I2 r1 r2 q2
/- xs.append(e), list.index on a module's tuple .. are MtR facts of 06m -/
end
end L2
namespace L2
open PySem PySem.Spec PyProof.Rows
def MtM (X : Cx) (id : String) (r : V → List V → Hp → VK → Prop) : Prop :=
  ∀ (pins : List (Addr × Obj)) (s : Shared) (σ : St) (H : Hp) (x : V) (xs : List V) (v : Value) (us : List Value) (Q : VK), Inv X pins σ H s → RelV x v → Vals xs us → r x xs H Q →
    wpAny (model X.prog X.w) X.A (call (.builtin id) (v :: us)) (EP X pins σ Q) X.xe s
theorem Vals.one : ∀ {x : V} {us : List Value}, Vals [x] us → ∃ u, us = [u] ∧ RelV x u
  | _, _, .cons r .nil => ⟨_, rfl, r⟩
theorem Vals.two : ∀ {x y : V} {us : List Value}, Vals [x, y] us → ∃ u v, us = [u, v] ∧ RelV x u ∧ RelV y v
  | _, _, _, .cons r (.cons q .nil) => ⟨_, _, rfl, r, q⟩
theorem Vals.zero : ∀ {us : List Value}, Vals [] us → us = []
  | _, .nil => rfl
theorem Vals.reverse {xs : List V} {us : List Value} (h : Vals xs us) : Vals xs.reverse us.reverse := by
  induction h with
  | nil => exact .nil
  | cons r t ih => rw [List.reverse_cons, List.reverse_cons]; exact Vals.append ih (.cons r .nil)
section
variable {X : Cx} {pins : List (Addr × Obj)} {σ : St} {H : Hp} {s : Shared} {l b : Addr} {xs ys zs : List V}
theorem Inv.lset {its its' : List Value} {n : Nat} {f : Array Value → Array Value} {t' : Nat} (I : Inv X pins σ H s) (hH : H l = some (.lst xs))
    (e : s.heap.get? l = some { cls := .type "list", data := .seq its.toArray n }) (hf : f its.toArray = its'.toArray) (hv : Vals ys its') (hz : ys.length ≤ sizeLine) :
    Inv X pins σ (upd H l (.lst ys)) { s with heap := s.heap.update l (Obj.mapSeq f), toks := t' } := by
  have q := PySem.IsL.update e f
  rw [hf] at q
  refine I.write (x := l) (e := l) (by rw [hH]; exact trivial) (.inl rfl) (fun b' u hb hu => (Heap.get?_update_other s.heap (Obj.mapSeq f) (Ne.symm hb)).trans hu) ⟨_, q⟩ ?_
  exact ⟨hz, its', _, hv, q⟩
theorem Inv.fresh (I : Inv X pins σ H s) : H s.heap.objs.size = none := I.hok.fresh (Nat.le_refl _)
theorem Inv.lstM (I : Inv X pins σ H s) (hH : H l = some (.lst xs)) : xs.length ≤ sizeLine ∧ ∃ (its : List Value) (n : Nat), Vals xs its ∧ xs.length = its.length ∧ s.heap.get? l = some { cls := .type "list", data := .seq its.toArray n } := by
  obtain ⟨z, its, n, r, e⟩ := I.hok l _ hH
  exact ⟨z, its, n, r, r.length, e⟩
end
section
variable {X : Cx}
def rAppend : V → List V → Hp → VK → Prop := fun x vs H Q => ∃ l xs y, x = .ref l ∧ vs = [y] ∧ H l = some (.lst xs) ∧ xs.length < sizeLine ∧ Q .non (upd H l (.lst (xs ++ [y])))
theorem mt_append : MtM X "list.append" rAppend := by
  intro pins s σ H x vs v us Q I rx rv h
  obtain ⟨l, xs, y, rfl, rfl, hH, hz, q⟩ := h
  cases rx
  obtain ⟨u, rfl, ru⟩ := rv.one
  obtain ⟨z, its, n, r, hl, e⟩ := I.lstM hH
  refine call_meets F.slot_list_append ⟨_, e, rfl⟩ F.entry_list_append (F.args_list_append_2 _ _) (PySem.list_append l its.toArray n u (by rw [List.size_toArray]; omega)) ⟨e, ?_⟩
  refine ⟨.non, _, I.lset (its' := its ++ [u]) hH e (by simp) (r.append (.cons ru .nil)) ?_, rfl, q⟩
  rw [List.length_append, List.length_singleton]
  omega
def rClear : V → List V → Hp → VK → Prop := fun x vs H Q => ∃ l xs, x = .ref l ∧ vs = [] ∧ H l = some (.lst xs) ∧ Q .non (upd H l (.lst []))
theorem mt_clear : MtM X "list.clear" rClear := by
  intro pins s σ H x vs v us Q I rx rv h
  obtain ⟨l, xs, rfl, rfl, hH, q⟩ := h
  cases rx
  have hus := rv.zero
  subst hus
  obtain ⟨z, its, n, r, hl, e⟩ := I.lstM hH
  refine call_meets F.slot_list_clear ⟨_, e, rfl⟩ F.entry_list_clear (F.args_list_clear_1 _) (AutoSeq1.list_clear_list_0 l its.toArray n (by rw [List.size_toArray]; omega)) ⟨e, ?_⟩
  exact ⟨.non, _, I.lset (its' := []) (ys := []) hH e rfl .nil (Nat.zero_le _), rfl, q⟩
end
section
variable {prog : Program} {w : World} {A : Around} {E : Value → Shared → Prop} {s : Shared}
end
section
variable {X : Cx}
end
end L2
namespace Att
open PySem PySem.W PySem.Calls PyProof.Rows
theorem ints_of_wellAll {P : Params} {h : Heap} : ∀ (ns : List Int) (vs : List Value), WellAll P h vs (ns.map WData.int) → IntsAre vs ns := by
  intro ns
  induction ns with
  | nil =>
    intro vs w
    rw [List.map_nil] at w
    cases w
    exact .nil
  | cons n ns ih =>
    intro vs w
    rw [List.map_cons] at w
    cases w with
    | cons a b =>
      cases a
      exact .cons _ _ (ih _ b)
theorem script_of {l : OpenLaw} {n : Nat} (hn : l.most = some n) {P : Params} {h : Heap} {args : List WData} {vals : List Value}
    (hpre : l.row.toRowW.claim.pre args = true) (hwl : WellAll P h vals args) :
    ∃ a vs ns, vals = [Value.ref a] ∧ args = [WData.list (ns.map WData.int)] ∧ h.get? a = some { cls := .type "list", data := .seq vs.toArray } ∧ IntsAre vs ns ∧ ns.length ≤ n := by
  have hsh : WShape.hasAll [] args [.list .int] = true := (pre_splitW hpre).1
  have hc : l.pre.holds [] { args := args } = true := (pre_splitW hpre).2
  obtain ⟨d, r, rfl, h1, h2⟩ := hasAllW_cons hsh
  obtain rfl := hasAllW_nil h2
  obtain ⟨xs, rfl, h3⟩ := hasW_list h1
  obtain ⟨ns, rfl⟩ := items_int h3
  have hlen : ns.length ≤ n := by
    unfold OpenLaw.pre at hc
    have h4 : (WTm.not (.lt (.lit (.int (n : Int))) (.len (.arg 0)))).holds [] { args := [.list (ns.map .int)] } = true := by
      have h4 := (holds_andW hc).1
      rw [hn] at h4
      exact h4
    have h5 := condW_of h4 (w_not (w_lt w_lit (w_len_list (w_arg rfl))))
    rw [List.length_map] at h5
    refine Nat.le_of_not_lt fun q => ?_
    have q' : (n : Int) < ((ns.length : Nat) : Int) := by omega
    first
      | (rw [decide_eq_true q'] at h5; exact absurd h5 (by decide))
      | (simp at h5; omega)
  cases hwl with
  | cons w1 w2 =>
    cases w2
    cases w1 with
    | list ho hall => exact ⟨_, _, ns, rfl, rfl, ho, ints_of_wellAll ns _ hall, hlen⟩
theorem post_true (l : OpenLaw) (args : List WData) : l.row.toRowW.claim.post args (.bool true) args = true :=
  postW_of (r := l.row.toRowW) (X := (true == true))
    (show WShape.has [] (.bool true) .bool = true by first | rfl | decide | simp [WShape.has, WShape.arms, WShape.armsAll])
    (show (WTm.eq .res (.lit (.bool true))).value [] { args := args, res := some (.bool true), after := args } = some (.bool (true == true)) from w_eq_bool (w_res rfl) w_lit) rfl
theorem attach_call {l : OpenLaw} {n : Nat} {q : Program} {loose : List Str} {XP : (Str → Option Value) → Heap → Prop} {YP : World → Heap → Prop} {d : DefRec}
    (hn : l.most = some n) (hdf : d.params.defaults = [])
    (call : ∀ (w : World) (s₀ s₁ : Shared) (mg mb : Str → Option Value) (fa : Addr) (o : Obj) (pm cd doc : Value) (a : Addr) (vs : List Value) (ns : List Int),
      Ground q loose [] XP w s₀ mg mb s₁.heap → YP w s₁.heap →
      s₁.heap.get? fa = some o → o.data = .func (docDef d.name d.params d.body d.scope pm cd doc) → s₁.heap.CodeRec cd d.name → mg d.name = some (.ref fa) →
      s₁.heap.get? a = some { cls := .type "list", data := .seq vs.toArray } → IntsAre vs ns → ns.length ≤ n → s₁.gens = #[] →
      codeAny (model l.prog w) callerA (.call (.ref fa) ⟨[.ref a], []⟩) (fun r s' => r = .ok (.ret (.bool true)) ∧ OldK s₁.heap s'.heap ∧ s'.os = s₁.os ∧ AllBare s'.gens) s₁) :
    WalkO q loose XP YP l.row.toRowW d [] (fun f vs => PySem.call f vs) := by
  intro w s₀ s₁ mg mb G Y fa o pm cd doc dV kV ho hd hcd hD hmg hg args vals as hpre hlay hrd hwl hlo
  obtain rfl : dV = .none := Dflts.none hD hdf
  obtain rfl : kV = .none := Dflts.noKw hD
  obtain ⟨a, vs, ns, rfl, rfl, hobj, hints, hlen⟩ := script_of hn hpre hwl
  refine enter_call (codeAny_mono (call w s₀ s₁ mg mb fa o pm cd doc a vs ns G Y ho (fd_plain hd) hcd hmg hobj hints hlen hg) fun r s' hq => ?_)
  obtain ⟨rfl, h2, h3, h4⟩ := hq
  exact ⟨.inl ⟨.bool true, .bool true, [], rfl, fun _ => rfl, .bool true, post_true l _, fun _ => ⟨List.Pairwise.nil, fun _ hm => (nomatch hm)⟩⟩, h2, h3, h4⟩
section
variable {prog : Program} {w : World} {A : Around} {E : Value → Shared → Prop} {s : Shared} {K : Frag}
end
end Att
namespace L2
open PySem PySem.Spec PyProof.Rows
theorem vals_ints : ∀ {vs : List Value} {ns : List Int}, IntsAre vs ns → Vals (ns.map V.int) vs
  | _, _, .nil => .nil
  | _, _, .cons n t h => .cons ⟨t, rfl⟩ (vals_ints h)
def Only (H : Hp) : Prop := ∀ b, H b = none ∨ ∃ o xs, H b = some (.frz o (.lst xs))
theorem law_call {P : Program} {w : World} {K : PySem.W.Frag} {mg mb : Str → Option Value} {CX : CXT} {k : Nat} {fa a : Addr} {fd : FuncData} {x : Str} {sp : Sp} {s₁ : Shared} {vs : List Value} {ns : List Int}
    (KX : K.In s₁.heap) (hns : s₁.heap.Ns mainGlobals mg) (hb : s₁.heap.Ns builtinsNs mb) (hbb : ∀ x : Str, x ≠ "__name__" → mb x = bootBuiltins x) (hlim : s₁.heap.NoLimit) (hg : s₁.gens = #[])
    (ha : s₁.heap.get? a = some { cls := .type "list", data := .seq vs.toArray }) (hi : IntsAre vs ns) (hl : ns.length ≤ sizeLine) (hr : Room k callerA)
    (F : ∀ base : Heap, K.In base → base.Ns mainGlobals mg → FnOk P w K mg base CX k fa fd [x] sp) (hbind : ∀ (s : Shared) (u : Value), BindsTo s fd ⟨[u], []⟩ [(x, u)])
    (hsp : ∀ H : Hp, Only H → SqL K H a (ns.map V.int) → sp [.ref a] H (fun v _ => v = .bl true) fun _ _ _ => False)
    (hCX : ∀ H e s', CX [] H s₁ (fun _ _ _ => False) e s' → False) :
    codeAny (model P w) callerA (.call (.ref fa) ⟨[.ref a], []⟩) (fun r s' => r = .ok (.ret (.bool true)) ∧ OldK s₁.heap s'.heap ∧ s'.os = s₁.os ∧ AllBare s'.gens) s₁ := by
  have rv := vals_ints hi
  have lenV := hi.length
  -- from an abstract heap in which nothing but the script may be tracked
  have core : ∀ H : Hp, Only H → SqL K H a (ns.map V.int) → HOk P w H s₁.heap → (∀ b, H b ≠ none → b = a) → (H a ≠ none → K.lookup a = none) →
      codeAny (model P w) callerA (.call (.ref fa) ⟨[.ref a], []⟩) (fun r s' => r = .ok (.ret (.bool true)) ∧ OldK s₁.heap s'.heap ∧ s'.os = s₁.os ∧ AllBare s'.gens) s₁ := by
    intro H hO hS hok hA hK
    have base_of : ∀ {b : Addr} {o : Obj}, s₁.heap.get? b = some o → H b = none → (hidT s₁.heap H).get? b = some o := fun e n => hidT_get e n
    have noA : ∀ {b : Addr} {o : Obj} {es : Array DictEntry} {ep : Nat}, s₁.heap.get? b = some o → o.data = .dict es ep → H b = none := fun {b o es ep} e d => by
      cases q : H b with
      | none => rfl
      | some u =>
        have e' : b = a := hA b (by rw [q]; simp)
        subst e'
        rw [ha] at e; cases e
        have d' : Data.seq vs.toArray _ = Data.dict es ep := d
        cases d'
    have nsK : ∀ {b : Addr} {m : Str → Option Value}, s₁.heap.Ns b m → (hidT s₁.heap H).Ns b m := fun {b m} ⟨o, es, ep, e, d, r⟩ => ⟨o, es, ep, base_of e (noA e d), d, r⟩
    have hKb : K.In (hidT s₁.heap H) := fun b o e => base_of (KX b o e) (by
      cases q : H b with
      | none => rfl
      | some u =>
        have e' : b = a := hA b (by rw [q]; simp)
        subst e'
        rw [hK (by rw [q]; simp)] at e; cases e)
    have hM : Mod K mg (hidT s₁.heap H) := ⟨hKb, nsK hns, ⟨mb, nsK hb, hbb⟩, let ⟨mc, h1, h2⟩ := hlim; ⟨mc, nsK h1, h2⟩⟩
    have e0 : Env0 P w K mg (hidT s₁.heap H) callerA [] s₁ H := ⟨rfl, hM, fun b o e => of_hidT e, Nat.le_of_eq (hidT_size _ _), trivial, fun b hb => absurd (show b ∈ ([] : List Addr) from hb) (by simp), hok, .of_eq hg⟩
    refine codeAny_mono ((F _ hKb (nsK hns)).run callerA [] s₁ H ⟨[.ref a], []⟩ [.ref a] [.ref a] _ _ hr e0 (hbind s₁ (.ref a)) (.cons rfl .nil) (hsp H hO hS)) fun r s' h => ?_
    cases r with
    | error e => exact (hCX H e s' h).elim
    | ok fl =>
      cases fl with
      | next => exact False.elim h
      | brk => exact False.elim h
      | cont => exact False.elim h
      | ret u =>
        obtain ⟨v, H', os, bare, un, hok', r', q⟩ := h
        have q' : v = .bl true := q
        subst q'
        obtain rfl : u = Value.bool true := r'
        refine ⟨rfl, OldK.of_keep fun b o e => ?_, os, bare⟩
        cases q : H b with
        | none => exact un.keep b o e q (by intro z; exact absurd (show b ∈ ([] : List Addr) from z) (by simp)) (by simp)
        | some u =>
          rcases hO b with z | ⟨ob, xs, z⟩
          · rw [q] at z; cases z
          · have z2 := un.frzs b ob _ z
            obtain ⟨e1, _⟩ := hok b _ z
            obtain ⟨e2, _⟩ := hok' b _ z2
            rw [e] at e1; cases e1
            exact e2
  cases hk : K.lookup a with
  | some o =>
    -- the script is one of the module's own objects
    have e := KX a o hk
    rw [ha] at e
    cases e
    refine core (fun _ => none) (fun _ => .inl rfl) (.inr ⟨_, vs.toArray, _, hk, rfl, rfl, rfl, by rw [List.size_toArray, lenV]; exact hl, by simpa using rv⟩) (fun b u z => by have z' : (none : Option HO) = some u := z; cases z') (fun b z => absurd rfl z) fun z => absurd rfl z
  | none =>
    refine core (fun b => if b = a then some (.frz { cls := .type "list", data := .seq vs.toArray } (.lst (ns.map V.int))) else none) (fun b => ?_) (.inl (.inr ⟨{ cls := .type "list", data := .seq vs.toArray }, if_pos rfl⟩)) (fun b u z => ?_) (fun b z => ?_) fun _ => hk
    · by_cases hb : b = a
      · exact .inr ⟨_, _, if_pos hb⟩
      · exact .inl (if_neg hb)
    · by_cases hb : b = a
      · have z' := (if_pos hb).symm.trans z
        cases z'
        subst hb
        exact ⟨ha, by rw [List.length_map]; exact hl, vs, _, rv, ha⟩
      · have z' := (if_neg hb).symm.trans z
        cases z'
    · by_cases hb : b = a
      · exact hb
      · exact absurd (if_neg hb) z
end L2
namespace L2
open PySem PySem.Spec PyProof.Rows
theorem walk_of {l : PySem.W.OpenLaw} {n k : Nat} {q : Program} {loose : List Str} {XP : (Str → Option Value) → Heap → Prop} {YP : World → Heap → Prop} {d : DefRec} {K : Params → PySem.W.Frag} {CX : World → CXT} {sp : World → Sp} {x : Str}
    (hn : l.most = some n) (hn2 : n ≤ sizeLine) (hdf : d.params.defaults = []) (hr : Room k callerA)
    (hY : ∀ (w : World) (h : Heap), YP w h → (K w.params).In h)
    (F : ∀ (w : World) (mg : Str → Option Value) (fa : Addr) (h : Heap), (K w.params).In h → h.Ns mainGlobals mg → mg d.name = some (.ref fa) →
      ∃ fd : FuncData, (∀ (s : Shared) (u : Value), BindsTo s fd ⟨[u], []⟩ [(x, u)]) ∧
        ∀ base : Heap, (K w.params).In base → base.Ns mainGlobals mg → FnOk l.prog w (K w.params) mg base (CX w) k fa fd [x] (sp w))
    (hsp : ∀ (w : World) (H : Hp) (a : Addr) (ns : List Int), ns.length ≤ n → Only H → SqL (K w.params) H a (ns.map V.int) → sp w [.ref a] H (fun v _ => v = .bl true) fun _ _ _ => False)
    (hCX : ∀ (w : World) (H : Hp) (s : Shared) (e : Value) (s' : Shared), CX w [] H s (fun _ _ _ => False) e s' → False) :
    PySem.W.WalkO q loose XP YP l.row.toRowW d [] (fun f vs => PySem.call f vs) := by
  refine Att.attach_call hn hdf fun w s₀ s₁ mg mb fa o pm cd doc a vs ns G Y ho hd hcd hmg hobj hints hlen hg => ?_
  have KX := hY w _ Y
  obtain ⟨fd, hb, hF⟩ := F w mg fa _ KX G.T.g hmg
  exact law_call KX G.T.g G.T.b G.T.builtins G.T.nolimit hg hobj hints (Nat.le_trans hlen hn2) hr hF hb (fun H hO hS => hsp w H a ns hlen hO hS) fun H e s' => hCX w H s₁ e s'
end L2
namespace L2
open PySem PySem.Spec PyProof.Rows
def inClass (s : Stmt) (j : Nat) : Stmt := match s with
  | .ClassDef _ _ _ body _ _ _ _ _ _ _ => body.getD j (.Pass ⟨0, 0, 0, 0⟩)
  | _ => .Pass ⟨0, 0, 0, 0⟩
def defArgs (s : Stmt) : Arguments := match s with
  | .FunctionDef _ a _ _ _ _ _ _ _ _ => a
  | _ => { posonlyargs := [], args := [], vararg := none, kwonlyargs := [], kw_defaults := [], kwarg := none, defaults := [] }
def defBody (s : Stmt) : List Stmt := match s with
  | .FunctionDef _ _ b _ _ _ _ _ _ _ => b
  | _ => []
def defScope (s : Stmt) : Scope := match s with
  | .FunctionDef _ _ _ _ _ _ sc _ _ _ => sc
  | _ => { kind := .function, names := [], isGenerator := false, isCoroutine := false }
abbrev CX0 : CXT := fun _ _ _ _ _ _ => False
abbrev E0 : XK := fun _ _ _ => False
theorem pass0 {X : Cx} : Passes CX0 X E0 := fun _ _ _ _ _ _ _ h => h.elim
structure Fun (K : PySem.W.Frag) (x qual : Str) (st : Stmt) (f : Addr) (fd : FuncData) : Prop where
  ex : ∃ (oc : Value) (od : Option Addr) (kV doc pm : Value) (an : Option Addr) (cdv ct : Value) (osl : Array (Option Value)),
    fd = PySem.W.fnOf x qual (defArgs st) (defBody st) (defScope st) .none kV doc pm an cdv ct ∧ K.lookup f = some ⟨oc, od, .func fd, osl⟩ ∧ PySem.W.codeIn K cdv qual = true
  kp : PySem.W.keepIn K (.ref f) = true
section
variable {P : Program} {w : World} {K : PySem.W.Frag} {mg : Str → Option Value} {base : Heap}
theorem Fun.ok {x qual : Str} {st : Stmt} {f : Addr} {fd : FuncData} {N ps : List Str} {k : Nat} {sp : Sp} (F : Fun K x qual st f fd) (S : FnScope N ps (defScope st)) (len : ∀ vs H Q E, sp vs H Q E → vs.length = ps.length)
    (hbody : ∀ (cdv : Value) (A : Around) (outer : List Env) (s : Shared) (H : Hp) (vs : List V) (Q : VK) (E : XK), Room k (A.deeper (envOfC qual (defScope st) s.heap.objs.size f cdv)) → sp vs H Q E →
      ∃ t, PSs (cxOf CX0 P w K mg base N qual (defScope st) f cdv A outer s H E).nox (defBody st) t ∧ t { nx := fun _ H' => Q .non H', rt := Q } (start N vs) H) : FnOk P w K mg base CX0 (k + 1) f fd ps sp := by
  obtain ⟨oc, od, kV, doc, pm, an, cdv, ct, osl, rfl, lk, hcd⟩ := F.ex
  refine fn_of lk hcd S len fun A outer s H vs Q E hr hsp => ?_
  obtain ⟨t, h, q⟩ := hbody cdv A outer s H vs Q E hr hsp
  exact ⟨t, h.nox, q⟩
theorem Fun.binds {x qual : Str} {st : Stmt} {f : Addr} {fd : FuncData} {ps : List Str} (F : Fun K x qual st f fd)
    (h : ∀ (kV doc pm : Value) (an : Option Addr) (cdv ct : Value) (us : List Value), us.length = ps.length → bindArgs (PySem.W.fnOf x qual (defArgs st) (defBody st) (defScope st) .none kV doc pm an cdv ct) ⟨us, []⟩ = pure (ps.zip us)) : Binds K fd ps [] := by
  obtain ⟨oc, od, kV, doc, pm, an, cdv, ct, osl, rfl, lk, hcd⟩ := F.ex
  exact .all (h kV doc pm an cdv ct)
theorem fun_mk {x qual : Str} {st : Stmt} {f : Addr} {oc : Value} {od an : Option Addr} {osl : Array (Option Value)} {kV doc pm cdv ct : Value} (l : K.lookup f = some ⟨oc, od, .func (PySem.W.fnOf x qual (defArgs st) (defBody st) (defScope st) .none kV doc pm an cdv ct), osl⟩)
    (c : PySem.W.codeIn K cdv qual = true) (k : PySem.W.keepIn K (.ref f) = true) : Fun K x qual st f (PySem.W.fnOf x qual (defArgs st) (defBody st) (defScope st) .none kV doc pm an cdv ct) := ⟨⟨oc, od, kV, doc, pm, an, cdv, ct, osl, rfl, l, c⟩, k⟩
end
theorem hu_of {A : Around} {k : Nat} (hr : Room k A) : A.units + 1 < cLine := Nat.lt_of_le_of_lt (Nat.add_le_add_left (by decide : 1 ≤ 64) _) hr.units
section
variable {X : Cx}
theorem pv (i : Nat) {x : Str} {pos : Pos} (hN : X.N[i]? = some x := by rfl) (hv : Vis X.env.scope x := by first | exact Or.inl rfl | exact Or.inr (Or.inl rfl) | exact Or.inr (Or.inr rfl)) (hd : (x == ("__debug__" : Str)) = false := by decide)
    (hcd : (x == ("__classdict__" : Str)) = false := by decide) : PE X (.Name x pos) (tVar i) := pe_var hN hv hd hcd
end
theorem iteF {A B : Prop} (h : B) : if false = true then A else B := by
  rw [if_neg Bool.false_ne_true]
  exact h
theorem iteT {A B : Prop} (h : A) : if true = true then A else B := by
  rw [if_pos rfl]
  exact h
theorem ite2 {c A B : Prop} [Decidable c] (h1 : c → A) (h2 : ¬ c → B) : if c then A else B := by
  by_cases h : c
  · rw [if_pos h]
    exact h1 h
  · rw [if_neg h]
    exact h2 h
theorem iteNS {c A B : Prop} [Decidable c] (hc : c) (h : B) : if (!decide c) = true then A else B := by
  rw [decide_eq_true hc]
  exact iteF h
def Same (H H' : Hp) : Prop := ∀ b o, H b = some o → H' b = some o
theorem Same.refl (H : Hp) : Same H H := fun _ _ h => h
theorem Same.trans {H H1 H2 : Hp} (a : Same H H1) (b : Same H1 H2) : Same H H2 := fun c o h => b c o (a c o h)
theorem Same.free {H H' : Hp} (e : Same H H') {l : Addr} (h : H' l = Option.none) : H l = Option.none := by
  cases q : H l with
  | none => rfl
  | some o =>
    rw [e l o q] at h
    cases h
theorem Same.seq {K : PySem.W.Frag} {H H' : Hp} {a : Addr} {xs : List V} (e : Same H H') (h : SqL K H a xs) : SqL K H' a xs := by
  rcases h with (h | ⟨o, h⟩) | h
  · exact .inl (.inl (e _ _ h))
  · exact .inl (.inr ⟨o, e _ _ h⟩)
  · exact .inr h
end L2
set_option Elab.async false
set_option linter.all false
set_option maxRecDepth 100000
set_option maxHeartbeats 4000000
namespace L2
open PySem PySem.Spec PyProof.Rows
section
variable {prog : Program} {w : World} {A : Around} {R : Result → Shared → Prop} {s : Shared}
theorem compLoop_go {elt target iter : Expr} {scope : Scope} {pos : Pos} {it acc : Value} {env : Env} (I : Nat → Shared → Prop)
    (turn : ∀ n s, I n s → wpAny (model prog w) A (pyNext it) (fun r s₁ => match r with
      | none => R (.ok .next) s₁
      | some v => wpAny (model prog w) A (letOwnedTupleGo target it v) (fun _ s₀ => wpAny (model prog w) A (assign target env v) (fun _ s₂ => wpAny (model prog w) A (eval elt env) (fun x s₃ =>
          wpAny (model prog w) A (call (.builtin "list.append") [acc, x]) (fun _ s₄ => ∃ m, m < n ∧ I m s₄) (fun _ _ => False) s₃) (fun _ _ => False) s₂) (fun _ _ => False) s₀) (fun _ _ => False) s₁) (fun _ _ => False) s)
    (n : Nat) (h : I n s) : codeAny (model prog w) A (.compLoop (.ListComp elt [⟨target, iter, [], 0⟩] scope pos) 0 it acc env) R s := by
  refine codeAny_loop rfl I (fun n s hI => ?_) n h
  show wpAny _ _ ((compTurn (.ListComp elt [⟨target, iter, [], 0⟩] scope pos) 0 it acc env).onRaise (fun x => do noteFrame x env; theTreesLotGoes x)) _ _ s
  refine wpAny_noted ?_
  rw [compTurn_list1]
  refine wpAny_bind (wpAny_standAt (wpAny_bind (wpAny_mono (turn n s hI) (fun r s₁ h₁ => ?_) fun _ _ h' => h'.elim)))
  cases r with
  | none => exact wpAny_pure h₁
  | some v =>
    refine wpAny_bind (wpAny_mono h₁ (fun _ s₀ h₀ => ?_) fun _ _ h' => h'.elim)
    exact wpAny_bind (wpAny_mono h₀ (fun _ s₂ h₂ => wpAny_bind (wpAny_bind (wpAny_mono h₂ (fun x s₃ h₃ => wpAny_bind (wpAny_mono h₃
      (fun _ s₄ h₄ => wpAny_pure (wpAny_pure ⟨rfl, h₄⟩)) fun _ _ h' => h'.elim)) fun _ _ h' => h'.elim))) fun _ _ h' => h'.elim)
end
def cxComp (X : Cx) (Nc : List Str) (scope : Scope) (cl : List (Str × Addr)) (C : Addr) (s : Shared) (H : Hp) (ex : List Addr) : Cx where
  prog := X.prog
  w := X.w
  K := X.K
  mg := X.mg
  base := X.base
  A := X.A
  N := Nc
  s₀ := s
  H₀ := H
  env := compEnvC scope cl C X.env
  outer := X.stack
  stack := X.stack
  ex := ex
  fn := fun _ => false
  calm := X.calm
  pn := []
  xe := fun _ _ => False
def CompGo (te : TE) (fv : St) (Q : VK) (J : It) (H1 : Hp) : Prop := ∃ W : Nat → Nat → List V → Hp → Prop, (∃ m, W 0 m [] H1) ∧ ∀ i m ys H2, W i m ys H2 →
  (J.stop i H2 ∧ ys.length ≤ sizeLine ∧ ∀ D, H2 D = none → Q (.ref D) (upd H2 D (.lst ys))) ∨
  (J.go i H2 ∧ ys.length < sizeLine ∧ ∀ x H3, J.yld i H2 x H3 → te (some x :: fv) H3 fun y H4 => ∃ m', m' < m ∧ W (i + 1) m' (ys ++ [y]) H4)
def tComp (wi : TI) (fv : St → St) (te : TE) : TE := fun σ H Q => wi σ H (CompGo te (fv σ) Q)
structure CompScope (X : Cx) (x : Str) (fns : List Str) (ixs : List Nat) (scope : Scope) (cl : List (Str × Addr)) : Prop where
  clos : closureFor scope X.env = pure cl
  sub : ∀ y c, cl.lookup y = some c → X.env.cells.lookup y = some c
  cell : ∀ y ∈ scope.names, y.2 ≠ .cell
  kind : scope.kind = .function
  names : ∀ y ∈ scope.names, y.2 = .local → scope.names.lookup y.1 = some .local
  own : scope.names.lookup x = some .local
  has : ∀ y, ((relabel scope X.env).names.lookup y = some .cell ∨ (relabel scope X.env).names.lookup y = some .free) → ∃ c, cl.lookup y = some c
  nd : (x :: fns).Nodup
  len : ixs.length = fns.length
  at_ : ∀ (j : Nat) (y : Str), fns[j]? = some y → ∃ i : Nat, ixs[j]? = some i ∧ X.N[i]? = some y ∧ (X.env.kindOf y = some .cell ∨ X.env.kindOf y = some .free) ∧ ∃ c, cl.lookup y = some c ∧ ((relabel scope X.env).names.lookup y = some .cell ∨ (relabel scope X.env).names.lookup y = some .free)
def fvOf (ixs : List Nat) : St → St := fun σ => ixs.map fun i => (σ[i]?).join
section
variable {X : Cx} {elt iter : Expr} {x : Str} {px pos : Pos} {scope : Scope} {cl : List (Str × Addr)} {fns : List Str} {ixs : List Nat} {wi : TI} {te : TE}
theorem relabel_own (hx : scope.names.lookup x = some .local) : (relabel scope X.env).names.lookup x = some .local := lookup_relabel_local hx
theorem pe_comp (hc : X.calm = true) (hi : PI X (.Name x px) iter wi) (S : CompScope X x fns ixs scope cl)
    (he : ∀ (C : Addr) (s : Shared) (H : Hp) (ex : List Addr), PE (cxComp X (x :: fns) scope cl C s H ex) elt te)
    (hs : ∀ x, foldedSetIterable iter X.env x = pure x := by intro _; rfl) :
    PE X (.ListComp elt [⟨.Name x px, iter, [], 0⟩] scope pos) (tComp wi (fvOf ixs) te) := by
  intro pins s σ H Q I h
  rw [eval_ListComp]
  refine wpAny_comprehension_free (use := none) rfl hs S.clos S.kind S.names (thn (hi pins s σ H _ I h) fun v s1 h1 => thn h1 fun itv s2 h2 => ?_)
  obtain ⟨it, fp, tn, J, H2, e, I2, T, st2, f2, W, ⟨m0, w0⟩, turn⟩ := h2
  subst e
  have hfpLt : ∀ b ∈ fp, b < s2.heap.objs.size := fun b hb => by
    obtain ⟨o, ho, _⟩ := T.obj _ _ st2 b hb
    exact Heap.lt_size ho
  refine wpAny_newObj_type (wpAny_newFunctionEnv S.cell (by intro y hy; simp at hy) (fun h₁ hns₁ hsb₁ => ?_) S.kind)
  dsimp only at hns₁ hsb₁ ⊢
  generalize hH3 : s2.heap.push { cls := .type "list", dict := none, data := .seq ([] : List Value).toArray } = hp3 at hns₁ hsb₁ ⊢
  generalize hD : s2.heap.objs.size = D at hfpLt ⊢
  have hC : hp3.objs.size = D + 1 := by rw [← hH3, Heap.size_push, hD]
  generalize hCe : hp3.objs.size = C at hC hns₁ hsb₁ ⊢
  have hDltC : D < C := by omega
  have hDC : D ≠ C := Nat.ne_of_lt hDltC
  have k23 : ∀ b u, s2.heap.get? b = some u → hp3.get? b = some u := fun b u q => by rw [← hH3]; exact Heap.get?_push_of_some _ q
  have ltD : ∀ {b u}, s2.heap.get? b = some u → b < D := fun q => by rw [← hD]; exact Heap.lt_size q
  have k34 : ∀ b u, hp3.get? b = some u → h₁.get? b = some u := fun b u q =>
    hsb₁.extBut b u (Nat.ne_of_lt (Nat.lt_of_lt_of_le (Heap.lt_size q) (Nat.le_of_eq hCe))) (Heap.get?_push_of_some _ q)
  have hDo : hp3.get? D = some { cls := .type "list", dict := none, data := .seq ([] : List Value).toArray } := by rw [← hH3, ← hD]; exact Heap.get?_push_size _ rfl
  have I3 : Inv X pins σ H2 { s2 with heap := hp3 } := I2.kept (t' := s2.toks) k23
  have hnD : H2 D = none := I2.hok.fresh (by omega)
  have hnC : H2 C = none := I2.hok.fresh (by omega)
  have nstk : ∀ b ∈ D :: fp, b ∉ frs X.stack := fun b hb z => by
    rcases List.mem_cons.mp (I2.stkSub b z) with e | z
    · rcases List.mem_cons.mp hb with e2 | hb
      · exact absurd I2.lt (by rw [← e, e2, ← hD]; exact Nat.lt_irrefl _)
      · exact (f2 b hb).2.1 e
    · rcases List.mem_cons.mp hb with e2 | hb
      · exact I2.nofs (by rw [e2, ← hD]; exact Nat.le_refl _) z
      · exact (f2 b hb).2.2.1 z
  have cne : ∀ y c, cl.lookup y = some c → ∀ b ∈ D :: fp, c ≠ b := fun y c q b hb z => by
    obtain ⟨v, hv⟩ := I2.cell y c (S.sub y c q)
    rcases List.mem_cons.mp hb with e2 | hb
    · exact absurd hv.lt (by rw [z, e2, ← hD]; exact Nat.lt_irrefl _)
    · exact (f2 b hb).2.2.2.2.1 y c (S.sub y c q) z
  -- the block's context
  let Xc : Cx := cxComp X (x :: fns) scope cl C { s2 with heap := hp3 } H2 (D :: fp)
  have ok : Xc.Ok := {
    mod := I2.ok.mod
    kind := S.kind
    glob := I2.ok.glob
    blt := I2.ok.blt
    above := by show hp3.objs.size ≤ C; omega
    inj := fun y z c q1 q2 => I2.ok.inj y z c (S.sub _ _ q1) (S.sub _ _ q2)
    has := S.has
    cab := fun y c q => nomatch q
    hd := I2.ok.hd
    frames := I2.ok.frames
    stk := .inl rfl
    exf := fun b hb => ⟨by
      rcases List.mem_cons.mp hb with e2 | hb
      · rw [e2]; exact hDC
      · exact Nat.ne_of_lt (Nat.lt_trans (hfpLt b hb) hDltC), fun y c q => cne y c q b hb⟩
    bs := I3.bs
    bsz := Nat.le_trans I3.ok.bsz I3.sz
    noex := fun b o q hb => by
      rcases List.mem_cons.mp hb with e2 | hb
      · exact absurd (ltD (I2.bs b o q).1) (by rw [e2]; exact Nat.lt_irrefl _)
      · rcases (f2 b hb).2.2.2.1 with z | z
        · exact I2.ok.noex b o q z
        · exact absurd (Heap.lt_size (I2.ok.bs b o q).1) (Nat.not_lt.mpr z)
    exfs := nstk
    funs := I3.stack
    frf := I3.stkFree }
  have start : ∀ (v0 : Option V) , v0 = none → Inv Xc [(D, { cls := .type "list", dict := none, data := .seq ([] : List Value).toArray })] (v0 :: fvOf ixs σ) H2 { s2 with heap := h₁, toks := s2.toks + ([] : List (Str × Value)).length } := fun v0 hv0 => {
    ok := ok
    os := rfl
    bare := I2.bare
    base := Un.kept k34
    loc := ⟨_, hns₁, fun i y v e1 e2 e3 => by
      cases i with
      | zero => rw [hv0] at e2; cases e2
      | succ j =>
        have e1' : fns[j]? = some y := e1
        have e2' : (fvOf ixs σ)[j]? = some (some v) := e2
        obtain ⟨i, hi1, hi2, hk, c, hc1, hc2⟩ := S.at_ j y e1'
        unfold fvOf at e2'
        rw [List.getElem?_map, hi1] at e2'
        have e3' : σ[i]? = some (some v) := by
          have z : (σ[i]?).join = some v := Option.some.inj e2'
          cases q : σ[i]? with
          | none => rw [q] at z; cases z
          | some o => rw [q] at z; rw [show o = some v from z]
        obtain ⟨m, _, hl⟩ := I2.loc
        obtain ⟨u, r, l⟩ := hl i y v hi2 e3' (hk.elim (fun z => .inr (.inl z)) fun z => .inr (.inr z))
        refine ⟨u, r, .inr ⟨hc2, c, hc1, ?_⟩⟩
        rcases l with ⟨z, _⟩ | ⟨_, c', hc', hcell⟩
        · rcases hk with hk | hk <;> (rw [hk] at z; cases z)
        · have : c' = c := Option.some.inj (hc'.symm.trans (S.sub _ _ hc1))
          subst this
          obtain ⟨o, ho, hd⟩ := hcell
          exact ⟨o, k34 _ _ (k23 _ _ ho), hd⟩⟩
    cell := fun y c q => by
      obtain ⟨v, o, ho, hd⟩ := I2.cell y c (S.sub y c q)
      exact ⟨v, o, k34 _ _ (k23 _ _ ho), hd⟩
    free := hnC
    freeC := fun y c q => I2.freeC y c (S.sub y c q)
    pin := fun p hp => by
      have hp' : p = (D, { cls := .type "list", dict := none, data := .seq ([] : List Value).toArray }) := by simpa [Xc, cxComp] using hp
      subst hp'
      exact ⟨k34 _ _ hDo, hnD, hDC, nstk D (List.mem_cons_self ..), fun v z => nomatch z⟩
    hok := (I2.hok.kept k23).kept k34
    len := by show (v0 :: fvOf ixs σ).length = (x :: fns).length; simp [fvOf, S.len] }
  -- what stays true of the iterator's objects
  have fpc : ∀ {H' : Hp} {pins' : List (Addr × Obj)}, (∀ b ∈ fp, H' b = none) → (∀ p ∈ pins', p.1 = D) → ∀ b ∈ fp, FpOk Xc pins' H' b := fun {H' pins'} hn hp b hb =>
    ⟨hn b hb, Nat.ne_of_lt (Nat.lt_trans (hfpLt b hb) hDltC), nstk b (List.mem_cons_of_mem _ hb), .inl (List.mem_cons_of_mem _ hb), fun y c q => cne y c q b (List.mem_cons_of_mem _ hb), fun p q => by
      have q' : p ∈ pins' := by simpa [Xc, cxComp] using q
      rw [hp p q']
      exact Nat.ne_of_gt (hfpLt b hb)⟩
  have loop : codeAny (model X.prog X.w) X.A (.compLoop (.ListComp elt [⟨.Name x px, iter, [], 0⟩] scope pos) 0 (.ref it) (.ref D) (compEnvC scope cl C X.env))
      (compPost (model X.prog X.w) X.A X.xe none (EP X pins σ Q) (.ref D) C) { s2 with heap := h₁, toks := s2.toks + ([] : List (Str × Value)).length } := by
    refine compLoop_go (fun n s' => ∃ (i : Nat) (ys : List V) (its : List Value) (nn : Nat) (v0 : Option V) (H' : Hp), Inv Xc [(D, { cls := .type "list", dict := none, data := .seq its.toArray nn })] (v0 :: fvOf ixs σ) H' s' ∧ tn i s'.heap ∧ (∀ b ∈ fp, H' b = none) ∧ Vals ys its ∧ W i n ys H') ?_ m0
      ⟨0, [], [], 0, none, H2, start none rfl, T.keep _ _ _ st2 fun b _ o q => k34 _ _ (k23 _ _ q), fun b hb => (f2 b hb).1, .nil, w0⟩
    rintro n s3 ⟨i, ys, its, nn, v0, H3, J3, tn3, fr3, vv, w3⟩
    have pinD : ∀ p ∈ ([(D, ({ cls := .type "list", dict := none, data := .seq its.toArray nn } : Obj))] : List (Addr × Obj)), p.1 = D := fun p hp => by
      have : p = (D, { cls := .type "list", dict := none, data := .seq its.toArray nn }) := by simpa using hp
      rw [this]
    rcases turn i n ys H3 w3 with ⟨stop, hlen, q⟩ | ⟨go, hlen, step⟩
    · -- the end
      refine thn (T.done Xc rfl rfl rfl hc i _ s3 _ H3 _ J3 (fpc fr3 pinD) tn3 stop) fun r s4 ⟨hr, J4⟩ => ?_
      subst hr
      obtain ⟨m, hn, _⟩ := J4.loc
      refine ⟨m, hn, fun h'' hsb => ?_⟩
      obtain ⟨gD, nD, _, _, _⟩ := J4.pin (D, { cls := .type "list", dict := none, data := .seq its.toArray nn }) (by simp [Xc, cxComp])
      have B := J4.base
      have kC : ∀ b u, b ≠ C → s4.heap.get? b = some u → h''.get? b = some u := fun b u hb q => (hsb.2 b hb).trans q
      have ne : ∀ {b o}, s2.heap.get? b = some o → b ≠ C ∧ b ≠ D := fun q => ⟨Nat.ne_of_lt (Nat.lt_trans (ltD q) hDltC), Nat.ne_of_lt (ltD q)⟩
      have nex : ∀ {b o}, s2.heap.get? b = some o → b ∉ fp → b ∉ D :: fp := fun q hx z => (List.mem_cons.mp z).elim (ne q).2 hx
      have uu : Un (frs X.stack) fp H2 (upd H3 D (.lst ys)) s2.heap h'' := {
        keep := fun b o q n hb hx => kC b o (ne q).1 (B.keep b o (k23 b o q) n hb (nex q hx))
        slot := fun b o q n hb hx => by
          obtain ⟨sl, e⟩ := B.slot b o (k23 b o q) n hb (nex q hx)
          exact ⟨sl, kC b _ (ne q).1 e⟩
        free := fun b o q n hx => by rw [upd_ne (ne q).2]; exact B.free b o (k23 b o q) n (nex q hx)
        there := fun b o q hx => by
          obtain ⟨o', e⟩ := B.there b o (k23 b o q) (nex q hx)
          exact ⟨o', kC b _ (ne q).1 e⟩
        tups := fun b xs q => by rw [upd_ne (ne_of_none q hnD)]; exact B.tups b xs q
        frzs := fun b o xs q => by rw [upd_ne (ne_of_none q hnD)]; exact B.frzs b o xs q
        tbls := fun b ps q => by
          obtain ⟨more, e⟩ := B.tbls b ps q
          exact ⟨more, by rw [upd_ne (ne_of_none q hnD)]; exact e⟩ }
      have hok : HOk X.prog X.w (upd H3 D (.lst ys)) h'' := fun b u e => by
        by_cases hb : b = D
        · subst hb
          rw [upd_same] at e
          cases e
          exact ⟨hlen, its, nn, vv, kC _ _ hDC gD⟩
        · rw [upd_ne hb] at e
          refine (J4.hok b u e).stay (fun c v hc q => kC c v ?_ q) (fun c q => by rw [upd_ne (ne_of_none q nD)]; exact q) fun c xs q => by rw [upd_ne (ne_of_none q nD)]; exact q
          have fC : H3 C = none := J4.free
          rcases hc with rfl | hc
          · exact ne_of_none e fC
          · exact ne_of_none hc fC
      exact ⟨.ref D, _, I2.call' (s' := { s4 with heap := h'' }) J4.os uu hok J4.bare (fun b hb => ⟨(f2 b hb).2.2.2.1, (f2 b hb).2.1, (f2 b hb).2.2.2.2.1, (f2 b hb).2.2.2.2.2⟩), rfl, q D nD⟩
    · -- a turn
      refine thn (T.item Xc rfl rfl rfl hc i _ s3 _ H3 _ J3 (fpc fr3 pinD) tn3 go) fun r s4 ⟨u, hr, h4⟩ => ?_
      subst hr
      refine thn h4 fun _ s5 ⟨xv, H5, J5, r5, y5, tn5, fr5⟩ => ?_
      have J5' := J5.pinned (fpc fr5 pinD) (T.obj _ _ tn5)
      have hg : PG Xc (.Name x px) (gName 0) := pg_name (X := Xc) (i := 0) S.nd rfl (.inl (relabel_own S.own)) (.inr (relabel_own S.own))
      refine thn (hg _ s5 _ H5 xv u (fun σ' H' => σ' = some xv :: fvOf ixs σ ∧ H' = H5) J5' r5 ⟨rfl, rfl⟩) fun _ s6 ⟨σ6, H6, J6, e6, e6'⟩ => ?_
      subst e6 e6'
      refine thn (he C { s2 with heap := hp3 } H2 (D :: fp) _ s6 _ H6 _ J6 (step xv H6 y5)) fun yv s7 ⟨y, H7, J7, r7, m', hm', w7⟩ => ?_
      obtain ⟨gD, nD, _, _, _⟩ := J7.pin (D, { cls := .type "list", dict := none, data := .seq its.toArray nn }) (by simp [Xc, cxComp])
      have tn7 : tn (i + 1) s7.heap := T.keep _ _ _ tn5 fun b hb o e => (J7.pin (b, o) (List.mem_append_right _ (List.mem_append_right _ (mem_pinsAt hb e)))).1
      have fr7 : ∀ b ∈ fp, H7 b = none := fun b hb => by
        obtain ⟨o, e, d⟩ := T.obj _ _ tn5 b hb
        exact (J7.pin (b, o) (List.mem_append_right _ (List.mem_append_right _ (mem_pinsAt hb e)))).2.1
      have J7' : Inv Xc [] (some xv :: fvOf ixs σ) H7 s7 := J7.pins_of fun p hp => nomatch hp
      refine wpAny_list_append_plain (hsz := by rw [List.size_toArray, ← vv.length]; omega) ⟨nn, gD⟩ fun h8 pl8 sb8 => ?_
      obtain ⟨n8, g8⟩ := pl8
      have J8 : Inv Xc [] (some xv :: fvOf ixs σ) H7 { s7 with heap := h8 } := J7'.turned (t' := s7.toks) (it := D) (fun b o hb e => (sb8.2 b hb).trans e) nD (hDC) (.inl (List.mem_cons_self ..))
        (fun y c q => cne y c q D (List.mem_cons_self ..)) (fun p hp => by simp [Xc, cxComp] at hp)
      refine ⟨m', hm', i + 1, ys ++ [y], its ++ [yv], n8, some xv, H7, J8.pins_of fun p hp => ?_, ?_, fr7, vv.append (.cons r7 .nil), w7⟩
      · have : p = (D, { cls := .type "list", dict := none, data := .seq (its ++ [yv]).toArray n8 }) := by simpa using hp
        subst this
        refine ⟨?_, nD, hDC, nstk D (List.mem_cons_self ..), fun v z => nomatch z⟩
        have : its.toArray.push yv = (its ++ [yv]).toArray := by simp
        rw [this] at g8
        exact g8
      · exact T.keep _ _ _ tn7 fun b hb o e => (sb8.2 b (Nat.ne_of_lt (hfpLt b hb))).trans e
  exact codeAny_compStart_list loop (T.self _ 0 _ _ _ (T.keep _ _ _ st2 fun b _ o q => k34 _ _ (k23 _ _ q)) loop)
end
theorem compScope0 {X : Cx} {x : Str} {scope : Scope} (hf : ∀ y ∈ scope.names, y.2 ≠ .free) (hc : ∀ y ∈ scope.names, y.2 ≠ .cell) (hk : scope.kind = .function)
    (hn : ∀ y ∈ scope.names, y.2 = .local → scope.names.lookup y.1 = some .local) (hx : scope.names.lookup x = some .local) : CompScope X x [] [] scope [] where
  clos := closureFor_none hf
  sub := fun y c h => nomatch h
  cell := hc
  kind := hk
  names := hn
  own := hx
  has := fun y h => by
    have e : (relabel scope X.env).names = scope.names := by
      unfold relabel
      refine map_eq_self fun z hz => ?_
      obtain ⟨n, k⟩ := z
      have : (k == NameKind.free) = false := by simpa using hf _ hz
      simp [this]
    rw [e] at h
    rcases h with h | h
    · exact absurd rfl (hc _ (PySem.mem_of_lookup h))
    · exact absurd rfl (hf _ (PySem.mem_of_lookup h))
  nd := by simp
  len := rfl
  at_ := fun j y h => by simp at h
theorem itt_go {K : PySem.W.Frag} {H : Hp} {a : Addr} {xs : List V} (h : SqT K H a xs) : ∀ i, i < xs.length → (Itt K a).go i H := fun i hi => ⟨xs, xs[i], h, List.getElem?_eq_getElem hi⟩
theorem itt_yld {K : PySem.W.Frag} {H : Hp} {a : Addr} {xs : List V} (h : SqT K H a xs) : ∀ i x H3, i < xs.length → (Itt K a).yld i H x H3 → H3 = H ∧ xs[i]? = some x := fun i x H3 _ y => ⟨y.1, y.2 xs h⟩
theorem itt_stop {K : PySem.W.Frag} {H : Hp} {a : Addr} {xs : List V} (h : SqT K H a xs) : (Itt K a).stop xs.length H := ⟨xs, h, Nat.le_refl _⟩
theorem itl_go {K : PySem.W.Frag} {H : Hp} {a : Addr} {xs : List V} (h : SqL K H a xs) : ∀ i, i < xs.length → (Itl K a).go i H := fun i hi => ⟨xs, xs[i], h, List.getElem?_eq_getElem hi⟩
theorem itl_yld {K : PySem.W.Frag} {H : Hp} {a : Addr} {xs : List V} (h : SqL K H a xs) : ∀ i x H3, i < xs.length → (Itl K a).yld i H x H3 → H3 = H ∧ xs[i]? = some x := fun i x H3 _ y => ⟨y.1, y.2 xs h⟩
theorem itl_stop {K : PySem.W.Frag} {H : Hp} {a : Addr} {xs : List V} (h : SqL K H a xs) : (Itl K a).stop xs.length H := ⟨xs, h, Nat.le_refl _⟩
def tCut (t : TS) : TS := fun D σ H => ∃ G : St → Hp → Prop, t { D with nx := G } σ H ∧ ∀ σ' H', G σ' H' → D.nx σ' H'
theorem ps_cut {X : Cx} {st : Stmt} {t : TS} (h : PS X st t) : PS X st (tCut t) := by
  intro pins s σ H D I ⟨G, h1, h2⟩
  refine thn (h pins s σ H { D with nx := G } I h1) fun f s' q => ?_
  cases f with
  | next => obtain ⟨σ', H', I', g⟩ := q; exact ⟨σ', H', I', h2 σ' H' g⟩
  | _ => exact q
theorem relabel_mem {scope : Scope} {env : Env} {y : Str} {k : NameKind} (h : (relabel scope env).names.lookup y = some k) (hk : k = .cell ∨ k = .free) (hc : ∀ z ∈ scope.names, z.2 ≠ .cell) : (y, NameKind.free) ∈ scope.names := by
  have hm := PySem.mem_of_lookup h
  unfold relabel at hm
  obtain ⟨⟨n, k'⟩, hz, e⟩ := List.mem_map.mp hm
  dsimp only at e
  by_cases hf : (k' == NameKind.free && env.scope.kind == .function && env.kindOf n == some .cell) = true
  · rw [if_pos hf] at e
    have e1 : n = y := congrArg Prod.fst e
    rw [Bool.and_eq_true, Bool.and_eq_true] at hf
    have e2 : k' = .free := eq_of_beq hf.1.1
    rw [← e1, ← e2]
    exact hz
  · rw [if_neg hf] at e
    have e1 : n = y := congrArg Prod.fst e
    have e2 : k' = k := congrArg Prod.snd e
    subst e1 e2
    rcases hk with rfl | rfl
    · exact absurd rfl (hc _ hz)
    · exact hz
theorem lookup_relabel_free {env : Env} (hf : env.scope.kind = .function) {y : Str} (hy : env.kindOf y = some .cell) : ∀ {names : List (Str × NameKind)}, names.lookup y = some .free →
    (names.map fun (n, k) => if (k == NameKind.free && env.scope.kind == .function && env.kindOf n == some .cell) then (n, NameKind.cell) else (n, k)).lookup y = some .cell
  | [], h => by simp at h
  | (n, k) :: r, h => by
    have ih := @lookup_relabel_free env hf y hy r
    show List.lookup y ((if (k == NameKind.free && env.scope.kind == .function && env.kindOf n == some .cell) = true then (n, NameKind.cell) else (n, k)) :: _) = _
    cases hx : y == n with
    | true =>
      simp only [List.lookup_cons, hx] at h
      have e : y = n := eq_of_beq hx
      subst e
      cases h
      have hc : (NameKind.free == NameKind.free && env.scope.kind == .function && env.kindOf y == some .cell) = true := by rw [hf, hy]; rfl
      rw [if_pos hc]
      simp only [List.lookup_cons, hx]
    | false =>
      simp only [List.lookup_cons, hx] at h
      by_cases hc : (k == NameKind.free && env.scope.kind == .function && env.kindOf n == some .cell) = true
      · rw [if_pos hc]; simp only [List.lookup_cons, hx]; exact ih h
      · rw [if_neg hc]; simp only [List.lookup_cons, hx]; exact ih h
theorem compScope1 {X : Cx} {x y : Str} {scope : Scope} {c : Addr} {i : Nat} (hclos : closureFor scope X.env = pure [(y, c)]) (hy : X.env.cells.lookup y = some c) (hc : ∀ z ∈ scope.names, z.2 ≠ .cell) (hk : scope.kind = .function)
    (hn : ∀ z ∈ scope.names, z.2 = .local → scope.names.lookup z.1 = some .local) (hx : scope.names.lookup x = some .local) (hfree : ∀ z ∈ scope.names, z.2 = .free → z.1 = y) (hxy : x ≠ y) (hi : X.N[i]? = some y)
    (hky : X.env.kindOf y = some .cell) (hkf : X.env.scope.kind = .function) (hys : scope.names.lookup y = some .free) : CompScope X x [y] [i] scope [(y, c)] where
  clos := hclos
  sub := fun z d h => by
    by_cases e : z = y
    · subst e
      have : c = d := by simpa [List.lookup_cons] using h
      rw [← this]
      exact hy
    · have hb : (z == y) = false := beq_eq_false_iff_ne.mpr e
      simp [List.lookup_cons, hb] at h
  cell := hc
  kind := hk
  names := hn
  own := hx
  has := fun z h => by
    have e : z = y := by
      rcases h with h | h
      · exact hfree _ (relabel_mem h (.inl rfl) hc) rfl
      · exact hfree _ (relabel_mem h (.inr rfl) hc) rfl
    subst e
    exact ⟨c, by simp [List.lookup_cons]⟩
  nd := by simp [hxy]
  len := rfl
  at_ := fun j z h => by
    cases j with
    | zero =>
      have e : y = z := by simpa using h
      subst e
      exact ⟨i, rfl, hi, .inl hky, c, by simp [List.lookup_cons], .inl (lookup_relabel_free hkf hky hys)⟩
    | succ j => simp at h
end L2
set_option Elab.async false
set_option linter.all false
set_option maxRecDepth 100000
set_option maxHeartbeats 4000000
namespace L2
open PySem PySem.Spec PyProof.Rows
namespace Rv
theorem slot_init : Slot "reversed" "__init__" "object.__init__" :=
  .of (owner := "object") (n := "__init__") (by rw [typeLookup_type, builtinLookup_eq_fast]; kernel_rfl) (by decide +kernel) (by decide +kernel) (by decide +kernel)
    (by first | exact .inl (by decide +kernel) | exact .inr (by decide +kernel)) (by rw [isSubtype_type]; kernel_rfl)
theorem called : TypeCalled "reversed" "reversed.__new__" "object.__init__" :=
  ⟨by decide +kernel, by decide +kernel, ⟨_, _, PySem.F.mro_reversed⟩, PySem.F.made_reversed, by decide +kernel, by rw [isSubtype_type]; kernel_rfl, slot_init⟩
def IsRv (h : Heap) (it t : Addr) (i : Int) : Prop := ∃ o, h.get? it = some o ∧ o.cls = .type "reversed" ∧ o.data = .fields #[.ref t, rawInt i]
theorem IsRv.typeIs {s : Shared} {it t : Addr} {i : Int} (x : IsRv s.heap it t i) : s.TypeIs (.ref it) "reversed" := let ⟨o, ho, hc, _⟩ := x; ⟨o, ho, hc⟩
theorem IsRv.at {h h' : Heap} {it t : Addr} {i : Int} (x : IsRv h it t i) (e : ∀ o, h.get? it = some o → h'.get? it = some o) : IsRv h' it t i := let ⟨o, ho, r⟩ := x; ⟨o, e _ ho, r⟩
section
variable {prog : Program} {w : World} {A : Around} {E : Value → Shared → Prop} {s : Shared}
end
end Rv
section
variable {X : Cx} {tg : Expr}
end
end L2
set_option Elab.async false
set_option linter.all false
set_option maxRecDepth 100000
set_option maxHeartbeats 4000000
namespace L2
open PySem PySem.Spec PyProof.Rows
def intV (ns : List Int) : List V := ns.map V.int
theorem ints_at {ns : List Int} {i : Nat} {z : Int} (h : ns[i]? = some z) : (intV ns)[i]? = some (V.int z) := by
  unfold intV; rw [List.getElem?_map, h]; rfl
theorem ints_len (ns : List Int) : (intV ns).length = ns.length := List.length_map ..
theorem ints_of_at {ns : List Int} {i : Nat} {v : V} (h : (intV ns)[i]? = some v) : ∃ z, v = V.int z ∧ ns[i]? = some z := by
  unfold intV at h
  rw [List.getElem?_map] at h
  cases e : ns[i]? with
  | none => rw [e] at h; cases h
  | some z => rw [e] at h; exact ⟨z, (Option.some.inj h).symm, rfl⟩
theorem ints_app (a b : List Int) : intV (a ++ b) = intV a ++ intV b := List.map_append ..
section
variable {X : Cx}
theorem eqItems {A : Around} {s : Shared} {ns ms : List Int} {its its2 : List Value} (r1 : Vals (intV ns) its) (r2 : Vals (intV ms) its2) (j : Nat) (h1 : j < its.toArray.size) (h2 : j < its2.toArray.size) :
    SeqAt.EqAt A s its.toArray[j] its2.toArray[j] (decide (ns[j]? = ms[j]?)) := by
  have l1 := r1.length
  have l2 := r2.length
  rw [ints_len] at l1 l2
  have g1 : j < its.length := by simpa using h1
  have g2 : j < its2.length := by simpa using h2
  have e1 : ns[j]? = some ns[j] := List.getElem?_eq_getElem (by omega)
  have e2 : ms[j]? = some ms[j] := List.getElem?_eq_getElem (by omega)
  obtain ⟨u, hu, t, rfl⟩ := r1.get (ints_at e1)
  obtain ⟨v, hv, t', rfl⟩ := r2.get (ints_at e2)
  have f1 : its.toArray[j] = Value.int ns[j] t := by
    rw [List.getElem_toArray]
    exact Option.some.inj ((List.getElem?_eq_getElem g1).symm.trans hu)
  have f2 : its2.toArray[j] = Value.int ms[j] t' := by
    rw [List.getElem_toArray]
    exact Option.some.inj ((List.getElem?_eq_getElem g2).symm.trans hv)
  rw [f1, f2, e1, e2]
  have := SeqAt.EqAt.int_int (A := A) (s := s) ns[j] t ms[j] t'
  have e : decide (some ns[j] = some ms[j]) = (ns[j] == ms[j]) := by
    rw [Bool.eq_iff_iff, decide_eq_true_iff, beq_iff_eq]
    exact ⟨Option.some.inj, congrArg some⟩
  rw [e]
  exact this
def rIsi (K : PySem.W.Frag) : List V → Hp → VK → Prop := fun xs H Q => ∃ x T t b, xs = [x, .ty T] ∧ TyOf K H x t ∧ PySem.W.kitOne K t (.type T) = some b ∧ Q (.bl b) H
theorem call_isi : CallR X (.builtin "isinstance") (rIsi X.K) := by
  intro pins s σ H xs us Q I r h
  obtain ⟨x, T, t, b, rfl, ty, e, q⟩ := h
  obtain ⟨u, w', rfl, rx, ry⟩ := vals2 r
  cases ry
  exact isinst_ok I rx ty e fun tk => ⟨.bl b, H, I.tok tk, rfl, q⟩
theorem kit_self (K : PySem.W.Frag) (T : String) : PySem.W.kitOne K (.type T) (.type T) = some true := by
  unfold PySem.W.kitOne
  rw [if_pos (beq_self_eq_true _)]
theorem kit_int_bool (K : PySem.W.Frag) : PySem.W.kitOne K (.type "int") (.type "bool") = some false := by
  first | rfl | kernel_rfl | decide +kernel
end
end L2
set_option Elab.async false
set_option linter.all false
set_option maxRecDepth 100000
set_option maxHeartbeats 4000000
namespace L2
open PySem PySem.Spec PyProof.Rows
theorem Same.upd {H : Hp} {a : Addr} {o : HO} (h : H a = Option.none) : Same H (upd H a o) := fun b u e => by
  rw [upd_ne (ne_of_none e h)]
  exact e
section
variable {X : Cx}
end
end L2
namespace HT
open PySem PyProof.Rows
section
variable {prog : Program} {w : World} {A : Around} {E : Value → Shared → Prop} {s : Shared}
end
end HT
namespace L2
open PySem PySem.Spec PyProof.Rows
section
variable {X : Cx} {e : Expr} {te : TE} {lo hi : Option Expr} {st : Expr} {tl th ts : TO} {pos p2 : Pos}
end
end L2
set_option Elab.async false
set_option linter.all false
set_option maxRecDepth 100000
set_option maxHeartbeats 4000000
namespace L2
open PySem PySem.Spec PyProof.Rows
def tx (l : List Nat) : Str := ⟨l.toArray⟩
section
variable {X : Cx} {pos : Pos}
theorem pe_strX {x : Str} {l : List Nat} {j} (h : x = tx l) : PE X (.Constant (.str x) j pos) (tC (.str (tx l))) := by
  rw [← h]
  exact pe_str
end
end L2
set_option Elab.async false
set_option linter.all false
set_option maxRecDepth 100000
set_option maxHeartbeats 4000000
namespace L2
open PySem PySem.Spec PyProof.Rows
structure Def (K : PySem.W.Frag) (mg : Str → Option Value) (x : Str) (st : Stmt) (ps : List Str) (f : Addr) (fd : FuncData) : Prop where
  F : Fun K x x st f fd
  m : mg x = some (.ref f)
  b : Binds K fd ps []
section
variable {X : Cx}
end
theorem cut_ints (ns : List Int) (lo hi : Option Int) : cutV (intV ns) lo hi = intV ((ns.drop (HT.sIx ns.length 0 lo)).take (HT.sIx ns.length ns.length hi - HT.sIx ns.length 0 lo)) := by
  unfold cutV intV
  rw [List.length_map, List.map_take, List.map_drop]
theorem emod_nat (r : Int) {n : Nat} (h : 0 < n) : ∃ j : Nat, r % (n : Int) = (j : Int) ∧ j < n := by
  have h1 := Int.emod_nonneg r (show (n : Int) ≠ 0 by omega)
  have h2 := Int.emod_lt_of_pos r (show (0 : Int) < (n : Int) by omega)
  exact ⟨(r % (n : Int)).toNat, by omega, by omega⟩
end L2
set_option Elab.async false
set_option linter.all false
set_option maxRecDepth 100000
namespace L2
open PySem PySem.Spec PyProof.Rows
section
variable {κ : Type} [DecidableEq κ]
def valV (kvs : List (κ × V)) (k : κ) : Option V := (kvs.find? fun kv => decide (kv.1 = k)).map (·.2)
def putK (kvs : List (κ × V)) (k : κ) (v : V) : List (κ × V) :=
  if (kvs.any fun kv => decide (kv.1 = k)) = true then kvs.map (fun kv => if kv.1 = k then (kv.1, v) else kv) else kvs ++ [(k, v)]
def dropK (kvs : List (κ × V)) (k : κ) : List (κ × V) := kvs.filter fun kv => decide (kv.1 ≠ k)
theorem valV_pos {p : κ × V} {r : List (κ × V)} {k : κ} (e : p.1 = k) : valV (p :: r) k = some p.2 := by simp [valV, List.find?_cons, e]
theorem valV_neg {p : κ × V} {r : List (κ × V)} {k : κ} (e : ¬ p.1 = k) : valV (p :: r) k = valV r k := by simp [valV, List.find?_cons, e]
theorem valV_any (k : κ) : ∀ kvs : List (κ × V), (kvs.any fun kv => decide (kv.1 = k)) = (valV kvs k).isSome
  | [] => rfl
  | p :: r => by
    rw [List.any_cons]
    by_cases e : p.1 = k
    · simp only [valV_pos e, decide_eq_true e, Bool.true_or, Option.isSome_some]
    · rw [valV_neg e, decide_eq_false e, Bool.false_or]; exact valV_any k r
theorem valV_map (k j : κ) (y : V) : ∀ kvs : List (κ × V), valV (kvs.map fun kv => if kv.1 = k then (kv.1, y) else kv) j = (valV kvs j).map fun x => if j = k then y else x
  | [] => rfl
  | p :: r => by
    have ih := valV_map k j y r
    rw [List.map_cons]
    by_cases h : p.1 = k
    · rw [if_pos h]
      by_cases e : p.1 = j
      · rw [valV_pos (p := (p.1, y)) e, valV_pos e, Option.map_some, if_pos (e.symm.trans h)]
      · rw [valV_neg (p := (p.1, y)) e, valV_neg e, ih]
    · rw [if_neg h]
      by_cases e : p.1 = j
      · rw [valV_pos (p := p) e, valV_pos e, Option.map_some, if_neg (fun z => h (e.trans z))]
      · rw [valV_neg (p := p) e, valV_neg e, ih]
theorem valV_snoc (k j : κ) (y : V) : ∀ kvs : List (κ × V), valV kvs k = none → valV (kvs ++ [(k, y)]) j = if j = k then some y else valV kvs j
  | [], _ => by
    by_cases e : k = j
    · rw [if_pos e.symm]; exact valV_pos (p := (k, y)) e
    · rw [if_neg (fun z => e z.symm)]; exact valV_neg (p := (k, y)) e
  | p :: r, hn => by
    rw [List.cons_append]
    have hk : ¬ p.1 = k := fun z => by rw [valV_pos z] at hn; cases hn
    rw [valV_neg hk] at hn
    have ih := valV_snoc k j y r hn
    by_cases e : p.1 = j
    · rw [valV_pos e, valV_pos e, if_neg (fun z => hk (e.trans z))]
    · rw [valV_neg e, valV_neg e, ih]
theorem valV_put (kvs : List (κ × V)) (k j : κ) (y : V) : valV (putK kvs k y) j = if j = k then some y else valV kvs j := by
  unfold putK
  by_cases a : (kvs.any fun kv => decide (kv.1 = k)) = true
  · rw [if_pos a, valV_map]
    rw [valV_any] at a
    by_cases e : j = k
    · obtain ⟨x, hx⟩ := Option.isSome_iff_exists.mp a
      rw [if_pos e, e, hx, Option.map_some, if_pos rfl]
    · rw [if_neg e]
      cases valV kvs j with
      | none => rfl
      | some x => rw [Option.map_some, if_neg e]
  · rw [if_neg a]
    refine valV_snoc k j y kvs ?_
    rw [valV_any] at a
    cases q : valV kvs k with
    | none => rfl
    | some x => rw [q] at a; exact (a rfl).elim
theorem length_putK (kvs : List (κ × V)) (k : κ) (v : V) : (putK kvs k v).length ≤ kvs.length + 1 := by
  unfold putK
  split
  · rw [List.length_map]; omega
  · rw [List.length_append, List.length_cons, List.length_nil]; omega
theorem putK_new {kvs : List (κ × V)} {k : κ} (v : V) (h : valV kvs k = none) : putK kvs k v = kvs ++ [(k, v)] := by
  unfold putK
  rw [valV_any, h]
  exact if_neg (by decide)
theorem RelO.isSome_eq {o : Option V} {u : Option Value} (r : RelO o u) : o.isSome = u.isSome := by
  cases o with
  | none => cases u with
    | none => rfl
    | some _ => exact (show False from r).elim
  | some _ => cases u with
    | none => exact (show False from r).elim
    | some _ => rfl
theorem RelO.getD {o : Option V} {u : Option Value} {d : V} {d' : Value} (r : RelO o u) (rd : RelV d d') : RelV (o.getD d) (u.getD d') := by
  cases o with
  | none => cases u with
    | none => exact rd
    | some _ => exact (show False from r).elim
  | some _ => cases u with
    | none => exact (show False from r).elim
    | some _ => exact r
theorem KV.val {kvs : List (κ × V)} {vs : List (κ × Value)} (r : KV kvs vs) (k : κ) : RelO (valV kvs k) (valueAt vs k) := by
  unfold KV at r
  induction r with
  | nil => exact True.intro
  | @cons p q ps qs h t ih =>
    obtain ⟨h1, h2⟩ := h
    by_cases e : p.1 = k
    · have e' : q.1 = k := h1.symm.trans e
      have b : valueAt (q :: qs) k = some q.2 := by simp [valueAt, List.find?_cons, e']
      rw [valV_pos e, b]; exact h2
    · have e' : ¬ q.1 = k := fun z => e (h1.trans z)
      have b : valueAt (q :: qs) k = valueAt qs k := by simp [valueAt, List.find?_cons, e']
      rw [valV_neg e, b]; exact ih
theorem KV.any {kvs : List (κ × V)} {vs : List (κ × Value)} (r : KV kvs vs) (k : κ) : (kvs.any fun kv => decide (kv.1 = k)) = vs.any fun kv => decide (kv.1 = k) := by
  unfold KV at r
  induction r with
  | nil => rfl
  | cons h t ih => rw [List.any_cons, List.any_cons, ih, h.1]
theorem KV.repl {kvs : List (κ × V)} {vs : List (κ × Value)} (r : KV kvs vs) (k : κ) {y : V} {u : Value} (ry : RelV y u) :
    KV (kvs.map fun kv => if kv.1 = k then (kv.1, y) else kv) (vs.map fun kv => if kv.1 = k then (kv.1, u) else kv) := by
  unfold KV at r ⊢
  induction r with
  | nil => exact .nil
  | @cons p q ps qs h t ih =>
    rw [List.map_cons, List.map_cons]
    refine .cons ?_ ih
    obtain ⟨h1, h2⟩ := h
    by_cases e : p.1 = k
    · rw [if_pos e, if_pos (h1.symm.trans e)]; exact ⟨h1, ry⟩
    · rw [if_neg e, if_neg (fun z => e (h1.trans z))]; exact ⟨h1, h2⟩
theorem KV.put {kvs : List (κ × V)} {vs : List (κ × Value)} (r : KV kvs vs) (k : κ) {y : V} {u : Value} (ry : RelV y u) : KV (putK kvs k y) (stored vs k u) := by
  unfold putK stored
  rw [r.any k]
  by_cases e : (vs.any fun kv => decide (kv.1 = k)) = true
  · rw [if_pos e, if_pos e]; exact r.repl k ry
  · rw [if_neg e, if_neg e]; exact Paired.snoc r ⟨rfl, ry⟩
theorem KV.drop {kvs : List (κ × V)} {vs : List (κ × Value)} (r : KV kvs vs) (k : κ) : KV (dropK kvs k) (without vs k) := by
  unfold KV at r ⊢
  unfold dropK without
  induction r with
  | nil => exact .nil
  | @cons p q ps qs h t ih =>
    obtain ⟨h1, h2⟩ := h
    rw [List.filter_cons, List.filter_cons]
    by_cases e : p.1 = k
    · have a : ¬ decide (p.1 ≠ k) = true := by simp [e]
      have b : ¬ decide (q.1 ≠ k) = true := by simp [h1.symm.trans e]
      rw [if_neg a, if_neg b]; exact ih
    · have e' : ¬ q.1 = k := fun z => e (h1.trans z)
      have a : decide (p.1 ≠ k) = true := by simp [e]
      have b : decide (q.1 ≠ k) = true := by simp [e']
      rw [if_pos a, if_pos b]; exact .cons ⟨h1, h2⟩ ih
theorem KV.keys {kvs : List (κ × V)} {vs : List (κ × Value)} (r : KV kvs vs) : kvs.map (·.1) = vs.map (·.1) := by
  unfold KV at r
  induction r with
  | nil => rfl
  | cons h t ih => rw [List.map_cons, List.map_cons, ih, h.1]
theorem KV.length {kvs : List (κ × V)} {vs : List (κ × Value)} (r : KV kvs vs) : kvs.length = vs.length := Paired.length r
theorem dropK_le (kvs : List (κ × V)) (k : κ) : (dropK kvs k).length ≤ kvs.length := List.length_filter_le _ _
end
theorem kV_is {P : Program} {w : World} {k : Key} {u : Value} (r : RelV (kV k) u) : (mixKind P w).is k u = true := by
  cases k with
  | inl i => obtain ⟨t, e⟩ := (show ∃ t, u = Value.int i t from r); subst e; exact mixKind_int P w i t
  | inr x => obtain ⟨t, e⟩ := (show ∃ t, u = Value.str x t from r); subst e; exact mixKind_str P w x t
theorem items_are {P : Program} {w : World} : ∀ {ks : List Key} {us : List Value}, Vals (ks.map kV) us → ItemsAre (mixKind P w) ks us
  | [], _, r => by rw [List.map_nil] at r; cases r; exact .nil
  | k :: ks, _, r => by
    rw [List.map_cons] at r
    cases r with
    | cons h t => exact .cons (kV_is h) (items_are t)
abbrev KT (H : Hp) : List (List Key × V) → List (List Key × Addr × Value) → Prop := Paired fun p q => p.1 = q.1 ∧ H q.2.1 = some (.tup (p.1.map kV)) ∧ RelV p.2 q.2.2
theorem KT.val {H : Hp} {kvs : List (List Key × V)} {xs : List (List Key × Addr × Value)} (r : KT H kvs xs) (k : List Key) : RelO (valV kvs k) ((atKey xs k).map (·.2)) := by
  induction r with
  | nil => exact True.intro
  | @cons p q ps qs h t ih =>
    obtain ⟨h1, _, h2⟩ := h
    by_cases e : p.1 = k
    · have e' : q.1 = k := h1.symm.trans e
      have b : atKey (q :: qs) k = some q.2 := by simp [atKey, List.find?_cons, e']
      rw [valV_pos e, b]; exact h2
    · have e' : ¬ q.1 = k := fun z => e (h1.trans z)
      have b : atKey (q :: qs) k = atKey qs k := by simp [atKey, List.find?_cons, e']
      rw [valV_neg e, b]; exact ih
theorem KT.repl {H : Hp} {kvs : List (List Key × V)} {xs : List (List Key × Addr × Value)} (r : KT H kvs xs) (k : List Key) {y : V} {u : Value} (ry : RelV y u) :
    KT H (kvs.map fun kv => if kv.1 = k then (kv.1, y) else kv) (xs.map (putAt k u)) := by
  induction r with
  | nil => exact .nil
  | @cons p q ps qs h t ih =>
    rw [List.map_cons, List.map_cons]
    refine .cons ?_ ih
    obtain ⟨h1, h2, h3⟩ := h
    unfold putAt
    by_cases e : p.1 = k
    · rw [if_pos e, if_pos (h1.symm.trans e)]; exact ⟨h1, h2, ry⟩
    · rw [if_neg e, if_neg (fun z => e (h1.trans z))]; exact ⟨h1, h2, h3⟩
theorem KT.put {H : Hp} {kvs : List (List Key × V)} {xs : List (List Key × Addr × Value)} (r : KT H kvs xs) (k : List Key) {b : Addr} {y : V} {u : Value} (hb : H b = some (.tup (k.map kV))) (ry : RelV y u) :
    KT H (putK kvs k y) (storedH xs k b u) := by
  have e : (kvs.any fun kv => decide (kv.1 = k)) = (atKey xs k).isSome := by
    rw [valV_any, (r.val k).isSome_eq, Option.isSome_map]
  unfold putK storedH
  rw [e]
  by_cases q : (atKey xs k).isSome = true
  · rw [if_pos q, if_pos q]; exact r.repl k ry
  · rw [if_neg q, if_neg q]; exact Paired.snoc r ⟨rfl, hb, ry⟩
theorem KT.keeps {H H' : Hp} {kvs : List (List Key × V)} {xs : List (List Key × Addr × Value)} (r : KT H kvs xs) (ht : ∀ b ys, H b = some (.tup ys) → H' b = some (.tup ys)) : KT H' kvs xs :=
  Paired.mapP r fun _ _ z => ⟨z.1, ht _ _ z.2.1, z.2.2⟩
section
variable {P : Program} {w : World} {H : Hp} {h : Heap} {a : Addr}
theorem rd_of {u : HO} (ok : HOk P w H h) (e : Rd H a u) : ObjOk P w H h a u := e.ok ok
theorem dk_rd {kvs : List (Key × V)} (ok : HOk P w H h) (e : Rd H a (.dK kvs)) : kvs.length ≤ sizeLine ∧ (a == sysModules) = false ∧ ∃ vs, KV kvs vs ∧ h.DictOf (mixKind P w) a vs :=
  show ObjOk P w H h a (.dK kvs) from rd_of ok e
theorem dk_of {kvs : List (Key × V)} (ok : HOk P w H h) (e : H a = some (.dK kvs)) : kvs.length ≤ sizeLine ∧ (a == sysModules) = false ∧ ∃ vs, KV kvs vs ∧ h.DictOf (mixKind P w) a vs := dk_rd ok (.inl e)
theorem key_of {ks : List Key} (ok : HOk P w H h) (e : H a = some (.tup (ks.map kV))) : (tupleKind (mixKind P w)).is h ks a := by
  obtain ⟨_, its, r, o, h1, h2, n, h3⟩ := (show ObjOk P w H h a (.tup (ks.map kV)) from ok a _ e)
  exact ⟨o, its.toArray, n, h1, h2, h3, by simpa using items_are r⟩
theorem dt_rd {kvs : List (List Key × V)} (ok : HOk P w H h) (e : Rd H a (.dT kvs)) : kvs.length ≤ sizeLine ∧ (a == sysModules) = false ∧
    ∃ xs, KT H kvs xs ∧ h.DictOfH (tupleKind (mixKind P w)) a xs := by
  obtain ⟨z, y, xs, r, o, es, ep, h1, h2, h3, h4, h5⟩ := (show ObjOk P w H h a (.dT kvs) from rd_of ok e)
  refine ⟨z, y, xs, r, o, es, ep, h1, h2, h3, h4, fun x hx => ?_, h5⟩
  have all : ∀ {l : List (List Key × V)} {m : List (List Key × Addr × Value)}, KT H l m → ∀ x ∈ m, (tupleKind (mixKind P w)).is h x.1 x.2.1 := by
    intro l m q
    induction q with
    | nil => intro x hx; exact nomatch hx
    | @cons p q ps qs hq t ih =>
      intro x hx
      rcases List.mem_cons.mp hx with e | hx
      · subst e
        exact key_of ok (by rw [← hq.1]; exact hq.2.1)
      · exact ih x hx
  exact all r x hx
theorem dt_of {kvs : List (List Key × V)} (ok : HOk P w H h) (e : H a = some (.dT kvs)) : kvs.length ≤ sizeLine ∧ (a == sysModules) = false ∧
    ∃ xs, KT H kvs xs ∧ h.DictOfH (tupleKind (mixKind P w)) a xs := dt_rd ok (.inl e)
end
def DGet (H : Hp) (a : Addr) (y : V) (r : Option V) : Prop :=
  (∃ kvs k, Rd H a (.dK kvs) ∧ y = kV k ∧ r = valV kvs k) ∨ ∃ kvs k b, Rd H a (.dT kvs) ∧ y = .ref b ∧ H b = some (.tup (k.map kV)) ∧ r = valV kvs k
def DPut (H : Hp) (a : Addr) (y v : V) (H' : Hp) : Prop :=
  (∃ kvs k, H a = some (.dK kvs) ∧ y = kV k ∧ kvs.length < sizeLine ∧ H' = upd H a (.dK (putK kvs k v))) ∨
  ∃ kvs k b, H a = some (.dT kvs) ∧ y = .ref b ∧ H b = some (.tup (k.map kV)) ∧ kvs.length < sizeLine ∧ H' = upd H a (.dT (putK kvs k v))
theorem DGet.k {H : Hp} {a : Addr} {kvs : List (Key × V)} {k : Key} (e : H a = some (.dK kvs)) : DGet H a (kV k) (valV kvs k) := .inl ⟨kvs, k, .inl e, rfl, rfl⟩
theorem DGet.t {H : Hp} {a b : Addr} {kvs : List (List Key × V)} {k : List Key} (e : H a = some (.dT kvs)) (eb : H b = some (.tup (k.map kV))) : DGet H a (.ref b) (valV kvs k) := .inr ⟨kvs, k, b, .inl e, rfl, eb, rfl⟩
theorem DPut.k {H : Hp} {a : Addr} {kvs : List (Key × V)} {k : Key} {v : V} (e : H a = some (.dK kvs)) (hl : kvs.length < sizeLine) : DPut H a (kV k) v (upd H a (.dK (putK kvs k v))) := .inl ⟨kvs, k, e, rfl, hl, rfl⟩
theorem DPut.t {H : Hp} {a b : Addr} {kvs : List (List Key × V)} {k : List Key} {v : V} (e : H a = some (.dT kvs)) (eb : H b = some (.tup (k.map kV))) (hl : kvs.length < sizeLine) :
    DPut H a (.ref b) v (upd H a (.dT (putK kvs k v))) := .inr ⟨kvs, k, b, e, rfl, eb, hl, rfl⟩
section
variable {X : Cx} {pins : List (Addr × Obj)} {σ : St} {H : Hp} {s : Shared} {a : Addr} {y v : V} {u r : Value} {o : Option V} {A : Around} {E : Value → Shared → Prop}
theorem Inv.big (I : Inv X pins σ H s) : sysModules < s.heap.objs.size := by
  have h : mainGlobals < s.heap.objs.size := (I.mod.glob.keeps I.bk).lt
  exact Nat.lt_trans (by decide) h
theorem d_getItem {Q : Value → Shared → Prop} (hu : A.units + 1 < cLine) (I : Inv X pins σ H s) (g : DGet H a y (some v)) (ry : RelV y u) (h : ∀ w' s', Inv X pins σ H s' → RelV v w' → Q w' s') :
    wpAny (model X.prog X.w) A (getItem (.ref a) u) Q E s := by
  rcases g with ⟨kvs, k, e, ey, l⟩ | ⟨kvs, k, b, e, ey, eb, l⟩
  · subst ey
    obtain ⟨z, hd, vs, rel, dd⟩ := dk_rd I.hok e
    obtain ⟨w', hw, rw'⟩ := RelO.some_of (v := v) (o := valueAt vs k) (by rw [l]; exact rel.val k)
    exact wpAny_getItem_of (kV_is ry) dd.mapOf hw (h w' _ (I.tok _) rw')
  · subst ey
    cases (show u = Value.ref b from ry)
    obtain ⟨z, hd, xs, rel, dd⟩ := dt_rd I.hok e
    obtain ⟨w', hw, rw'⟩ := RelO.some_of (v := v) (o := (atKey xs k).map (·.2)) (by rw [l]; exact rel.val k)
    obtain ⟨p, hp, hp2⟩ := Option.map_eq_some_iff.mp hw
    refine wpAny_getItem_heap (tupleKind_room_in1 hu) (key_of I.hok eb) dd hp ?_
    rw [hp2]
    exact h w' _ (I.tok _) rw'
theorem d_notIn {Q : Value → Shared → Prop} (hu : A.units + 1 < cLine) (I : Inv X pins σ H s) (g : DGet H a y o) (ry : RelV y u) (h : ∀ s', Inv X pins σ H s' → Q (.bool (!o.isSome)) s') :
    wpAny (model X.prog X.w) A (compareOp .NotIn u (.ref a)) Q E s := by
  rcases g with ⟨kvs, k, e, ey, l⟩ | ⟨kvs, k, b, e, ey, eb, l⟩
  · subst ey
    obtain ⟨z, hd, vs, rel, dd⟩ := dk_rd I.hok e
    refine wpAny_notIn_of (kV_is ry) hd dd.mapOf ?_
    rw [← (rel.val k).isSome_eq, ← l]
    exact h _ (I.tok _)
  · subst ey
    cases (show u = Value.ref b from ry)
    obtain ⟨z, hd, xs, rel, dd⟩ := dt_rd I.hok e
    refine wpAny_notIn_heap (tupleKind_room_in1 hu) (key_of I.hok eb) hd dd ?_
    have q := (rel.val k).isSome_eq
    rw [Option.isSome_map] at q
    rw [← q, ← l]
    exact h _ (I.tok _)
theorem d_write {h' : Heap} {t' : Nat} {ob : HO} (I : Inv X pins σ H s) (mu : Mut (H a)) (hs : Heap.SameBut a s.heap h') (he : ∃ q, h'.get? a = some q) (new : ObjOk X.prog X.w (upd H a ob) h' a ob) :
    Inv X pins σ (upd H a ob) { s with heap := h', toks := t' } :=
  I.write (x := a) (e := a) mu (.inl rfl) (fun b q hb z => (hs.2 b hb).trans z) he new
theorem dk_new {P : Program} {w : World} {H' : Hp} {h' : Heap} {kvs : List (Key × V)} {vs : List (Key × Value)} (z : kvs.length ≤ sizeLine) (hd : (a == sysModules) = false) (rel : KV kvs vs) (dd : h'.DictOf (mixKind P w) a vs) :
    ObjOk P w H' h' a (.dK kvs) := ⟨z, hd, vs, rel, dd⟩
theorem d_setItem {H' : Hp} {Q : Unit → Shared → Prop} (hu : A.units + 1 < cLine) (I : Inv X pins σ H s) (g : DPut H a y v H') (ry : RelV y u) (rv : RelV v r) (h : ∀ s', Inv X pins σ H' s' → Q () s') :
    wpAny (model X.prog X.w) A (setItem (.ref a) u r) Q E s := by
  rcases g with ⟨kvs, k, e, ey, l, eH⟩ | ⟨kvs, k, b, e, ey, eb, l, eH⟩
  · subst ey eH
    obtain ⟨z, hd, vs, rel, dd⟩ := dk_of I.hok e
    have hz : vs.length ≤ sizeLine := by rw [← rel.length]; exact z
    have hl : (putK kvs k v).length ≤ sizeLine := by have := length_putK kvs k v; omega
    refine wpAny_setItem_pairs (hsz := hz) (kV_is ry) dd fun h' dd' hs => h _ ?_
    have he : ∃ q, h'.get? a = some q := let ⟨q, _, _, hq, _⟩ := dd'; ⟨q, hq⟩
    exact d_write I (by rw [e]; exact True.intro) hs he (dk_new hl hd (rel.put k rv) dd')
  · subst ey eH
    cases (show u = Value.ref b from ry)
    obtain ⟨z, hd, xs, rel, dd⟩ := dt_of I.hok e
    have hz : xs.length ≤ sizeLine := by rw [← Paired.length rel]; exact z
    have hl : (putK kvs k v).length ≤ sizeLine := by have := length_putK kvs k v; omega
    refine wpAny_setItem_heap (hsz := hz) (tupleKind_room_in1 hu) (key_of I.hok eb) dd fun h' dd' hs => h _ ?_
    obtain ⟨q, es, ep, hq, h2, h3, h4, _, h5⟩ := dd'
    refine d_write I (by rw [e]; exact True.intro) hs ⟨q, hq⟩ ⟨hl, hd, _, (rel.put k eb rv).keeps fun c ys ec => ?_, q, es, ep, hq, h2, h3, h4, h5⟩
    rw [upd_ne (ne_of ec e (fun z => nomatch z))]
    exact ec
end
section
variable {X : Cx} {pins : List (Addr × Obj)} {σ : St} {H : Hp} {s : Shared} {a : Addr} {kvs : List (Key × V)} {k : Key} {u : Value} {A : Around} {E : Value → Shared → Prop}
theorem d_pop {v : V} {more : List Value} {Q : Value → Shared → Prop} (I : Inv X pins σ H s) (e : H a = some (.dK kvs)) (ry : RelV (kV k) u) (l : valV kvs k = some v) (hm : more = [] ∨ ∃ x, more = [x])
    (h : ∀ w' s', Inv X pins σ (upd H a (.dK (dropK kvs k))) s' → RelV v w' → Q w' s') : wpAny (model X.prog X.w) A (call (.builtin "dict.pop") (.ref a :: u :: more)) Q E s := by
  obtain ⟨z, hd, vs, rel, dd⟩ := dk_of I.hok e
  obtain ⟨w', hw, rw'⟩ := RelO.some_of (v := v) (o := valueAt vs k) (by rw [← l]; exact rel.val k)
  have hp : (keyPart u).isSome = true := by
    cases k with
    | inl i => obtain ⟨t, q⟩ := (show ∃ t, u = Value.int i t from ry); subst q; rfl
    | inr x => obtain ⟨t, q⟩ := (show ∃ t, u = Value.str x t from ry); subst q; rfl
  have ha : argsOk "dict.pop" ⟨.ref a :: u :: more, []⟩ := by
    rcases hm with q | ⟨x, q⟩
    · subst q; exact PySem.F.args_dict_pop_2 _ _
    · subst q; exact PySem.F.args_dict_pop_3 _ _ _
  refine call_meetsIn PySem.F.slot_dict_pop dd.typeIs PySem.F.entry_dict_pop ha (meets_dict_pop_there (mixKind X.prog X.w) a (kV_is ry) more hm hp)
    ⟨vs, w', dd, by rw [← rel.length]; exact z, hw, fun h' dd' hs => h w' _ ?_ rw'⟩
  have he : ∃ q, h'.get? a = some q := let ⟨q, _, _, hq, _⟩ := dd'; ⟨q, hq⟩
  exact d_write I (by rw [e]; exact True.intro) hs he (dk_new (Nat.le_trans (dropK_le kvs k) z) hd (rel.drop k) dd')
theorem d_popD {r : Value} {Q : Value → Shared → Prop} (I : Inv X pins σ H s) (e : H a = some (.dK kvs)) (ry : RelV (kV k) u) (l : valV kvs k = none) (h : ∀ s', Inv X pins σ H s' → Q r s') :
    wpAny (model X.prog X.w) A (call (.builtin "dict.pop") [.ref a, u, r]) Q E s := by
  obtain ⟨z, hd, vs, rel, dd⟩ := dk_of I.hok e
  have hn : valueAt vs k = none := RelO.none_of (by rw [← l]; exact rel.val k)
  have hp : (keyPart u).isSome = true := by
    cases k with
    | inl i => obtain ⟨t, q⟩ := (show ∃ t, u = Value.int i t from ry); subst q; rfl
    | inr x => obtain ⟨t, q⟩ := (show ∃ t, u = Value.str x t from ry); subst q; rfl
  exact call_meetsIn PySem.F.slot_dict_pop dd.typeIs PySem.F.entry_dict_pop (PySem.F.args_dict_pop_3 _ _ _) (meets_dict_pop_default (mixKind X.prog X.w) a (kV_is ry) hd hp r) ⟨vs, dd, hn, h _ (I.tok _)⟩
end
def NoSl (i : Expr) : Prop := ∀ ov iv, subscripted i false ov iv = operate [ov, iv] (getItem ov iv)
theorem subD_of {prog : Program} {w : World} {A : Around} {E : Value → Shared → Prop} {s : Shared} {env : Env} {value slice : Expr} {pos : Pos} {T id : String} {Q : Value → Shared → Prop}
    (hl : typeLookup (.type T) "__getitem__" = pure (some (.builtin id))) (hs : NoSl slice)
    (h : wpAny (model prog w) A (eval value env) (fun o s₁ => wpAny (model prog w) A (eval slice env) (fun i s₂ => s₂.TypeIs o T ∧ wpAny (model prog w) A (getItem o i) Q E s₂) E s₁) E s) :
    wpAny (model prog w) A (eval (.Subscript value slice pos) env) Q E s := by
  refine Subscript_ (wpAny_mono h (fun o s₁ h₁ => wpAny_mono h₁ (fun i s₂ h₂ => ?_) fun _ _ x => x) fun _ _ x => x)
  obtain ⟨hT, h₂⟩ := h₂
  unfold subscriptTail
  refine wpAny_bind ?_
  rw [getitemInPython_of_ne hT.not_modules]
  refine wpAny_bind (wpAny_specialOf hT hl ?_)
  have fin : wpAny (model prog w) A (subscripted slice false o i) (fun r s₃ => wpAny (model prog w) A (letTemporaryGo value o r >>= fun _ => pure r) Q E s₃) E s₂ := by
    rw [hs o i]
    exact wpAny_operating (wpAny_mono h₂ (fun r s₃ h₃ => wpAny_bind (wpAny_letTemporaryGo (wpAny_pure h₃))) fun _ _ x => x)
  first
    | exact wpAny_pure (wpAny_bind fin)
    | exact wpAny_bind (wpAny_pure (wpAny_bind fin))
    | exact wpAny_bind fin
theorem dict_typeIs {X : Cx} {pins : List (Addr × Obj)} {σ : St} {H : Hp} {s : Shared} {a : Addr} {y : V} {o : Option V} (I : Inv X pins σ H s) (g : DGet H a y o) : s.TypeIs (.ref a) "dict" := by
  rcases g with ⟨kvs, k, e, _, _⟩ | ⟨kvs, k, b, e, _, _, _⟩
  · obtain ⟨_, _, vs, _, dd⟩ := dk_rd I.hok e
    exact dd.typeIs
  · obtain ⟨_, _, xs, _, dd⟩ := dt_rd I.hok e
    exact dd.typeIs
def tDGet (td ty : TE) : TE := fun σ H Q => td σ H fun x H1 => ty σ H1 fun y H2 => ∃ a v, x = .ref a ∧ DGet H2 a y (some v) ∧ Q v H2
def tDNotIn (ty td : TE) : TE := fun σ H Q => ty σ H fun y H1 => td σ H1 fun x H2 => ∃ a o, x = .ref a ∧ DGet H2 a y o ∧ Q (.bl (!o.isSome)) H2
def sDPut (td ty tv : TE) : TS := fun D σ H => tv σ H fun v H1 => td σ H1 fun x H2 => ty σ H2 fun y H3 => ∃ a H4, x = .ref a ∧ DPut H3 a y v H4 ∧ D.nx σ H4
section
variable {X : Cx} {o i e value : Expr} {pos pos' tpos : Pos} {td ty tv : TE}
theorem pe_dget (hu : X.A.units + 1 < cLine) (ho : PE X o td) (hi : PE X i ty) (hs : NoSl i) : PE X (.Subscript o i pos) (tDGet td ty) := by
  intro pins s σ H Q I h
  refine subD_of PySem.F.slot_dict_getitem.lookup hs (thn (ho pins s σ H _ I h) fun u s1 ⟨x, H1, I1, rx, q1⟩ => thn (hi pins s1 σ H1 _ I1 q1) fun iv s2 ⟨y, H2, I2, ry, a, v, ex, g, q2⟩ => ?_)
  subst ex
  obtain rfl : u = Value.ref a := rx
  exact ⟨dict_typeIs I2 g, d_getItem hu I2 g ry fun w' s3 I3 rw' => ⟨v, H2, I3, rw', q2⟩⟩
theorem pc_dnotin (hu : X.A.units + 1 < cLine) (hi : PE X i ty) (ho : PE X o td) : PC X .NotIn i o (tDNotIn ty td) := by
  intro pins s σ H Q I h
  refine thn (hi pins s σ H _ I h) fun iv s1 ⟨y, H1, I1, ry, q1⟩ => thn (ho pins s1 σ H1 _ I1 q1) fun u s2 ⟨x, H2, I2, rx, a, ov, ex, g, q2⟩ => ?_
  subst ex
  obtain rfl : u = Value.ref a := rx
  exact d_notIn hu I2 g ry fun s3 I3 => ⟨.bl (!ov.isSome), H2, I3, rfl, q2⟩
theorem ps_dput (hu : X.A.units + 1 < cLine) (ho : PE X o td) (hi : PE X i ty) (hv : PE X value tv) (hs : swapsWith value (some (.Subscript o i pos')) pos.line X.env = pure false) :
    PS X (.Assign [.Subscript o i pos'] value pos) (sDPut td ty tv) := by
  intro pins s σ H D I h
  refine wpAny_Assign_Subscript (thn (hv pins s σ H _ I h) fun r s1 ⟨v, H1, I1, rv, q1⟩ => thn (ho pins s1 σ H1 _ I1 q1) fun u s2 ⟨x, H2, I2, rx, q2⟩ => thn (hi pins s2 σ H2 _ I2 q2) fun iv s3 ⟨y, H3, I3, ry, a, H4, ex, g, q3⟩ => ?_) hs
  subst ex
  obtain rfl : u = Value.ref a := rx
  exact d_setItem hu I3 g ry rv fun s4 I4 => ⟨σ, H4, I4, q3⟩
end
theorem dk_empty {P : Program} {w : World} {H : Hp} (h : Heap) (hb : sysModules < h.objs.size) : ObjOk P w H (h.push { cls := .type "dict", data := .dict #[] }) h.objs.size (.dK []) :=
  ⟨Nat.zero_le _, beq_eq_false_iff_ne.mpr (Ne.symm (Nat.ne_of_lt hb)), [], .nil, Heap.DictOf.new h⟩
theorem dt_empty {P : Program} {w : World} {H : Hp} (h : Heap) (hb : sysModules < h.objs.size) : ObjOk P w H (h.push { cls := .type "dict", data := .dict #[] }) h.objs.size (.dT []) :=
  ⟨Nat.zero_le _, beq_eq_false_iff_ne.mpr (Ne.symm (Nat.ne_of_lt hb)), [], .nil, _, #[], 0, Heap.get?_push_size _ rfl, ⟨rfl, rfl, rfl⟩, rfl, rfl, List.nodup_nil⟩
def tDNewK : TE := fun _ H Q => ∀ p, H p = none → Q (.ref p) (upd H p (.dK []))
def tDNewT : TE := fun _ H Q => ∀ p, H p = none → Q (.ref p) (upd H p (.dT []))
section
variable {X : Cx} {pos : Pos}
theorem pe_dnewK : PE X (.Dict [] [] pos) tDNewK := fun pins s σ H Q I h =>
  wpAny_Dict_empty ⟨.ref s.heap.objs.size, _, I.laid (a := s.heap.objs.size) (o := .dK []) (t' := s.toks) (fun _ _ q => Heap.get?_push_of_some _ q) (Nat.le_refl _) (dk_empty s.heap I.big), rfl, h _ (I.hok.fresh (Nat.le_refl _))⟩
theorem pe_dnewT : PE X (.Dict [] [] pos) tDNewT := fun pins s σ H Q I h =>
  wpAny_Dict_empty ⟨.ref s.heap.objs.size, _, I.laid (a := s.heap.objs.size) (o := .dT []) (t' := s.toks) (fun _ _ q => Heap.get?_push_of_some _ q) (Nat.le_refl _) (dt_empty s.heap I.big), rfl, h _ (I.hok.fresh (Nat.le_refl _))⟩
end
def mergeK (kvs more : List (Key × V)) : List (Key × V) := more.foldl (fun acc kv => putK acc kv.1 kv.2) kvs
theorem KV.merge : ∀ {more : List (Key × V)} {rs : List (Key × Value)} {kvs : List (Key × V)} {vs : List (Key × Value)}, KV more rs → KV kvs vs → KV (mergeK kvs more) (merged vs rs) := by
  intro more rs kvs vs r
  unfold KV at r
  induction r generalizing kvs vs with
  | nil => intro q; exact q
  | @cons p q ps qs h t ih =>
    intro r0
    have e : KV (putK kvs p.1 p.2) (stored vs q.1 q.2) := by
      have := r0.put p.1 h.2
      rw [← h.1]; exact this
    exact ih e
theorem length_mergeK : ∀ (more kvs : List (Key × V)), (mergeK kvs more).length ≤ kvs.length + more.length
  | [], kvs => by show kvs.length ≤ kvs.length + 0; omega
  | p :: r, kvs => by
    have h1 := length_mergeK r (putK kvs p.1 p.2)
    have h2 := length_putK kvs p.1 p.2
    show (mergeK (putK kvs p.1 p.2) r).length ≤ _
    rw [List.length_cons]; omega
structure M1 (X : Cx) (o : Expr) (m : Str) (apos : Pos) (e : Expr) (cpos : Pos) : Prop where
  base : attributeBase o m X.env (eval o X.env) = eval o X.env
  few : ((backTo cpos (starEach [e] X.env)).all (fun x => !x.1) && (backToKw cpos (keywordEach [] X.env)).all (fun x => x.1.isSome)
    && decide (([e] : List Expr).length + ([] : List Keyword).length + (if ([] : List Keyword).isEmpty then 0 else 1) < 30)) = true
  line : (apos.endLine == cpos.line) = true
  trees : backTo cpos (starEach [e] X.env) = [(false, eval e X.env)]
structure M2 (X : Cx) (o : Expr) (m : Str) (apos : Pos) (e f : Expr) (cpos : Pos) : Prop where
  base : attributeBase o m X.env (eval o X.env) = eval o X.env
  few : ((backTo cpos (starEach [e, f] X.env)).all (fun x => !x.1) && (backToKw cpos (keywordEach [] X.env)).all (fun x => x.1.isSome)
    && decide (([e, f] : List Expr).length + ([] : List Keyword).length + (if ([] : List Keyword).isEmpty then 0 else 1) < 30)) = true
  line : (apos.endLine == cpos.line) = true
  trees : backTo cpos (starEach [e, f] X.env) = [(false, eval e X.env), (false, eval f X.env)]
def IsD (H : Hp) (a : Addr) : Prop := (∃ kvs, Rd H a (.dK kvs)) ∨ ∃ kvs, Rd H a (.dT kvs)
theorem isD_at {X : Cx} {pins : List (Addr × Obj)} {σ : St} {H : Hp} {s : Shared} {a : Addr} (I : Inv X pins σ H s) (d : IsD H a) :
    s.TypeIs (.ref a) "dict" ∧ (∀ b, Value.ref a = .ref b → ∃ ob, s.heap.get? b = some ob ∧ ob.dict = none) ∧ (a == sysModules) = false := by
  rcases d with ⟨kvs, e⟩ | ⟨kvs, e⟩
  · obtain ⟨_, hd, vs, _, dd⟩ := dk_rd I.hok e
    refine ⟨dd.typeIs, fun b q => ?_, hd⟩
    cases q
    obtain ⟨ob, _, _, h1, h2, _⟩ := dd
    exact ⟨ob, h1, h2.2.1⟩
  · obtain ⟨_, hd, xs, _, dd⟩ := dt_rd I.hok e
    refine ⟨dd.typeIs, fun b q => ?_, hd⟩
    cases q
    obtain ⟨ob, _, _, h1, h2, _⟩ := dd
    exact ⟨ob, h1, h2.2.1⟩
section
variable {X : Cx} {pins : List (Addr × Obj)} {σ : St} {H : Hp} {s : Shared} {a : Addr} {y d : V} {u r : Value} {o : Option V} {A : Around} {E : Value → Shared → Prop}
theorem d_get1 {Q : Value → Shared → Prop} (hu : A.units + 1 < cLine) (I : Inv X pins σ H s) (g : DGet H a y o) (ry : RelV y u) (h : ∀ w' s', Inv X pins σ H s' → RelV (o.getD .non) w' → Q w' s') :
    wpAny (model X.prog X.w) A (call (.builtin "dict.get") [.ref a, u]) Q E s := by
  rcases g with ⟨kvs, k, e, ey, l⟩ | ⟨kvs, k, b, e, ey, eb, l⟩
  · subst ey
    obtain ⟨z, hd, vs, rel, dd⟩ := dk_rd I.hok e
    refine call_meetsIn PySem.F.slot_dict_get dd.typeIs PySem.F.entry_dict_get (PySem.F.args_dict_get_2 _ _) (meets_dict_get (mixKind X.prog X.w) a (kV_is ry) hd) ⟨_, dd.mapOf, h _ _ (I.tok _) ?_⟩
    rw [l]
    exact (rel.val k).getD rfl
  · subst ey
    cases (show u = Value.ref b from ry)
    obtain ⟨z, hd, xs, rel, dd⟩ := dt_rd I.hok e
    refine call_meetsIn PySem.F.slot_dict_get dd.typeIs PySem.F.entry_dict_get (PySem.F.args_dict_get_2 _ _) (meetsH_dict_get (tupleKind (mixKind X.prog X.w)) a b hd) ⟨tupleKind_room_in1 hu, k, xs, key_of I.hok eb, dd, h _ _ (I.tok _) ?_⟩
    rw [l]
    exact (rel.val k).getD rfl
end
def tDGet1 (td ty : TE) : TE := fun σ H Q => td σ H fun x H1 => ∃ a, x = .ref a ∧ IsD H1 a ∧ ty σ H1 fun y H2 => ∃ o, DGet H2 a y o ∧ Q (o.getD .non) H2
def tDPop2 (td ty tx : TE) : TE := fun σ H Q => td σ H fun x H1 => ∃ a, x = .ref a ∧ IsD H1 a ∧ ty σ H1 fun y H2 => tx σ H2 fun z H3 => ∃ kvs k, H3 a = some (.dK kvs) ∧ y = kV k ∧
  (∀ v, valV kvs k = some v → Q v (upd H3 a (.dK (dropK kvs k)))) ∧ (valV kvs k = none → Q z H3)
section
variable {X : Cx} {o e f : Expr} {apos cpos : Pos} {td ty tx : TE}
theorem pe_dget1 (hu : X.A.units + 1 < cLine) (ho : PE X o td) (he : PE X e ty) (m : M1 X o "get" apos e cpos) : PE X (.Call (.Attribute o "get" apos) [e] [] cpos) (tDGet1 td ty) := by
  intro pins s σ H Q I h
  refine wpAny_Call_method m.base m.few m.line PySem.F.plainAttrs_dict PySem.F.slot_dict_get PySem.F.type_dict_get (thn (ho pins s σ H _ I h) fun u s1 ⟨x, H1, I1, rx, a, ex, d, q1⟩ => ?_)
  subst ex
  obtain rfl : u = Value.ref a := rx
  obtain ⟨t1, t2, _⟩ := isD_at I1 d
  refine ⟨t1, t2, ?_⟩
  rw [m.trees]
  refine Calls.callWith_builtin rfl (Calls.evalArgs_plain (Calls.spliced_cons (thn (he pins s1 σ H1 _ I1 q1) fun iv s2 ⟨y, H2, I2, ry, ov, g, q2⟩ => Calls.spliced_nil ?_)))
  exact d_get1 hu I2 g ry fun w' s3 I3 rw' => ⟨_, H2, I3, rw', q2⟩
theorem pe_dpop2 (ho : PE X o td) (he : PE X e ty) (hf : PE X f tx) (m : M2 X o "pop" apos e f cpos) : PE X (.Call (.Attribute o "pop" apos) [e, f] [] cpos) (tDPop2 td ty tx) := by
  intro pins s σ H Q I h
  refine wpAny_Call_method m.base m.few m.line PySem.F.plainAttrs_dict PySem.F.slot_dict_pop PySem.F.type_dict_pop (thn (ho pins s σ H _ I h) fun u s1 ⟨x, H1, I1, rx, a, ex, d, q1⟩ => ?_)
  subst ex
  obtain rfl : u = Value.ref a := rx
  obtain ⟨t1, t2, _⟩ := isD_at I1 d
  refine ⟨t1, t2, ?_⟩
  rw [m.trees]
  refine Calls.callWith_builtin rfl (Calls.evalArgs_plain (Calls.spliced_cons (thn (he pins s1 σ H1 _ I1 q1) fun iv s2 ⟨y, H2, I2, ry, q2⟩ =>
    Calls.spliced_cons (thn (hf pins s2 σ H2 _ I2 q2) fun fv s3 ⟨z, H3, I3, rz, kvs, k, ea, ey, q3, q4⟩ => Calls.spliced_nil ?_))))
  subst ey
  cases l : valV kvs k with
  | some v => exact d_pop I3 ea ry l (.inr ⟨fv, rfl⟩) fun w' s4 I4 rw' => ⟨v, _, I4, rw', q3 v l⟩
  | none => exact d_popD I3 ea ry l fun s4 I4 => ⟨z, H3, I4, rz, q4 l⟩
end
section
variable {X : Cx} {pins : List (Addr × Obj)} {σ : St} {H : Hp} {s : Shared} {a : Addr} {kvs : List (Key × V)} {A : Around} {E : Value → Shared → Prop}
end
section
variable {X : Cx} {pins : List (Addr × Obj)} {σ : St} {H : Hp} {s : Shared} {a : Addr} {y : V} {u : Value} {A : Around} {E : Value → Shared → Prop}
end
end L2
set_option Elab.async false
set_option linter.all false
set_option maxRecDepth 100000
set_option maxHeartbeats 4000000
namespace L2
open PySem PySem.Spec PyProof.Rows
section
variable {X : Cx} {pos : Pos}
end
end L2
set_option Elab.async false
set_option linter.all false
set_option maxRecDepth 100000
set_option maxHeartbeats 4000000
namespace L2
open PySem PySem.Spec PyProof.Rows
section
variable {X : Cx} {pins : List (Addr × Obj)} {σ : St} {H : Hp} {s : Shared} {h' : Heap}
end
namespace En
section
variable {prog : Program} {w : World} {A : Around} {E : Value → Shared → Prop} {s : Shared}
end
end En
end L2
set_option Elab.async false
set_option linter.all false
set_option maxRecDepth 100000
set_option maxHeartbeats 4000000
namespace L2
open PySem PySem.Spec PyProof.Rows
section
variable {X : Cx}
end
end L2
set_option Elab.async false
set_option linter.all false
set_option maxRecDepth 100000
set_option maxHeartbeats 4000000
namespace L2
open PySem PySem.Spec PyProof.Rows
section
variable {X : Cx}
end
end L2
set_option Elab.async false
set_option linter.all false
set_option maxRecDepth 100000
set_option maxHeartbeats 4000000
namespace L2
open PySem PySem.Spec PyProof.Rows
def CXw (P : Program) (w : World) : CXT := fun outer H s E e s' => ∃ (x C : Addr) (B : Heap) (H' : Hp) (a0 : Value), e = .ref x ∧ s'.os = s.os ∧ AllBare s'.gens ∧ Heap.FlyingW B outer x (.ref C) a0 s'.heap ∧
  Un (frs outer) [] H H' s.heap s'.heap ∧ HOk P w H' B ∧ (∀ b o, s.heap.get? b = some o → H b = none → b ∉ frs outer → B.get? b = some o) ∧ (∀ b o, s.heap.get? b = some o → b ∉ frs outer → ∃ o', B.get? b = some o') ∧ E (.ref C) none H'
section
variable {P : Program} {w : World} {K : PySem.W.Frag} {mg : Str → Option Value} {base : Heap} {N : List Str} {qual : Str} {scope : Scope} {f : Addr} {cd : Value} {A : Around} {outer : List Env} {s : Shared} {H : Hp} {E : XK}
  {pins : List (Addr × Obj)} {σ : St} {H1 : Hp} {s1 : Shared}
end
end L2
set_option Elab.async false
set_option linter.all false
set_option maxRecDepth 100000
set_option maxHeartbeats 4000000
namespace L2
open PySem PySem.Spec PyProof.Rows
section
variable {X : Cx} {pos : Pos}
end
section
variable {P : Program} {w : World} {K : PySem.W.Frag} {mg : Str → Option Value} {base : Heap}
end
end L2
set_option Elab.async false
set_option linter.all false
set_option maxRecDepth 100000
set_option maxHeartbeats 4000000
namespace L2
open PySem PySem.Spec PyProof.Rows
theorem ObjOk.get {P : Program} {w : World} {H : Hp} {h : Heap} {a : Addr} {o : HO} (x : ObjOk P w H h a o) : ∃ u, h.get? a = some u := by
  cases o with
  | lst xs => obtain ⟨_, _, _, _, e⟩ := x; exact ⟨_, e⟩
  | tup xs => obtain ⟨_, _, _, ob, e, _⟩ := x; exact ⟨_, e⟩
  | dK kvs => obtain ⟨_, _, _, _, o, _, _, e, _⟩ := x; exact ⟨_, e⟩
  | dT kvs => obtain ⟨_, _, _, _, o, _, _, e, _⟩ := x; exact ⟨_, e⟩
  | set S n => obtain ⟨o, _, _, _, e, _⟩ := x; exact ⟨_, e⟩
  | ins C dx fs => obtain ⟨_, _, _, e, _⟩ := x; exact ⟨_, e⟩
  | own y => exact x
  | xd fs => obtain ⟨_, ⟨_, _, _, e, _⟩, _⟩ := x; exact ⟨_, e⟩
  | rng lo hi => obtain ⟨_, _, _, e⟩ := x; exact ⟨_, e⟩
  | frz ob u => obtain ⟨e, _⟩ := x; exact ⟨_, e⟩
  | tbl ps => exact ⟨_, show h.get? a = some _ from x⟩
  | met f y => exact ⟨_, show h.get? a = some _ from x⟩
  | ext φ => obtain ⟨_, e, _⟩ := x; exact e
def ExAt (x C : Addr) (h : Heap) : Prop := ∃ ob vs, h.get? x = some ob ∧ ob.cls = .ref C ∧ ob.data = .fields vs
theorem ExAt.stay {x C : Addr} {h1 h2 : Heap} (p : ExAt x C h1) (k : ∀ o, h1.get? x = some o → h2.get? x = some o) : ExAt x C h2 := by
  obtain ⟨ob, vs, e, r⟩ := p
  exact ⟨ob, vs, k _ e, r⟩
def Thr (X : Cx) (pins : List (Addr × Obj)) (σ : St) (H' : Hp) (x C : Addr) (s : Shared) : Prop :=
  ∃ (B : Heap) (H1 : Hp) (s1 : Shared) (a0 : Value), Inv X pins σ H1 s1 ∧ s.os = s1.os ∧ AllBare s.gens ∧ Heap.FlyingW B X.stack x (.ref C) a0 s.heap ∧ Un (frs X.stack) [] H1 H' s1.heap s.heap ∧ HOk X.prog X.w H' B ∧
    (∀ b o, s1.heap.get? b = some o → H1 b = none → b ∉ frs X.stack → B.get? b = some o) ∧ (∀ b o, s1.heap.get? b = some o → b ∉ frs X.stack → ∃ o', B.get? b = some o')
section
variable {X : Cx} {pins : List (Addr × Obj)} {σ : St} {H' : Hp} {x C : Addr} {s : Shared}
theorem Thr.of {E : XK} {H : Hp} {s1 : Shared} {e : Value} (I : Inv X pins σ H s1) (cx : CXw X.prog X.w X.stack H s1 E e s) : ∃ x C H', e = .ref x ∧ Thr X pins σ H' x C s ∧ E (.ref C) none H' := by
  obtain ⟨x, C, B, H', a0, rfl, os, bare, fl, un, hokB, kb, tb, q⟩ := cx
  exact ⟨x, C, H', rfl, ⟨B, H, s1, a0, I, os, bare, fl, un, hokB, kb, tb⟩, q⟩
theorem Inv.noRec {H : Hp} {s1 : Shared} (I : Inv X pins σ H s1) {b : Addr} (hb : b ∈ frs X.stack) : ∃ o, s1.heap.get? b = some o ∧ ∀ vs, o.data ≠ .fields vs := by
  obtain ⟨_, o, e, n⟩ := I.stack.mem hb
  exact ⟨o, e, n⟩
theorem Thr.look {Q : Unit → Shared → Prop} {E : Value → Shared → Prop} {A : Around} (t : Thr X pins σ H' x C s) (hst : X.stack = X.env :: X.outer) (hf : X.env.frame = some X.env.locals) (hA : A.frames = some X.stack)
    (h : ∀ h', Thr X pins σ H' x C { s with heap := h' } → Q () { s with heap := h' }) :
    wpAny (model X.prog X.w) A (noteFrame (.ref x) X.env) (fun _ s2 => wpAny (model X.prog X.w) A (setFlight (.ref x) none) Q E s2) E s := by
  obtain ⟨B, H1, s1, a0, I, os, bare, fl, un, hok, kb, tb⟩ := t
  have fl' := fl
  rw [hst] at fl'
  refine wpAny_looks_onW (base := B) (hA.trans (by rw [hst])) hf fl' fun h2 hh u1 => ?_
  refine wpAny_landsW hh fun h3 fl3 u2 => h h3 ?_
  have u := u1.trans u2
  have fr : ∀ b o, s1.heap.get? b = some o → b ∈ frs X.stack → ∃ sl, h3.get? b = some { o with slots := sl } := fun b o e hb => by
    obtain ⟨o2, e2, nr⟩ := I.noRec hb
    rw [e] at e2
    cases e2
    obtain ⟨sl, e4⟩ := un.slot b o e (I.stkFree b hb) hb (by simp)
    obtain ⟨sl2, e5⟩ := u b _ e4 nr
    exact ⟨sl2, e5⟩
  refine ⟨B, H1, s1, a0, I, os, bare, by rw [hst]; exact fl3, ⟨fun b o e1 e2 e3 _ => fl3.1 b o (kb b o e1 e2 e3), fun b o e1 _ e3 _ => fr b o e1 e3, un.free, fun b o e1 _ => ?_, un.tups, un.frzs, un.tbls⟩, hok, kb, tb⟩
  by_cases hb : b ∈ frs X.stack
  · obtain ⟨sl, e5⟩ := fr b o e1 hb
    exact ⟨_, e5⟩
  · obtain ⟨o', e4⟩ := tb b o e1 hb
    exact ⟨o', fl3.1 b o' e4⟩
theorem Thr.again {Q : Unit → Shared → Prop} {E : Value → Shared → Prop} {A : Around} (t : Thr X pins σ H' x C s) (h : ∀ h', Thr X pins σ H' x C { s with heap := h' } → Q () { s with heap := h' }) :
    wpAny (model X.prog X.w) A (setFlight (.ref x) none) Q E s := by
  obtain ⟨B, H1, s1, a0, I, os, bare, fl, un, hok, kb, tb⟩ := t
  refine lands_againW fl fun h3 fl3 u => h h3 ?_
  have fr : ∀ b o, s1.heap.get? b = some o → b ∈ frs X.stack → ∃ sl, h3.get? b = some { o with slots := sl } := fun b o e hb => by
    obtain ⟨o2, e2, nr⟩ := I.noRec hb
    rw [e] at e2
    cases e2
    obtain ⟨sl, e4⟩ := un.slot b o e (I.stkFree b hb) hb (by simp)
    obtain ⟨sl2, e5⟩ := u b _ e4 nr
    exact ⟨sl2, e5⟩
  refine ⟨B, H1, s1, a0, I, os, bare, fl3, ⟨fun b o e1 e2 e3 _ => fl3.1 b o (kb b o e1 e2 e3), fun b o e1 _ e3 _ => fr b o e1 e3, un.free, fun b o e1 _ => ?_, un.tups, un.frzs, un.tbls⟩, hok, kb, tb⟩
  by_cases hb : b ∈ frs X.stack
  · obtain ⟨sl, e5⟩ := fr b o e1 hb
    exact ⟨_, e5⟩
  · obtain ⟨o', e4⟩ := tb b o e1 hb
    exact ⟨o', fl3.1 b o' e4⟩
theorem Thr.none (t : Thr X pins σ H' x C s) : H' x = none := by
  obtain ⟨B, H1, s1, a0, I, os, bare, fl, un, hok, kb, tb⟩ := t
  cases e : H' x with
  | none => rfl
  | some u =>
    obtain ⟨o, e1⟩ := (hok x u e).get
    rw [fl.2.1] at e1
    cases e1
theorem Thr.at (t : Thr X pins σ H' x C s) : ExAt x C s.heap := by
  obtain ⟨B, H1, s1, a0, I, os, bare, fl, un, hok, kb, tb⟩ := t
  obtain ⟨oe, vs, he, hc, hd, _⟩ := fl.first
  exact ⟨oe, vs, he, hc, hd⟩
end
abbrev XR := Addr → St → Hp → Prop
def XP (X : Cx) (pins : List (Addr × Obj)) (R : XR) (e : Value) (s : Shared) : Prop := ∃ x C σ H, e = .ref x ∧ Thr X pins σ H x C s ∧ R C σ H
section
variable {X : Cx} {k : Nat} {f : Addr} {fd : FuncData} {ps : List Str} {sp : Sp} {x : Str} {p pos : Pos} {e : Expr} {es : List Expr} {t : TA}
end
abbrev TH := Ends → Addr → St → Hp → Prop
section
variable {X : Cx} {y n : Str} {Y : Addr} {np pos : Pos} {b₀ : Stmt} {suite : List Stmt} {rest : List ExceptHandler} {tb : TS} {tr : TH} {i : Nat}
end
end L2
set_option Elab.async false
set_option linter.all false
set_option maxRecDepth 100000
set_option maxHeartbeats 4000000
namespace L2
open PySem PySem.Spec PyProof.Rows PySem.Calls PySem.W Builtin Builtin.ObjectAttr Builtin.Getset_descriptor
structure ExcI (K : PySem.W.Frag) (C : Addr) : Prop where
  ga : findIn K (.ref C) "__getattribute__" = some (some (.builtin "BaseException.__getattribute__"))
  gt : findIn K (.ref C) "__getattr__" = some none
  cl : isClsIn K C = true
  at_ : findIn K (.ref C) "__class__" = some (some (.builtin "object.__class__"))
  gs : specialIn K (.builtin "object.__class__") "__get__" = some (some (.builtin "getset_descriptor.__get__"))
  tk : takesIn K (.builtin "object.__class__") = some true
  mo : mroIn K C (.type "object") = some true
  be : subIn K (.ref C) (.type "BaseException") = some true
section
variable {prog : Program} {w : World} {A : Around} {E : Value → Shared → Prop} {s : Shared} {K : PySem.W.Frag} {x C : Addr}
end
section
variable {X : Cx}
end
end L2
set_option Elab.async false
set_option linter.all false
set_option maxRecDepth 100000
set_option maxHeartbeats 4000000
namespace L2
open PySem PySem.Spec PyProof.Rows
section
variable {P : Program} {w : World} {K : PySem.W.Frag} {mg : Str → Option Value} {base : Heap}
end
end L2
set_option Elab.async false
set_option linter.all false
set_option maxRecDepth 100000
set_option maxHeartbeats 4000000
namespace L2
open PySem PySem.Spec PyProof.Rows
section
variable {X : Cx}
theorem mul_one : ∀ n : Nat, n ≤ 64 → ∀ c ∈ [40, 41], Txt.mul (tx [c]) (n : Int) = tx (List.replicate n c) := by decide +kernel
end
end L2
set_option Elab.async false
set_option linter.all false
set_option maxRecDepth 100000
set_option maxHeartbeats 4000000
namespace L2
open PySem PySem.Spec PyProof.Rows
section
variable {prog : Program} {w : World} {A : Around} {R : Result → Shared → Prop} {s : Shared}
theorem compLoopIf_go {elt target iter c : Expr} {scope : Scope} {pos : Pos} {it acc : Value} {env : Env} (I : Nat → Shared → Prop)
    (turn : ∀ n s, I n s → wpAny (model prog w) A (pyNext it) (fun r s₁ => match r with
      | none => R (.ok .next) s₁
      | some v => wpAny (model prog w) A (letOwnedTupleGo target it v) (fun _ s₀ => wpAny (model prog w) A (assign target env v) (fun _ s₂ => wpAny (model prog w) A (isTrue c env (eval c env)) (fun b s₅ =>
          match b with
          | true => wpAny (model prog w) A (eval elt env) (fun x s₃ => wpAny (model prog w) A (call (.builtin "list.append") [acc, x]) (fun _ s₄ => ∃ m, m < n ∧ I m s₄) (fun _ _ => False) s₃) (fun _ _ => False) s₅
          | false => ∃ m, m < n ∧ I m s₅) (fun _ _ => False) s₂) (fun _ _ => False) s₀) (fun _ _ => False) s₁) (fun _ _ => False) s)
    (n : Nat) (h : I n s) : codeAny (model prog w) A (.compLoop (.ListComp elt [⟨target, iter, [c], 0⟩] scope pos) 0 it acc env) R s := by
  refine codeAny_loop rfl I (fun n s hI => ?_) n h
  show wpAny _ _ ((compTurn (.ListComp elt [⟨target, iter, [c], 0⟩] scope pos) 0 it acc env).onRaise (fun x => do noteFrame x env; theTreesLotGoes x)) _ _ s
  refine wpAny_noted ?_
  rw [compTurn_list]
  refine wpAny_bind (wpAny_standAt (wpAny_bind (wpAny_mono (turn n s hI) (fun r s₁ h₁ => ?_) fun _ _ h' => h'.elim)))
  cases r with
  | none => exact wpAny_pure h₁
  | some v =>
    refine wpAny_bind (wpAny_mono h₁ (fun _ s₀ h₀ => ?_) fun _ _ h' => h'.elim)
    refine wpAny_bind (wpAny_mono h₀ (fun _ s₂ h₂ => wpAny_bind (wpAny_tests_one (wpAny_mono h₂ (fun ok s₃ h₃ => ?_) fun _ _ h' => h'.elim))) fun _ _ h' => h'.elim)
    cases ok with
    | false => exact wpAny_pure ⟨rfl, h₃⟩
    | true =>
      exact wpAny_bind (wpAny_bind (wpAny_mono h₃ (fun x s₄ h₄ => wpAny_bind (wpAny_mono h₄ (fun _ s₅ h₅ => wpAny_pure (wpAny_pure ⟨rfl, h₅⟩)) fun _ _ h' => h'.elim)) fun _ _ h' => h'.elim))
end
def CompGoIf (tt : TT) (te : TE) (fv : St) (Q : VK) (J : It) (H1 : Hp) : Prop := ∃ W : Nat → Nat → List V → Hp → Prop, (∃ m, W 0 m [] H1) ∧ ∀ i m ys H2, W i m ys H2 →
  (J.stop i H2 ∧ ys.length ≤ sizeLine ∧ ∀ D, H2 D = none → Q (.ref D) (upd H2 D (.lst ys))) ∨
  (J.go i H2 ∧ ys.length < sizeLine ∧ ∀ x H3, J.yld i H2 x H3 → tt (some x :: fv) H3 fun b H4 => match b with
    | true => te (some x :: fv) H4 fun y H5 => ∃ m', m' < m ∧ W (i + 1) m' (ys ++ [y]) H5
    | false => ∃ m', m' < m ∧ W (i + 1) m' ys H4)
def tCompIf (wi : TI) (fv : St → St) (tt : TT) (te : TE) : TE := fun σ H Q => wi σ H (CompGoIf tt te (fv σ) Q)
section
variable {X : Cx} {elt iter cnd : Expr} {x : Str} {px pos : Pos} {scope : Scope} {cl : List (Str × Addr)} {fns : List Str} {ixs : List Nat} {wi : TI} {tt : TT} {te : TE}
theorem pe_compIf (hc : X.calm = true) (hi : PI X (.Name x px) iter wi) (S : CompScope X x fns ixs scope cl)
    (ht : ∀ (C : Addr) (s : Shared) (H : Hp) (ex : List Addr), PT (cxComp X (x :: fns) scope cl C s H ex) cnd tt) (he : ∀ (C : Addr) (s : Shared) (H : Hp) (ex : List Addr), PE (cxComp X (x :: fns) scope cl C s H ex) elt te)
    (hs : ∀ x, foldedSetIterable iter X.env x = pure x := by intro _; rfl) :
    PE X (.ListComp elt [⟨.Name x px, iter, [cnd], 0⟩] scope pos) (tCompIf wi (fvOf ixs) tt te) := by
  intro pins s σ H Q I h
  rw [eval_ListComp]
  refine wpAny_comprehension_free (use := none) rfl hs S.clos S.kind S.names (thn (hi pins s σ H _ I h) fun v s1 h1 => thn h1 fun itv s2 h2 => ?_)
  obtain ⟨it, fp, tn, J, H2, e, I2, T, st2, f2, W, ⟨m0, w0⟩, turn⟩ := h2
  subst e
  have hfpLt : ∀ b ∈ fp, b < s2.heap.objs.size := fun b hb => by
    obtain ⟨o, ho, _⟩ := T.obj _ _ st2 b hb
    exact Heap.lt_size ho
  refine wpAny_newObj_type (wpAny_newFunctionEnv S.cell (by intro y hy; simp at hy) (fun h₁ hns₁ hsb₁ => ?_) S.kind)
  dsimp only at hns₁ hsb₁ ⊢
  generalize hH3 : s2.heap.push { cls := .type "list", dict := none, data := .seq ([] : List Value).toArray } = hp3 at hns₁ hsb₁ ⊢
  generalize hD : s2.heap.objs.size = D at hfpLt ⊢
  have hC : hp3.objs.size = D + 1 := by rw [← hH3, Heap.size_push, hD]
  generalize hCe : hp3.objs.size = C at hC hns₁ hsb₁ ⊢
  have hDltC : D < C := by omega
  have hDC : D ≠ C := Nat.ne_of_lt hDltC
  have k23 : ∀ b u, s2.heap.get? b = some u → hp3.get? b = some u := fun b u q => by rw [← hH3]; exact Heap.get?_push_of_some _ q
  have ltD : ∀ {b u}, s2.heap.get? b = some u → b < D := fun q => by rw [← hD]; exact Heap.lt_size q
  have k34 : ∀ b u, hp3.get? b = some u → h₁.get? b = some u := fun b u q =>
    hsb₁.extBut b u (Nat.ne_of_lt (Nat.lt_of_lt_of_le (Heap.lt_size q) (Nat.le_of_eq hCe))) (Heap.get?_push_of_some _ q)
  have hDo : hp3.get? D = some { cls := .type "list", dict := none, data := .seq ([] : List Value).toArray } := by rw [← hH3, ← hD]; exact Heap.get?_push_size _ rfl
  have I3 : Inv X pins σ H2 { s2 with heap := hp3 } := I2.kept (t' := s2.toks) k23
  have hnD : H2 D = none := I2.hok.fresh (by omega)
  have hnC : H2 C = none := I2.hok.fresh (by omega)
  have nstk : ∀ b ∈ D :: fp, b ∉ frs X.stack := fun b hb z => by
    rcases List.mem_cons.mp (I2.stkSub b z) with e | z
    · rcases List.mem_cons.mp hb with e2 | hb
      · exact absurd I2.lt (by rw [← e, e2, ← hD]; exact Nat.lt_irrefl _)
      · exact (f2 b hb).2.1 e
    · rcases List.mem_cons.mp hb with e2 | hb
      · exact I2.nofs (by rw [e2, ← hD]; exact Nat.le_refl _) z
      · exact (f2 b hb).2.2.1 z
  have cne : ∀ y c, cl.lookup y = some c → ∀ b ∈ D :: fp, c ≠ b := fun y c q b hb z => by
    obtain ⟨v, hv⟩ := I2.cell y c (S.sub y c q)
    rcases List.mem_cons.mp hb with e2 | hb
    · exact absurd hv.lt (by rw [z, e2, ← hD]; exact Nat.lt_irrefl _)
    · exact (f2 b hb).2.2.2.2.1 y c (S.sub y c q) z
  -- the block's context
  let Xc : Cx := cxComp X (x :: fns) scope cl C { s2 with heap := hp3 } H2 (D :: fp)
  have ok : Xc.Ok := {
    mod := I2.ok.mod
    kind := S.kind
    glob := I2.ok.glob
    blt := I2.ok.blt
    above := by show hp3.objs.size ≤ C; omega
    inj := fun y z c q1 q2 => I2.ok.inj y z c (S.sub _ _ q1) (S.sub _ _ q2)
    has := S.has
    cab := fun y c q => nomatch q
    hd := I2.ok.hd
    frames := I2.ok.frames
    stk := .inl rfl
    exf := fun b hb => ⟨by
      rcases List.mem_cons.mp hb with e2 | hb
      · rw [e2]; exact hDC
      · exact Nat.ne_of_lt (Nat.lt_trans (hfpLt b hb) hDltC), fun y c q => cne y c q b hb⟩
    bs := I3.bs
    bsz := Nat.le_trans I3.ok.bsz I3.sz
    noex := fun b o q hb => by
      rcases List.mem_cons.mp hb with e2 | hb
      · exact absurd (ltD (I2.bs b o q).1) (by rw [e2]; exact Nat.lt_irrefl _)
      · rcases (f2 b hb).2.2.2.1 with z | z
        · exact I2.ok.noex b o q z
        · exact absurd (Heap.lt_size (I2.ok.bs b o q).1) (Nat.not_lt.mpr z)
    exfs := nstk
    funs := I3.stack
    frf := I3.stkFree }
  have start : ∀ (v0 : Option V) , v0 = none → Inv Xc [(D, { cls := .type "list", dict := none, data := .seq ([] : List Value).toArray })] (v0 :: fvOf ixs σ) H2 { s2 with heap := h₁, toks := s2.toks + ([] : List (Str × Value)).length } := fun v0 hv0 => {
    ok := ok
    os := rfl
    bare := I2.bare
    base := Un.kept k34
    loc := ⟨_, hns₁, fun i y v e1 e2 e3 => by
      cases i with
      | zero => rw [hv0] at e2; cases e2
      | succ j =>
        have e1' : fns[j]? = some y := e1
        have e2' : (fvOf ixs σ)[j]? = some (some v) := e2
        obtain ⟨i, hi1, hi2, hk, c, hc1, hc2⟩ := S.at_ j y e1'
        unfold fvOf at e2'
        rw [List.getElem?_map, hi1] at e2'
        have e3' : σ[i]? = some (some v) := by
          have z : (σ[i]?).join = some v := Option.some.inj e2'
          cases q : σ[i]? with
          | none => rw [q] at z; cases z
          | some o => rw [q] at z; rw [show o = some v from z]
        obtain ⟨m, _, hl⟩ := I2.loc
        obtain ⟨u, r, l⟩ := hl i y v hi2 e3' (hk.elim (fun z => .inr (.inl z)) fun z => .inr (.inr z))
        refine ⟨u, r, .inr ⟨hc2, c, hc1, ?_⟩⟩
        rcases l with ⟨z, _⟩ | ⟨_, c', hc', hcell⟩
        · rcases hk with hk | hk <;> (rw [hk] at z; cases z)
        · have : c' = c := Option.some.inj (hc'.symm.trans (S.sub _ _ hc1))
          subst this
          obtain ⟨o, ho, hd⟩ := hcell
          exact ⟨o, k34 _ _ (k23 _ _ ho), hd⟩⟩
    cell := fun y c q => by
      obtain ⟨v, o, ho, hd⟩ := I2.cell y c (S.sub y c q)
      exact ⟨v, o, k34 _ _ (k23 _ _ ho), hd⟩
    free := hnC
    freeC := fun y c q => I2.freeC y c (S.sub y c q)
    pin := fun p hp => by
      have hp' : p = (D, { cls := .type "list", dict := none, data := .seq ([] : List Value).toArray }) := by simpa [Xc, cxComp] using hp
      subst hp'
      exact ⟨k34 _ _ hDo, hnD, hDC, nstk D (List.mem_cons_self ..), fun v z => nomatch z⟩
    hok := (I2.hok.kept k23).kept k34
    len := by show (v0 :: fvOf ixs σ).length = (x :: fns).length; simp [fvOf, S.len] }
  -- what stays true of the iterator's objects
  have fpc : ∀ {H' : Hp} {pins' : List (Addr × Obj)}, (∀ b ∈ fp, H' b = none) → (∀ p ∈ pins', p.1 = D) → ∀ b ∈ fp, FpOk Xc pins' H' b := fun {H' pins'} hn hp b hb =>
    ⟨hn b hb, Nat.ne_of_lt (Nat.lt_trans (hfpLt b hb) hDltC), nstk b (List.mem_cons_of_mem _ hb), .inl (List.mem_cons_of_mem _ hb), fun y c q => cne y c q b (List.mem_cons_of_mem _ hb), fun p q => by
      have q' : p ∈ pins' := by simpa [Xc, cxComp] using q
      rw [hp p q']
      exact Nat.ne_of_gt (hfpLt b hb)⟩
  have loop : codeAny (model X.prog X.w) X.A (.compLoop (.ListComp elt [⟨.Name x px, iter, [cnd], 0⟩] scope pos) 0 (.ref it) (.ref D) (compEnvC scope cl C X.env))
      (compPost (model X.prog X.w) X.A X.xe none (EP X pins σ Q) (.ref D) C) { s2 with heap := h₁, toks := s2.toks + ([] : List (Str × Value)).length } := by
    refine compLoopIf_go (fun n s' => ∃ (i : Nat) (ys : List V) (its : List Value) (nn : Nat) (v0 : Option V) (H' : Hp), Inv Xc [(D, { cls := .type "list", dict := none, data := .seq its.toArray nn })] (v0 :: fvOf ixs σ) H' s' ∧ tn i s'.heap ∧ (∀ b ∈ fp, H' b = none) ∧ Vals ys its ∧ W i n ys H') ?_ m0
      ⟨0, [], [], 0, none, H2, start none rfl, T.keep _ _ _ st2 fun b _ o q => k34 _ _ (k23 _ _ q), fun b hb => (f2 b hb).1, .nil, w0⟩
    rintro n s3 ⟨i, ys, its, nn, v0, H3, J3, tn3, fr3, vv, w3⟩
    have pinD : ∀ p ∈ ([(D, ({ cls := .type "list", dict := none, data := .seq its.toArray nn } : Obj))] : List (Addr × Obj)), p.1 = D := fun p hp => by
      have : p = (D, { cls := .type "list", dict := none, data := .seq its.toArray nn }) := by simpa using hp
      rw [this]
    rcases turn i n ys H3 w3 with ⟨stop, hlen, q⟩ | ⟨go, hlen, step⟩
    · -- the end
      refine thn (T.done Xc rfl rfl rfl hc i _ s3 _ H3 _ J3 (fpc fr3 pinD) tn3 stop) fun r s4 ⟨hr, J4⟩ => ?_
      subst hr
      obtain ⟨m, hn, _⟩ := J4.loc
      refine ⟨m, hn, fun h'' hsb => ?_⟩
      obtain ⟨gD, nD, _, _, _⟩ := J4.pin (D, { cls := .type "list", dict := none, data := .seq its.toArray nn }) (by simp [Xc, cxComp])
      have B := J4.base
      have kC : ∀ b u, b ≠ C → s4.heap.get? b = some u → h''.get? b = some u := fun b u hb q => (hsb.2 b hb).trans q
      have ne : ∀ {b o}, s2.heap.get? b = some o → b ≠ C ∧ b ≠ D := fun q => ⟨Nat.ne_of_lt (Nat.lt_trans (ltD q) hDltC), Nat.ne_of_lt (ltD q)⟩
      have nex : ∀ {b o}, s2.heap.get? b = some o → b ∉ fp → b ∉ D :: fp := fun q hx z => (List.mem_cons.mp z).elim (ne q).2 hx
      have uu : Un (frs X.stack) fp H2 (upd H3 D (.lst ys)) s2.heap h'' := {
        keep := fun b o q n hb hx => kC b o (ne q).1 (B.keep b o (k23 b o q) n hb (nex q hx))
        slot := fun b o q n hb hx => by
          obtain ⟨sl, e⟩ := B.slot b o (k23 b o q) n hb (nex q hx)
          exact ⟨sl, kC b _ (ne q).1 e⟩
        free := fun b o q n hx => by rw [upd_ne (ne q).2]; exact B.free b o (k23 b o q) n (nex q hx)
        there := fun b o q hx => by
          obtain ⟨o', e⟩ := B.there b o (k23 b o q) (nex q hx)
          exact ⟨o', kC b _ (ne q).1 e⟩
        tups := fun b xs q => by rw [upd_ne (ne_of_none q hnD)]; exact B.tups b xs q
        frzs := fun b o xs q => by rw [upd_ne (ne_of_none q hnD)]; exact B.frzs b o xs q
        tbls := fun b ps q => by
          obtain ⟨more, e⟩ := B.tbls b ps q
          exact ⟨more, by rw [upd_ne (ne_of_none q hnD)]; exact e⟩ }
      have hok : HOk X.prog X.w (upd H3 D (.lst ys)) h'' := fun b u e => by
        by_cases hb : b = D
        · subst hb
          rw [upd_same] at e
          cases e
          exact ⟨hlen, its, nn, vv, kC _ _ hDC gD⟩
        · rw [upd_ne hb] at e
          refine (J4.hok b u e).stay (fun c v hc q => kC c v ?_ q) (fun c q => by rw [upd_ne (ne_of_none q nD)]; exact q) fun c xs q => by rw [upd_ne (ne_of_none q nD)]; exact q
          have fC : H3 C = none := J4.free
          rcases hc with rfl | hc
          · exact ne_of_none e fC
          · exact ne_of_none hc fC
      exact ⟨.ref D, _, I2.call' (s' := { s4 with heap := h'' }) J4.os uu hok J4.bare (fun b hb => ⟨(f2 b hb).2.2.2.1, (f2 b hb).2.1, (f2 b hb).2.2.2.2.1, (f2 b hb).2.2.2.2.2⟩), rfl, q D nD⟩
    · -- a turn
      refine thn (T.item Xc rfl rfl rfl hc i _ s3 _ H3 _ J3 (fpc fr3 pinD) tn3 go) fun r s4 ⟨u, hr, h4⟩ => ?_
      subst hr
      refine thn h4 fun _ s5 ⟨xv, H5, J5, r5, y5, tn5, fr5⟩ => ?_
      have J5' := J5.pinned (fpc fr5 pinD) (T.obj _ _ tn5)
      have hg : PG Xc (.Name x px) (gName 0) := pg_name (X := Xc) (i := 0) S.nd rfl (.inl (relabel_own S.own)) (.inr (relabel_own S.own))
      refine thn (hg _ s5 _ H5 xv u (fun σ' H' => σ' = some xv :: fvOf ixs σ ∧ H' = H5) J5' r5 ⟨rfl, rfl⟩) fun _ s6 ⟨σ6, H6, J6, e6, e6'⟩ => ?_
      subst e6 e6'
      refine thn (ht C { s2 with heap := hp3 } H2 (D :: fp) _ s6 _ H6 _ J6 (step xv H6 y5)) fun bt s6b ⟨H6b, J6b, q6⟩ => ?_
      cases bt with
      | true =>
       refine thn (he C { s2 with heap := hp3 } H2 (D :: fp) _ s6b _ H6b _ J6b q6) fun yv s7 ⟨y, H7, J7, r7, m', hm', w7⟩ => ?_
       obtain ⟨gD, nD, _, _, _⟩ := J7.pin (D, { cls := .type "list", dict := none, data := .seq its.toArray nn }) (by simp [Xc, cxComp])
       have tn7 : tn (i + 1) s7.heap := T.keep _ _ _ tn5 fun b hb o e => (J7.pin (b, o) (List.mem_append_right _ (List.mem_append_right _ (mem_pinsAt hb e)))).1
       have fr7 : ∀ b ∈ fp, H7 b = none := fun b hb => by
         obtain ⟨o, e, d⟩ := T.obj _ _ tn5 b hb
         exact (J7.pin (b, o) (List.mem_append_right _ (List.mem_append_right _ (mem_pinsAt hb e)))).2.1
       have J7' : Inv Xc [] (some xv :: fvOf ixs σ) H7 s7 := J7.pins_of fun p hp => nomatch hp
       refine wpAny_list_append_plain (hsz := by rw [List.size_toArray, ← vv.length]; omega) ⟨nn, gD⟩ fun h8 pl8 sb8 => ?_
       obtain ⟨n8, g8⟩ := pl8
       have J8 : Inv Xc [] (some xv :: fvOf ixs σ) H7 { s7 with heap := h8 } := J7'.turned (t' := s7.toks) (it := D) (fun b o hb e => (sb8.2 b hb).trans e) nD (hDC) (.inl (List.mem_cons_self ..))
         (fun y c q => cne y c q D (List.mem_cons_self ..)) (fun p hp => by simp [Xc, cxComp] at hp)
       refine ⟨m', hm', i + 1, ys ++ [y], its ++ [yv], n8, some xv, H7, J8.pins_of fun p hp => ?_, ?_, fr7, vv.append (.cons r7 .nil), w7⟩
       · have : p = (D, { cls := .type "list", dict := none, data := .seq (its ++ [yv]).toArray n8 }) := by simpa using hp
         subst this
         refine ⟨?_, nD, hDC, nstk D (List.mem_cons_self ..), fun v z => nomatch z⟩
         have : its.toArray.push yv = (its ++ [yv]).toArray := by simp
         rw [this] at g8
         exact g8
       · exact T.keep _ _ _ tn7 fun b hb o e => (sb8.2 b (Nat.ne_of_lt (hfpLt b hb))).trans e
      | false =>
       obtain ⟨m', hm', w7⟩ := q6
       obtain ⟨gD, nD, _, _, _⟩ := J6b.pin (D, { cls := .type "list", dict := none, data := .seq its.toArray nn }) (by simp [Xc, cxComp])
       have tn7 : tn (i + 1) s6b.heap := T.keep _ _ _ tn5 fun b hb o e => (J6b.pin (b, o) (List.mem_append_right _ (List.mem_append_right _ (mem_pinsAt hb e)))).1
       have fr7 : ∀ b ∈ fp, H6b b = none := fun b hb => by
         obtain ⟨o, e, d⟩ := T.obj _ _ tn5 b hb
         exact (J6b.pin (b, o) (List.mem_append_right _ (List.mem_append_right _ (mem_pinsAt hb e)))).2.1
       refine ⟨m', hm', i + 1, ys, its, nn, some xv, H6b, J6b.pins_of fun p hp => ?_, tn7, fr7, vv, w7⟩
       have : p = (D, { cls := .type "list", dict := none, data := .seq its.toArray nn }) := by simpa using hp
       subst this
       exact ⟨gD, nD, hDC, nstk D (List.mem_cons_self ..), fun v z => nomatch z⟩
  exact codeAny_compStart_list loop (T.self _ 0 _ _ _ (T.keep _ _ _ st2 fun b _ o q => k34 _ _ (k23 _ _ q)) loop)
end
end L2
set_option Elab.async false
set_option linter.all false
set_option maxRecDepth 10000
set_option maxHeartbeats 400000
namespace L2
open PySem PySem.Spec PyProof.Rows
section
variable {X : Cx}
end
end L2
set_option Elab.async false
set_option linter.all false
set_option maxRecDepth 100000
set_option maxHeartbeats 4000000
namespace L2
open PySem PySem.Spec PyProof.Rows
section
variable {X : Cx}
end
end L2
set_option Elab.async false
set_option linter.all false
set_option maxRecDepth 100000
set_option maxHeartbeats 4000000
namespace L2
open PySem PySem.Spec PyProof.Rows
section
variable {X : Cx} {tg : Expr}
end
end L2
set_option Elab.async false
set_option linter.all false
set_option maxRecDepth 100000
set_option maxHeartbeats 4000000
namespace L2
open PySem PySem.Spec PyProof.Rows
section
variable {X : Cx} {elt iter cnd : Expr} {x : Str} {px pos : Pos} {scope : Scope} {cl : List (Str × Addr)} {fns : List Str} {ixs : List Nat} {wi : TI} {tt : TT} {te : TE}
end
end L2
set_option Elab.async false
set_option linter.all false
set_option maxRecDepth 100000
set_option maxHeartbeats 4000000
namespace L2
open PySem PySem.Spec PyProof.Rows
section
variable {X : Cx}
end
end L2
set_option Elab.async false
set_option linter.all false
set_option maxRecDepth 100000
set_option maxHeartbeats 4000000
namespace L2
open PySem PySem.Spec PyProof.Rows
def rng (lo : Int) (n : Nat) : List Int := (List.range n).map fun i : Nat => lo + (i : Int)
theorem rng_len (lo : Int) (n : Nat) : (rng lo n).length = n := by unfold rng; rw [List.length_map, List.length_range]
theorem rng_at {lo : Int} {n i : Nat} (h : i < n) : (rng lo n)[i]? = some (lo + (i : Int)) := by
  unfold rng
  rw [List.getElem?_map, List.getElem?_range h]
  rfl
theorem vals_get : ∀ (zs : List Int) (us : List Value), us.length = zs.length → (∀ (i : Nat) (z : Int) (u : Value), zs[i]? = some z → us[i]? = some u → ∃ t, u = .int z t) → Vals (intV zs) us
  | [], [], _, _ => .nil
  | z :: zs, u :: us, hl, h => .cons (h 0 z u rfl rfl) (vals_get zs us (by simpa using hl) fun i z u h1 h2 => h (i + 1) z u h1 h2)
  | [], _ :: _, hl, _ => by simp at hl
  | _ :: _, [], hl, _ => by simp at hl
theorem items_vals {lo : Int} {n : Nat} {acc : Array Value} (h : ItemsOf (fun i v => ∃ t, v = Value.int (lo + ↑i * 1) t) acc n) : Vals (intV (rng lo n)) acc.toList := by
  refine vals_get _ _ ?_ fun i z u h1 h2 => ?_
  · rw [rng_len, Array.length_toList]
    exact h.1
  · have hi : i < n := by
      have := (List.getElem?_eq_some_iff.mp h1).1
      rw [rng_len] at this
      exact this
    rw [rng_at hi] at h1
    obtain ⟨t, e⟩ := h.2 i u (by rw [← Array.getElem?_toList]; exact h2)
    exact ⟨t, by rw [e, ← Option.some.inj h1, Int.mul_one]⟩
section
variable {X : Cx} {a b : Expr} {ta : TA} {p p2 pos pos2 : Pos}
def tLR1 (ta : TA) : TE := fun σ H Q => ta σ H fun vs H1 => ∃ j : Nat, vs = [.int j] ∧ j ≤ 10000 ∧ ∀ l, H1 l = none → Q (.ref l) (upd H1 l (.lst (intV (rng 0 j))))
theorem list_range {pins : List (Addr × Obj)} {σ : St} {H : Hp} {s : Shared} {Q : VK} {lo hi : Int} {t u v : Tok} {tk : Nat} (hc : X.calm = true) (I : Inv X pins σ H s) (h1 : 0 ≤ lo) (h2 : lo ≤ 10000) (h3 : 0 ≤ hi) (h4 : hi ≤ 10000)
    (q : ∀ l, H l = none → Q (.ref l) (upd H l (.lst (intV (rng lo (hi - lo).toNat))))) : wpAny (model X.prog X.w) X.A (call (.type "list") [.ref s.heap.objs.size]) (EP X pins σ Q) X.xe { s with heap := s.heap.push { cls := .type "range", data := .fields #[.int lo t, .int hi u, .int 1 v] }, toks := tk } := by
  have I1 : Inv X pins σ H { s with heap := s.heap.push { cls := .type "range", data := .fields #[.int lo t, .int hi u, .int 1 v] }, toks := tk } := I.kept fun b o e => Heap.get?_push_of_some _ e
  have hsz : Builtin.Range.rangeSize lo hi 1 = (((hi - lo).toNat : Nat) : Int) := by rw [rangeSize_one]; split <;> omega
  refine call_list_range (n := (hi - lo).toNat) (I.ok.hd hc) (IsRange.new ..) (small_one (by omega) (by omega) (by omega) (by omega)) hsz (by omega) fun h' tk' acc' c' kp hg hit => ?_
  refine ⟨.ref _, _, I1.laid (t' := tk') (o := .lst (intV (rng lo (hi - lo).toNat))) kp (Nat.le_refl _) ⟨?_, acc'.toList, c', items_vals hit, ?_⟩, rfl, q _ (I1.hok.fresh (Nat.le_refl _))⟩
  · rw [ints_len, rng_len]
    exact Nat.le_trans (show (hi - lo).toNat ≤ 10000 by omega) (by decide)
  · rw [Array.toArray_toList]
    exact hg
theorem pe_listRange1 (hc : X.calm = true) (hgl : Gl X "list") (hml : X.mg "list" = none) (hg : Gl X "range") (hm : X.mg "range" = none) (ha : PA X [a] ta) (hs : starEach [a] X.env = [(false, eval a X.env)] := by rfl)
    (hs2 : starEach [.Call (.Name "range" p) [a] [] pos] X.env = [(false, eval (.Call (.Name "range" p) [a] [] pos) X.env)] := by rfl) : PE X (.Call (.Name "list" p2) [.Call (.Name "range" p) [a] [] pos] [] pos2) (tLR1 ta) := by
  intro pins s σ H Q I h
  refine wpAny_Call_Name_kw (ld_blt I hgl hml boot_list ?_)
  refine PyProof.Rows.callWith_type1 ?_ hs2 rfl
  rw [hs2]
  show wpAny _ _ (spliced ((false, eval (.Call (.Name "range" p) [a] [] pos) X.env) :: backTo pos2 [])) _ _ s
  refine Calls.spliced_cons ?_
  refine Call_ (ld_blt I hg hm boot_range (PyProof.Rows.callWith_type1 (thn (ha pos pins s σ H _ I h) fun us s1 ⟨vs, H1, I1, r1, q1⟩ => ?_) hs rfl))
  obtain ⟨j, e, hj, q⟩ := q1
  subst e
  cases r1 with
  | cons r rr =>
    cases rr
    obtain ⟨t, rfl⟩ := r
    refine call_range_1 (Calls.spliced_nil ?_)
    exact list_range hc I1 (by omega) (by omega) (by omega) (by omega) (by simpa using q)
end
end L2
set_option Elab.async false
set_option linter.all false
set_option maxRecDepth 100000
set_option maxHeartbeats 4000000
namespace L2
open PySem PySem.Spec PyProof.Rows
def RowsAt (H : Hp) (rs : List Addr) (rows : List (List Int)) : Prop := rs.length = rows.length ∧ ∀ (i : Nat) (r : Addr) (ns : List Int), rs[i]? = some r → rows[i]? = some ns → H r = some (.lst (intV ns))
def TabAt (H : Hp) (a : Addr) (rows : List (List Int)) : Prop := ∃ rs : List Addr, H a = some (.lst (rs.map V.ref)) ∧ RowsAt H rs rows
theorem RowsAt.same {H H' : Hp} {rs : List Addr} {rows : List (List Int)} (h : RowsAt H rs rows) (s : Same H H') : RowsAt H' rs rows := ⟨h.1, fun i r ns h1 h2 => s _ _ (h.2 i r ns h1 h2)⟩
theorem TabAt.same {H H' : Hp} {a : Addr} {rows : List (List Int)} (h : TabAt H a rows) (s : Same H H') : TabAt H' a rows := by
  obtain ⟨rs, h1, h2⟩ := h
  exact ⟨rs, s _ _ h1, h2.same s⟩
theorem vals_refs {rs : List Addr} : ∀ {us : List Value}, Vals (rs.map V.ref) us → us = rs.map Value.ref := by
  induction rs with
  | nil => intro us r; cases r; rfl
  | cons c rs ih =>
    intro us r
    cases r with
    | cons r0 r1 => cases r0; rw [ih r1]; rfl
theorem all_eqG {α : Type} [DecidableEq α] {ns ms : List α} (h : ns.length = ms.length) : (List.range ns.length).all (fun j => decide (ns[j]? = ms[j]?)) = decide (ns = ms) := by
  rw [Bool.eq_iff_iff, List.all_eq_true, decide_eq_true_iff]
  constructor
  · intro h1
    refine List.ext_getElem? fun i => ?_
    by_cases hi : i < ns.length
    · exact of_decide_eq_true (h1 i (List.mem_range.mpr hi))
    · rw [List.getElem?_eq_none (by omega), List.getElem?_eq_none (by omega)]
  · rintro rfl j _
    exact decide_eq_true rfl
section
variable {X : Cx} {pins : List (Addr × Obj)} {σ : St} {H : Hp} {s : Shared} {A : Around}
end
section
variable {X : Cx}
def rNeLI : R2 := fun x y H Q => ∃ a b ns ms, x = .ref a ∧ y = .ref b ∧ H a = some (.lst (intV ns)) ∧ H b = some (.lst (intV ms)) ∧ Q (.bl (!decide (ns = ms))) H
theorem op_neLI (hu : X.A.units < cLine) : OpR X (compareOp .NotEq) rNeLI := by
  intro pins s σ H x y v u Q I rx ry h
  obtain ⟨a, b, ns, ms, rfl, rfl, ha, hb, q⟩ := h
  cases rx
  cases ry
  obtain ⟨its, r1, p1, _⟩ := I.list (SqL.of ha)
  obtain ⟨its2, r2, p2, _⟩ := I.list (SqL.of hb)
  have l1 := r1.length
  have l2 := r2.length
  rw [ints_len] at l1 l2
  by_cases hl : ns.length = ms.length
  · refine SeqAt.RcNeAt.lists (e := fun j => decide (ns[j]? = ms[j]?)) p1.isList p2.isList (by rw [List.size_toArray, List.size_toArray]; omega) hu (fun j h1 h2 => eqItems r1 r2 j h1 h2) X.prog X.w X.xe _ ⟨.bl (!decide (ns = ms)), H, I, ?_, q⟩
    show _ = Value.bool (!decide (ns = ms))
    rw [List.size_toArray, ← l1, all_eqG hl]
  · have e : decide (ns = ms) = false := decide_eq_false (fun z => hl (by rw [z]))
    rw [e] at q
    refine SeqAt.RcNeAt.lists_lengths p1.isList p2.isList ?_ hu X.prog X.w X.xe _ ⟨.bl true, H, I, rfl, q⟩
    rw [List.size_toArray, List.size_toArray]
    simp
    omega
theorem ix_listK {K : PySem.W.Frag} (h : X.K = K) : IxR X (rIxL K) := by subst h; exact ix_list
theorem ix_tupK {K : PySem.W.Frag} (h : X.K = K) : IxR X (rIxT K) := by subst h; exact ix_tup
end
end L2
set_option Elab.async false
set_option linter.all false
set_option maxRecDepth 100000
set_option maxHeartbeats 4000000
namespace L2
open PySem PySem.Spec PyProof.Rows
def TupsAt (H : Hp) (ps : List Addr) (ws : List (List Int)) : Prop := ps.length = ws.length ∧ ∀ (i : Nat) (p : Addr) (w : List Int), ps[i]? = some p → ws[i]? = some w → H p = some (.tup (intV w))
def WordsAt (H : Hp) (a : Addr) (ws : List (List Int)) : Prop := ∃ ps : List Addr, H a = some (.lst (ps.map V.ref)) ∧ TupsAt H ps ws
theorem TupsAt.keep {H H' : Hp} {ps : List Addr} {ws : List (List Int)} (h : TupsAt H ps ws) (s : ∀ p xs, H p = some (.tup xs) → H' p = some (.tup xs)) : TupsAt H' ps ws := ⟨h.1, fun i p w h1 h2 => s _ _ (h.2 i p w h1 h2)⟩
theorem TupsAt.same {H H' : Hp} {ps : List Addr} {ws : List (List Int)} (h : TupsAt H ps ws) (s : Same H H') : TupsAt H' ps ws := h.keep fun p xs e => s _ _ e
theorem WordsAt.same {H H' : Hp} {a : Addr} {ws : List (List Int)} (h : WordsAt H a ws) (s : Same H H') : WordsAt H' a ws := by
  obtain ⟨ps, h1, h2⟩ := h
  exact ⟨ps, s _ _ h1, h2.same s⟩
theorem TupsAt.snoc {H : Hp} {ps : List Addr} {ws : List (List Int)} {p : Addr} {w : List Int} (h : TupsAt H ps ws) (hp : H p = some (.tup (intV w))) : TupsAt H (ps ++ [p]) (ws ++ [w]) := by
  refine ⟨by rw [List.length_append, List.length_append, h.1]; rfl, fun i q u h1 h2 => ?_⟩
  by_cases hi : i < ps.length
  · rw [List.getElem?_append_left hi] at h1
    rw [List.getElem?_append_left (by rw [← h.1]; exact hi)] at h2
    exact h.2 i q u h1 h2
  · rw [List.getElem?_append_right (by omega)] at h1
    rw [List.getElem?_append_right (by rw [← h.1]; omega)] at h2
    rw [List.mem_singleton.mp (List.mem_of_getElem? h1), List.mem_singleton.mp (List.mem_of_getElem? h2)]
    exact hp
section
variable {X : Cx} {pins : List (Addr × Obj)} {σ : St} {H : Hp} {s : Shared} {A : Around}
end
section
variable {X : Cx}
end
end L2
set_option Elab.async false
set_option linter.all false
set_option maxRecDepth 100000
set_option maxHeartbeats 4000000
namespace L2
open PySem PySem.Spec PyProof.Rows
section
variable {X : Cx}
def isInt (k : Int) : Value → Bool
  | .int z _ => z == k
  | _ => false
end
end L2
set_option Elab.async false
set_option linter.all false
set_option maxRecDepth 100000
set_option maxHeartbeats 4000000
namespace L2
open PySem PySem.Spec PyProof.Rows
section
variable {X : Cx} {tg : Expr}
end
end L2
set_option Elab.async false
set_option linter.all false
set_option maxRecDepth 100000
set_option maxHeartbeats 4000000
namespace L2
open PySem PySem.Spec PyProof.Rows
section
variable {X : Cx}
end
end L2
set_option Elab.async false
set_option linter.all false
set_option maxRecDepth 100000
set_option maxHeartbeats 4000000
namespace L2
open PySem PySem.Spec PyProof.Rows
section
variable {X : Cx}
end
end L2
set_option Elab.async false
set_option linter.all false
set_option maxRecDepth 100000
set_option maxHeartbeats 4000000
namespace L2
open PySem PySem.Spec PyProof.Rows
section
variable {X : Cx}
end
end L2
set_option Elab.async false
set_option linter.all false
set_option maxRecDepth 100000
set_option maxHeartbeats 4000000
namespace L2
open PySem PySem.Spec PyProof.Rows
abbrev ZipG (h : Heap) (z TI TO : Addr) (u : Value) (b : Bool) : Prop :=
  h.get? z = some { cls := .type "zip", dict := none, data := .fields #[u, .bool b, .bool false, .ref TI, .ref TO], slots := #[] }
namespace En
section
variable {prog : Program} {w : World} {A : Around} {E : Value → Shared → Prop} {s : Shared}
theorem alive_or {a : Addr} {Q : Option Obj → Shared → Prop} (h : Q (s.heap.get? a) s) : wpAny (model prog w) A (loadIfAlive a) Q E s := fun _ _ _ => h
theorem held {z TI TO T : Addr} {o : Obj} {b : Bool} {Q : Bool → Shared → Prop} (hz : ZipG s.heap z TI TO (rawInt T) b) (ho : s.heap.get? T = some o)
    (hQ : ∀ g1, ZipG g1 z TI TO (rawInt T) true → Heap.SameBut z s.heap g1 → Q false { s with heap := g1 }) :
    wpAny (model prog w) A (Builtin.SmallTypes.ownedTupleIsFree (.ref z)) Q E s := by
  unfold Builtin.SmallTypes.ownedTupleIsFree
  refine wpAny_bind (wpAny_field hz rfl (x := rawInt T) rfl ?_)
  show wpAny _ _ (loadIfAlive ((T : Int)).toNat >>= _) _ _ _
  rw [Int.toNat_natCast]
  refine wpAny_bind (alive_or ?_)
  rw [ho]
  simp only [Option.isNone_some, Bool.false_eq_true, if_false]
  refine wpAny_bind (wpAny_field hz rfl (x := .bool b) rfl ?_)
  cases b with
  | true =>
    rw [if_neg (by simp)]
    exact wpAny_pure (hQ _ hz (Heap.SameBut.refl ..))
  | false =>
    rw [if_pos (by simp)]
    refine wpAny_bind (wpAny_setField_rec hz (by simp) fun g1 z1 b1 => ?_)
    exact wpAny_pure (hQ g1 z1 b1)
end
end En
end L2
set_option Elab.async false
set_option linter.all false
set_option maxRecDepth 100000
set_option maxHeartbeats 4000000
namespace L2
open PySem PySem.Spec PyProof.Rows
namespace En
open AutoSeq1 (wpAny_loadPart')
section
variable {prog : Program} {w : World} {A : Around} {E : Value → Shared → Prop} {s : Shared}
end
end En
section
variable {X : Cx}
end
end L2
set_option Elab.async false
set_option linter.all false
set_option maxRecDepth 100000
set_option maxHeartbeats 4000000
namespace L2
open PySem PySem.Spec PyProof.Rows
namespace En
open AutoSeq1 (wpAny_loadPart')
section
variable {prog : Program} {w : World} {A : Around} {E : Value → Shared → Prop} {s : Shared}
end
end En
section
variable {X : Cx}
end
end L2
set_option Elab.async false
set_option linter.all false
set_option maxRecDepth 100000
set_option maxHeartbeats 4000000
namespace L2
open PySem PySem.Spec PyProof.Rows
section
variable {X : Cx}
end
section
variable {X : Cx} {tg : Expr}
end
section
variable {X : Cx} {pins : List (Addr × Obj)} {σ : St} {H : Hp} {s : Shared} {A : Around}
theorem all_true (n : Nat) (f : Nat → Bool) (h : ∀ j, f j = true) : (List.range n).all f = true := List.all_eq_true.mpr fun j _ => h j
end
section
variable {X : Cx}
end
end L2
set_option Elab.async false
set_option linter.all false
set_option maxRecDepth 100000
set_option maxHeartbeats 4000000
namespace L2
open PySem PySem.Spec PyProof.Rows
def RawD (h : Heap) (d : Addr) (es : Array DictEntry) (ep : Nat) : Prop := ∃ o, h.get? d = some o ∧ o.ExactDict ∧ o.data = .dict es ep
namespace Dk
section
variable {prog : Program} {w : World} {A : Around} {E : Value → Shared → Prop} {s : Shared} {d : Addr} {es : Array DictEntry} {ep : Nat}
theorem typ (hm : RawD s.heap d es ep) : s.TypeIs (.ref d) "dict" := let ⟨o, ho, hc, _⟩ := hm; ⟨o, ho, hc.1⟩
theorem iter {Q : Value → Shared → Prop} (hd : (d == sysModules) = false) (hm : RawD s.heap d es ep)
    (hQ : Q (.ref s.heap.objs.size) { s with heap := s.heap.push { cls := .type "dict_keyiterator", data := .fields #[.ref d, .int 0 0, .int es.size 0, .int ep 0] } }) : wpAny (model prog w) A (pyIter (.ref d)) Q E s := by
  have hT := typ hm
  obtain ⟨o, ho, hc, hdat⟩ := hm
  refine wpAny_pyIter_slot hT F.slot_dict_iter (wpAny_call_entry F.slot_dict_iter hT F.entry_dict_iter ?_ (F.args_dict_iter_1 _))
  unfold Builtin.«dict.__iter__»
  refine wpAny_bind ?_
  unfold Builtin.Dict.dictSlotNone
  refine wpAny_bind (wpAny_notOrdered_dict hT ?_)
  show wpAny _ _ (pure (Value.ref d)) _ _ s
  refine wpAny_pure ?_
  show wpAny _ _ (Builtin.Dict.showsAll d >>= _) _ _ s
  unfold Builtin.Dict.showsAll
  rw [if_neg (by rw [hd]; exact Bool.false_ne_true)]
  refine wpAny_bind (wpAny_pure (wpAny_bind (wpAny_dictEntries ho hdat (wpAny_bind (wpAny_dictEpoch ho hdat ?_)))))
  exact wpAny_bind (wpAny_newObj_type (wpAny_pure ⟨_, rfl, "dict_keyiterator", _, ⟨_, Heap.get?_push_size _ rfl, rfl⟩, F.slot_dict_keyiterator_next.lookup, by simpa [rawInt] using hQ⟩))
theorem item {it : Addr} {i : Nat} {en : DictEntry} {Q : Option Value → Shared → Prop} (hit : s.heap.IsKeyIter it d i es.size ep) (hm : RawD s.heap d es ep) (hx : es[i]? = some en)
    (hQ : ∀ g1, g1.IsKeyIter it d (i + 1) es.size ep → Heap.SameBut it s.heap g1 → Q (some en.key) { s with heap := g1 }) : wpAny (model prog w) A (pyNext (.ref it)) Q E s := by
  obtain ⟨o, ho, hc, hd⟩ := id hit
  obtain ⟨od, hod, hcd, hdd⟩ := id hm
  unfold pyNext
  refine wpAny_bind (wpAny_attempt (wpAny_callSpecial?_slot (name := Str.ofString "__next__") hit.typeIs F.slot_dict_keyiterator_next (wpAny_call_entry F.slot_dict_keyiterator_next hit.typeIs F.entry_dict_keyiterator_next ?_ (F.args_dict_keyiterator_next_1 _))))
  refine wpAny_bind (wpAny_pure (wpAny_bind (wpAny_bind ?_)))
  first | refine wpAny_bind (wpAny_typeNameOfWhole_keyiter hit.typeIs (wpAny_pure ?_)) | refine wpAny_bind (wpAny_typeNameOf_keyiter hit.typeIs (wpAny_pure ?_))
  refine wpAny_bind (wpAny_fieldsOf ho hd ?_)
  have own : Builtin.Dict_items.ownsTuple "dict_keyiterator" = false := by decide
  simp only [own, Bool.false_eq_true, if_false]
  show wpAny _ _ (if (Value.ref d == Value.none) = true then _ else _) _ _ s
  rw [if_neg (show ¬ ((Value.ref d == Value.none) = true) from Bool.false_ne_true)]
  refine wpAny_bind (wpAny_pure (wpAny_bind (wpAny_dictEntries hod hdd ?_)))
  rw [if_neg (by simp)]
  refine wpAny_bind (wpAny_pure (wpAny_bind (wpAny_dictEpoch hod hdd ?_)))
  rw [if_neg (by simp)]
  refine wpAny_pure ?_
  simp only [show ¬ ((i : Int) < 0) from by omega, if_false, Int.toNat_natCast, hx]
  refine wpAny_bind ?_
  first | refine wpAny_bind (wpAny_typeNameOfWhole_keyiter hit.typeIs (wpAny_pure ?_)) | refine wpAny_bind (wpAny_typeNameOf_keyiter hit.typeIs (wpAny_pure ?_))
  refine wpAny_bind (wpAny_isOneOf_keyiter hit.typeIs ?_)
  show wpAny _ _ (setField (.ref it) 1 (rawInt ((i : Int) + 1)) >>= _) _ _ s
  refine wpAny_bind (wpAny_setField ho hd (by simp) ?_)
  have j1 : (s.heap.update it (Obj.mapFields (·.setIfInBounds 1 (rawInt ((i : Int) + 1))))).IsKeyIter it d (i + 1) es.size ep :=
    ⟨_, Heap.get?_update_self _ ho (Obj.isFreed_of_fields (Obj.data_mapFields hd _)), (Obj.cls_mapFields ..).trans hc, by rw [Obj.data_mapFields hd]; simp [rawInt]⟩
  refine wpAny_bind (wpAny_holding ?_)
  refine wpAny_bind (wpAny_isOneOf_keyiter (s := { s with heap := s.heap.update it (Obj.mapFields (·.setIfInBounds 1 (rawInt ((i : Int) + 1)))) }) j1.typeIs ?_)
  show wpAny _ _ (pure en.key) _ _ _
  exact wpAny_pure (wpAny_pure ⟨_, rfl, wpAny_pure (hQ _ j1 (Heap.SameBut.update ..))⟩)
theorem fin {it : Addr} {i : Nat} {Q : Option Value → Shared → Prop} (hh : A.handled = none) (hit : s.heap.IsKeyIter it d i es.size ep) (hm : RawD s.heap d es ep) (hx : es[i]? = none)
    (hQ : ∀ g1, Heap.ExtBut it s.heap g1 → Q none { s with heap := g1 }) : wpAny (model prog w) A (pyNext (.ref it)) Q E s := by
  obtain ⟨o, ho, hc, hd⟩ := id hit
  obtain ⟨od, hod, hcd, hdd⟩ := id hm
  unfold pyNext
  refine wpAny_bind (wpAny_attempt (wpAny_callSpecial?_slot (name := Str.ofString "__next__") hit.typeIs F.slot_dict_keyiterator_next (wpAny_call_entry F.slot_dict_keyiterator_next hit.typeIs F.entry_dict_keyiterator_next ?_ (F.args_dict_keyiterator_next_1 _))))
  refine wpAny_bind (wpAny_pure (wpAny_bind (wpAny_bind ?_)))
  first | refine wpAny_bind (wpAny_typeNameOfWhole_keyiter hit.typeIs (wpAny_pure ?_)) | refine wpAny_bind (wpAny_typeNameOf_keyiter hit.typeIs (wpAny_pure ?_))
  refine wpAny_bind (wpAny_fieldsOf ho hd ?_)
  have own : Builtin.Dict_items.ownsTuple "dict_keyiterator" = false := by decide
  simp only [own, Bool.false_eq_true, if_false]
  show wpAny _ _ (if (Value.ref d == Value.none) = true then _ else _) _ _ s
  rw [if_neg (show ¬ ((Value.ref d == Value.none) = true) from Bool.false_ne_true)]
  refine wpAny_bind (wpAny_pure (wpAny_bind (wpAny_dictEntries hod hdd ?_)))
  rw [if_neg (by simp)]
  refine wpAny_bind (wpAny_pure (wpAny_bind (wpAny_dictEpoch hod hdd ?_)))
  rw [if_neg (by simp)]
  refine wpAny_pure ?_
  simp only [show ¬ ((i : Int) < 0) from by omega, if_false, Int.toNat_natCast, hx]
  refine wpAny_bind ?_
  first | refine wpAny_bind (wpAny_typeNameOfWhole_keyiter hit.typeIs (wpAny_pure ?_)) | refine wpAny_bind (wpAny_typeNameOf_keyiter hit.typeIs (wpAny_pure ?_))
  show wpAny _ _ (setField (.ref it) 0 .none >>= _) _ _ s
  refine wpAny_bind (wpAny_setField ho hd (by simp) ?_)
  show wpAny _ _ (newExc (.type "StopIteration") [] >>= _) _ _ _
  refine wpAny_bind ?_
  simp only [newExc, newTuple]
  refine wpAny_bind (wpAny_newObj_type ?_ (by size_fits))
  refine wpAny_bind (m := firstArgMember _ _) (wpAny_of_eq (a := Value.none) (by first | rfl | (simp only [firstArgMember]; rfl)) ?_)
  refine wpAny_newObj_type ?_ (by size_fits)
  simp only [raiseNew]
  refine wpAny_bind (wpAny_handled ?_)
  rw [show A.in1.handled = none from hh]
  refine wpAny_bind (wpAny_pure (wpAny_throw ?_))
  refine wpAny_bind (wpAny_isInstance (T := "StopIteration") (b := true) ⟨_, Heap.get?_push_size _ rfl, rfl⟩ isSubtype_stop ?_)
  exact wpAny_pure (hQ _ (((Heap.SameBut.update ..).extBut.push _).push _))
theorem RawD.at {h h' : Heap} (x : RawD h d es ep) (e : ∀ o, h.get? d = some o → h'.get? d = some o) : RawD h' d es ep := let ⟨o, ho, r⟩ := x; ⟨o, e _ ho, r⟩
theorem walks (hh : A.handled = none) (I : Addr) (hne : d ≠ I) : Walks prog w A I [I, d] [I] es.size (fun i v => ∃ en, es[i]? = some en ∧ v = en.key) (fun i h => h.IsKeyIter I d i es.size ep ∧ RawD h d es ep) where
  sub := fun b hb => by simp at hb; simp [hb]
  frame := fun _ _ _ st hk => ⟨st.1.at fun o e => hk I (by simp) o e, RawD.at st.2 fun o e => hk d (by simp) o e⟩
  item := fun i s Q E hi st hQ => by
    refine item (en := es[i]) st.1 st.2 (by simp [hi]) fun g1 j1 b1 => ?_
    exact hQ _ g1 s.toks ⟨_, by simp [hi], rfl⟩ ⟨j1, RawD.at st.2 fun o e => b1.extBut _ _ hne e⟩ fun b o hb e => b1.extBut b o (fun h => hb (by simp [h])) e
  done := fun s Q E st hQ => fin hh st.1 st.2 (by simp) fun g1 b1 => hQ g1 s.toks fun b o hb e => b1 b o (fun h => hb (by simp [h])) e
  self := fun _ _ _ _ st hQ => wpAny_pyIter_keyiter st.1 hQ
theorem hint {Q : Bool → Shared → Prop} (hm : RawD s.heap d es ep) (h : Q false s) : wpAny (model prog w) A (Builtin.List.listLengthHint (.ref d)) Q E s := by
  unfold Builtin.List.listLengthHint
  refine wpAny_bind (wpAny_specialOf (typ hm) F.slot_dict_len.lookup ?_)
  generalize hid : ("dict.__len__" : String) = id0
  wp_delta
  rw [show splitId id0 = some ("dict", "__len__") from by subst hid; decide +kernel]
  subst hid
  refine wpAny_bind (wpAny_isInstance (T := "dict") (b := true) (typ hm) (by rw [isSubtype_type]; kernel_rfl) ?_)
  refine wpAny_ite_split (fun hab => absurd hab (by decide)) (fun _ => ?_)
  refine wpAny_ite_split (fun _ => ?_) (fun hab => absurd (by decide +kernel) hab)
  exact wpAny_bind (wpAny_typeOf (T := "dict") (typ hm) (wpAny_pure h))
theorem extend {R : Result → Shared → Prop} (hh : A.handled = none) (hd : (d == sysModules) = false) (hm : RawD s.heap d es ep) (hlen : es.size ≤ sizeLine) (S : Addr) (res : Value) (c₀ : Nat) (hS : s.heap.get? S = some { cls := .type "list", data := .seq #[] c₀ })
    (hR : ∀ g1 tk acc' c', (∀ b o, b ≠ S → s.heap.get? b = some o → g1.get? b = some o) → g1.get? S = some { cls := .type "list", dict := none, data := .seq acc' c', slots := #[] } →
      ItemsOf (fun i v => ∃ en, es[i]? = some en ∧ v = en.key) acc' es.size → R (.ok (.ret res)) { s with heap := g1, toks := tk }) :
    wpAny (model prog w) A.in1 (Builtin.List.listExtendWith (.ref S) (.ref d) res)
      (fun fin s' => match fin with | .done f => R (.ok f) s' | .again c' => c'.quiet = true ∧ codeAny (model prog w) A c' R s') (fun e s' => R (.error e) s') s := by
  have hSd : S ≠ d := fun e => by
    obtain ⟨o, ho, hc, hdat⟩ := hm
    rw [← e, hS] at ho
    rw [← Option.some.inj ho] at hdat
    cases hdat
  have hdl : d < s.heap.objs.size := by obtain ⟨o, ho, _⟩ := hm; exact Heap.lt_size ho
  have hSI : S ≠ s.heap.objs.size := Nat.ne_of_lt (Heap.lt_size hS)
  have hdI : d ≠ s.heap.objs.size := Nat.ne_of_lt hdl
  unfold Builtin.List.listExtendWith
  refine wpAny_bind (wpAny_typeOf (T := "dict") (typ hm) ?_)
  have h1 : Builtin.List.listSameRef (.ref S) (.ref d) = false := by simp [Builtin.List.listSameRef, hSd]
  have h2 : (Value.type "dict" == Value.type "list") = false := by decide
  have h3 : (Value.type "dict" == Value.type "tuple") = false := by decide
  simp only [h1, h2, h3, Bool.or_false, Bool.false_eq_true, if_false]
  refine wpAny_bind (iter hd hm ?_)
  have hm1 : RawD (s.heap.push { cls := .type "dict_keyiterator", data := .fields #[.ref d, .int 0 0, .int es.size 0, .int ep 0] }) d es ep := RawD.at hm fun o e => Heap.get?_push_of_some _ e
  refine wpAny_bind (wpAny_holding (hint (s := { s with heap := s.heap.push { cls := .type "dict_keyiterator", data := .fields #[.ref d, .int 0 0, .int es.size 0, .int ep 0] } }) hm1 ?_))
  have hS1 := Heap.get?_push_of_some { cls := .type "dict_keyiterator", data := .fields #[.ref d, .int 0 0, .int es.size 0, .int ep 0] } hS
  have hI1 : (s.heap.push { cls := .type "dict_keyiterator", data := .fields #[.ref d, .int 0 0, .int es.size 0, .int ep 0] }).IsKeyIter s.heap.objs.size d 0 es.size ep := ⟨_, Heap.get?_push_size _ rfl, rfl, rfl⟩
  have kp : ∀ b o, s.heap.get? b = some o → (s.heap.push { cls := .type "dict_keyiterator", data := .fields #[.ref d, .int 0 0, .int es.size 0, .int ep 0] }).get? b = some o := fun b o e => Heap.get?_push_of_some _ e
  generalize s.heap.push { cls := .type "dict_keyiterator", data := .fields #[.ref d, .int 0 0, .int es.size 0, .int ep 0] } = h1' at hS1 hI1 kp hm1 ⊢
  refine wpAny_ite_split (fun _ => ?_) (fun hab => absurd (by decide +kernel) hab)
  refine wpAny_bind (wpAny_rule ?_)
  refine wpAny_bind ?_
  show wpAny _ _ (updateSeq S (·.push .none) >>= fun _ => updateSeq S (·.pop)) _ _ _
  refine wpAny_bind (wpAny_updateSeq hS1 rfl ?_)
  have hS2 := Heap.get?_update_self (Obj.mapSeq (·.push Value.none)) hS1 rfl
  refine wpAny_updateSeq (hz := by seq_fits) hS2 rfl ?_
  have hS3 := Heap.get?_update_self (Obj.mapSeq (·.pop)) hS2 rfl
  have oth : ∀ b o, b ≠ S → h1'.get? b = some o → ((h1'.update S (Obj.mapSeq (·.push Value.none))).update S (Obj.mapSeq (·.pop))).get? b = some o := fun b o hb e => (Heap.get?_update_other _ _ (Ne.symm hb)).trans ((Heap.get?_update_other _ _ (Ne.symm hb)).trans e)
  have W := (walks (prog := prog) (w := w) (A := A.in1) (d := d) (es := es) (ep := ep) hh s.heap.objs.size hdI).toS
  have hSf : S ∉ [s.heap.objs.size, d] := fun hmem => by
    rcases List.mem_cons.mp hmem with e | hmem
    · exact hSI e
    · exact hSd (List.mem_singleton.mp hmem)
  refine wpAny_pure ⟨plainId_quiet F.plain_extend_loop _, ?_⟩
  refine codeAny_extend_loopS W hlen S hSf res es.size 0 _ #[] _ rfl (Nat.zero_le _) ⟨hI1.at fun o e => oth _ o (Ne.symm hSI) e, RawD.at hm1 fun o e => oth _ o (Ne.symm hSd) e⟩ hS3 (ItemsOf.nil _) fun s' acc' c' hmv hS' hacc => ?_
  rw [Moved.eq_with hmv]
  refine hR s'.heap s'.toks acc' c' (fun b o hb e => hmv.heap b o (fun hmem => ?_) (oth b o hb (kp b o e))) hS' hacc
  rcases List.mem_cons.mp hmem with e' | hmem
  · exact hb e'
  · exact absurd (Heap.lt_size e) (by rw [List.mem_singleton.mp hmem]; exact Nat.lt_irrefl _)
theorem init {R : Result → Shared → Prop} (hh : A.handled = none) (hd : (d == sysModules) = false) (hm : RawD s.heap d es ep) (hlen : es.size ≤ sizeLine) (S : Addr) (hS : s.heap.get? S = some { cls := .type "list", data := .seq #[] })
    (hR : ∀ g1 tk acc' c', (∀ b o, b ≠ S → s.heap.get? b = some o → g1.get? b = some o) → g1.get? S = some { cls := .type "list", dict := none, data := .seq acc' c', slots := #[] } →
      ItemsOf (fun i v => ∃ en, es[i]? = some en ∧ v = en.key) acc' es.size → R (.ok (.ret .none)) { s with heap := g1, toks := tk }) :
    wpAny (model prog w) A.in1 (Builtin.«list.__init__» ⟨[.ref S, .ref d], []⟩)
      (fun fin s' => match fin with | .done f => R (.ok f) s' | .again c' => c'.quiet = true ∧ codeAny (model prog w) A c' R s') (fun e s' => R (.error e) s') s := by
  have hSd : d ≠ S := fun e => by
    obtain ⟨o, ho, hc, hdat⟩ := hm
    rw [e, hS] at ho
    rw [← Option.some.inj ho] at hdat
    cases hdat
  show wpAny _ _ (do let old ← Builtin.List.listItems (.ref S); Builtin.List.listUpdate (.ref S) (fun _ => #[]); letGo old.toList.reverse; Builtin.List.listExtendWith (.ref S) (.ref d) .none) _ _ s
  refine wpAny_bind ?_
  unfold Builtin.List.listItems
  refine wpAny_bind (wpAny_seqItems hS rfl (wpAny_pure ?_))
  show wpAny _ _ (updateSeq S (fun _ => #[]) >>= fun _ => letGo (#[] : Array Value).toList.reverse >>= fun _ => Builtin.List.listExtendWith (.ref S) (.ref d) .none) _ _ s
  refine wpAny_bind (wpAny_updateSeq hS rfl ?_)
  have hS2 := Heap.get?_update_self (Obj.mapSeq (fun _ => (#[] : Array Value))) hS rfl
  have oth : ∀ b o, b ≠ S → s.heap.get? b = some o → (s.heap.update S (Obj.mapSeq (fun _ => (#[] : Array Value)))).get? b = some o := fun b o hb e => (Heap.get?_update_other _ _ (Ne.symm hb)).trans e
  refine wpAny_bind (wpAny_letGo ?_)
  refine extend (s := { s with heap := s.heap.update S (Obj.mapSeq (fun _ => (#[] : Array Value))) }) hh hd (RawD.at hm fun o e => oth _ o hSd e) hlen S .none _ hS2 fun g1 tk acc' c' hk hS' hacc => ?_
  exact hR g1 tk acc' c' (fun b o hb e => hk b o hb (oth b o hb e)) hS' hacc
end
end Dk
theorem kt_at {H : Hp} : ∀ {kvs : List (List Key × V)} {ys : List (List Key × Addr × Value)}, KT H kvs ys → ∀ {i : Nat} {kv : List Key × V} {y : List Key × Addr × Value}, kvs[i]? = some kv → ys[i]? = some y → H y.2.1 = some (.tup (kv.1.map kV))
  | [], _, h, i, kv, y, h1, _ => by simp at h1
  | k :: kvs, _, h, i, kv, y, h1, h2 => by
    cases h with
    | cons h0 ht =>
      cases i with
      | zero =>
        rw [← Option.some.inj h1, ← Option.some.inj h2]
        exact h0.2.1
      | succ i => exact kt_at ht h1 h2
section
variable {X : Cx}
end
end L2
set_option Elab.async false
set_option linter.all false
set_option maxRecDepth 100000
set_option maxHeartbeats 4000000
namespace L2
open PySem PySem.Spec PyProof.Rows
open Sem (wp)
open AutoSeq1 (wpAny_loadPart')
section
variable {prog : Program} {w : World} {A : Around} {E : Value → Shared → Prop} {s : Shared}
end
section
variable {X : Cx} {a b : Expr} {ta : TA} {p p2 pos pos2 : Pos}
end
section
variable {X : Cx}
end
end L2
set_option Elab.async false
set_option linter.all false
set_option maxRecDepth 100000
set_option maxHeartbeats 4000000
namespace L2
open PySem PySem.Spec PyProof.Rows
structure MDef (K : PySem.W.Frag) (C : Addr) (x q : Str) (st : Stmt) (ps : List Str) (f : Addr) (fd : FuncData) : Prop where
  F : Fun K x q st f fd
  m : Meth K C x f
  b : Binds K fd ps []
section
variable {X : Cx}
end
section
variable {X : Cx} {o e : Expr} {es : List Expr} {to : TE} {t : TA} {name : Str} {apos cpos : Pos} {T id : String} {r : V → List V → Hp → VK → Prop}
end
end L2
set_option Elab.async false
set_option linter.all false
set_option maxRecDepth 100000
set_option maxHeartbeats 4000000
namespace L2
open PySem PySem.Spec PyProof.Rows
section
variable {prog : Program} {w : World} {A : Around} {E : Value → Shared → Prop}
end
section
variable {X : Cx}
end
end L2
set_option Elab.async false
set_option linter.all false
set_option maxRecDepth 100000
set_option maxHeartbeats 4000000
namespace L2
open PySem PySem.Spec PyProof.Rows
open PySem.W (KasT kas_rev kas_asc kas_desc kas_tail3 kas_descPart kas_count kas_place kas_bin kas_sort kas_ask kas_ask_eq kas_runs kas_st kas_range kas_item kas_item_eq)
namespace Srt
def Gd {α : Type} (P : Nat → Nat → Prop) (f : Nat → Nat → Bool) : KasT α → (α → Prop) → Prop
  | .ret a, Q => Q a
  | .ask i j k, Q => P i j ∧ Gd P f (k (f i j)) Q
theorem Gd.bind {α β : Type} {P : Nat → Nat → Prop} {f : Nat → Nat → Bool} {g : α → KasT β} {Q : β → Prop} : ∀ {t : KasT α}, Gd P f t (fun a => Gd P f (g a) Q) → Gd P f (t.bind g) Q
  | .ret _, h => h
  | .ask i j k, h => ⟨h.1, Gd.bind (t := k (f i j)) h.2⟩
theorem Gd.wp {α : Type} {P : Nat → Nat → Prop} {f : Nat → Nat → Bool} {cmp : Nat → Nat → (Bool → Shared → Prop) → Shared → Prop} {s : Shared} (hc : ∀ i j C, P i j → C (f i j) s → cmp i j C s) {Q : α → Prop} {G : α → Shared → Prop} (hQ : ∀ a, Q a → G a s) : ∀ {t : KasT α}, Gd P f t Q → t.kasWp cmp G s
  | .ret _, h => hQ _ h
  | .ask i j k, h => hc i j _ h.1 (Gd.wp hc hQ (t := k (f i j)) h.2)
section
variable {n : Nat} {key : Nat → Int}
structure Pr (n : Nat) (p : Array Nat) : Prop where
  sz : p.size = n
  lt : ∀ i, i < n → p.getD i 0 < n
  inj : ∀ i j, i < n → j < n → p.getD i 0 = p.getD j 0 → i = j
def Up (key : Nat → Int) (p : Array Nat) (m : Nat) : Prop := ∀ i j, i < j → j < m → key (p.getD i 0) < key (p.getD j 0)
def Dn (key : Nat → Int) (p : Array Nat) (m : Nat) : Prop := ∀ i j, i < j → j < m → key (p.getD j 0) < key (p.getD i 0)
def Ok (n : Nat) (key : Nat → Int) (i j : Nat) : Prop := i < n ∧ j < n ∧ key i ≠ key j
def Inj (n : Nat) (key : Nat → Int) : Prop := ∀ i j, i < n → j < n → key i = key j → i = j
abbrev ask (key : Nat → Int) (i j : Nat) : Bool := decide (key i < key j)
theorem Pr.ok {p : Array Nat} (h : Pr n p) (hk : Inj n key) {i j : Nat} (hi : i < n) (hj : j < n) (hij : i ≠ j) : Ok n key (p.getD i 0) (p.getD j 0) :=
  ⟨h.lt i hi, h.lt j hj, fun e => hij (h.inj i j hi hj (hk _ _ (h.lt i hi) (h.lt j hj) e))⟩
theorem Up.more {p : Array Nat} {m : Nat} (h : Up key p m) (hm : 1 ≤ m) (hl : key (p.getD (m - 1) 0) < key (p.getD m 0)) : Up key p (m + 1) := fun i j hij hj => by
  by_cases e : j = m
  · subst e
    by_cases e2 : i = j - 1
    · rw [e2]; exact hl
    · exact Int.lt_trans (h i (j - 1) (by omega) (by omega)) hl
  · exact h i j hij (by omega)
theorem Dn.more {p : Array Nat} {m : Nat} (h : Dn key p m) (hm : 1 ≤ m) (hl : key (p.getD m 0) < key (p.getD (m - 1) 0)) : Dn key p (m + 1) := fun i j hij hj => by
  by_cases e : j = m
  · subst e
    by_cases e2 : i = j - 1
    · rw [e2]; exact hl
    · exact Int.lt_trans hl (h i (j - 1) (by omega) (by omega))
  · exact h i j hij (by omega)
end
end Srt
end L2
set_option Elab.async false
set_option linter.all false
set_option maxRecDepth 100000
set_option maxHeartbeats 4000000
namespace L2
open PySem PySem.Spec PyProof.Rows
open AutoSeq1 (wpAny_loadPart')
open PySem.W (KasT kas_sort kas_ask kas_ask_eq kas_runs kas_st kas_range kas_item kas_item_eq)
namespace Srt
section
variable {prog : Program} {w : World} {A : Around} {E : Value → Shared → Prop} {s : Shared}
end
end Srt
end L2
set_option Elab.async false
set_option linter.all false
set_option maxRecDepth 100000
set_option maxHeartbeats 4000000
namespace L2
open PySem PySem.Spec PyProof.Rows
section
variable {X : Cx}
end
end L2
set_option Elab.async false
set_option linter.all false
set_option maxRecDepth 100000
set_option maxHeartbeats 4000000
namespace L2
open PySem PySem.Spec PyProof.Rows
theorem miss_keys : typeLookup (.type "list") "keys" = pure none := by rw [typeLookup_type, builtinLookup_eq_fast]; kernel_rfl
theorem try_keys {prog : Program} {w : World} {A : Around} {E : Value → Shared → Prop} {s : Shared} {a : Addr} {xs : Array Value} {k : Nat} {Q : Option Value → Shared → Prop}
    (hx : s.heap.get? a = some { cls := .type "list", data := .seq xs k }) (hA : A.handled = none)
    (h : ∀ h' tk, (∀ b o, s.heap.get? b = some o → h'.get? b = some o) → Q none { s with heap := h', toks := tk }) :
    wpAny (model prog w) A (getAttr? (.ref a) "keys") Q E s := by
  obtain ⟨hp, g, d, tk, os⟩ := s
  have hT : ∀ tk', (⟨hp, g, d, tk', os⟩ : Shared).TypeIs (.ref a) "list" := fun _ => ⟨_, hx, rfl⟩
  have f1 := sub_AttributeError
  have f3 := F.slot_list_getattribute.lookup
  have f4 := F.slot_list_getattribute.bind (.ref a)
  have f5 := am_list_getattr_none
  unfold getAttr? getAttrBy? getAttrBy
  repeat (any_goals (first | assumption | exact hT _ | ((with_reducible show wpAny _ _ (call (Value.builtin "list.__getattribute__") _ _) _ _ _); refine call_meets F.slot_list_getattribute (hT _) am_entry_list_getattribute (F.args_list_getattribute_2 _ _) (meets_getattribute_miss_list a xs k #[] "keys" _ miss_keys (by decide +kernel) (by decide +kernel)) ⟨hx, hA, fun h' tk' e hx' => ?_⟩) | wp_step))
  obtain ⟨t', u', he⟩ := hx'.there
  show wpAny _ _ (getattributeRaised _ _ _ _ _ _ _) _ _ _
  unfold getattributeRaised
  repeat (any_goals (first | assumption | wp_step))
  exact h _ _ hx'.keeps
theorem entry_upd_loop : entryFor table "dict.update.loop" = some Builtin.«dict.update.loop» := entryFor_of_fast (by kernel_rfl)
theorem plain_upd_loop : plainId "dict.update.loop" = true := by decide +kernel
section
variable {prog : Program} {w : World} {K : Type} [DecidableEq K] {knd : KeyKind prog w K} {A : Around} {E : Value → Shared → Prop}
theorem loop_pairs {R : Result → Shared → Prop} {it l d : Addr} {its : List Value} {rs : List (K × Value)} (hh : A.in1.handled = none) (hne : l ≠ it) (ndi : d ≠ it) (ndl : d ≠ l) (hlen : its.length = rs.length) (hsz : rs.length ≤ sizeLine) :
    ∀ (k i : Nat) (s : Shared), its.length - i = k → i ≤ its.length → s.heap.IsListIter it l i → s.heap.IsList l its.toArray → s.heap.DictOf knd d (merged [] (rs.take i)) →
    (∀ (j : Nat) (u : Value) (kv : K × Value), its[j]? = some u → rs[j]? = some kv → ∃ p key, u = .ref p ∧ p ≠ d ∧ p ≠ it ∧ knd.is kv.1 key = true ∧ IsTup s.heap p #[key, kv.2]) →
    (∀ h' tk, h'.DictOf knd d (merged [] rs) → (∀ b o, b ≠ d → b ≠ it → s.heap.get? b = some o → h'.get? b = some o) → R (.ok (.ret .none)) { s with heap := h', toks := tk }) →
    codeAny (model prog w) A (.builtin "dict.update.loop" ⟨[.ref d, .ref it, rawInt (i : Int), .none], []⟩) R s := by
  have W := Walks.list (prog := prog) (w := w) (A := A.in1) hh it l hne its.toArray
  have wr1 : ∀ b : Addr, b ≠ it → b ∉ [it] := fun b hb z => hb (List.mem_singleton.mp z)
  intro k
  induction k with
  | zero =>
    intro i s hk hi hit hl hd hp hR
    have ei : i = its.length := by omega
    refine codeAny_builtin entry_upd_loop ?_
    rw [Around.under_plainId plain_upd_loop _]
    show wpAny _ A.in1 (pyNext (.ref it) >>= _) _ _ s
    refine wpAny_bind (W.done s _ _ ⟨by rw [List.size_toArray, ← ei]; exact hit, hl⟩ fun h' tk kp => ?_)
    show wpAny _ A.in1 (Builtin.Dict.addKeywords d [] >>= _) _ _ _
    refine wpAny_bind (wpAny_pure (wpAny_pure ?_))
    rw [List.take_of_length_le (by omega)] at hd
    obtain ⟨od, x1, x2, h1, h2⟩ := id hd
    refine hR h' tk ⟨od, x1, x2, kp _ _ (wr1 _ ndi) h1, h2⟩ fun b o _ hb e => kp b o (wr1 _ hb) e
  | succ k ih =>
    intro i s hk hi hit hl hd hp hR
    have hlt : i < its.length := by omega
    refine codeAny_builtin entry_upd_loop ?_
    rw [Around.under_plainId plain_upd_loop _]
    show wpAny _ A.in1 (pyNext (.ref it) >>= _) _ _ s
    refine wpAny_bind (W.item i s _ _ (by rw [List.size_toArray]; exact hlt) ⟨hit, hl⟩ fun v h' tk hP st2 kp => ?_)
    obtain ⟨hit2, hl2⟩ := st2
    have hP2 : its[i]? = some v := by simpa using hP
    have hkv : rs[i]? = some (rs[i]'(by omega)) := List.getElem?_eq_getElem (by omega)
    generalize rs[i]'(by omega) = kv at hkv
    obtain ⟨p, key, rfl, pd, pi, hkey, o, ho, hc, n, hdat⟩ := hp i v kv hP2 hkv
    have ho2 := kp _ _ (wr1 _ pi) ho
    have etk : rs.take (i + 1) = rs.take i ++ [kv] := by rw [List.take_succ, hkv]; rfl
    have hd2 : h'.DictOf knd d (merged [] (rs.take i)) := by
      obtain ⟨od, x1, x2, h1, h2⟩ := id hd
      exact ⟨od, x1, x2, kp _ _ (wr1 _ ndi) h1, h2⟩
    have hml := merged_length_le ([] : List (K × Value)) (rs.take i)
    have hml2 : (merged [] (rs.take i)).length ≤ sizeLine := by
      rw [List.length_take, List.length_nil] at hml
      omega
    show wpAny _ A.in1 (holding [Value.ref p] _ >>= _) _ _ _
    refine wpAny_bind (wpAny_holding ?_)
    refine wpAny_bind (wpAny_tryCatch ?_)
    show wpAny _ A.in1 (typeOf (Value.ref p) >>= _) _ _ _
    refine wpAny_bind (wpAny_typeOf (T := "tuple") ⟨o, ho2, hc⟩ ?_)
    rw [if_pos (by decide)]
    refine wpAny_bind (wpAny_seqItems ho2 hdat ?_)
    refine wpAny_pure ?_
    show wpAny _ A.in1 (holding [key, kv.2] (dictSet d key kv.2)) _ _ _
    refine wpAny_holding (wpAny_dictSet_pairs hkey hd2 (fun g hd3 sb => ?_) hml2)
    have kg : ∀ b o, b ≠ d → h'.get? b = some o → g.get? b = some o := fun b o hb e => (sb.2 b hb).trans e
    refine wpAny_pure ⟨plainId_quiet plain_upd_loop _, ?_⟩
    have hcast : rawInt ((i : Int) + 1) = rawInt (((i + 1 : Nat)) : Int) := rfl
    rw [hcast]
    refine ih (i + 1) _ (by omega) (by omega) (hit2.at fun o e => kg _ _ (Ne.symm ndi) e) (hl2.at fun o e => kg _ _ (Ne.symm ndl) e) ?_ ?_ ?_
    · rw [etk, merged, List.foldl_append]
      exact hd3
    · intro j u kv2 h1 h2
      obtain ⟨p, key, rfl, a1, a2, a3, o, b1, b2⟩ := hp j u kv2 h1 h2
      exact ⟨p, key, rfl, a1, a2, a3, o, kg _ _ a1 (kp _ _ (wr1 _ a2) b1), b2⟩
    · intro h2 tk2 hd4 kp2
      exact hR h2 tk2 hd4 fun b o hb hi e => kp2 b o hb hi (kg _ _ hb (kp _ _ (wr1 _ hi) e))
theorem call_dict_list {s : Shared} {Q : Value → Shared → Prop} {l : Addr} {its : List Value} {c : Nat} {rs : List (K × Value)} (hh : A.handled = none) (hlen : its.length = rs.length) (hsz : rs.length ≤ sizeLine)
    (hl : s.heap.get? l = some { cls := .type "list", data := .seq its.toArray c })
    (hp : ∀ (j : Nat) (u : Value) (kv : K × Value), its[j]? = some u → rs[j]? = some kv → ∃ p key, u = .ref p ∧ knd.is kv.1 key = true ∧ IsTup s.heap p #[key, kv.2])
    (hQ : ∀ h' tk, h'.DictOf knd s.heap.objs.size (merged [] rs) → (∀ b o, s.heap.get? b = some o → h'.get? b = some o) → Q (.ref s.heap.objs.size) { s with heap := h', toks := tk }) :
    wpAny (model prog w) A (call (.type "dict") [.ref l]) Q E s := by
  refine callType_codes (Q₁ := fun obj s₁ => obj = .ref s.heap.objs.size ∧ s₁ = { s with heap := s.heap.push { cls := .type "dict", data := .dict #[] } }) F.kt_called_dict (F.kt_typeCall_dict_1 _) F.entry_dict_init (kt_code_dict_new _ ⟨rfl, rfl⟩) ?_
  rintro obj s₁ ⟨rfl, rfl⟩
  have hnew : (s.heap.push { cls := .type "dict", data := .dict #[] }).DictOf knd s.heap.objs.size [] := Heap.DictOf.new s.heap
  have hl2 : (s.heap.push { cls := .type "dict", data := .dict #[] }).get? l = some { cls := .type "list", data := .seq its.toArray c } := Heap.get?_push_of_some _ hl
  have hll := Heap.lt_size hl
  refine ⟨hnew.typeIs, F.args_dict_init_2 _ _, ?_⟩
  unfold Builtin.«dict.__init__»
  refine wpAny_bind ?_
  unfold Builtin.Dict.selfAndRest
  refine wpAny_bind (wpAny_notOrdered_dict hnew.typeIs ?_)
  show wpAny _ _ (pure (s.heap.objs.size, [Value.ref l])) _ _ _
  refine wpAny_pure ?_
  show wpAny _ _ (Builtin.Dict.updateFrom "dict.__init__" s.heap.objs.size (.ref l) [] .none) _ _ _
  unfold Builtin.Dict.updateFrom
  refine wpAny_bind (wpAny_typeOf (T := "list") ⟨_, hl2, rfl⟩ ?_)
  rw [if_pos (by decide)]
  refine wpAny_bind (try_keys hl2 hh fun g tk kp => ?_)
  rw [if_pos (by decide)]
  refine wpAny_bind (wpAny_rule ?_)
  have hl3 := kp _ _ hl2
  refine wpAny_bind (wpAny_pyIter_list (items := its.toArray) ⟨_, hl3, rfl, c, rfl⟩ ?_)
  have hd0 : s.heap.objs.size < g.objs.size := by
    obtain ⟨od, _, _, h1, _⟩ := id hnew
    exact Heap.lt_size (kp _ _ h1)
  have hlg := Heap.lt_size hl3
  have k2 : ∀ b o, s.heap.get? b = some o → (g.push { cls := .type "list_iterator", data := .fields #[.ref l, .int 0 0] }).get? b = some o := fun b o e => Heap.get?_push_of_some _ (kp _ _ (Heap.get?_push_of_some _ e))
  refine wpAny_pure ⟨plainId_quiet plain_upd_loop _, loop_pairs (knd := knd) (A := A.in1) (rs := rs) (its := its) (l := l) (it := g.objs.size) hh (Nat.ne_of_lt hlg) (Nat.ne_of_lt hd0) (Nat.ne_of_gt hll) hlen hsz its.length 0 _ rfl (Nat.zero_le _) ?_ ⟨_, Heap.get?_push_of_some _ hl3, rfl, c, rfl⟩ ?_ ?_ ?_⟩
  · exact ⟨_, Heap.get?_push_size _ rfl, rfl, rfl⟩
  · obtain ⟨od, x1, x2, h1, h2⟩ := id hnew
    exact ⟨od, x1, x2, Heap.get?_push_of_some _ (kp _ _ h1), h2⟩
  · intro j u kv h1 h2
    obtain ⟨p, key, rfl, a3, o, b1, b2⟩ := hp j u kv h1 h2
    have hpl := Heap.lt_size b1
    exact ⟨p, key, rfl, Nat.ne_of_lt hpl, Nat.ne_of_lt (Nat.lt_trans hpl hd0), a3, o, k2 _ _ b1, b2⟩
  · intro h' tk2 hd4 kp2
    refine ⟨rfl, hQ h' tk2 hd4 fun b o e => ?_⟩
    have hb := Heap.lt_size e
    exact kp2 b o (Nat.ne_of_lt hb) (Nat.ne_of_lt (Nat.lt_trans hb hd0)) (k2 _ _ e)
end
section
variable {X : Cx}
def rDictP : List V → Hp → VK → Prop := fun xs H Q => ∃ (l : Addr) (ps : List Addr) (kvs : List (Key × V)), xs = [.ref l] ∧ H l = some (.lst (ps.map V.ref)) ∧ ps.length = kvs.length ∧
  (∀ (i : Nat) (p : Addr) (kv : Key × V), ps[i]? = some p → kvs[i]? = some kv → H p = some (.tup [kV kv.1, kv.2])) ∧ ∀ d, H d = none → Q (.ref d) (upd H d (.dK (mergeK [] kvs)))
theorem pairs_of {P : Program} {w : World} {H : Hp} {h : Heap} (ok : HOk P w H h) : ∀ (ps : List Addr) (kvs : List (Key × V)), ps.length = kvs.length → (∀ (i : Nat) (p : Addr) (kv : Key × V), ps[i]? = some p → kvs[i]? = some kv → H p = some (.tup [kV kv.1, kv.2])) →
    ∃ rs : List (Key × Value), KV kvs rs ∧ ∀ (j : Nat) (p : Addr) (kv : Key × Value), ps[j]? = some p → rs[j]? = some kv → ∃ key, (mixKind P w).is kv.1 key = true ∧ IsTup h p #[key, kv.2]
  | [], [], _, _ => ⟨[], .nil, fun j p kv h1 => by simp at h1⟩
  | p :: ps, kv :: kvs, hl, hp => by
    obtain ⟨rs, r1, r2⟩ := pairs_of ok ps kvs (by simpa using hl) fun i q kv h1 h2 => hp (i + 1) q kv (by simpa using h1) (by simpa using h2)
    obtain ⟨-, its, rv, ht⟩ := ok p _ (hp 0 p kv rfl rfl)
    obtain ⟨u, v, rfl, ru, rv2⟩ := vals2 rv
    refine ⟨(kv.1, v) :: rs, .cons ⟨rfl, rv2⟩ r1, fun j q kv2 h1 h2 => ?_⟩
    cases j with
    | zero =>
      obtain rfl : p = q := by simpa using h1
      obtain rfl : (kv.1, v) = kv2 := by simpa using h2
      exact ⟨u, kV_is ru, ht⟩
    | succ j => exact r2 j q kv2 (by simpa using h1) (by simpa using h2)
theorem call_dict_pairs (hc : X.calm = true) : CallR X (.type "dict") rDictP := by
  intro pins s σ H xs us Q I r h
  obtain ⟨l, ps, kvs, rfl, hl, hlen, hp, q⟩ := h
  obtain ⟨u, rfl, rx⟩ := vals1 r
  cases rx
  obtain ⟨hz, its, c, rv, hg⟩ := I.hok l _ hl
  obtain rfl := vals_refs rv
  obtain ⟨rs, r1, r2⟩ := pairs_of I.hok ps kvs hlen hp
  have hkl : kvs.length = rs.length := r1.length
  rw [List.length_map] at hz
  refine call_dict_list (knd := mixKind X.prog X.w) (rs := rs) (I.ok.hd hc) (by rw [List.length_map]; omega) (by omega) hg (fun j u kv h1 h2 => ?_) fun g tk dd kp => ?_
  · rw [List.getElem?_map] at h1
    cases hy : ps[j]? with
    | none => rw [hy] at h1; cases h1
    | some p =>
      rw [hy] at h1
      obtain ⟨key, k1, k2⟩ := r2 j p kv hy h2
      exact ⟨p, key, (Option.some.inj h1).symm, k1, k2⟩
  · have hm : KV (mergeK [] kvs) (merged [] rs) := KV.merge r1 .nil
    have hml := length_mergeK kvs []
    rw [List.length_nil] at hml
    exact ⟨.ref s.heap.objs.size, _, I.laid (t' := tk) kp (Nat.le_refl _) (dk_new (by omega) (beq_eq_false_iff_ne.mpr (Ne.symm (Nat.ne_of_lt I.big))) hm dd), rfl, q _ (I.hok.fresh (Nat.le_refl _))⟩
end
end L2
set_option Elab.async false
set_option linter.all false
set_option maxRecDepth 100000
set_option maxHeartbeats 4000000
namespace L2
open PySem PySem.Spec PyProof.Rows
section
variable {X : Cx} {pins : List (Addr × Obj)} {σ : St} {H : Hp} {s : Shared} {d : Addr} {u : HO} {o : Obj}
theorem Inv.freeze (I : Inv X pins σ H s) (e : H d = some u) (mu : Mut (some u)) (ho : s.heap.get? d = some o) : Inv X pins σ (upd H d (.frz o u)) s := by
  have mu' : Mut (H d) := by rw [e]; exact mu
  have nown : ∀ c y, H c = some (.own y) → c ≠ d := fun c y r z => by subst z; rw [r] at mu'; exact mu'
  have ntup : ∀ c xs, H c = some (.tup xs) → c ≠ d := fun c xs r z => by subst z; rw [r] at mu'; exact mu'
  have new : ObjOk X.prog X.w (upd H d (.frz o u)) s.heap d u := (I.hok d u e).stay (fun c v _ r => r) (fun c r => by rw [upd_ne (nown _ _ r)]; exact r) fun c xs r => by rw [upd_ne (ntup _ _ r)]; exact r
  exact d_write (t' := s.toks) I mu' (Heap.SameBut.refl _ _) ⟨o, ho⟩ ⟨ho, new⟩
theorem Inv.thaw (I : Inv X pins σ H s) (e : H d = some (.frz o u)) (mu : Mut (some u)) (h0 : ∀ o u, X.H₀ d ≠ some (.frz o u)) : Inv X pins σ (upd H d u) s := by
  have nn : ∀ b, H b = none → b ≠ d := fun b n z => by rw [z, e] at n; cases n
  have nown : ∀ c y, H c = some (.own y) → c ≠ d := fun c y r z => by rw [z, e] at r; cases r
  have ntup : ∀ c xs, H c = some (.tup xs) → c ≠ d := fun c xs r z => by rw [z, e] at r; cases r
  refine ⟨I.ok, I.os, I.bare, ⟨I.base.keep, I.base.slot, fun b ob q n hx => ?_, I.base.there, fun b xs q => ?_, fun b ob v q => ?_, fun b ps q => ?_⟩, I.loc, I.cell, ?_, fun x c q => ?_, fun p hp => ?_, fun b v q => ?_, I.len⟩
  · have h1 := I.base.free b ob q n hx
    rw [upd_ne (nn b h1)]; exact h1
  · have h1 := I.base.tups b xs q
    rw [upd_ne (ntup _ _ h1)]; exact h1
  · have h1 := I.base.frzs b ob v q
    rw [upd_ne (fun z => h0 ob v (by rw [← z]; exact q))]; exact h1
  · obtain ⟨m, h1⟩ := I.base.tbls b ps q
    refine ⟨m, ?_⟩
    rw [upd_ne (fun z => by rw [z, e] at h1; cases h1)]; exact h1
  · rw [upd_ne (nn _ I.free)]; exact I.free
  · have h1 := I.freeC x c q
    rw [upd_ne (nn _ h1)]; exact h1
  · obtain ⟨a, b, c⟩ := I.pin p hp
    refine ⟨a, ?_, c⟩
    rw [upd_ne (nn _ b)]; exact b
  · have st : ∀ b v, ObjOk X.prog X.w H s.heap b v → ObjOk X.prog X.w (upd H d u) s.heap b v := fun b v q => q.stay (fun c v _ r => r) (fun c r => by rw [upd_ne (nown _ _ r)]; exact r) fun c xs r => by rw [upd_ne (ntup _ _ r)]; exact r
    by_cases hb : b = d
    · subst hb
      rw [upd_same] at q
      obtain rfl := Option.some.inj q
      exact st _ _ (I.hok _ _ e).2
    · rw [upd_ne hb] at q
      exact st _ _ (I.hok b v q)
theorem Inv.unfrozen (I : Inv X pins σ H s) (e : H d = some u) (mu : Mut (some u)) : ∀ o u, X.H₀ d ≠ some (.frz o u) := fun o v q => by
  rw [I.base.frzs d o v q] at e
  cases e
  exact mu
def tThaw (t : TS) : TS := fun D σ H => ∃ (d : Addr) (u : HO), H d = some u ∧ Mut (some u) ∧
  t { nx := fun σ' H' => ∃ o, H' d = some (.frz o u) ∧ D.nx σ' (upd H' d u), rt := fun v H' => ∃ o, H' d = some (.frz o u) ∧ D.rt v (upd H' d u),
      bk := fun σ' H' => ∃ o, H' d = some (.frz o u) ∧ D.bk σ' (upd H' d u), ct := fun σ' H' => ∃ o, H' d = some (.frz o u) ∧ D.ct σ' (upd H' d u) } σ H
theorem ps_thaw {st : Stmt} {t : TS} (h : PS X st t) : PS X st (tThaw t) := by
  intro pins s σ H D I q
  obtain ⟨d, u, e, mu, q⟩ := q
  have h0 := I.unfrozen e mu
  refine thn (h pins s σ H _ I q) fun f s' p => ?_
  cases f with
  | next => obtain ⟨σ', H', I', o, e', q'⟩ := p; exact ⟨σ', _, I'.thaw e' mu h0, q'⟩
  | brk => obtain ⟨σ', H', I', o, e', q'⟩ := p; exact ⟨σ', _, I'.thaw e' mu h0, q'⟩
  | cont => obtain ⟨σ', H', I', o, e', q'⟩ := p; exact ⟨σ', _, I'.thaw e' mu h0, q'⟩
  | ret v => obtain ⟨v', σ', H', I', r, o, e', q'⟩ := p; exact ⟨v', σ', _, I'.thaw e' mu h0, r, q'⟩
end
def ItdT (d : Addr) (o : Obj) (kvs : List (List Key × V)) : It :=
  ⟨fun i H => i < kvs.length ∧ H d = some (.frz o (.dT kvs)), fun i H x H' => H' = H ∧ ∃ p kv, kvs[i]? = some kv ∧ x = .ref p ∧ H p = some (.tup (kv.1.map kV)), fun i H => kvs.length ≤ i ∧ H d = some (.frz o (.dT kvs))⟩
theorem kt_key {H : Hp} : ∀ {kvs : List (List Key × V)} {ys : List (List Key × Addr × Value)}, KT H kvs ys → ∀ {i : Nat} {y : List Key × Addr × Value}, ys[i]? = some y → ∃ kv, kvs[i]? = some kv ∧ H y.2.1 = some (.tup (kv.1.map kV)) := fun {kvs ys} h {i y} h1 => by
  have hl : kvs.length = ys.length := Paired.length h
  have hi : i < kvs.length := by rw [hl]; exact (List.getElem?_eq_some_iff.mp h1).1
  exact ⟨_, List.getElem?_eq_getElem hi, kt_at h (List.getElem?_eq_getElem hi) h1⟩
theorem turn_dT {P : Program} {w : World} {K : PySem.W.Frag} {tg : Expr} (d it : Addr) (o : Obj) (es : Array DictEntry) (ep : Nat) (kvs : List (List Key × V)) (ho : o.data = .dict es ep) : Turn P w K tg (ItdT d o kvs) [it] it (fun i h => h.IsKeyIter it d i es.size ep) where
  mem := by simp
  obj := fun i h st b hb => by
    have e : b = it := by simpa using hb
    subst e
    obtain ⟨o, e, c, d⟩ := st
    exact ⟨o, e, fun v z => by rw [d] at z; cases z⟩
  keep := fun i h h' st k => st.at fun o e => k it (by simp) o e
  item := by
    intro X hP hw hK hc i pins s σ H E I hf st hg
    subst hP hw hK
    obtain ⟨hi, hd⟩ := hg
    obtain ⟨hgo, -, hsm, ys, kt, o2, es2, ep2, h1, h2, h3, h4, h5⟩ := I.hok d _ hd
    rw [hgo] at h1
    obtain rfl := Option.some.inj h1
    rw [ho] at h3
    injection h3 with e1 e2
    subst e1 e2
    have hyl : kvs.length = ys.length := Paired.length kt
    have hy : ys[i]? = some (ys[i]'(by omega)) := List.getElem?_eq_getElem (by omega)
    generalize ys[i]'(by omega) = y at hy
    have hen : es[i]? = some (entryOfKey (tupleKind (mixKind X.prog X.w)) y) := by rw [entry_at h4, hy]; rfl
    obtain ⟨kv, hkv, hp⟩ := kt_key kt hy
    obtain ⟨f0, f1, f2, f3, f4, f5⟩ := hf it (by simp)
    refine Dk.item st ⟨_, hgo, h2, ho⟩ hen fun h' st' sb => ?_
    have I1 : Inv X pins σ H { s with heap := h' } := I.turned (t' := s.toks) (fun b o hb e => (sb.2 b hb).trans e) f0 f1 f3 f4 f5
    obtain ⟨oi, e, c, dd⟩ := id st'
    exact ⟨_, rfl, go_of (s := { s with heap := h' }) e c dd (by decide) ⟨.ref y.2.1, H, I1, rfl, ⟨rfl, y.2.1, kv, hkv, rfl, hp⟩, st', fun b hb => (hf b hb).1⟩⟩
  done := by
    intro X hP hw hK hc i pins s σ H E I hf st hg
    subst hP hw hK
    obtain ⟨hi, hd⟩ := hg
    obtain ⟨hgo, -, hsm, ys, kt, o2, es2, ep2, h1, h2, h3, h4, h5⟩ := I.hok d _ hd
    rw [hgo] at h1
    obtain rfl := Option.some.inj h1
    rw [ho] at h3
    injection h3 with e1 e2
    subst e1 e2
    have hyl : kvs.length = ys.length := Paired.length kt
    have hsz : es.size = ys.length := size_of_entries h4
    obtain ⟨f0, f1, f2, f3, f4, f5⟩ := hf it (by simp)
    exact Dk.fin (I.ok.hd hc) st ⟨_, hgo, h2, ho⟩ (Array.getElem?_eq_none (by omega)) fun h' eb => ⟨rfl, I.turned (t' := s.toks) (fun b o hb e => eb b o hb e) f0 f1 f3 f4 f5⟩
  self := fun _ _ _ _ _ st h => wpAny_pyIter_keyiter st h
section
variable {X : Cx} {tg : Expr}
def iDT (tl : TE) : TI := fun σ H R => tl σ H fun x H1 => ∃ d kvs, x = .ref d ∧ H1 d = some (.dT kvs) ∧ ∀ o, R (ItdT d o kvs) (upd H1 d (.frz o (.dT kvs)))
theorem pi_dT {l : Expr} {tl : TE} (hl : PE X l tl) : PI X tg l (iDT tl) := by
  intro pins s σ H R I h
  refine thn (hl pins s σ H _ I h) fun u s1 ⟨x, H1, I1, rx, d, kvs, ex, hd, q⟩ => ?_
  subst ex
  cases rx
  obtain ⟨-, hsm, ys, kt, o, es, ep, h1, h2, h3, h4, h5⟩ := I1.hok d _ hd
  refine Dk.iter hsm ⟨o, h1, h2, h3⟩ ?_
  have I2 := (I1.freeze hd True.intro h1).kept (h' := s1.heap.push { cls := .type "dict_keyiterator", data := .fields #[.ref d, .int 0 0, .int es.size 0, .int ep 0] }) (t' := s1.toks) fun b o e => Heap.get?_push_of_some _ e
  have T := turn_dT (P := X.prog) (w := X.w) (K := X.K) (tg := tg) d s1.heap.objs.size o es ep kvs h3
  refine ⟨_, _, _, _, _, rfl, I2, T, ⟨_, Heap.get?_push_size _ rfl, rfl, rfl⟩, fun b hb => ?_, q o⟩
  rw [List.mem_singleton.mp hb]
  have hfr := I1.hok.fresh (Nat.le_refl s1.heap.objs.size)
  exact I1.fpOk (Nat.le_refl _) (by rw [upd_ne (fun z => by rw [z, hd] at hfr; cases hfr)]; exact hfr)
end
theorem for_dT {d : Addr} {o : Obj} {kvs : List (List Key × V)} {g : TG} {tb : TS} {D : Ends} {σ : St} {H : Hp} (Pv : Nat → St → Hp → Prop) (h0 : Pv 0 σ H) (hl : ∀ i σ H, i ≤ kvs.length → Pv i σ H → H d = some (.frz o (.dT kvs)))
    (hs : ∀ i kv σ H p, kvs[i]? = some kv → H p = some (.tup (kv.1.map kV)) → Pv i σ H → g (.ref p) σ H fun σ2 H2 => tb { D with nx := Pv (i + 1), ct := Pv (i + 1), bk := D.nx } σ2 H2) (hd : ∀ σ H, Pv kvs.length σ H → D.nx σ H) :
    ∃ W : Nat → Nat → St → Hp → Prop, (∃ m, W 0 m σ H) ∧ ∀ i m σ H, W i m σ H →
      ((ItdT d o kvs).stop i H ∧ D.nx σ H) ∨ ((ItdT d o kvs).go i H ∧ ∃ N : St → Hp → Prop, (∀ σ' H', N σ' H' → ∃ m', m' < m ∧ W (i + 1) m' σ' H') ∧ ∀ x H', (ItdT d o kvs).yld i H x H' → g x σ H' fun σ2 H2 => tb { D with nx := N, ct := N, bk := D.nx } σ2 H2) := by
  refine ⟨fun i m σ H => m = kvs.length - i ∧ i ≤ kvs.length ∧ Pv i σ H, ⟨kvs.length, by simp, Nat.zero_le _, h0⟩, ?_⟩
  rintro i m σ H ⟨rfl, hi, p⟩
  have q := hl i σ H hi p
  by_cases hlt : i < kvs.length
  · refine .inr ⟨⟨hlt, q⟩, Pv (i + 1), fun σ' H' p' => ⟨kvs.length - (i + 1), by omega, rfl, hlt, p'⟩, fun x H' y => ?_⟩
    obtain ⟨rfl, p2, kv, h1, rfl, h2⟩ := y
    exact hs i kv σ _ p2 h1 h2 p
  · have e : i = kvs.length := by omega
    subst e
    exact .inl ⟨⟨Nat.le_refl _, q⟩, hd σ H p⟩
end L2
set_option Elab.async false
set_option linter.all false
set_option maxRecDepth 100000
set_option maxHeartbeats 4000000
namespace L2
open PySem PySem.Spec PyProof.Rows
inductive Dt where
  | i (n : Int) | s (l : List Nat) | n | b (k : Bool) | t (xs : List Dt) | l (xs : List Dt)
inductive DtAt (H : Hp) : Nat → V → Dt → Prop where
  | i {k : Nat} {n : Int} : DtAt H k (.int n) (.i n)
  | s {k : Nat} {l : List Nat} : DtAt H k (.str (tx l)) (.s l)
  | n {k : Nat} : DtAt H k .non .n
  | b {k : Nat} {c : Bool} : DtAt H k (.bl c) (.b c)
  | t {k : Nat} {a : Addr} {vs : List V} {ds : List Dt} : H a = some (.tup vs) → vs.length = ds.length → (∀ (j : Nat) (v : V) (d : Dt), vs[j]? = some v → ds[j]? = some d → DtAt H k v d) → DtAt H (k + 1) (.ref a) (.t ds)
  | l {k : Nat} {a : Addr} {vs : List V} {ds : List Dt} : H a = some (.lst vs) → vs.length = ds.length → (∀ (j : Nat) (v : V) (d : Dt), vs[j]? = some v → ds[j]? = some d → DtAt H k v d) → DtAt H (k + 1) (.ref a) (.l ds)
theorem DtAt.keep {H H' : Hp} (ht : ∀ a xs, H a = some (.tup xs) → H' a = some (.tup xs)) (hl : ∀ a xs, H a = some (.lst xs) → H' a = some (.lst xs)) {k : Nat} {v : V} {d : Dt} (h : DtAt H k v d) : DtAt H' k v d := by
  induction h with
  | i => exact .i
  | s => exact .s
  | n => exact .n
  | b => exact .b
  | t a b c ih => exact .t (ht _ _ a) b ih
  | l a b c ih => exact .l (hl _ _ a) b ih
theorem DtAt.same {H H' : Hp} (s : Same H H') {k : Nat} {v : V} {d : Dt} (h : DtAt H k v d) : DtAt H' k v d := h.keep (fun _ _ e => s _ _ e) (fun _ _ e => s _ _ e)
theorem DtAt.up {H : Hp} {k : Nat} {v : V} {d : Dt} (h : DtAt H k v d) : DtAt H (k + 1) v d := by
  induction h with
  | i => exact .i
  | s => exact .s
  | n => exact .n
  | b => exact .b
  | t a b c ih => exact .t a b ih
  | l a b c ih => exact .l a b ih
theorem DtAt.le {H : Hp} {k m : Nat} {v : V} {d : Dt} (h : DtAt H k v d) (hm : k ≤ m) : DtAt H m v d := by
  obtain ⟨j, rfl⟩ := Nat.exists_eq_add_of_le hm
  clear hm
  induction j with
  | zero => exact h
  | succ j ih => exact ih.up
section
variable {X : Cx} {pins : List (Addr × Obj)} {σ : St} {H : Hp} {s : Shared}
theorem beq_same (x : Str) : (x == x) = true := by simp
theorem eq_int_self {A : Around} (n : Int) (t t' : Tok) : SeqAt.EqAt A s (.int n t) (.int n t') true := by
  have := SeqAt.EqAt.int_int (A := A) (s := s) n t n t'
  rw [beq_self_eq_true] at this
  exact this
theorem eq_str_self {A : Around} (x : Str) (t t' : Tok) : SeqAt.EqAt A s (.str x t) (.str x t') true := by
  have := SeqAt.EqAt.str_str (A := A) (s := s) x t x t'
  rw [beq_same] at this
  exact this
theorem eq_dt (I : Inv X pins σ H s) : ∀ (k : Nat) (A : Around) (v v' : V) (u u' : Value) (d : Dt), A.units + k < cLine → DtAt H k v d → DtAt H k v' d → RelV v u → RelV v' u' → SeqAt.EqAt A s u u' true := by
  intro k
  induction k with
  | zero =>
    intro A v v' u u' d hu h h' r r'
    cases h with
    | @i n => cases h' with | i => ?_
              obtain ⟨t, rfl⟩ := r
              obtain ⟨t', rfl⟩ := r'
              exact eq_int_self _ _ _
    | @s l => cases h' with | s => ?_
              obtain ⟨t, rfl⟩ := r
              obtain ⟨t', rfl⟩ := r'
              exact eq_str_self _ _ _
    | n => cases h' with | n => ?_
           cases r
           cases r'
           exact SeqAt.EqAt.same _
    | @b c => cases h' with | b => ?_
              cases r
              cases r'
              exact SeqAt.EqAt.same _
  | succ k ih =>
    intro A v v' u u' d hu h h' r r'
    cases h with
    | @i _ n => cases h' with | i => ?_
                obtain ⟨t, rfl⟩ := r
                obtain ⟨t', rfl⟩ := r'
                exact eq_int_self _ _ _
    | @s _ l => cases h' with | s => ?_
                obtain ⟨t, rfl⟩ := r
                obtain ⟨t', rfl⟩ := r'
                exact eq_str_self _ _ _
    | n => cases h' with | n => ?_
           cases r
           cases r'
           exact SeqAt.EqAt.same _
    | @b _ c => cases h' with | b => ?_
                cases r
                cases r'
                exact SeqAt.EqAt.same _
    | @t _ a vs ds h1 h2 h3 =>
      cases h' with
      | @t _ b vs' _ g1 g2 g3 =>
        cases r
        cases r'
        by_cases e : a = b
        · subst e
          exact SeqAt.EqAt.same _
        · refine SeqAt.EqAt.of_refs e ?_
          obtain ⟨its, r1, p1, _⟩ := I.tuple (SqT.of h1)
          obtain ⟨its2, r2, p2, _⟩ := I.tuple (SqT.of g1)
          have l1 := r1.length
          have l2 := r2.length
          have := SeqAt.RcAt.tuples (A := A) (e := fun _ => true) (show s.heap.IsTuple a its.toArray from p1) (show s.heap.IsTuple b its2.toArray from p2) (by omega) (fun j q1 q2 => ?_)
          · rw [List.size_toArray, List.size_toArray, ← l1, ← l2, h2, g2, all_true _ _ fun _ => rfl] at this
            simpa using this
          · have k1 : j < its.length := by simpa using q1
            have k2 : j < its2.length := by simpa using q2
            have d1 : vs[j]? = some (vs[j]'(by omega)) := List.getElem?_eq_getElem (by omega)
            have d2 : vs'[j]? = some (vs'[j]'(by omega)) := List.getElem?_eq_getElem (by omega)
            have d3 : ds[j]? = some (ds[j]'(by omega)) := List.getElem?_eq_getElem (by omega)
            obtain ⟨w1, e1, z1⟩ := r1.get d1
            obtain ⟨w2, e2, z2⟩ := r2.get d2
            have f1 : its.toArray[j] = w1 := by rw [List.getElem_toArray]; exact Option.some.inj ((List.getElem?_eq_getElem k1).symm.trans e1)
            have f2 : its2.toArray[j] = w2 := by rw [List.getElem_toArray]; exact Option.some.inj ((List.getElem?_eq_getElem k2).symm.trans e2)
            rw [f1, f2]
            exact ih _ _ _ _ _ _ (show A.units + 1 + k < cLine by omega) (h3 j _ _ d1 d3) (g3 j _ _ d2 d3) z1 z2
    | @l _ a vs ds h1 h2 h3 =>
      cases h' with
      | @l _ b vs' _ g1 g2 g3 =>
        cases r
        cases r'
        by_cases e : a = b
        · subst e
          exact SeqAt.EqAt.same _
        · refine SeqAt.EqAt.of_refs e ?_
          obtain ⟨its, r1, p1, _⟩ := I.list (SqL.of h1)
          obtain ⟨its2, r2, p2, _⟩ := I.list (SqL.of g1)
          have l1 := r1.length
          have l2 := r2.length
          have := SeqAt.RcAt.lists (A := A) (e := fun _ => true) p1.isList p2.isList (by simp; omega) (by omega) (fun j q1 q2 => ?_)
          · rw [all_true _ _ fun _ => rfl] at this
            exact this
          · have k1 : j < its.length := by simpa using q1
            have k2 : j < its2.length := by simpa using q2
            have d1 : vs[j]? = some (vs[j]'(by omega)) := List.getElem?_eq_getElem (by omega)
            have d2 : vs'[j]? = some (vs'[j]'(by omega)) := List.getElem?_eq_getElem (by omega)
            have d3 : ds[j]? = some (ds[j]'(by omega)) := List.getElem?_eq_getElem (by omega)
            obtain ⟨w1, e1, z1⟩ := r1.get d1
            obtain ⟨w2, e2, z2⟩ := r2.get d2
            have f1 : its.toArray[j] = w1 := by rw [List.getElem_toArray]; exact Option.some.inj ((List.getElem?_eq_getElem k1).symm.trans e1)
            have f2 : its2.toArray[j] = w2 := by rw [List.getElem_toArray]; exact Option.some.inj ((List.getElem?_eq_getElem k2).symm.trans e2)
            rw [f1, f2]
            exact ih _ _ _ _ _ _ (show A.units + 1 + k < cLine by omega) (h3 j _ _ d1 d3) (g3 j _ _ d2 d3) z1 z2
end
section
variable {X : Cx}
theorem dt_items {pins : List (Addr × Obj)} {σ : St} {H : Hp} {s : Shared} (I : Inv X pins σ H s) {k : Nat} {A : Around} (hu : A.units + k < cLine) {vs vs' : List V} {its its2 : List Value} {ds : List Dt} (r1 : Vals vs its) (r2 : Vals vs' its2) (h2 : vs.length = ds.length) (g2 : vs'.length = ds.length)
    (h3 : ∀ (j : Nat) (v : V) (d : Dt), vs[j]? = some v → ds[j]? = some d → DtAt H k v d) (g3 : ∀ (j : Nat) (v : V) (d : Dt), vs'[j]? = some v → ds[j]? = some d → DtAt H k v d) (j : Nat) (q1 : j < its.toArray.size) (q2 : j < its2.toArray.size) : SeqAt.EqAt A s its.toArray[j] its2.toArray[j] true := by
  have l1 := r1.length
  have l2 := r2.length
  have k1 : j < its.length := by simpa using q1
  have k2 : j < its2.length := by simpa using q2
  have d1 : vs[j]? = some (vs[j]'(by omega)) := List.getElem?_eq_getElem (by omega)
  have d2 : vs'[j]? = some (vs'[j]'(by omega)) := List.getElem?_eq_getElem (by omega)
  have d3 : ds[j]? = some (ds[j]'(by omega)) := List.getElem?_eq_getElem (by omega)
  obtain ⟨w1, e1, z1⟩ := r1.get d1
  obtain ⟨w2, e2, z2⟩ := r2.get d2
  have f1 : its.toArray[j] = w1 := by rw [List.getElem_toArray]; exact Option.some.inj ((List.getElem?_eq_getElem k1).symm.trans e1)
  have f2 : its2.toArray[j] = w2 := by rw [List.getElem_toArray]; exact Option.some.inj ((List.getElem?_eq_getElem k2).symm.trans e2)
  rw [f1, f2]
  exact eq_dt I k _ _ _ _ _ _ hu (h3 j _ _ d1 d3) (g3 j _ _ d2 d3) z1 z2
def rEqDt : R2 := fun x y H Q => ∃ d a b, x = .ref a ∧ y = .ref b ∧ DtAt H 8 x d ∧ DtAt H 8 y d ∧ Q (.bl true) H
def rNeDt : R2 := fun x y H Q => ∃ d a b, x = .ref a ∧ y = .ref b ∧ DtAt H 8 x d ∧ DtAt H 8 y d ∧ Q (.bl false) H
theorem op_eqDt (hu : X.A.units + 8 < cLine) : OpR X (compareOp .Eq) rEqDt := by
  intro pins s σ H x y v u Q I rx ry h
  obtain ⟨d, a, b, rfl, rfl, h, h', q⟩ := h
  cases rx
  cases ry
  cases h with
  | t h1 h2 h3 =>
    cases h' with
    | t g1 g2 g3 =>
      obtain ⟨its, r1, p1, _⟩ := I.tuple (SqT.of h1)
      obtain ⟨its2, r2, p2, _⟩ := I.tuple (SqT.of g1)
      have l1 := r1.length
      have l2 := r2.length
      refine SeqAt.eq_tupleAt (e := fun _ => true) (show s.heap.IsTuple a _ from p1) (show s.heap.IsTuple b _ from p2) (by omega) (fun j q1 q2 => dt_items I (k := 7) (by show X.A.units + 1 + 7 < cLine; omega) r1 r2 h2 g2 h3 g3 j q1 q2) ⟨.bl true, H, I, ?_, q⟩
      show _ = Value.bool true
      rw [List.size_toArray, List.size_toArray, ← l1, ← l2, h2, g2, all_true _ _ fun _ => rfl]
      simp
  | l h1 h2 h3 =>
    cases h' with
    | l g1 g2 g3 =>
      obtain ⟨its, r1, p1, _⟩ := I.list (SqL.of h1)
      obtain ⟨its2, r2, p2, _⟩ := I.list (SqL.of g1)
      have l1 := r1.length
      have l2 := r2.length
      refine SeqAt.eq_listAt (e := fun _ => true) p1.isList p2.isList (by simp; omega) (by omega) (fun j q1 q2 => dt_items I (k := 7) (by show X.A.units + 1 + 7 < cLine; omega) r1 r2 h2 g2 h3 g3 j q1 q2) ⟨.bl true, H, I, ?_, q⟩
      show _ = Value.bool true
      rw [all_true _ _ fun _ => rfl]
theorem op_neDt (hu : X.A.units + 8 < cLine) : OpR X (compareOp .NotEq) rNeDt := by
  intro pins s σ H x y v u Q I rx ry h
  obtain ⟨d, a, b, rfl, rfl, h, h', q⟩ := h
  cases rx
  cases ry
  cases h with
  | t h1 h2 h3 =>
    cases h' with
    | t g1 g2 g3 =>
      obtain ⟨its, r1, p1, _⟩ := I.tuple (SqT.of h1)
      obtain ⟨its2, r2, p2, _⟩ := I.tuple (SqT.of g1)
      have l1 := r1.length
      have l2 := r2.length
      refine SeqAt.RcNeAt.tuples (e := fun _ => true) (show s.heap.IsTuple a _ from p1) (show s.heap.IsTuple b _ from p2) (by omega) (fun j q1 q2 => dt_items I (k := 7) (by show X.A.units + 1 + 7 < cLine; omega) r1 r2 h2 g2 h3 g3 j q1 q2) X.prog X.w X.xe _ ⟨.bl false, H, I, ?_, q⟩
      show _ = Value.bool false
      rw [List.size_toArray, List.size_toArray, ← l1, ← l2, h2, g2, all_true _ _ fun _ => rfl]
      simp
  | l h1 h2 h3 =>
    cases h' with
    | l g1 g2 g3 =>
      obtain ⟨its, r1, p1, _⟩ := I.list (SqL.of h1)
      obtain ⟨its2, r2, p2, _⟩ := I.list (SqL.of g1)
      have l1 := r1.length
      have l2 := r2.length
      refine SeqAt.RcNeAt.lists (e := fun _ => true) p1.isList p2.isList (by simp; omega) (by omega) (fun j q1 q2 => dt_items I (k := 7) (by show X.A.units + 1 + 7 < cLine; omega) r1 r2 h2 g2 h3 g3 j q1 q2) X.prog X.w X.xe _ ⟨.bl false, H, I, ?_, q⟩
      show _ = Value.bool false
      rw [all_true _ _ fun _ => rfl]
      rfl
end
end L2
set_option Elab.async false
set_option linter.all false
set_option maxRecDepth 100000
set_option maxHeartbeats 4000000
namespace L2
open PySem PySem.Spec PyProof.Rows
def nI (l : List Nat) : List Int := l.map fun n : Nat => (n : Int)
theorem nI_len (l : List Nat) : (nI l).length = l.length := List.length_map ..
theorem nI_get {l : List Nat} {i n : Nat} (h : l[i]? = some n) : (nI l)[i]? = some (n : Int) := by unfold nI; rw [List.getElem?_map, h]; rfl
theorem nI_app (a b : List Nat) : nI (a ++ b) = nI a ++ nI b := List.map_append ..
structure RS where
  L : Nat
  made : Nat
  rows : List Dt
  ways : List (List (Int × Nat))
  gaps : List (List Int)
  elders : List Nat
  called : List (List Nat)
  went : List Nat
def wK (l : List (Int × Nat)) : List (Key × V) := l.map fun p => (Sum.inl p.1, V.int p.2)
def gK (l : List Int) : List (Key × V) := l.map fun s => (Sum.inl s, V.bl true)
def getW (l : List (Int × Nat)) (s : Int) : Option Nat := (l.find? fun p => decide (p.1 = s)).map (·.2)
def putW (l : List (Int × Nat)) (s : Int) (r : Nat) : List (Int × Nat) := if (l.any fun p => decide (p.1 = s)) = true then l.map fun p => if p.1 = s then (p.1, r) else p else l ++ [(s, r)]
theorem wK_len (l : List (Int × Nat)) : (wK l).length = l.length := List.length_map ..
theorem gK_len (l : List Int) : (gK l).length = l.length := List.length_map ..
theorem key_eq (a b : Int) : decide ((Sum.inl a : Key) = Sum.inl b) = decide (a = b) := by
  rw [Bool.eq_iff_iff, decide_eq_true_iff, decide_eq_true_iff]
  exact ⟨Sum.inl.inj, congrArg Sum.inl⟩
theorem wK_val (s : Int) : ∀ l : List (Int × Nat), valV (wK l) (Sum.inl s) = (getW l s).map fun r : Nat => V.int (r : Int)
  | [] => rfl
  | p :: l => by
    have ih := wK_val s l
    by_cases h : p.1 = s
    · have e : valV (wK (p :: l)) (Sum.inl s) = some (V.int p.2) := valV_pos (p := (Sum.inl p.1, V.int p.2)) (by rw [h])
      have e2 : getW (p :: l) s = some p.2 := by unfold getW; rw [List.find?_cons_of_pos (by exact decide_eq_true h)]; rfl
      rw [e, e2]; rfl
    · have e : valV (wK (p :: l)) (Sum.inl s) = valV (wK l) (Sum.inl s) := valV_neg (p := (Sum.inl p.1, V.int p.2)) (fun z => h (Sum.inl.inj z))
      have e2 : getW (p :: l) s = getW l s := by unfold getW; rw [List.find?_cons_of_neg (by simpa using h)]
      rw [e, e2, ih]
theorem wK_put (l : List (Int × Nat)) (s : Int) (r : Nat) : putK (wK l) (Sum.inl s) (.int r) = wK (putW l s r) := by
  unfold putK putW
  have ha : ((wK l).any fun kv => decide (kv.1 = Sum.inl s)) = l.any fun p => decide (p.1 = s) := by
    unfold wK
    rw [List.any_map]
    congr 1
    funext p
    exact key_eq _ _
  rw [ha]
  split
  · unfold wK
    rw [List.map_map, List.map_map]
    refine List.map_congr_left fun p _ => ?_
    show (if (Sum.inl p.1 : Key) = Sum.inl s then _ else _) = _
    by_cases h : p.1 = s
    · simp only [Function.comp, h, if_true]
    · have : ¬ (Sum.inl p.1 : Key) = Sum.inl s := fun z => h (Sum.inl.inj z)
      simp only [Function.comp, h, this, if_false]
  · unfold wK
    rw [List.map_append]
    rfl
theorem getW_put (l : List (Int × Nat)) (s t : Int) (r : Nat) : getW (putW l s r) t = if t = s then some r else getW l t := by
  have h1 := wK_val t (putW l s r)
  rw [← wK_put, valV_put, wK_val] at h1
  have inj : ∀ a b : Option Nat, (a.map fun r : Nat => V.int (r : Int)) = (b.map fun r : Nat => V.int (r : Int)) → a = b := fun a b h => by
    cases a <;> cases b <;> simp at h ⊢
    omega
  apply inj
  rw [← h1]
  by_cases e : t = s
  · rw [if_pos e, if_pos (by rw [e])]; rfl
  · rw [if_neg e, if_neg (fun z => e (Sum.inl.inj z))]
theorem putW_len (l : List (Int × Nat)) (s : Int) (r : Nat) : (putW l s r).length ≤ l.length + 1 := by
  unfold putW
  split
  · rw [List.length_map]; omega
  · rw [List.length_append]; exact Nat.le_refl _
theorem gK_drop (l : List Int) (s : Int) : dropK (gK l) (Sum.inl s) = gK (l.filter fun x => decide (x ≠ s)) := by
  unfold dropK gK
  rw [List.filter_map]
  congr 1
  refine List.filter_congr fun x _ => ?_
  show decide ((Sum.inl x : Key) ≠ Sum.inl s) = decide (x ≠ s)
  rw [Bool.eq_iff_iff, decide_eq_true_iff, decide_eq_true_iff]
  exact ⟨fun h z => h (congrArg Sum.inl z), fun h z => h (Sum.inl.inj z)⟩
theorem gK_val (s : Int) : ∀ l : List Int, valV (gK l) (Sum.inl s) = if s ∈ l then some (V.bl true) else none
  | [] => rfl
  | x :: l => by
    by_cases h : x = s
    · rw [if_pos (by rw [h]; exact List.mem_cons_self)]
      exact valV_pos (p := (Sum.inl x, V.bl true)) (by rw [h])
    · have e : valV (gK (x :: l)) (Sum.inl s) = valV (gK l) (Sum.inl s) := valV_neg (p := (Sum.inl x, V.bl true)) (fun z => h (Sum.inl.inj z))
      rw [e, gK_val s l]
      have : (s ∈ x :: l) ↔ s ∈ l := ⟨fun z => (List.mem_cons.mp z).elim (fun q => absurd q.symm h) id, List.mem_cons_of_mem _⟩
      simp only [this]
theorem merge_new : ∀ (more acc : List (Key × V)), ((acc ++ more).map (·.1)).Nodup → mergeK acc more = acc ++ more
  | [], acc, _ => (List.append_nil _).symm
  | p :: more, acc, h => by
    have hn : valV acc p.1 = none := by
      unfold valV
      rw [List.find?_eq_none.mpr ?_]; rfl
      intro q hq
      rw [decide_eq_true_iff]
      intro e
      rw [List.map_append, List.nodup_append] at h
      exact h.2.2 q.1 (List.mem_map_of_mem hq) p.1 (List.mem_map_of_mem List.mem_cons_self) e
    show mergeK (putK acc p.1 p.2) more = _
    rw [putK_new _ hn, merge_new more (acc ++ [(p.1, p.2)]) (by rw [List.append_assoc]; exact h), List.append_assoc]
    rfl
structure RA where
  dx : Addr
  aR : Addr
  aW : Addr
  aG : Addr
  aE : Addr
  aC : Addr
  aN : Addr
  rs : List Addr
  ws : List Addr
  gs : List Addr
  cs : List Addr
def flds (L made : Int) (a : RA) : List (Str × V) := [("letters", .int L), ("made", .int made), ("rows", .ref a.aR), ("ways", .ref a.aW), ("gaps", .ref a.aG), ("elders", .ref a.aE), ("called", .ref a.aC), ("went", .ref a.aN)]
theorem putF_made (L m n : Int) (a : RA) : putF "made" (.int n) (flds L m a) = flds L n a := by
  have h : ¬ (("letters" : Str) = "made") := by decide +kernel
  unfold flds
  simp only [putF, if_neg h, if_true]
theorem lk_letters (L m : Int) (a : RA) : (flds L m a).lookup ("letters" : Str) = some (.int L) := by kernel_rfl
theorem lk_made (L m : Int) (a : RA) : (flds L m a).lookup ("made" : Str) = some (.int m) := by kernel_rfl
theorem lk_rows (L m : Int) (a : RA) : (flds L m a).lookup ("rows" : Str) = some (.ref a.aR) := by kernel_rfl
theorem lk_ways (L m : Int) (a : RA) : (flds L m a).lookup ("ways" : Str) = some (.ref a.aW) := by kernel_rfl
theorem lk_gaps (L m : Int) (a : RA) : (flds L m a).lookup ("gaps" : Str) = some (.ref a.aG) := by kernel_rfl
theorem lk_elders (L m : Int) (a : RA) : (flds L m a).lookup ("elders" : Str) = some (.ref a.aE) := by kernel_rfl
theorem lk_called (L m : Int) (a : RA) : (flds L m a).lookup ("called" : Str) = some (.ref a.aC) := by kernel_rfl
theorem lk_none (L m : Int) (a : RA) {x : Str} (h : x ∉ (["letters", "made", "rows", "ways", "gaps", "elders", "called", "went"] : List Str)) : (flds L m a).lookup x = none := by
  simp only [List.mem_cons, List.not_mem_nil, or_false, not_or] at h
  obtain ⟨h1, h2, h3, h4, h5, h6, h7, h8⟩ := h
  unfold flds
  simp only [List.lookup, beq_eq_false_iff_ne.mpr h1, beq_eq_false_iff_ne.mpr h2, beq_eq_false_iff_ne.mpr h3, beq_eq_false_iff_ne.mpr h4, beq_eq_false_iff_ne.mpr h5, beq_eq_false_iff_ne.mpr h6, beq_eq_false_iff_ne.mpr h7, beq_eq_false_iff_ne.mpr h8]
inductive NoL : Dt → Prop where
  | i {n : Int} : NoL (.i n)
  | s {l : List Nat} : NoL (.s l)
  | t {ds : List Dt} : ds.length ≤ 100000 → (∀ d ∈ ds, NoL d) → NoL (.t ds)
theorem DtAt.keepT {H H' : Hp} (ht : ∀ a xs, H a = some (.tup xs) → H' a = some (.tup xs)) {k : Nat} {v : V} {d : Dt} (h : DtAt H k v d) (hn : NoL d) : DtAt H' k v d := by
  induction h with
  | i => exact .i
  | s => exact .s
  | n => exact .n
  | b => exact .b
  | t a b c ih =>
    cases hn with
    | t _ hh => exact .t (ht _ _ a) b fun j v d h1 h2 => ih j v d h1 h2 (hh d (List.mem_of_getElem? h2))
  | l a b c ih => cases hn
def Each {α : Type} (R : Addr → α → Prop) (ps : List Addr) (xs : List α) : Prop := ps.length = xs.length ∧ ∀ (i : Nat) (p : Addr) (x : α), ps[i]? = some p → xs[i]? = some x → R p x
theorem Each.imp {α : Type} {R R' : Addr → α → Prop} {ps : List Addr} {xs : List α} (h : Each R ps xs) (f : ∀ p x, p ∈ ps → x ∈ xs → R p x → R' p x) : Each R' ps xs :=
  ⟨h.1, fun i p x h1 h2 => f p x (List.mem_of_getElem? h1) (List.mem_of_getElem? h2) (h.2 i p x h1 h2)⟩
theorem Each.snoc {α : Type} {R : Addr → α → Prop} {ps : List Addr} {xs : List α} {p : Addr} {x : α} (h : Each R ps xs) (hp : R p x) : Each R (ps ++ [p]) (xs ++ [x]) := by
  refine ⟨by rw [List.length_append, List.length_append, h.1]; rfl, fun i q y h1 h2 => ?_⟩
  by_cases hi : i < ps.length
  · rw [List.getElem?_append_left hi] at h1
    rw [List.getElem?_append_left (by rw [← h.1]; exact hi)] at h2
    exact h.2 i q y h1 h2
  · rw [List.getElem?_append_right (by omega)] at h1
    rw [List.getElem?_append_right (by rw [← h.1]; omega)] at h2
    rw [List.mem_singleton.mp (List.mem_of_getElem? h1), List.mem_singleton.mp (List.mem_of_getElem? h2)]
    exact hp
theorem Each.at {α : Type} {R : Addr → α → Prop} {ps : List Addr} {xs : List α} (h : Each R ps xs) {i : Nat} {x : α} (hx : xs[i]? = some x) : ∃ p, ps[i]? = some p ∧ R p x := by
  have hi : i < ps.length := by rw [h.1]; exact (List.getElem?_eq_some_iff.mp hx).1
  exact ⟨_, List.getElem?_eq_getElem hi, h.2 i _ x (List.getElem?_eq_getElem hi) hx⟩
theorem Each.mem {α : Type} {R : Addr → α → Prop} {ps : List Addr} {xs : List α} (h : Each R ps xs) {p : Addr} (hp : p ∈ ps) : ∃ x, x ∈ xs ∧ R p x := by
  obtain ⟨i, hi⟩ := List.getElem?_of_mem hp
  have hl : i < xs.length := by rw [← h.1]; exact (List.getElem?_eq_some_iff.mp hi).1
  exact ⟨_, List.mem_of_getElem? (List.getElem?_eq_getElem hl), h.2 i p _ hi (List.getElem?_eq_getElem hl)⟩
theorem Each.set {α : Type} {R R' : Addr → α → Prop} {ps : List Addr} {xs : List α} {i : Nat} {p : Addr} {x : α} (h : Each R ps xs) (hp : ps[i]? = some p) (hx : R' p x) (hn : ps.Nodup) (f : ∀ q y, q ∈ ps → q ≠ p → R q y → R' q y) : Each R' ps (xs.set i x) := by
  refine ⟨by rw [List.length_set]; exact h.1, fun j q y h1 h2 => ?_⟩
  by_cases e : i = j
  · subst e
    rw [hp] at h1
    obtain rfl := Option.some.inj h1
    have hi : i < xs.length := by rw [← h.1]; exact (List.getElem?_eq_some_iff.mp hp).1
    rw [List.getElem?_set_self hi] at h2
    obtain rfl := Option.some.inj h2
    exact hx
  · rw [List.getElem?_set_ne e] at h2
    refine f q y (List.mem_of_getElem? h1) (fun z => ?_) (h.2 j q y h1 h2)
    subst z
    exact e ((List.getElem?_inj (List.getElem?_eq_some_iff.mp hp).1 hn).mp (hp.trans h1.symm))
def RA.lists (a : RA) : List Addr := a.aR :: a.aW :: a.aG :: a.aE :: a.aC :: a.aN :: a.cs
def RA.dicts (a : RA) : List Addr := a.ws ++ a.gs
def RA.own (a : RA) (r b : Addr) : Prop := b = r ∨ b ∈ a.lists ∨ b ∈ a.dicts
structure RoomsAt (C : Addr) (H : Hp) (r : Addr) (S : RS) (a : RA) : Prop where
  ins : H r = some (.ins C a.dx (flds S.L S.made a))
  hR : H a.aR = some (.lst (a.rs.map V.ref))
  hW : H a.aW = some (.lst (a.ws.map V.ref))
  hG : H a.aG = some (.lst (a.gs.map V.ref))
  hE : H a.aE = some (.lst (intV (nI S.elders)))
  hC : H a.aC = some (.lst (a.cs.map V.ref))
  hN : H a.aN = some (.lst (intV (nI S.went)))
  rR : Each (fun p d => DtAt H 4 (.ref p) d) a.rs S.rows
  rW : Each (fun p l => H p = some (.dK (wK l))) a.ws S.ways
  rG : Each (fun p l => H p = some (.dK (gK l))) a.gs S.gaps
  rC : Each (fun p l => H p = some (.lst (intV (nI l)))) a.cs S.called
  flat : ∀ d ∈ S.rows, NoL d
  ndL : a.lists.Nodup
  ndD : a.dicts.Nodup
section
variable {C : Addr} {H H' : Hp} {r : Addr} {S : RS} {a : RA}
theorem RoomsAt.keep (h : RoomsAt C H r S a) (k : ∀ b o, a.own r b → H b = some o → H' b = some o) (kt : ∀ b xs, H b = some (.tup xs) → H' b = some (.tup xs)) : RoomsAt C H' r S a := by
  have kl : ∀ b o, b ∈ a.lists → H b = some o → H' b = some o := fun b o hb => k b o (.inr (.inl hb))
  have kd : ∀ b o, b ∈ a.dicts → H b = some o → H' b = some o := fun b o hb => k b o (.inr (.inr hb))
  exact ⟨k _ _ (.inl rfl) h.ins, kl _ _ (by simp [RA.lists]) h.hR, kl _ _ (by simp [RA.lists]) h.hW, kl _ _ (by simp [RA.lists]) h.hG, kl _ _ (by simp [RA.lists]) h.hE, kl _ _ (by simp [RA.lists]) h.hC, kl _ _ (by simp [RA.lists]) h.hN,
    h.rR.imp fun p x _ hx e => e.keepT kt (h.flat x hx), h.rW.imp fun p x hp _ e => kd _ _ (List.mem_append_left _ hp) e, h.rG.imp fun p x hp _ e => kd _ _ (List.mem_append_right _ hp) e,
    h.rC.imp fun p x hp _ e => kl _ _ (by simp [RA.lists, hp]) e, h.flat, h.ndL, h.ndD⟩
theorem RoomsAt.same (h : RoomsAt C H r S a) (s : Same H H') : RoomsAt C H' r S a := h.keep (fun _ _ _ e => s _ _ e) (fun _ _ e => s _ _ e)
theorem RoomsAt.there (h : RoomsAt C H r S a) {b : Addr} (hb : a.own r b) : ∃ o, H b = some o := by
  rcases hb with rfl | hb | hb
  · exact ⟨_, h.ins⟩
  · unfold RA.lists at hb
    simp only [List.mem_cons] at hb
    rcases hb with rfl | rfl | rfl | rfl | rfl | rfl | hb
    · exact ⟨_, h.hR⟩
    · exact ⟨_, h.hW⟩
    · exact ⟨_, h.hG⟩
    · exact ⟨_, h.hE⟩
    · exact ⟨_, h.hC⟩
    · exact ⟨_, h.hN⟩
    · obtain ⟨x, _, e⟩ := h.rC.mem hb; exact ⟨_, e⟩
  · rcases List.mem_append.mp hb with hb | hb
    · obtain ⟨x, _, e⟩ := h.rW.mem hb; exact ⟨_, e⟩
    · obtain ⟨x, _, e⟩ := h.rG.mem hb; exact ⟨_, e⟩
theorem RoomsAt.notup (h : RoomsAt C H r S a) {b : Addr} {xs : List V} (e : H b = some (.tup xs)) : ¬ a.own r b := fun hb => by
  rcases hb with rfl | hb | hb
  · rw [h.ins] at e; cases e
  · unfold RA.lists at hb
    simp only [List.mem_cons] at hb
    rcases hb with rfl | rfl | rfl | rfl | rfl | rfl | hb
    · rw [h.hR] at e; cases e
    · rw [h.hW] at e; cases e
    · rw [h.hG] at e; cases e
    · rw [h.hE] at e; cases e
    · rw [h.hC] at e; cases e
    · rw [h.hN] at e; cases e
    · obtain ⟨x, _, e'⟩ := h.rC.mem hb; rw [e'] at e; cases e
  · rcases List.mem_append.mp hb with hb | hb
    · obtain ⟨x, _, e'⟩ := h.rW.mem hb; rw [e'] at e; cases e
    · obtain ⟨x, _, e'⟩ := h.rG.mem hb; rw [e'] at e; cases e
end
end L2
set_option Elab.async false
set_option linter.all false
set_option maxRecDepth 100000
set_option maxHeartbeats 4000000
namespace L2
open PySem PySem.Spec PyProof.Rows
section
variable {C : Addr} {H H' : Hp} {r : Addr} {S : RS} {a : RA}
theorem mem_R : a.aR ∈ a.lists := by simp [RA.lists]
theorem mem_W : a.aW ∈ a.lists := by simp [RA.lists]
theorem mem_G : a.aG ∈ a.lists := by simp [RA.lists]
theorem mem_E : a.aE ∈ a.lists := by simp [RA.lists]
theorem mem_C : a.aC ∈ a.lists := by simp [RA.lists]
theorem mem_N : a.aN ∈ a.lists := by simp [RA.lists]
theorem mem_cs {p : Addr} (h : p ∈ a.cs) : p ∈ a.lists := by simp [RA.lists, h]
theorem mem_ws {p : Addr} (h : p ∈ a.ws) : p ∈ a.dicts := List.mem_append_left _ h
theorem mem_gs {p : Addr} (h : p ∈ a.gs) : p ∈ a.dicts := List.mem_append_right _ h
theorem RoomsAt.isL (h : RoomsAt C H r S a) {b : Addr} (hb : b ∈ a.lists) : ∃ xs, H b = some (.lst xs) := by
  unfold RA.lists at hb
  simp only [List.mem_cons] at hb
  rcases hb with rfl | rfl | rfl | rfl | rfl | rfl | hb
  · exact ⟨_, h.hR⟩
  · exact ⟨_, h.hW⟩
  · exact ⟨_, h.hG⟩
  · exact ⟨_, h.hE⟩
  · exact ⟨_, h.hC⟩
  · exact ⟨_, h.hN⟩
  · obtain ⟨x, _, e⟩ := h.rC.mem hb; exact ⟨_, e⟩
theorem RoomsAt.isD (h : RoomsAt C H r S a) {b : Addr} (hb : b ∈ a.dicts) : ∃ kvs, H b = some (.dK kvs) := by
  rcases List.mem_append.mp hb with hb | hb
  · obtain ⟨x, _, e⟩ := h.rW.mem hb; exact ⟨_, e⟩
  · obtain ⟨x, _, e⟩ := h.rG.mem hb; exact ⟨_, e⟩
theorem RoomsAt.rl (h : RoomsAt C H r S a) {b : Addr} (hb : b ∈ a.lists) : r ≠ b := by obtain ⟨xs, e⟩ := h.isL hb; exact ne_of h.ins e (by intro z; cases z)
theorem RoomsAt.rd (h : RoomsAt C H r S a) {b : Addr} (hb : b ∈ a.dicts) : r ≠ b := by obtain ⟨xs, e⟩ := h.isD hb; exact ne_of h.ins e (by intro z; cases z)
theorem RoomsAt.ld (h : RoomsAt C H r S a) {b c : Addr} (hb : b ∈ a.lists) (hc : c ∈ a.dicts) : b ≠ c := by
  obtain ⟨xs, e⟩ := h.isL hb
  obtain ⟨ys, e'⟩ := h.isD hc
  exact ne_of e e' (by intro z; cases z)
theorem RoomsAt.tl (h : RoomsAt C H r S a) {b c : Addr} {xs : List V} (hb : H b = some (.tup xs)) (hc : c ∈ a.lists) : b ≠ c := fun z => h.notup hb (.inr (.inl (by rw [z]; exact hc)))
theorem RoomsAt.td (h : RoomsAt C H r S a) {b c : Addr} {xs : List V} (hb : H b = some (.tup xs)) (hc : c ∈ a.dicts) : b ≠ c := fun z => h.notup hb (.inr (.inr (by rw [z]; exact hc)))
theorem RoomsAt.tr (h : RoomsAt C H r S a) {b : Addr} {xs : List V} (hb : H b = some (.tup xs)) : b ≠ r := fun z => h.notup hb (.inl z)
theorem RoomsAt.setMade (h : RoomsAt C H r S a) (n : Nat) : RoomsAt C (upd H r (.ins C a.dx (flds S.L n a))) r { S with made := n } a := by
  have kl : ∀ b o, b ∈ a.lists → H b = some o → upd H r (.ins C a.dx (flds S.L n a)) b = some o := fun b o hb e => by rw [upd_ne (h.rl hb).symm]; exact e
  have kd : ∀ b o, b ∈ a.dicts → H b = some o → upd H r (.ins C a.dx (flds S.L n a)) b = some o := fun b o hb e => by rw [upd_ne (h.rd hb).symm]; exact e
  exact ⟨upd_same, kl _ _ mem_R h.hR, kl _ _ mem_W h.hW, kl _ _ mem_G h.hG, kl _ _ mem_E h.hE, kl _ _ mem_C h.hC, kl _ _ mem_N h.hN, h.rR.imp fun p x _ hx e => e.keepT (fun b xs eb => by rw [upd_ne (h.tr eb)]; exact eb) (h.flat x hx),
    h.rW.imp fun p x hp _ e => kd _ _ (mem_ws hp) e, h.rG.imp fun p x hp _ e => kd _ _ (mem_gs hp) e, h.rC.imp fun p x hp _ e => kl _ _ (mem_cs hp) e, h.flat, h.ndL, h.ndD⟩
theorem RoomsAt.listUpd (h : RoomsAt C H r S a) {q : Addr} {o : HO} (hq : q ∈ a.lists) : upd H q o r = some (.ins C a.dx (flds S.L S.made a)) ∧ (∀ b x, b ∈ a.lists → b ≠ q → H b = some x → upd H q o b = some x) ∧ (∀ b x, b ∈ a.dicts → H b = some x → upd H q o b = some x) ∧ ∀ b xs, H b = some (.tup xs) → upd H q o b = some (.tup xs) :=
  ⟨by rw [upd_ne (h.rl hq)]; exact h.ins, fun b x _ n e => by rw [upd_ne n]; exact e, fun b x hb e => by rw [upd_ne (h.ld hq hb).symm]; exact e, fun b xs e => by rw [upd_ne (h.tl e hq)]; exact e⟩
theorem nd7 (nd : a.lists.Nodup) : (a.aR ≠ a.aW ∧ a.aR ≠ a.aG ∧ a.aR ≠ a.aE ∧ a.aR ≠ a.aC ∧ a.aR ≠ a.aN) ∧ (a.aW ≠ a.aG ∧ a.aW ≠ a.aE ∧ a.aW ≠ a.aC ∧ a.aW ≠ a.aN) ∧ (a.aG ≠ a.aE ∧ a.aG ≠ a.aC ∧ a.aG ≠ a.aN) ∧ (a.aE ≠ a.aC ∧ a.aE ≠ a.aN) ∧ a.aC ≠ a.aN ∧ ∀ p ∈ a.cs, p ≠ a.aR ∧ p ≠ a.aW ∧ p ≠ a.aG ∧ p ≠ a.aE ∧ p ≠ a.aC ∧ p ≠ a.aN := by
  unfold RA.lists at nd
  simp only [List.nodup_cons, List.mem_cons, not_or] at nd
  obtain ⟨⟨h1, h2, h3, h4, h5, h6⟩, ⟨g2, g3, g4, g5, g6⟩, ⟨f3, f4, f5, f6⟩, ⟨e4, e5, e6⟩, ⟨d5, d6⟩, c6, -⟩ := nd
  exact ⟨⟨h1, h2, h3, h4, h5⟩, ⟨g2, g3, g4, g5⟩, ⟨f3, f4, f5⟩, ⟨e4, e5⟩, d5, fun p hp => ⟨fun z => h6 (z ▸ hp), fun z => g6 (z ▸ hp), fun z => f6 (z ▸ hp), fun z => e6 (z ▸ hp), fun z => d6 (z ▸ hp), fun z => c6 (z ▸ hp)⟩⟩
theorem RoomsAt.addRow (h : RoomsAt C H r S a) {p : Addr} {d : Dt} (hp : DtAt H 4 (.ref p) d) (hd : NoL d) : RoomsAt C (upd H a.aR (.lst (a.rs.map V.ref ++ [.ref p]))) r { S with rows := S.rows ++ [d] } { a with rs := a.rs ++ [p] } := by
  obtain ⟨h0, kl, kd, kt⟩ := h.listUpd (o := .lst (a.rs.map V.ref ++ [.ref p])) (mem_R (a := a))
  obtain ⟨⟨n1, n2, n3, n4, n5⟩, -, -, -, -, nc⟩ := nd7 h.ndL
  refine ⟨h0, ?_, kl _ _ mem_W n1.symm h.hW, kl _ _ mem_G n2.symm h.hG, kl _ _ mem_E n3.symm h.hE, kl _ _ mem_C n4.symm h.hC, kl _ _ mem_N n5.symm h.hN, (h.rR.imp fun q x _ hx e => e.keepT kt (h.flat x hx)).snoc (hp.keepT kt hd),
    h.rW.imp fun q x hq _ e => kd _ _ (mem_ws hq) e, h.rG.imp fun q x hq _ e => kd _ _ (mem_gs hq) e, h.rC.imp fun q x hq _ e => kl _ _ (mem_cs hq) (nc q hq).1 e, fun x hx => ?_, h.ndL, h.ndD⟩
  · show upd H a.aR _ a.aR = some (.lst ((a.rs ++ [p]).map V.ref))
    rw [upd_same, List.map_append]; rfl
  · rcases List.mem_append.mp hx with hx | hx
    · exact h.flat x hx
    · rw [List.mem_singleton.mp hx]; exact hd
theorem RoomsAt.addWay (h : RoomsAt C H r S a) {p : Addr} {l : List (Int × Nat)} (hp : H p = some (.dK (wK l))) (hn : p ∉ a.dicts) : RoomsAt C (upd H a.aW (.lst (a.ws.map V.ref ++ [.ref p]))) r { S with ways := S.ways ++ [l] } { a with ws := a.ws ++ [p] } := by
  obtain ⟨h0, kl, kd, kt⟩ := h.listUpd (o := .lst (a.ws.map V.ref ++ [.ref p])) (mem_W (a := a))
  obtain ⟨⟨n1, -⟩, ⟨n2, n3, n4, n5⟩, -, -, -, nc⟩ := nd7 h.ndL
  have hpw : upd H a.aW (.lst (a.ws.map V.ref ++ [.ref p])) p = some (.dK (wK l)) := by rw [upd_ne (ne_of hp h.hW (by intro z; cases z))]; exact hp
  refine ⟨h0, kl _ _ mem_R n1 h.hR, ?_, kl _ _ mem_G n2.symm h.hG, kl _ _ mem_E n3.symm h.hE, kl _ _ mem_C n4.symm h.hC, kl _ _ mem_N n5.symm h.hN, h.rR.imp fun q x _ hx e => e.keepT kt (h.flat x hx),
    (h.rW.imp fun q x hq _ e => kd _ _ (mem_ws hq) e).snoc hpw, h.rG.imp fun q x hq _ e => kd _ _ (mem_gs hq) e, h.rC.imp fun q x hq _ e => kl _ _ (mem_cs hq) (nc q hq).2.1 e, h.flat, h.ndL, ?_⟩
  · show upd H a.aW _ a.aW = some (.lst ((a.ws ++ [p]).map V.ref))
    rw [upd_same, List.map_append]; rfl
  · show (a.ws ++ [p] ++ a.gs).Nodup
    rw [List.append_assoc]
    exact (List.perm_middle.nodup_iff).mpr (List.nodup_cons.mpr ⟨hn, h.ndD⟩)
theorem RoomsAt.addGap (h : RoomsAt C H r S a) {p : Addr} {l : List Int} (hp : H p = some (.dK (gK l))) (hn : p ∉ a.dicts) : RoomsAt C (upd H a.aG (.lst (a.gs.map V.ref ++ [.ref p]))) r { S with gaps := S.gaps ++ [l] } { a with gs := a.gs ++ [p] } := by
  obtain ⟨h0, kl, kd, kt⟩ := h.listUpd (o := .lst (a.gs.map V.ref ++ [.ref p])) (mem_G (a := a))
  obtain ⟨⟨-, n1, -⟩, ⟨n2, -⟩, ⟨n3, n4, n5⟩, -, -, nc⟩ := nd7 h.ndL
  have hpw : upd H a.aG (.lst (a.gs.map V.ref ++ [.ref p])) p = some (.dK (gK l)) := by rw [upd_ne (ne_of hp h.hG (by intro z; cases z))]; exact hp
  refine ⟨h0, kl _ _ mem_R n1 h.hR, kl _ _ mem_W n2 h.hW, ?_, kl _ _ mem_E n3.symm h.hE, kl _ _ mem_C n4.symm h.hC, kl _ _ mem_N n5.symm h.hN, h.rR.imp fun q x _ hx e => e.keepT kt (h.flat x hx),
    h.rW.imp fun q x hq _ e => kd _ _ (mem_ws hq) e, (h.rG.imp fun q x hq _ e => kd _ _ (mem_gs hq) e).snoc hpw, h.rC.imp fun q x hq _ e => kl _ _ (mem_cs hq) (nc q hq).2.2.1 e, h.flat, h.ndL, ?_⟩
  · show upd H a.aG _ a.aG = some (.lst ((a.gs ++ [p]).map V.ref))
    rw [upd_same, List.map_append]; rfl
  · show (a.ws ++ (a.gs ++ [p])).Nodup
    rw [← List.append_assoc]
    refine List.nodup_append.mpr ⟨h.ndD, by simp, fun x hx y hy z => ?_⟩
    rw [List.mem_singleton.mp hy] at z
    exact hn (z ▸ hx)
theorem RoomsAt.setElders (h : RoomsAt C H r S a) (es : List Nat) : RoomsAt C (upd H a.aE (.lst (intV (nI es)))) r { S with elders := es } a := by
  obtain ⟨h0, kl, kd, kt⟩ := h.listUpd (o := .lst (intV (nI es))) (mem_E (a := a))
  obtain ⟨⟨-, -, n1, -⟩, ⟨-, n2, -⟩, ⟨n3, -⟩, ⟨n4, n5⟩, -, nc⟩ := nd7 h.ndL
  exact ⟨h0, kl _ _ mem_R n1 h.hR, kl _ _ mem_W n2 h.hW, kl _ _ mem_G n3 h.hG, upd_same, kl _ _ mem_C n4.symm h.hC, kl _ _ mem_N n5.symm h.hN, h.rR.imp fun q x _ hx e => e.keepT kt (h.flat x hx),
    h.rW.imp fun q x hq _ e => kd _ _ (mem_ws hq) e, h.rG.imp fun q x hq _ e => kd _ _ (mem_gs hq) e, h.rC.imp fun q x hq _ e => kl _ _ (mem_cs hq) (nc q hq).2.2.2.1 e, h.flat, h.ndL, h.ndD⟩
theorem RoomsAt.addCalled (h : RoomsAt C H r S a) {p : Addr} {l : List Nat} (hp : H p = some (.lst (intV (nI l)))) (hn : p ∉ a.lists) : RoomsAt C (upd H a.aC (.lst (a.cs.map V.ref ++ [.ref p]))) r { S with called := S.called ++ [l] } { a with cs := a.cs ++ [p] } := by
  obtain ⟨h0, kl, kd, kt⟩ := h.listUpd (o := .lst (a.cs.map V.ref ++ [.ref p])) (mem_C (a := a))
  obtain ⟨⟨-, -, -, n1, -⟩, ⟨-, -, n2, -⟩, ⟨-, n3, -⟩, ⟨n4, -⟩, n5, nc⟩ := nd7 h.ndL
  have npc : p ≠ a.aC := fun z => hn (by rw [z]; exact mem_C)
  have hpw : upd H a.aC (.lst (a.cs.map V.ref ++ [.ref p])) p = some (.lst (intV (nI l))) := by rw [upd_ne npc]; exact hp
  refine ⟨h0, kl _ _ mem_R n1 h.hR, kl _ _ mem_W n2 h.hW, kl _ _ mem_G n3 h.hG, kl _ _ mem_E n4 h.hE, ?_, kl _ _ mem_N n5.symm h.hN, h.rR.imp fun q x _ hx e => e.keepT kt (h.flat x hx),
    h.rW.imp fun q x hq _ e => kd _ _ (mem_ws hq) e, h.rG.imp fun q x hq _ e => kd _ _ (mem_gs hq) e, (h.rC.imp fun q x hq _ e => kl _ _ (mem_cs hq) (nc q hq).2.2.2.2.1 e).snoc hpw, h.flat, ?_, h.ndD⟩
  · show upd H a.aC _ a.aC = some (.lst ((a.cs ++ [p]).map V.ref))
    rw [upd_same, List.map_append]; rfl
  · show (a.lists ++ [p]).Nodup
    refine List.nodup_append.mpr ⟨h.ndL, by simp, fun x hx y hy z => ?_⟩
    rw [List.mem_singleton.mp hy] at z
    exact hn (z ▸ hx)
theorem RoomsAt.dictUpd (h : RoomsAt C H r S a) {q : Addr} {o : HO} (hq : q ∈ a.dicts) : upd H q o r = some (.ins C a.dx (flds S.L S.made a)) ∧ (∀ b x, b ∈ a.dicts → b ≠ q → H b = some x → upd H q o b = some x) ∧ (∀ b x, b ∈ a.lists → H b = some x → upd H q o b = some x) ∧ ∀ b xs, H b = some (.tup xs) → upd H q o b = some (.tup xs) :=
  ⟨by rw [upd_ne (h.rd hq)]; exact h.ins, fun b x _ n e => by rw [upd_ne n]; exact e, fun b x hb e => by rw [upd_ne (h.ld hb hq)]; exact e, fun b xs e => by rw [upd_ne (h.td e hq)]; exact e⟩
theorem RoomsAt.setWay (h : RoomsAt C H r S a) {i : Nat} {p : Addr} (hp : a.ws[i]? = some p) (l : List (Int × Nat)) : RoomsAt C (upd H p (.dK (wK l))) r { S with ways := S.ways.set i l } a := by
  have hm := List.mem_of_getElem? hp
  obtain ⟨h0, kd, kl, kt⟩ := h.dictUpd (o := .dK (wK l)) (mem_ws hm)
  have nd := List.nodup_append.mp h.ndD
  exact ⟨h0, kl _ _ mem_R h.hR, kl _ _ mem_W h.hW, kl _ _ mem_G h.hG, kl _ _ mem_E h.hE, kl _ _ mem_C h.hC, kl _ _ mem_N h.hN, h.rR.imp fun q x _ hx e => e.keepT kt (h.flat x hx),
    h.rW.set hp upd_same nd.1 fun q y hq n e => kd _ _ (mem_ws hq) n e, h.rG.imp fun q x hq _ e => kd _ _ (mem_gs hq) (fun z => nd.2.2 p hm q hq z.symm) e, h.rC.imp fun q x hq _ e => kl _ _ (mem_cs hq) e, h.flat, h.ndL, h.ndD⟩
theorem RoomsAt.setGap (h : RoomsAt C H r S a) {i : Nat} {p : Addr} (hp : a.gs[i]? = some p) (l : List Int) : RoomsAt C (upd H p (.dK (gK l))) r { S with gaps := S.gaps.set i l } a := by
  have hm := List.mem_of_getElem? hp
  obtain ⟨h0, kd, kl, kt⟩ := h.dictUpd (o := .dK (gK l)) (mem_gs hm)
  have nd := List.nodup_append.mp h.ndD
  exact ⟨h0, kl _ _ mem_R h.hR, kl _ _ mem_W h.hW, kl _ _ mem_G h.hG, kl _ _ mem_E h.hE, kl _ _ mem_C h.hC, kl _ _ mem_N h.hN, h.rR.imp fun q x _ hx e => e.keepT kt (h.flat x hx),
    h.rW.imp fun q x hq _ e => kd _ _ (mem_ws hq) (fun z => nd.2.2 q hq p hm z) e, h.rG.set hp upd_same nd.2.1 fun q y hq n e => kd _ _ (mem_gs hq) n e, h.rC.imp fun q x hq _ e => kl _ _ (mem_cs hq) e, h.flat, h.ndL, h.ndD⟩
end
def RS.setW (S : RS) (i : Nat) (l : List (Int × Nat)) : RS := { S with ways := S.ways.set i l }
def RS.setG (S : RS) (i : Nat) (l : List Int) : RS := { S with gaps := S.gaps.set i l }
def RS.way (S : RS) (c : Nat) : List (Int × Nat) := S.ways.getD c []
def RS.gap (S : RS) (c : Nat) : List Int := S.gaps.getD c []
def RS.by (S : RS) (c : Nat) (z : Int) : Option Nat := getW (S.way c) z
def RS.putWay (S : RS) (c : Nat) (z : Int) (d : Nat) : RS := S.setW c (putW (S.way c) z d)
def RS.noGap (S : RS) (c : Nat) (z : Int) : RS := S.setG c ((S.gap c).filter fun x => decide (x ≠ z))
def RS.keep (S : RS) (c : Nat) (z : Int) (d : Nat) : RS := (((S.putWay c z d).putWay d (-z) c).noGap c z).noGap d (-z)
def rowNew (c : Nat) (z : Int) (n : Nat) : Dt := .t [.s [110, 101, 119], .i c, .i z, .i n]
def RS.grown (S : RS) (c : Nat) (z : Int) (gaps : List Int) : RS := { S with made := S.made + 1, rows := S.rows ++ [rowNew c z S.made], ways := S.ways ++ [[]], gaps := S.gaps ++ [gaps], elders := S.elders ++ [S.made], called := S.called ++ [[S.made]] }
def RS.make (S : RS) (c : Nat) (z : Int) (gaps : List Int) : RS := (S.grown c z gaps).keep c z S.made
def RS.new (L : Nat) (gaps : List Int) : RS := ⟨L, 1, [], [[]], [gaps], [0], [[0]], []⟩
structure RS.Wf (S : RS) : Prop where
  w : S.ways.length = S.made
  g : S.gaps.length = S.made
  e : S.elders.length = S.made
  c : S.called.length = S.made
end L2
set_option Elab.async false
set_option linter.all false
set_option maxRecDepth 100000
set_option maxHeartbeats 4000000
namespace L2
open PySem PySem.Spec PyProof.Rows
section
variable {X : Cx} {e : Expr} {f : Str} {ta : TE} {pos : Pos}
theorem pe_fldK {K : PySem.W.Frag} (hK : X.K = K) (he : PE X e ta) (hb : attributeBase e f X.env (eval e X.env) = eval e X.env) : PE X (.Attribute e f pos) (tFld K ta f) := by
  subst hK
  exact pe_fld he hb
end
theorem comp_make {α : Type} {J : It} {H : Hp} {fv : St} {te : TE} {Q : VK} (n : Nat) (xs : Nat → V) (R : Hp → V → Nat → Prop) (hR : ∀ H1 H2 v i, Same H1 H2 → R H1 v i → R H2 v i) (hfit : n ≤ sizeLine)
    (hgo : ∀ (i : Nat) H2, Same H H2 → i < n → J.go i H2) (hy : ∀ (i : Nat) (x : V) (H2 H3 : Hp), Same H H2 → i < n → J.yld i H2 x H3 → H3 = H2 ∧ x = xs i) (hst : ∀ H2, Same H H2 → J.stop n H2)
    (he : ∀ (i : Nat) (H2 : Hp) (Rr : VK), i < n → Same H H2 → (∀ v H3, Same H2 H3 → R H3 v i → Rr v H3) → te (some (xs i) :: fv) H2 Rr)
    (hQ : ∀ D H2 ys, Same H H2 → H2 D = none → ys.length = n → (∀ (i : Nat) (v : V), ys[i]? = some v → R H2 v i) → Q (.ref D) (upd H2 D (.lst ys))) : CompGo te fv Q J H := by
  refine ⟨fun i m ys H2 => m = n - i ∧ i ≤ n ∧ ys.length = i ∧ Same H H2 ∧ ∀ (j : Nat) (v : V), ys[j]? = some v → R H2 v j, ⟨n, by simp, Nat.zero_le _, rfl, fun _ _ e => e, fun j v h => by simp at h⟩, ?_⟩
  rintro i m ys H2 ⟨rfl, hi, hl, s2, hr⟩
  by_cases hlt : i < n
  · refine .inr ⟨hgo i H2 s2 hlt, by omega, fun x H3 hyl => ?_⟩
    obtain ⟨rfl, rfl⟩ := hy i x H2 H3 s2 hlt hyl
    refine he i _ _ hlt s2 fun v H4 s4 hv => ⟨n - (i + 1), by omega, rfl, hlt, by rw [List.length_append, hl]; rfl, s2.trans s4, fun j w hw => ?_⟩
    by_cases hj : j < ys.length
    · rw [List.getElem?_append_left hj] at hw
      exact hR _ _ _ _ s4 (hr j w hw)
    · rw [List.getElem?_append_right (by omega)] at hw
      have ej : j - ys.length = 0 := by
        have := (List.getElem?_eq_some_iff.mp hw).1
        rw [List.length_singleton] at this
        omega
      rw [ej] at hw
      have : j = i := by omega
      subst this
      rw [← Option.some.inj hw]
      exact hv
  · have e : i = n := by omega
    subst e
    exact .inl ⟨hst H2 s2, by omega, fun D hD => hQ D H2 ys s2 hD hl hr⟩
end L2
namespace L2
open PySem PySem.Spec PyProof.Rows
theorem refs_of {P : Nat → Addr → Prop} : ∀ (ys : List V) (k : Nat), (∀ (i : Nat) (v : V), ys[i]? = some v → ∃ p, v = .ref p ∧ P (k + i) p) → ∃ ps : List Addr, ys = ps.map V.ref ∧ ∀ (i : Nat) (p : Addr), ps[i]? = some p → P (k + i) p
  | [], _, _ => ⟨[], rfl, fun i p h => by simp at h⟩
  | v :: ys, k, h => by
    obtain ⟨p, rfl, hp⟩ := h 0 v rfl
    obtain ⟨ps, rfl, hps⟩ := refs_of (P := P) ys (k + 1) fun i w hw => by
      obtain ⟨q, e, hq⟩ := h (i + 1) w (by simpa using hw)
      exact ⟨q, e, by rw [show k + 1 + i = k + (i + 1) by omega]; exact hq⟩
    refine ⟨p :: ps, rfl, fun i q hq => ?_⟩
    cases i with
    | zero => obtain rfl : p = q := by simpa using hq
              exact hp
    | succ i =>
      have := hps i q (by simpa using hq)
      rw [show k + 1 + i = k + (i + 1) by omega] at this
      exact this
theorem putF_le {f : Str} {v : V} {n : Nat} : ∀ {fs : List (Str × V)}, fs.length ≤ n → (putF f v fs).length ≤ n + 1
  | [], h => by show 1 ≤ n + 1; omega
  | (g, x) :: r, h => by
    show (if g = f then (g, v) :: r else (g, x) :: putF f v r).length ≤ n + 1
    rw [List.length_cons] at h
    split
    · rw [List.length_cons]; omega
    · have := putF_le (f := f) (v := v) (n := n - 1) (fs := r) (by omega)
      rw [List.length_cons]; omega
theorem kit_int_tuple (K : PySem.W.Frag) : PySem.W.kitOne K (.type "int") (.type "tuple") = some false := by first | rfl | kernel_rfl
theorem kit_int_list (K : PySem.W.Frag) : PySem.W.kitOne K (.type "int") (.type "list") = some false := by first | rfl | kernel_rfl
theorem kit_int_dict (K : PySem.W.Frag) : PySem.W.kitOne K (.type "int") (.type "dict") = some false := by first | rfl | kernel_rfl
theorem kit_str_tuple (K : PySem.W.Frag) : PySem.W.kitOne K (.type "str") (.type "tuple") = some false := by first | rfl | kernel_rfl
theorem kit_str_list (K : PySem.W.Frag) : PySem.W.kitOne K (.type "str") (.type "list") = some false := by first | rfl | kernel_rfl
theorem kit_str_dict (K : PySem.W.Frag) : PySem.W.kitOne K (.type "str") (.type "dict") = some false := by first | rfl | kernel_rfl
end L2
set_option Elab.async false
set_option linter.all false
set_option maxRecDepth 100000
set_option maxHeartbeats 4000000
namespace M11
def flip (k : Nat) : Nat := if k % 2 = 0 then k + 1 else k - 1
def nx (T : List (List Int)) (k i : Nat) : Nat := ((T.getD i []).getD k 0).toNat
structure Tab (L : Nat) (T : List (List Int)) : Prop where
  pos : 1 ≤ T.length
  top : T.length ≤ 300
  let1 : 1 ≤ L
  let2 : L ≤ 40
  row : ∀ (i : Nat) (r : List Int), T[i]? = some r → r.length = 2 * L
  val : ∀ i k, i < T.length → k < 2 * L → ∃ r : List Int, T[i]? = some r ∧ r[k]? = some ((nx T k i : Nat) : Int)
  lt : ∀ i k, i < T.length → k < 2 * L → nx T k i < T.length
  back : ∀ i k, i < T.length → k < 2 * L → nx T (flip k) (nx T k i) = i
def pl (s : Int) : Nat := if 0 < s then 2 * s.natAbs - 2 else 2 * s.natAbs - 1
def walk (T : List (List Int)) (w : List Int) (i : Nat) : Nat := w.foldl (fun i s => nx T (pl s) i) i
def back (w : List Int) : List Int := w.reverse.map fun z => -z
structure Pm (p : Nat) (r : List Int) : Prop where
  len : r.length = p
  nd : r.Nodup
  rg : ∀ z ∈ r, 0 ≤ z ∧ z < (p : Int)
theorem Pm.at {p : Nat} {r : List Int} (h : Pm p r) {i : Nat} (hi : i < p) : ∃ j : Nat, r[i]? = some (j : Int) ∧ j < p := by
  have hl : i < r.length := by rw [h.len]; exact hi
  have := h.rg r[i] (List.getElem_mem hl)
  exact ⟨r[i].toNat, by rw [List.getElem?_eq_getElem hl, show ((r[i].toNat : Nat) : Int) = r[i] by omega], by omega⟩
def RowOk (L : Nat) (f : Nat → Int → Int) (come : List Int) (x : Int) (r : List Int) (m : Nat) : Prop := r.length = m ∧ ∀ k, k < m → ∃ j : Nat, r[k]? = some (j : Int) ∧ come[j]? = some (f k x)
theorem RowOk.more {L : Nat} {f : Nat → Int → Int} {come c2 : List Int} {x : Int} {r : List Int} {m : Nat} (h : RowOk L f come x r m) : RowOk L f (come ++ c2) x r m := ⟨h.1, fun k hk => by
  obtain ⟨j, h1, h2⟩ := h.2 k hk
  refine ⟨j, h1, ?_⟩
  rw [List.getElem?_append_left (List.getElem?_eq_some_iff.mp h2).1]
  exact h2⟩
theorem RowOk.snoc {L : Nat} {f : Nat → Int → Int} {come : List Int} {x : Int} {r : List Int} {m j : Nat} (h : RowOk L f come x r m) (hj : come[j]? = some (f m x)) : RowOk L f come x (r ++ [(j : Int)]) (m + 1) := by
  refine ⟨by rw [List.length_append, h.1]; rfl, fun k hk => ?_⟩
  by_cases e : k = m
  · subst e
    refine ⟨j, ?_, hj⟩
    rw [List.getElem?_append_right (by rw [h.1]; exact Nat.le_refl _), h.1, Nat.sub_self]
    rfl
  · obtain ⟨i, h1, h2⟩ := h.2 k (by omega)
    exact ⟨i, by rw [List.getElem?_append_left (by rw [h.1]; omega)]; exact h1, h2⟩
def InvOf (p : Nat) (r t : List Int) : Prop := t.length = p ∧ ∀ k j : Nat, r[k]? = some (j : Int) → t[j]? = some (k : Int)
def InvTo (p : Nat) (r t : List Int) (n : Nat) : Prop := t.length = p ∧ ∀ k j : Nat, k < n → r[k]? = some (j : Int) → t[j]? = some (k : Int)
theorem InvTo.step {p n j : Nat} {r t : List Int} (h : InvTo p r t n) (hr : Pm p r) (hj : r[n]? = some (j : Int)) (hjp : j < p) : InvTo p r (t.set j (n : Int)) (n + 1) := by
  refine ⟨by rw [List.length_set]; exact h.1, fun k i hk hi => ?_⟩
  by_cases e : k = n
  · subst e
    rw [hj] at hi
    have : j = i := by have := Option.some.inj hi; omega
    subst this
    exact List.getElem?_set_self (by rw [h.1]; exact hjp)
  · have hne : j ≠ i := fun z => by
      subst z
      exact e ((List.getElem?_inj (List.getElem?_eq_some_iff.mp hi).1 hr.nd).mp (hi.trans hj.symm))
    rw [List.getElem?_set_ne hne]
    exact h.2 k i (by omega) hi
theorem InvTo.all {p : Nat} {r t : List Int} (h : InvTo p r t p) (hr : Pm p r) : InvOf p r t := ⟨h.1, fun k j hk => h.2 k j (by
  have := (List.getElem?_eq_some_iff.mp hk).1
  rw [hr.len] at this
  exact this) hk⟩
end M11
namespace M12
open M11
def Fc (W : Nat) (E : List Int) (N : Nat) : Prop := (∀ z ∈ E, 0 ≤ z ∧ z < (N : Int)) ∧ ∀ j : Nat, 0 < j → j < N → ∃ p : Nat, p < j * W ∧ E[p]? = some (j : Int) ∧ ∀ (q : Nat) (z : Int), q < p → E[q]? = some z → z < (j : Int)
theorem Fc.old {W N i : Nat} {E : List Int} (h : Fc W E N) (hi : i < N) : Fc W (E ++ [(i : Int)]) N := by
  refine ⟨fun z hz => ?_, fun j h0 h1 => ?_⟩
  · rcases List.mem_append.mp hz with hz | hz
    · exact h.1 z hz
    · rw [List.mem_singleton.mp hz]; omega
  · obtain ⟨p, a1, a2, a3⟩ := h.2 j h0 h1
    have hp := (List.getElem?_eq_some_iff.mp a2).1
    refine ⟨p, a1, by rw [List.getElem?_append_left hp]; exact a2, fun q z hq hz => a3 q z hq ?_⟩
    rw [List.getElem?_append_left (by omega)] at hz
    exact hz
theorem Fc.new {W N : Nat} {E : List Int} (h : Fc W E N) (hN : 0 < N) (hE : E.length < N * W) : Fc W (E ++ [(N : Int)]) (N + 1) := by
  refine ⟨fun z hz => ?_, fun j h0 h1 => ?_⟩
  · rcases List.mem_append.mp hz with hz | hz
    · have := h.1 z hz; omega
    · rw [List.mem_singleton.mp hz]; omega
  · by_cases e : j = N
    · subst e
      refine ⟨E.length, hE, by rw [List.getElem?_append_right (Nat.le_refl _), Nat.sub_self]; rfl, fun q z hq hz => ?_⟩
      rw [List.getElem?_append_left hq] at hz
      exact (h.1 z (List.mem_of_getElem? hz)).2
    · obtain ⟨p, a1, a2, a3⟩ := h.2 j h0 (by omega)
      have hp := (List.getElem?_eq_some_iff.mp a2).1
      refine ⟨p, a1, by rw [List.getElem?_append_left hp]; exact a2, fun q z hq hz => a3 q z hq ?_⟩
      rw [List.getElem?_append_left (by omega)] at hz
      exact hz
theorem Fc.zero (W : Nat) : Fc W [] 1 := ⟨(fun z hz => by cases hz), (fun j h0 h1 => by omega)⟩
def st (k : Nat) : Int := if k % 2 = 0 then ((k / 2 + 1 : Nat) : Int) else -((k / 2 + 1 : Nat) : Int)
theorem pl_st (k : Nat) : pl (st k) = k := by
  unfold pl st
  by_cases h : k % 2 = 0
  · rw [if_pos h, if_pos (by omega)]; omega
  · rw [if_neg h, if_neg (by omega)]; omega
def lexL : List Nat → List Nat → Prop
  | a :: u, b :: v => a < b ∨ (a = b ∧ lexL u v)
  | _, _ => False
def aheadN (u v : List Nat) : Prop := u.length < v.length ∨ (u.length = v.length ∧ lexL u v)
theorem lex_snoc : ∀ {u v : List Nat} {a b : Nat}, u.length = v.length → lexL u v → lexL (u ++ [a]) (v ++ [b])
  | x :: u, y :: v, a, b, hl, h => by
    rcases h with h | ⟨e, h⟩
    · exact .inl h
    · exact .inr ⟨e, lex_snoc (by simpa using hl) h⟩
theorem lex_last : ∀ {u : List Nat} {a b : Nat}, a < b → lexL (u ++ [a]) (u ++ [b])
  | [], a, b, h => .inl h
  | x :: u, a, b, h => .inr ⟨rfl, lex_last h⟩
theorem ahead_snoc {u v : List Nat} {a b : Nat} (h : aheadN u v) : aheadN (u ++ [a]) (v ++ [b]) := by
  rcases h with h | ⟨e, h⟩
  · exact .inl (by simp only [List.length_append, List.length_cons, List.length_nil]; omega)
  · exact .inr ⟨by simp only [List.length_append, List.length_cons, List.length_nil]; omega, lex_snoc e h⟩
theorem ahead_last {u : List Nat} {a b : Nat} (h : a < b) : aheadN (u ++ [a]) (u ++ [b]) := .inr ⟨by simp, lex_last h⟩
def Lw (L : Nat) (T : List (List Int)) (ws : List (List Nat)) : Prop := ws.length = T.length ∧ ws[0]? = some [] ∧
  ∀ (j p : Nat), 0 < j → j < T.length → T.flatten[p]? = some (j : Int) → (∀ (q : Nat) (z : Int), q < p → T.flatten[q]? = some z → z < (j : Int)) → ∃ u, ws[p / (2 * L)]? = some u ∧ ws[j]? = some (u ++ [p % (2 * L)])
section
variable {L : Nat} {T : List (List Int)} {ws : List (List Nat)} (hT : Tab L T) (hF : Fc (2 * L) T.flatten T.length) (hw : Lw L T ws)
include hT hF hw
theorem mono : ∀ (i' i : Nat), i < i' → i' < T.length → ∀ u v, ws[i]? = some u → ws[i']? = some v → aheadN u v := by
  have hL := hT.let1
  intro i'
  induction i' using Nat.strongRecOn with
  | _ i' ih =>
    intro i hlt hi' u v hu hv
    obtain ⟨p', a1, a2, a3⟩ := hF.2 i' (by omega) hi'
    obtain ⟨v0, b1, b2⟩ := hw.2.2 i' p' (by omega) hi' a2 a3
    have ev : v = v0 ++ [p' % (2 * L)] := Option.some.inj (hv.symm.trans b2)
    by_cases h0 : i = 0
    · subst h0
      have eu : u = [] := Option.some.inj (hu.symm.trans hw.2.1)
      rw [eu, ev]
      exact .inl (by simp)
    · obtain ⟨p, c1, c2, c3⟩ := hF.2 i (by omega) (by omega)
      obtain ⟨u0, d1, d2⟩ := hw.2.2 i p (by omega) (by omega) c2 c3
      have eu : u = u0 ++ [p % (2 * L)] := Option.some.inj (hu.symm.trans d2)
      have hpp : p < p' := by
        refine Classical.byContradiction fun hn => ?_
        by_cases e : p = p'
        · rw [e, a2] at c2
          have := Option.some.inj c2
          omega
        · have := c3 p' _ (by omega) a2
          omega
      have hrow : p' / (2 * L) < i' := by
        rw [Nat.div_lt_iff_lt_mul (by omega)]
        exact a1
      rw [eu, ev]
      by_cases er : p / (2 * L) = p' / (2 * L)
      · rw [er] at d1
        have e0 : u0 = v0 := Option.some.inj (d1.symm.trans b1)
        rw [e0]
        refine ahead_last ?_
        have h1 := Nat.div_add_mod p (2 * L)
        have h2 := Nat.div_add_mod p' (2 * L)
        rw [er] at h1
        omega
      · have hlt2 : p / (2 * L) < p' / (2 * L) := by
          have := Nat.div_le_div_right (c := 2 * L) (Nat.le_of_lt hpp)
          omega
        exact ahead_snoc (ih _ hrow _ hlt2 (by omega) _ _ d1 b1)
end
end M12
namespace K11
open PySem L2
def top (i : Nat) : Stmt := PySem.Challenge.pw_cosetyard_k11_rooms_made.main.body.getD i (.Pass ⟨0, 0, 0, 0⟩)
abbrev s_steps_of : Stmt := top 2
abbrev s_all_gaps : Stmt := top 5
abbrev s_own : Stmt := top 6
abbrev s__law_cell_at : Stmt := top 8
abbrev s__law_whole : Stmt := top 9
abbrev s__law_step : Stmt := top 10
abbrev s__law_rows : Stmt := top 11
abbrev s__law_by : Stmt := top 12
abbrev s__law_seen : Stmt := top 13
abbrev s_law : Stmt := top 14
abbrev s_Rooms___init__ : Stmt := inClass (top 4) 0
abbrev s_Rooms_make : Stmt := inClass (top 4) 1
abbrev s_Rooms_by : Stmt := inClass (top 4) 3
abbrev s_Rooms_elder : Stmt := inClass (top 4) 4
abbrev s_Rooms_standing : Stmt := inClass (top 4) 5
abbrev s_Rooms_paper : Stmt := inClass (top 4) 6
abbrev s_Rooms_keep : Stmt := inClass (top 4) 8
structure Adr where
  f_steps_of : Addr
  d_steps_of : FuncData
  f_all_gaps : Addr
  d_all_gaps : FuncData
  f_own : Addr
  d_own : FuncData
  f__law_cell_at : Addr
  d__law_cell_at : FuncData
  f__law_whole : Addr
  d__law_whole : FuncData
  f__law_step : Addr
  d__law_step : FuncData
  f__law_rows : Addr
  d__law_rows : FuncData
  f__law_by : Addr
  d__law_by : FuncData
  f__law_seen : Addr
  d__law_seen : FuncData
  f_law : Addr
  d_law : FuncData
  f_Rooms___init__ : Addr
  d_Rooms___init__ : FuncData
  f_Rooms_make : Addr
  d_Rooms_make : FuncData
  f_Rooms_by : Addr
  d_Rooms_by : FuncData
  f_Rooms_elder : Addr
  d_Rooms_elder : FuncData
  f_Rooms_standing : Addr
  d_Rooms_standing : FuncData
  f_Rooms_paper : Addr
  d_Rooms_paper : FuncData
  f_Rooms_keep : Addr
  d_Rooms_keep : FuncData
  c_Rooms : Addr
structure Txt (K : PySem.W.Frag) (mg : Str → Option Value) (A : Adr) : Prop where
  steps_of : Def K mg "steps_of" s_steps_of ["letters"] A.f_steps_of A.d_steps_of
  all_gaps : Def K mg "all_gaps" s_all_gaps ["letters"] A.f_all_gaps A.d_all_gaps
  own : Def K mg "own" s_own ["value"] A.f_own A.d_own
  _law_cell_at : Def K mg "_law_cell_at" s__law_cell_at ["_law_script", "_law_k"] A.f__law_cell_at A.d__law_cell_at
  _law_whole : Def K mg "_law_whole" s__law_whole ["_law_found"] A.f__law_whole A.d__law_whole
  _law_step : Def K mg "_law_step" s__law_step ["_law_number", "_law_letters"] A.f__law_step A.d__law_step
  _law_rows : Def K mg "_law_rows" s__law_rows ["_law_told", "_law_due"] A.f__law_rows A.d__law_rows
  _law_by : Def K mg "_law_by" s__law_by ["_law_rooms", "_law_room", "_law_step_here", "_law_ways"] A.f__law_by A.d__law_by
  _law_seen : Def K mg "_law_seen" s__law_seen ["_law_rooms", "_law_letters", "_law_ways", "_law_rows_here"] A.f__law_seen A.d__law_seen
  law : Def K mg "law" s_law ["_law_script"] A.f_law A.d_law
  Rooms___init__ : MDef K A.c_Rooms "__init__" "Rooms.__init__" s_Rooms___init__ ["self", "letters"] A.f_Rooms___init__ A.d_Rooms___init__
  Rooms_make : MDef K A.c_Rooms "make" "Rooms.make" s_Rooms_make ["self", "room", "step"] A.f_Rooms_make A.d_Rooms_make
  Rooms_by : MDef K A.c_Rooms "by" "Rooms.by" s_Rooms_by ["self", "room", "step"] A.f_Rooms_by A.d_Rooms_by
  Rooms_elder : MDef K A.c_Rooms "elder" "Rooms.elder" s_Rooms_elder ["self", "room"] A.f_Rooms_elder A.d_Rooms_elder
  Rooms_standing : MDef K A.c_Rooms "standing" "Rooms.standing" s_Rooms_standing ["self"] A.f_Rooms_standing A.d_Rooms_standing
  Rooms_paper : MDef K A.c_Rooms "paper" "Rooms.paper" s_Rooms_paper ["self"] A.f_Rooms_paper A.d_Rooms_paper
  Rooms_keep : MDef K A.c_Rooms "keep" "Rooms.keep" s_Rooms_keep ["self", "room", "step", "other"] A.f_Rooms_keep A.d_Rooms_keep
  z_range : mg "range" = none
  z_len : mg "len" = none
  z_tuple : mg "tuple" = none
  z_list : mg "list" = none
  z_isinstance : mg "isinstance" = none
  z_bool : mg "bool" = none
  z_int : mg "int" = none
  z_dict : mg "dict" = none
  z_str : mg "str" = none
  m_Rooms : mg "Rooms" = some (.ref A.c_Rooms)
  pg_Rooms : PySem.W.plainGet K A.c_Rooms Str.empty = true
  hd_Rooms : PySem.W.hasDictIn K A.c_Rooms = true
  po_Rooms : PySem.W.plainOver K A.c_Rooms = true
  sa_Rooms : PySem.W.findIn K (.ref A.c_Rooms) "__setattr__" = some (some (.builtin "object.__setattr__"))
  mk_Rooms : PySem.W.makesIn K A.c_Rooms = true
  kc_Rooms : PySem.W.keepIn K (.ref A.c_Rooms) = true
  n_letters : PySem.W.findIn K (.ref A.c_Rooms) "letters" = some none
  n_made : PySem.W.findIn K (.ref A.c_Rooms) "made" = some none
  n_rows : PySem.W.findIn K (.ref A.c_Rooms) "rows" = some none
  n_ways : PySem.W.findIn K (.ref A.c_Rooms) "ways" = some none
  n_gaps : PySem.W.findIn K (.ref A.c_Rooms) "gaps" = some none
  n_elders : PySem.W.findIn K (.ref A.c_Rooms) "elders" = some none
  n_called : PySem.W.findIn K (.ref A.c_Rooms) "called" = some none
  n_went : PySem.W.findIn K (.ref A.c_Rooms) "went" = some none
theorem cl_Rooms {K : PySem.W.Frag} {mg : Str → Option Value} {A : Adr} (T : Txt K mg A) : Cls K A.c_Rooms := ⟨T.pg_Rooms, T.hd_Rooms, T.po_Rooms, T.sa_Rooms⟩
theorem mk_Rooms {K : PySem.W.Frag} {mg : Str → Option Value} {A : Adr} (T : Txt K mg A) : Mk K A.c_Rooms A.f_Rooms___init__ := ⟨T.mk_Rooms, T.Rooms___init__.m.at_, T.Rooms___init__.m.fn, T.kc_Rooms⟩
theorem sc_steps_of : FnScope ["letters", "steps", "letter"] ["letters"] (defScope s_steps_of) := ⟨rfl, rfl, rfl, by decide +kernel, rfl, by decide +kernel, by decide +kernel⟩
theorem sc_all_gaps : FnScope ["letters"] ["letters"] (defScope s_all_gaps) := ⟨rfl, rfl, rfl, by decide +kernel, rfl, by decide +kernel, by decide +kernel⟩
theorem sc_own : FnScope ["value"] ["value"] (defScope s_own) := ⟨rfl, rfl, rfl, by decide +kernel, rfl, by decide +kernel, by decide +kernel⟩
theorem sc__law_cell_at : FnScope ["_law_script", "_law_k"] ["_law_script", "_law_k"] (defScope s__law_cell_at) := ⟨rfl, rfl, rfl, by decide +kernel, rfl, by decide +kernel, by decide +kernel⟩
theorem sc__law_whole : FnScope ["_law_found"] ["_law_found"] (defScope s__law_whole) := ⟨rfl, rfl, rfl, by decide +kernel, rfl, by decide +kernel, by decide +kernel⟩
theorem sc__law_step : FnScope ["_law_number", "_law_letters"] ["_law_number", "_law_letters"] (defScope s__law_step) := ⟨rfl, rfl, rfl, by decide +kernel, rfl, by decide +kernel, by decide +kernel⟩
theorem sc__law_rows : FnScope ["_law_told", "_law_due", "_law_row"] ["_law_told", "_law_due"] (defScope s__law_rows) := ⟨rfl, rfl, rfl, by decide +kernel, rfl, by decide +kernel, by decide +kernel⟩
theorem sc__law_by : FnScope ["_law_rooms", "_law_room", "_law_step_here", "_law_ways", "_law_found"] ["_law_rooms", "_law_room", "_law_step_here", "_law_ways"] (defScope s__law_by) := ⟨rfl, rfl, rfl, by decide +kernel, rfl, by decide +kernel, by decide +kernel⟩
theorem sc__law_seen : FnScope ["_law_rooms", "_law_letters", "_law_ways", "_law_rows_here", "_law_found", "_law_room", "_law_step_here"] ["_law_rooms", "_law_letters", "_law_ways", "_law_rows_here"] (defScope s__law_seen) := ⟨rfl, rfl, rfl, by decide +kernel, rfl, by decide +kernel, by decide +kernel⟩
theorem sc_law : FnScope ["_law_script", "_law_letters", "_law_both", "_law_ways", "_law_rows_here", "_law_held", "_law_cell", "_law_which", "_law_many", "_law_room", "_law_step_here", "_law_found", "_law_told", "_law_due"] ["_law_script"] (defScope s_law) := ⟨rfl, rfl, rfl, by decide +kernel, rfl, by decide +kernel, by decide +kernel⟩
theorem sc_Rooms___init__ : FnScope ["self", "letters"] ["self", "letters"] (defScope s_Rooms___init__) := ⟨rfl, rfl, rfl, by decide +kernel, rfl, by decide +kernel, by decide +kernel⟩
theorem sc_Rooms_make : FnScope ["self", "room", "step", "number"] ["self", "room", "step"] (defScope s_Rooms_make) := ⟨rfl, rfl, rfl, by decide +kernel, rfl, by decide +kernel, by decide +kernel⟩
theorem sc_Rooms_by : FnScope ["self", "room", "step"] ["self", "room", "step"] (defScope s_Rooms_by) := ⟨rfl, rfl, rfl, by decide +kernel, rfl, by decide +kernel, by decide +kernel⟩
theorem sc_Rooms_elder : FnScope ["self", "room"] ["self", "room"] (defScope s_Rooms_elder) := ⟨rfl, rfl, rfl, by decide +kernel, rfl, by decide +kernel, by decide +kernel⟩
theorem sc_Rooms_standing : FnScope ["self"] ["self"] (defScope s_Rooms_standing) := ⟨rfl, rfl, rfl, by decide +kernel, rfl, by decide +kernel, by decide +kernel⟩
theorem sc_Rooms_paper : FnScope ["self"] ["self"] (defScope s_Rooms_paper) := ⟨rfl, rfl, rfl, by decide +kernel, rfl, by decide +kernel, by decide +kernel⟩
theorem sc_Rooms_keep : FnScope ["self", "room", "step", "other"] ["self", "room", "step", "other"] (defScope s_Rooms_keep) := ⟨rfl, rfl, rfl, by decide +kernel, rfl, by decide +kernel, by decide +kernel⟩
section
variable {P : Program} {w : World} {K : PySem.W.Frag} {mg : Str → Option Value} {base : Heap} {A : Adr}
def spLaw (K : PySem.W.Frag) : Sp := fun vs H Q _ => ∃ (a : Addr) (ns : List Int), vs = [.ref a] ∧ SqL K H a (ns.map V.int) ∧ ns.length ≤ 63 ∧ ∀ H', Q (.bl true) H'
def stL (n : Nat) : List Int := (List.range n).map M12.st
theorem stL_len (n : Nat) : (stL n).length = n := by unfold stL; rw [List.length_map, List.length_range]
theorem stL_at {n i : Nat} (h : i < n) : (stL n)[i]? = some (M12.st i) := by
  unfold stL
  rw [List.getElem?_map, List.getElem?_range h]
  rfl
theorem stL_two (i : Nat) : stL (2 * i) ++ [1 + (i : Int)] ++ [-(1 + (i : Int))] = stL (2 * (i + 1)) := by
  have e : 2 * (i + 1) = 2 * i + 1 + 1 := by omega
  rw [e]
  unfold stL
  rw [List.range_succ, List.range_succ, List.map_append, List.map_append]
  have e1 : M12.st (2 * i) = 1 + (i : Int) := by unfold M12.st; rw [if_pos (by omega)]; omega
  have e2 : M12.st (2 * i + 1) = -(1 + (i : Int)) := by unfold M12.st; rw [if_neg (by omega)]; omega
  show _ = (List.range (2 * i)).map M12.st ++ [M12.st (2 * i)] ++ [M12.st (2 * i + 1)]
  rw [e1, e2]
theorem stL_nd (n : Nat) : (stL n).Nodup := by
  unfold stL
  refine List.pairwise_map.mpr (List.Pairwise.imp ?_ List.nodup_range)
  intro a b hab z
  have h1 := M12.pl_st a
  rw [z, M12.pl_st] at h1
  exact hab h1.symm
theorem ref_at {rs : List Addr} {i : Nat} {r : Addr} (h : rs[i]? = some r) : atI (rs.map V.ref) (i : Int) = some (V.ref r) := atI_nat (by rw [List.getElem?_map, h]; rfl)
def spStepsO : Sp := fun vs H Q _ => ∃ L : Nat, vs = [.int L] ∧ 1 ≤ L ∧ L ≤ 200 ∧ ∀ l H', Same H H' → H' l = some (.lst (intV ((List.range (2 * L)).map M12.st))) → Q (.ref l) H'
def spGaps : Sp := fun vs H Q _ => ∃ L : Nat, vs = [.int L] ∧ 1 ≤ L ∧ L ≤ 200 ∧ ∀ d H', Same H H' → H d = none → H' d = some (.dK (gK (stL (2 * L)))) → Q (.ref d) H'
def spNew (C : Addr) : Sp := fun vs H Q _ => ∃ (x dx : Addr) (L : Nat), vs = [.ref x, .int L] ∧ H x = some (.ins C dx []) ∧ 1 ≤ L ∧ L ≤ 200 ∧ ∀ a H', (∀ b o, H b = some o → b ≠ x → H' b = some o) → RoomsAt C H' x (RS.new L (stL (2 * L))) a → (∀ b, a.own x b → b = x ∨ H b = none) → Q .non H'
def ButO (a : RA) (r : Addr) (H H' : Hp) : Prop := ∀ b o, ¬ a.own r b → H b = some o → H' b = some o
def spKeep (C : Addr) : Sp := fun vs H Q _ => ∃ (r : Addr) (S : RS) (a : RA) (c d : Nat) (z : Int), vs = [.ref r, .int c, .int z, .int d] ∧ RoomsAt C H r S a ∧ S.Wf ∧ c < S.made ∧ d < S.made ∧ (∀ l ∈ S.ways, l.length ≤ 100000) ∧ ∀ H', ButO a r H H' → RoomsAt C H' r (S.keep c z d) a → Q .non H'
def spMake (C : Addr) : Sp := fun vs H Q _ => ∃ (r : Addr) (S : RS) (a : RA) (c : Nat) (z : Int), vs = [.ref r, .int c, .int z] ∧ RoomsAt C H r S a ∧ S.Wf ∧ 1 ≤ S.L ∧ S.L ≤ 200 ∧ c < S.made ∧ S.made ≤ 100000 ∧ S.rows.length ≤ 1000000 ∧ (∀ l ∈ S.ways, l.length ≤ 100000) ∧ ∀ a' H', ButO a r H H' → RoomsAt C H' r (S.make c z (stL (2 * S.L))) a' → (∀ b, a'.own r b → a.own r b ∨ H b = none) → Q (.int S.made) H'
def spRBy (C : Addr) : Sp := fun vs H Q _ => ∃ (r : Addr) (S : RS) (a : RA) (c : Nat) (z : Int), vs = [.ref r, .int c, .int z] ∧ RoomsAt C H r S a ∧ c < S.ways.length ∧ Q (((S.by c z).map fun n : Nat => V.int (n : Int)).getD .non) H
def spElder (C : Addr) : Sp := fun vs H Q _ => ∃ (r : Addr) (S : RS) (a : RA) (c e : Nat), vs = [.ref r, .int c] ∧ RoomsAt C H r S a ∧ S.elders[c]? = some e ∧ Q (.int e) H
def spStanding (C : Addr) : Sp := fun vs H Q _ => ∃ (r : Addr) (S : RS) (a : RA), vs = [.ref r] ∧ RoomsAt C H r S a ∧ S.Wf ∧ S.made ≤ 100000 ∧ ∀ l, H l = none → Q (.ref l) (upd H l (.lst (intV (nI ((List.range S.made).filter fun c => decide (S.elders[c]? = some c))))))
def spOwn (k : Nat) : Sp := fun vs H Q _ => ∃ (v : V) (d : Dt), vs = [v] ∧ DtAt H k v d ∧ NoL d ∧ ∀ v' H', Same H H' → DtAt H' k v' d → Q v' H'
def spPaper (k : Nat) (C : Addr) : Sp := fun vs H Q _ => ∃ (r : Addr) (S : RS) (a : RA), vs = [.ref r] ∧ RoomsAt C H r S a ∧ S.rows.length ≤ 1000000 ∧ (∀ p d, d ∈ S.rows → DtAt H 4 (.ref p) d → DtAt H k (.ref p) d) ∧ ∀ l ps H', Same H H' → H l = none → H' l = some (.lst (ps.map V.ref)) → Each (fun p d => DtAt H' 4 (.ref p) d) ps S.rows → Q (.ref l) H'
theorem ok_own_vF (T : Txt K mg A) : FnOk P w K mg base CX0 1 A.f_own A.d_own ["value"] (fun _ _ _ _ => False) := ⟨fun _ _ _ _ h => h.elim, fun _ _ _ _ _ _ _ _ _ _ _ _ _ h => h.elim⟩
theorem ok_own_v0 (T : Txt K mg A) : FnOk P w K mg base CX0 2 A.f_own A.d_own ["value"] (spOwn 0) := by
  have G_own : FnOk P w K mg base CX0 1 A.f_own A.d_own ["value"] (fun _ _ _ _ => False) := ok_own_vF T
  refine T.own.F.ok sc_own (fun vs H Q E h => ?_) (fun cdv AA outer s H vs Q E hr h => ?_)
  · obtain ⟨v, d, rfl, _⟩ := h
    rfl
  · obtain ⟨v, d, rfl, hv, hd, k⟩ := h
    refine ⟨_, (pss_cons (ps_if (pt_val (pe_callB call_isi rfl T.z_isinstance PyProof.Rows.boot_isinstance (pa_cons (pv 0) (pa_cons (pe_bltn (v := .ty "tuple") rfl T.z_tuple PyProof.Rows.boot_tuple rfl) pa_nil))))
        (pss_one (ps_ret (pe_callTy call_tuple_of rfl T.z_tuple PyProof.Rows.boot_tuple (pa_cons (pe_comp (fns := []) (ixs := []) (cl := []) rfl (pi_tup (pv 0)) (compScope0 (by decide +kernel) (by decide +kernel) rfl (by decide +kernel) rfl) (fun C s H ex => (pe_call (G_own) (hr.mono (by decide)) rfl T.own.m T.own.F.kp T.own.b .nil pass0 (pa_cons (pv 0) pa_nil)))) pa_nil))))
        pss_nil)
      (pss_cons (ps_if (pt_val (pe_callB call_isi rfl T.z_isinstance PyProof.Rows.boot_isinstance (pa_cons (pv 0) (pa_cons (pe_bltn (v := .ty "list") rfl T.z_list PyProof.Rows.boot_list rfl) pa_nil))))
        (pss_one (ps_ret (pe_comp (fns := []) (ixs := []) (cl := []) rfl (pi_tup (pv 0)) (compScope0 (by decide +kernel) (by decide +kernel) rfl (by decide +kernel) rfl) (fun C s H ex => (pe_call (G_own) (hr.mono (by decide)) rfl T.own.m T.own.F.kp T.own.b .nil pass0 (pa_cons (pv 0) pa_nil))))))
        pss_nil)
      (pss_cons (ps_if (pt_val (pe_callB call_isi rfl T.z_isinstance PyProof.Rows.boot_isinstance (pa_cons (pv 0) (pa_cons (pe_bltn (v := .ty "dict") rfl T.z_dict PyProof.Rows.boot_dict rfl) pa_nil))))
        (pss_one (ps_ret (pe_callTy (call_dict_pairs rfl) rfl T.z_dict PyProof.Rows.boot_dict (pa_cons (pe_comp (fns := ["value"]) (ixs := [0]) (cl := _) rfl (pi_tup (pv 0)) (compScope1 rfl rfl (by decide +kernel) rfl (by decide +kernel) rfl (by decide +kernel) (by decide +kernel) rfl rfl rfl rfl) (fun C s H ex => (pe_tup (pa_cons (pv 0) (pa_cons (pe_call (G_own) (hr.mono (by decide)) rfl T.own.m T.own.F.kp T.own.b .nil pass0 (pa_cons (pe_ix (ix_tupK (K := K) rfl) (pv 1) (pv 0) (fun _ _ => rfl)) pa_nil)) pa_nil))))) pa_nil))))
        pss_nil)
      (pss_one (ps_ret (pv 0)))))), ?_⟩
    have atom : (∃ n, v = .int n) ∨ (∃ l, v = .str (tx l)) ∨ ∃ (a : Addr) (vs : List V) (ds : List Dt), v = .ref a ∧ d = .t ds ∧ False := by
      cases hv with
      | i => exact .inl ⟨_, rfl⟩
      | s => exact .inr (.inl ⟨_, rfl⟩)
      | n => cases hd
      | b => cases hd
    rcases atom with ⟨n, rfl⟩ | ⟨l, rfl⟩ | ⟨a, vs, ds, rfl, rfl, hx⟩
    · refine ⟨_, rfl, _, _, _, _, rfl, .int n, kit_int_tuple K, _, rfl, iteF ?_⟩
      refine ⟨_, rfl, _, _, _, _, rfl, .int n, kit_int_list K, _, rfl, iteF ?_⟩
      refine ⟨_, rfl, _, _, _, _, rfl, .int n, kit_int_dict K, _, rfl, iteF ?_⟩
      exact ⟨_, rfl, k _ H (fun _ _ e => e) hv⟩
    · refine ⟨_, rfl, _, _, _, _, rfl, .str (tx l), kit_str_tuple K, _, rfl, iteF ?_⟩
      refine ⟨_, rfl, _, _, _, _, rfl, .str (tx l), kit_str_list K, _, rfl, iteF ?_⟩
      refine ⟨_, rfl, _, _, _, _, rfl, .str (tx l), kit_str_dict K, _, rfl, iteF ?_⟩
      exact ⟨_, rfl, k _ H (fun _ _ e => e) hv⟩
    · exact hx.elim
theorem ok_own_v1 (T : Txt K mg A) : FnOk P w K mg base CX0 3 A.f_own A.d_own ["value"] (spOwn 1) := by
  have G_own : FnOk P w K mg base CX0 2 A.f_own A.d_own ["value"] (spOwn 0) := ok_own_v0 T
  refine T.own.F.ok sc_own (fun vs H Q E h => ?_) (fun cdv AA outer s H vs Q E hr h => ?_)
  · obtain ⟨v, d, rfl, _⟩ := h
    rfl
  · obtain ⟨v, d, rfl, hv, hd, k⟩ := h
    refine ⟨_, (pss_cons (ps_if (pt_val (pe_callB call_isi rfl T.z_isinstance PyProof.Rows.boot_isinstance (pa_cons (pv 0) (pa_cons (pe_bltn (v := .ty "tuple") rfl T.z_tuple PyProof.Rows.boot_tuple rfl) pa_nil))))
        (pss_one (ps_ret (pe_callTy call_tuple_of rfl T.z_tuple PyProof.Rows.boot_tuple (pa_cons (pe_comp (fns := []) (ixs := []) (cl := []) rfl (pi_tup (pv 0)) (compScope0 (by decide +kernel) (by decide +kernel) rfl (by decide +kernel) rfl) (fun C s H ex => (pe_call (G_own) (hr.mono (by decide)) rfl T.own.m T.own.F.kp T.own.b .nil pass0 (pa_cons (pv 0) pa_nil)))) pa_nil))))
        pss_nil)
      (pss_cons (ps_if (pt_val (pe_callB call_isi rfl T.z_isinstance PyProof.Rows.boot_isinstance (pa_cons (pv 0) (pa_cons (pe_bltn (v := .ty "list") rfl T.z_list PyProof.Rows.boot_list rfl) pa_nil))))
        (pss_one (ps_ret (pe_comp (fns := []) (ixs := []) (cl := []) rfl (pi_tup (pv 0)) (compScope0 (by decide +kernel) (by decide +kernel) rfl (by decide +kernel) rfl) (fun C s H ex => (pe_call (G_own) (hr.mono (by decide)) rfl T.own.m T.own.F.kp T.own.b .nil pass0 (pa_cons (pv 0) pa_nil))))))
        pss_nil)
      (pss_cons (ps_if (pt_val (pe_callB call_isi rfl T.z_isinstance PyProof.Rows.boot_isinstance (pa_cons (pv 0) (pa_cons (pe_bltn (v := .ty "dict") rfl T.z_dict PyProof.Rows.boot_dict rfl) pa_nil))))
        (pss_one (ps_ret (pe_callTy (call_dict_pairs rfl) rfl T.z_dict PyProof.Rows.boot_dict (pa_cons (pe_comp (fns := ["value"]) (ixs := [0]) (cl := _) rfl (pi_tup (pv 0)) (compScope1 rfl rfl (by decide +kernel) rfl (by decide +kernel) rfl (by decide +kernel) (by decide +kernel) rfl rfl rfl rfl) (fun C s H ex => (pe_tup (pa_cons (pv 0) (pa_cons (pe_call (G_own) (hr.mono (by decide)) rfl T.own.m T.own.F.kp T.own.b .nil pass0 (pa_cons (pe_ix (ix_tupK (K := K) rfl) (pv 1) (pv 0) (fun _ _ => rfl)) pa_nil)) pa_nil))))) pa_nil))))
        pss_nil)
      (pss_one (ps_ret (pv 0)))))), ?_⟩
    have atom : (∃ n, v = .int n) ∨ (∃ l, v = .str (tx l)) ∨ ∃ (a : Addr) (vs : List V) (ds : List Dt), v = .ref a ∧ d = .t ds ∧ (H a = some (.tup vs) ∧ vs.length = ds.length ∧ ∀ (j : Nat) (v : V) (x : Dt), vs[j]? = some v → ds[j]? = some x → DtAt H 0 v x) := by
      cases hv with
      | i => exact .inl ⟨_, rfl⟩
      | s => exact .inr (.inl ⟨_, rfl⟩)
      | n => cases hd
      | b => cases hd
      | t h1 h2 h3 => exact .inr (.inr ⟨_, _, _, rfl, rfl, h1, h2, h3⟩)
      | l => cases hd
    rcases atom with ⟨n, rfl⟩ | ⟨l, rfl⟩ | ⟨a, vs, ds, rfl, rfl, hx⟩
    · refine ⟨_, rfl, _, _, _, _, rfl, .int n, kit_int_tuple K, _, rfl, iteF ?_⟩
      refine ⟨_, rfl, _, _, _, _, rfl, .int n, kit_int_list K, _, rfl, iteF ?_⟩
      refine ⟨_, rfl, _, _, _, _, rfl, .int n, kit_int_dict K, _, rfl, iteF ?_⟩
      exact ⟨_, rfl, k _ H (fun _ _ e => e) hv⟩
    · refine ⟨_, rfl, _, _, _, _, rfl, .str (tx l), kit_str_tuple K, _, rfl, iteF ?_⟩
      refine ⟨_, rfl, _, _, _, _, rfl, .str (tx l), kit_str_list K, _, rfl, iteF ?_⟩
      refine ⟨_, rfl, _, _, _, _, rfl, .str (tx l), kit_str_dict K, _, rfl, iteF ?_⟩
      exact ⟨_, rfl, k _ H (fun _ _ e => e) hv⟩
    · obtain ⟨h1, h2, h3⟩ := hx
      obtain ⟨hz, hds⟩ : ds.length ≤ 100000 ∧ ∀ x ∈ ds, NoL x := by cases hd with | t a b => exact ⟨a, b⟩
      refine ⟨_, rfl, _, _, _, _, rfl, .tup h1, kit_self K "tuple", _, rfl, iteT ?_⟩
      refine ⟨_, rfl, a, rfl, ⟨_, SqT.of h1⟩, ?_⟩
      refine comp_make (α := Unit) vs.length (fun i => vs.getD i .non) (fun H2 v i => ∃ x, ds[i]? = some x ∧ NoL x ∧ DtAt H2 0 v x) (fun H1 H2 v i s ⟨x, e, hn, q⟩ => ⟨x, e, hn, q.same s⟩) ?_ (fun i H2 s2 hi => itt_go (SqT.of (s2 _ _ h1)) i hi) (fun i x H2 H3 s2 hi y => ?_) (fun H2 s2 => itt_stop (SqT.of (s2 _ _ h1))) (fun i H2 Rr hi s2 kk => ?_) (fun D H2 ys s2 hD hl hr => ?_)
      · exact Nat.le_trans (by omega) (show 100000 ≤ sizeLine by decide)
      · obtain ⟨e, hx⟩ := itt_yld (SqT.of (s2 _ _ h1)) i x H3 hi y
        refine ⟨e, ?_⟩
        rw [List.getD_eq_getElem?_getD, hx]; rfl
      · have hx : vs[i]? = some (vs.getD i .non) := by rw [List.getD_eq_getElem?_getD, List.getElem?_eq_getElem hi]; rfl
        have hy : ds[i]? = some (ds[i]'(by omega)) := List.getElem?_eq_getElem (by omega)
        refine ⟨_, rfl, _, _, rfl, (h3 i _ _ hx hy).same s2, hds _ (List.mem_of_getElem? hy), fun v' H' s' q' => kk v' H' s' ⟨_, hy, hds _ (List.mem_of_getElem? hy), q'⟩⟩
      · refine ⟨D, ys, rfl, .inl ⟨SqL.of upd_same, fun l hl2 => ?_⟩⟩
        have sD : Same H2 (upd H2 D (.lst ys)) := Same.upd hD
        have sl : Same (upd H2 D (.lst ys)) (upd (upd H2 D (.lst ys)) l (.tup ys)) := Same.upd hl2
        refine k _ _ (s2.trans (sD.trans sl)) (.t upd_same (by omega) fun j v x e1 e2 => ?_)
        obtain ⟨y, e3, -, q⟩ := hr j v e1
        obtain rfl : y = x := Option.some.inj (e3.symm.trans e2)
        exact q.same (sD.trans sl)
theorem ok_steps_of (T : Txt K mg A) : FnOk P w K mg base CX0 1 A.f_steps_of A.d_steps_of ["letters"] spStepsO := by
  refine T.steps_of.F.ok sc_steps_of (fun vs H Q E h => ?_) (fun cdv AA outer s H vs Q E hr h => ?_)
  · obtain ⟨L, rfl, _⟩ := h
    rfl
  · obtain ⟨L, rfl, hL1, hL2, k⟩ := h
    refine ⟨_, (pss_cons (ps_set (i := 1) sc_steps_of.nd rfl (Or.inl rfl) (pe_lst pa_nil))
      (pss_cons (ps_for PassesOwn.never rfl (pi_range2 rfl T.z_range (pa_cons pe_int (pa_cons (pe_op op_add (pv 0) pe_int) pa_nil))) (pg_name (i := 2) sc_steps_of.nd rfl (Or.inl rfl))
        (pss_cons (ps_expr (pe_bm PySem.F.plainAttrs_list PySem.F.slot_list_append PySem.F.type_list_append mt_append (pv 1) (pa_cons (pv 2) pa_nil)))
        (pss_one (ps_expr (pe_bm PySem.F.plainAttrs_list PySem.F.slot_list_append PySem.F.type_list_append mt_append (pv 1) (pa_cons (pe_un un_neg (pv 2)) pa_nil))))))
      (pss_one (ps_ret (pv 1))))), ?_⟩
    refine ⟨Nat.zero_le _, fun l hl => ?_⟩
    have s0 : Same H (upd H l (.lst [])) := Same.upd hl
    have h0 : upd H l (.lst []) l = some (.lst (intV (stL (2 * 0)))) := upd_same
    generalize upd H l (.lst []) = H0 at s0 h0 ⊢
    refine ⟨_, rfl, _, _, rfl, rfl, 1, (L : Int) + 1, rfl, ⟨by omega, by omega, by omega, by omega⟩, ?_⟩
    refine for_range (lo := 1) (n := ((L : Int) + 1 - 1).toNat) (fun i σ H2 => ∃ v : Option V, σ = [some (.int L), some (.ref l), v] ∧ Same H H2 ∧ H2 l = some (.lst (intV (stL (2 * i))))) ⟨none, rfl, s0, h0⟩ ?_ ?_
    · rintro i σ H2 hi ⟨v, rfl, s2, h2⟩
      have hi' : i < L := by omega
      refine ⟨_, rfl, .inl ⟨rfl, _, SqL.of h2⟩, _, rfl, l, _, _, rfl, rfl, h2, ?_, ?_⟩
      · rw [ints_len, stL_len]
        exact Nat.lt_of_le_of_lt (show 2 * i ≤ 400 by omega) (by decide)
      refine ⟨_, rfl, .inl ⟨rfl, _, SqL.of upd_same⟩, _, rfl, _, rfl, l, _, _, rfl, rfl, upd_same, ?_, ?_⟩
      · rw [List.length_append, ints_len, stL_len]
        exact Nat.lt_of_le_of_lt (show 2 * i + 1 ≤ 400 by omega) (by decide)
      refine ⟨_, rfl, fun b o e => ?_, ?_⟩
      · rw [upd_ne (ne_of_none e hl), upd_ne (ne_of_none e hl)]
        exact s2 _ _ e
      · rw [upd_same, ← stL_two, ints_app, ints_app]
        rfl
    · rintro σ H2 ⟨v, rfl, s2, h2⟩
      rw [show ((L : Int) + 1 - 1).toNat = L by omega] at h2
      exact ⟨_, rfl, k l H2 s2 h2⟩
theorem ok_all_gaps (T : Txt K mg A) : FnOk P w K mg base CX0 2 A.f_all_gaps A.d_all_gaps ["letters"] spGaps := by
  have G_steps_of : FnOk P w K mg base CX0 1 A.f_steps_of A.d_steps_of ["letters"] spStepsO := ok_steps_of T
  refine T.all_gaps.F.ok sc_all_gaps (fun vs H Q E h => ?_) (fun cdv AA outer s H vs Q E hr h => ?_)
  · obtain ⟨L, rfl, _⟩ := h
    rfl
  · obtain ⟨L, rfl, hL1, hL2, k⟩ := h
    refine ⟨_, (pss_one (ps_ret (pe_callTy (call_dict_pairs rfl) rfl T.z_dict PyProof.Rows.boot_dict (pa_cons (pe_comp (fns := []) (ixs := []) (cl := []) rfl (pi_list (pe_call (G_steps_of) (hr.mono (by decide)) rfl T.steps_of.m T.steps_of.F.kp T.steps_of.b .nil pass0 (pa_cons (pv 0) pa_nil))) (compScope0 (by decide +kernel) (by decide +kernel) rfl (by decide +kernel) rfl) (fun C s H ex => (pe_tup (pa_cons (pv 0) (pa_cons pe_bl pa_nil))))) pa_nil)))), ?_⟩
    refine ⟨_, rfl, L, rfl, hL1, hL2, fun l H1 s1 h1 => ⟨l, rfl, ⟨_, SqL.of h1⟩, ?_⟩⟩
    have hn : (intV ((List.range (2 * L)).map M12.st)).length = 2 * L := by rw [ints_len, List.length_map, List.length_range]
    refine comp_make (α := Unit) (2 * L) (fun i => .int (M12.st i)) (fun H2 v i => ∃ p, v = .ref p ∧ H2 p = some (.tup [.int (M12.st i), .bl true])) (fun H1 H2 v i s ⟨p, e, q⟩ => ⟨p, e, s _ _ q⟩) ?_ (fun i H2 s2 hi => itl_go (SqL.of (s2 _ _ h1)) i (by omega)) (fun i x H2 H3 s2 hi y => ?_) (fun H2 s2 => ?_) (fun i H2 Rr hi s2 kk => ?_) (fun D H2 ys s2 hD hl hr => ?_)
    · exact Nat.le_trans (show 2 * L ≤ 400 by omega) (by decide)
    · obtain ⟨e, hx⟩ := itl_yld (SqL.of (s2 _ _ h1)) i x H3 (by omega) y
      refine ⟨e, ?_⟩
      rw [show (intV ((List.range (2 * L)).map M12.st))[i]? = some (.int (M12.st i)) from ints_at (stL_at hi)] at hx
      exact (Option.some.inj hx).symm
    · have := itl_stop (SqL.of (K := K) (s2 _ _ h1))
      rw [hn] at this
      exact this
    · refine ⟨_, rfl, (by show 2 ≤ sizeLine; decide), fun t ht => kk _ _ (Same.upd ht) ⟨t, rfl, upd_same⟩⟩
    · obtain ⟨ps, rfl, hps⟩ := refs_of (P := fun i p => H2 p = some (.tup [.int (M12.st i), .bl true])) ys 0 (fun i v hv => by rw [Nat.zero_add]; exact hr i v hv)
      have sD : Same H2 (upd H2 D (.lst (ps.map V.ref))) := Same.upd hD
      rw [List.length_map] at hl
      refine ⟨D, ps, gK (stL (2 * L)), rfl, upd_same, by rw [gK_len, stL_len, hl], fun i p kv e1 e2 => ?_, fun d hd => ?_⟩
      · have hi : i < 2 * L := by rw [← hl]; exact (List.getElem?_eq_some_iff.mp e1).1
        have := hps i p e1
        rw [Nat.zero_add] at this
        unfold gK at e2
        rw [List.getElem?_map, stL_at hi] at e2
        rw [← Option.some.inj e2]
        exact sD _ _ this
      · have e : mergeK [] (gK (stL (2 * L))) = gK (stL (2 * L)) := by
          rw [merge_new _ _ ?_, List.nil_append]
          rw [List.nil_append]
          unfold gK
          rw [List.map_map]
          exact List.pairwise_map.mpr (List.Pairwise.imp (fun {a b} hab z => hab (Sum.inl.inj z)) (stL_nd _))
        rw [e]
        have sd : Same (upd H2 D (.lst (ps.map V.ref))) (upd (upd H2 D (.lst (ps.map V.ref))) d (.dK (gK (stL (2 * L))))) := Same.upd hd
        have sa := s1.trans (s2.trans sD)
        exact k d _ (sa.trans sd) (sa.free hd) upd_same
theorem ok_Rooms_by (T : Txt K mg A) : FnOk P w K mg base CX0 1 A.f_Rooms_by A.d_Rooms_by ["self", "room", "step"] (spRBy A.c_Rooms) := by
  refine T.Rooms_by.F.ok sc_Rooms_by (fun vs H Q E h => ?_) (fun cdv AA outer s H vs Q E hr h => ?_)
  · obtain ⟨r, S, a, c, z, rfl, _⟩ := h
    rfl
  · obtain ⟨r, S, a, c, z, rfl, h, hc, k⟩ := h
    have hu2 := hu_of hr
    refine ⟨_, (pss_one (ps_ret (pe_dget1 hu2 (pe_ix ix_list (pe_fld (pv 0) rfl) (pv 1) (fun _ _ => rfl)) (pv 2) ⟨rfl, rfl, rfl, rfl⟩))), ?_⟩
    have hl : S.ways[c]? = some (S.way c) := by unfold RS.way; rw [List.getD_eq_getElem?_getD, List.getElem?_eq_getElem hc]; rfl
    obtain ⟨p, hp, hd⟩ := h.rW.at hl
    refine ⟨_, rfl, r, _, a.dx, _, _, rfl, h.ins, cl_Rooms T, T.n_ways, lk_ways _ _ _, _, rfl, a.aW, _, _, _, rfl, rfl, SqL.of h.hW, ref_at hp, p, rfl, .inl ⟨_, .inl hd⟩, _, rfl, _, DGet.k (k := Sum.inl z) hd, ?_⟩
    rw [wK_val]
    exact k
theorem ok_Rooms_elder (T : Txt K mg A) : FnOk P w K mg base CX0 1 A.f_Rooms_elder A.d_Rooms_elder ["self", "room"] (spElder A.c_Rooms) := by
  refine T.Rooms_elder.F.ok sc_Rooms_elder (fun vs H Q E h => ?_) (fun cdv AA outer s H vs Q E hr h => ?_)
  · obtain ⟨r, S, a, c, e, rfl, _⟩ := h
    rfl
  · obtain ⟨r, S, a, c, e, rfl, h, he, k⟩ := h
    refine ⟨_, (pss_one (ps_ret (pe_ix ix_list (pe_fld (pv 0) rfl) (pv 1) (fun _ _ => rfl)))), ?_⟩
    exact ⟨_, rfl, r, _, a.dx, _, _, rfl, h.ins, cl_Rooms T, T.n_elders, lk_elders _ _ _, _, rfl, a.aE, _, _, _, rfl, rfl, SqL.of h.hE, atI_nat (ints_at (nI_get he)), k⟩
theorem way_at {S : RS} {c : Nat} (h : c < S.ways.length) : S.ways[c]? = some (S.way c) := by unfold RS.way; rw [List.getD_eq_getElem?_getD, List.getElem?_eq_getElem h]; rfl
theorem gap_at {S : RS} {c : Nat} (h : c < S.gaps.length) : S.gaps[c]? = some (S.gap c) := by unfold RS.gap; rw [List.getD_eq_getElem?_getD, List.getElem?_eq_getElem h]; rfl
theorem way_le {S : RS} {c n : Nat} (h : ∀ l ∈ S.ways, l.length ≤ n) : (S.way c).length ≤ n := by
  unfold RS.way
  rw [List.getD_eq_getElem?_getD]
  cases e : S.ways[c]? with
  | none => exact Nat.zero_le _
  | some l => exact h l (List.mem_of_getElem? e)
theorem own_w {a : RA} {r p : Addr} {i : Nat} (h : a.ws[i]? = some p) : a.own r p := .inr (.inr (mem_ws (List.mem_of_getElem? h)))
theorem own_g {a : RA} {r p : Addr} {i : Nat} (h : a.gs[i]? = some p) : a.own r p := .inr (.inr (mem_gs (List.mem_of_getElem? h)))
theorem ButO.upd {a : RA} {r p : Addr} {H : Hp} {o : HO} (h : a.own r p) : ButO a r H (upd H p o) := fun b u hb e => by rw [upd_ne (fun z => hb (by rw [z]; exact h))]; exact e
theorem ButO.trans {a : RA} {r : Addr} {H H1 H2 : Hp} (h : ButO a r H H1) (h' : ButO a r H1 H2) : ButO a r H H2 := fun b u hb e => h' b u hb (h b u hb e)
theorem ok_Rooms_keep (T : Txt K mg A) : FnOk P w K mg base CX0 1 A.f_Rooms_keep A.d_Rooms_keep ["self", "room", "step", "other"] (spKeep A.c_Rooms) := by
  refine T.Rooms_keep.F.ok sc_Rooms_keep (fun vs H Q E h => ?_) (fun cdv AA outer s H vs Q E hr h => ?_)
  · obtain ⟨r, S, a, c, d, z, rfl, _⟩ := h
    rfl
  · obtain ⟨r, S, a, c, d, z, rfl, h, hw, hc, hd, hz, k⟩ := h
    have hu2 := hu_of hr
    refine ⟨_, (pss_cons (ps_dput hu2 (pe_ix ix_list (pe_fld (pv 0) rfl) (pv 1) (fun _ _ => rfl)) (pv 2) (pv 3) rfl)
      (pss_cons (ps_dput hu2 (pe_ix ix_list (pe_fld (pv 0) rfl) (pv 3) (fun _ _ => rfl)) (pe_un un_neg (pv 2)) (pv 1) rfl)
      (pss_cons (ps_expr (pe_dpop2 (pe_ix ix_list (pe_fld (pv 0) rfl) (pv 1) (fun _ _ => rfl)) (pv 2) pe_non ⟨rfl, rfl, rfl, rfl⟩))
      (pss_one (ps_expr (pe_dpop2 (pe_ix ix_list (pe_fld (pv 0) rfl) (pv 3) (fun _ _ => rfl)) (pe_un un_neg (pv 2)) pe_non ⟨rfl, rfl, rfl, rfl⟩)))))), ?_⟩
    obtain ⟨p, hp, hP⟩ := h.rW.at (way_at (S := S) (c := c) (by rw [hw.w]; exact hc))
    have b1 : (S.way c).length ≤ 100000 := way_le hz
    refine ⟨_, rfl, _, rfl, r, _, a.dx, _, _, rfl, h.ins, cl_Rooms T, T.n_ways, lk_ways _ _ _, _, rfl, a.aW, _, _, _, rfl, rfl, SqL.of h.hW, ref_at hp, _, rfl, p, _, rfl, DPut.k (k := Sum.inl z) hP (by rw [wK_len]; exact Nat.lt_of_le_of_lt b1 (by decide)), ?_⟩
    rw [wK_put]
    have h1 : RoomsAt A.c_Rooms _ r (S.putWay c z d) a := h.setWay hp (putW (S.way c) z d)
    have u1 : ButO a r H (upd H p (.dK (wK (putW (S.way c) z d)))) := ButO.upd (own_w hp)
    generalize upd H p (.dK (wK (putW (S.way c) z d))) = H1 at h1 u1 ⊢
    have w1 : (S.putWay c z d).ways.length = S.made := by show (S.ways.set c _).length = _; rw [List.length_set, hw.w]
    obtain ⟨q, hq, hQ⟩ := h1.rW.at (way_at (S := S.putWay c z d) (c := d) (by rw [w1]; exact hd))
    have b2 : ((S.putWay c z d).way d).length ≤ 100001 := way_le fun l hl => by
      rcases List.mem_or_eq_of_mem_set hl with hl | rfl
      · exact Nat.le_succ_of_le (hz l hl)
      · exact Nat.le_trans (putW_len _ _ _) (by omega)
    refine ⟨_, rfl, _, rfl, r, _, a.dx, _, _, rfl, h1.ins, cl_Rooms T, T.n_ways, lk_ways _ _ _, _, rfl, a.aW, _, _, _, rfl, rfl, SqL.of h1.hW, ref_at hq, _, rfl, _, rfl, q, _, rfl, DPut.k (k := Sum.inl (-z)) hQ (by rw [wK_len]; exact Nat.lt_of_le_of_lt b2 (by decide)), ?_⟩
    rw [wK_put]
    have h2 : RoomsAt A.c_Rooms _ r ((S.putWay c z d).putWay d (-z) c) a := h1.setWay hq (putW ((S.putWay c z d).way d) (-z) c)
    have u2 : ButO a r H1 (upd H1 q (.dK (wK (putW ((S.putWay c z d).way d) (-z) c)))) := ButO.upd (own_w hq)
    generalize upd H1 q (.dK (wK (putW ((S.putWay c z d).way d) (-z) c))) = H2 at h2 u2 ⊢
    generalize e2 : (S.putWay c z d).putWay d (-z) c = S2 at h2 ⊢
    have g2 : S2.gaps.length = S.made := by rw [← e2]; exact hw.g
    obtain ⟨p3, hp3, hP3⟩ := h2.rG.at (gap_at (S := S2) (c := c) (by rw [g2]; exact hc))
    have pop : ∀ {H : Hp} {S : RS} {c : Nat} {z : Int} {p : Addr}, RoomsAt A.c_Rooms H r S a → a.gs[c]? = some p → H p = some (.dK (gK (S.gap c))) → ∀ {Q : V → Hp → Prop}, (∀ v H', ButO a r H H' → RoomsAt A.c_Rooms H' r (S.noGap c z) a → Q v H') →
        ∃ (kvs : List (Key × V)) (k : Key), H p = some (.dK kvs) ∧ V.int z = kV k ∧ (∀ v, valV kvs k = some v → Q v (upd H p (.dK (dropK kvs k)))) ∧ (valV kvs k = none → Q .non H) := by
      intro H S c z p h hp hP Q hQ
      refine ⟨_, Sum.inl z, hP, rfl, ?_⟩
      rw [gK_val, gK_drop]
      by_cases hm : z ∈ S.gap c
      · rw [if_pos hm]
        exact ⟨fun v _ => hQ _ _ (ButO.upd (own_g hp)) (h.setGap hp _), fun z => by cases z⟩
      · rw [if_neg hm]
        refine ⟨fun v z => (by cases z), fun _ => hQ _ _ (fun _ _ _ e => e) ?_⟩
        have e : (S.gap c).filter (fun x => decide (x ≠ z)) = S.gap c := List.filter_eq_self.mpr fun x hx => decide_eq_true fun z => hm (z ▸ hx)
        have hl : c < S.gaps.length := by rw [← h.rG.1]; exact (List.getElem?_eq_some_iff.mp hp).1
        have : S.noGap c z = S := by
          unfold RS.noGap RS.setG
          rw [e]
          have es : S.gaps.set c (S.gap c) = S.gaps := List.ext_getElem? fun i => by
            by_cases hi : c = i
            · subst hi; rw [List.getElem?_set_self hl, gap_at hl]
            · rw [List.getElem?_set_ne hi]
          rw [es]
        rw [this]; exact h
    refine ⟨_, rfl, r, _, a.dx, _, _, rfl, h2.ins, cl_Rooms T, T.n_gaps, lk_gaps _ _ _, _, rfl, a.aG, _, _, _, rfl, rfl, SqL.of h2.hG, ref_at hp3, p3, rfl, .inl ⟨_, .inl hP3⟩, _, rfl, pop h2 hp3 hP3 fun v H3 u3 h3 => ?_⟩
    generalize e3 : S2.noGap c z = S3 at h3
    have g3 : S3.gaps.length = S.made := by rw [← e3]; show (S2.gaps.set c _).length = _; rw [List.length_set, g2]
    obtain ⟨p4, hp4, hP4⟩ := h3.rG.at (gap_at (S := S3) (c := d) (by rw [g3]; exact hd))
    refine ⟨_, rfl, r, _, a.dx, _, _, rfl, h3.ins, cl_Rooms T, T.n_gaps, lk_gaps _ _ _, _, rfl, a.aG, _, _, _, rfl, rfl, SqL.of h3.hG, ref_at hp4, p4, rfl, .inl ⟨_, .inl hP4⟩, _, rfl, _, rfl, pop h3 hp4 hP4 fun v H4 u4 h4 => ?_⟩
    refine k H4 (u1.trans (u2.trans (u3.trans u4))) ?_
    rw [← e3, ← e2] at h4
    exact h4
theorem ok_Rooms___init__ (T : Txt K mg A) : FnOk P w K mg base CX0 3 A.f_Rooms___init__ A.d_Rooms___init__ ["self", "letters"] (spNew A.c_Rooms) := by
  have G_all_gaps : FnOk P w K mg base CX0 2 A.f_all_gaps A.d_all_gaps ["letters"] spGaps := ok_all_gaps T
  refine T.Rooms___init__.F.ok sc_Rooms___init__ (fun vs H Q E h => ?_) (fun cdv AA outer s H vs Q E hr h => ?_)
  · obtain ⟨x, dx, L, rfl, _⟩ := h
    rfl
  · obtain ⟨x, dx, L, rfl, hx, hL1, hL2, k⟩ := h
    refine ⟨_, (pss_cons (ps_fld (pv 0) (pv 1) rfl)
      (pss_cons (ps_fld (pv 0) pe_int rfl)
      (pss_cons (ps_fld (pv 0) (pe_lst pa_nil) rfl)
      (pss_cons (ps_fld (pv 0) (pe_lst (pa_cons pe_dnewK pa_nil)) rfl)
      (pss_cons (ps_fld (pv 0) (pe_lst (pa_cons (pe_call (G_all_gaps) (hr.mono (by decide)) rfl T.all_gaps.m T.all_gaps.F.kp T.all_gaps.b .nil pass0 (pa_cons (pv 1) pa_nil)) pa_nil)) rfl)
      (pss_cons (ps_fld (pv 0) (pe_lst (pa_cons pe_int pa_nil)) rfl)
      (pss_cons (ps_fld (pv 0) (pe_lst (pa_cons (pe_lst (pa_cons pe_int pa_nil)) pa_nil)) rfl)
      (pss_one (ps_fld (pv 0) (pe_lst pa_nil) rfl))))))))), ?_⟩
    have st : ∀ {H0 : Hp} {fs : List (Str × V)} {f : Str} {v : V}, H0 x = some (.ins A.c_Rooms dx fs) → (∀ b o, H b = some o → b ≠ x → H0 b = some o) → upd H0 x (.ins A.c_Rooms dx (putF f v fs)) x = some (.ins A.c_Rooms dx (putF f v fs)) ∧ (∀ b o, H b = some o → b ≠ x → upd H0 x (.ins A.c_Rooms dx (putF f v fs)) b = some o) ∧ ∀ b o, b ≠ x → H0 b = some o → upd H0 x (.ins A.c_Rooms dx (putF f v fs)) b = some o :=
      fun _ h => ⟨upd_same, fun b o e n => by rw [upd_ne n]; exact h b o e n, fun b o n e => by rw [upd_ne n]; exact e⟩
    refine ⟨_, rfl, _, rfl, x, _, dx, _, rfl, hx, cl_Rooms T, T.n_letters, (by show 0 < 1000; decide), ?_⟩
    obtain ⟨x1, o1, -⟩ := st (f := "letters") (v := .int L) hx (fun b o e _ => e)
    generalize upd H x (.ins A.c_Rooms dx (putF "letters" (.int L) [])) = H1 at x1 o1 ⊢
    have f1 : (putF "letters" (.int L) ([] : List (Str × V))).length ≤ 1 := putF_le (n := 0) (Nat.le_refl _)
    refine ⟨_, rfl, x, _, dx, _, rfl, x1, cl_Rooms T, T.n_made, Nat.lt_of_le_of_lt f1 (by decide), ?_⟩
    obtain ⟨x2, o2, -⟩ := st (f := "made") (v := .int 1) x1 o1
    have f2 := putF_le (f := "made") (v := .int 1) f1
    generalize e2 : putF "made" (.int 1) (putF "letters" (.int L) []) = fs2 at x2 o2 f2 ⊢
    generalize upd H1 x (.ins A.c_Rooms dx fs2) = H2 at x2 o2 ⊢
    refine ⟨Nat.zero_le _, fun aR nR => ⟨_, rfl, x, _, dx, _, rfl, Same.upd nR _ _ x2, cl_Rooms T, T.n_rows, Nat.lt_of_le_of_lt f2 (by decide), ?_⟩⟩
    have hR3 : upd H2 aR (.lst []) aR = some (.lst []) := upd_same
    have nxR : aR ≠ x := (ne_of_none x2 nR).symm
    have s3 := Same.upd (o := .lst []) nR
    have n0 : ∀ {b : Addr} {H0 : Hp}, (∀ c o, H c = some o → c ≠ x → H0 c = some o) → H0 b = none → b ≠ x → H b = none := fun {b H0} h n nx => by
      cases e : H b with
      | none => rfl
      | some o => rw [h b o e nx] at n; cases n
    have kR := n0 o2 nR nxR
    generalize upd H2 aR (.lst []) = H3 at hR3 s3 ⊢
    obtain ⟨x4, o4, k4⟩ := st (f := "rows") (v := .ref aR) (s3 _ _ x2) (fun b o e n => s3 _ _ (o2 b o e n))
    have f4 := putF_le (f := "rows") (v := .ref aR) f2
    generalize e4 : putF "rows" (.ref aR) fs2 = fs4 at x4 o4 f4 k4 ⊢
    have hR4 := k4 _ _ nxR hR3
    generalize upd H3 x (.ins A.c_Rooms dx fs4) = H4 at x4 o4 hR4 ⊢
    intro wd nwd
    have nxwd : wd ≠ x := (ne_of_none x4 nwd).symm
    have kwd := n0 o4 nwd nxwd
    have s5 := Same.upd (o := .dK []) nwd
    have hwd5 : upd H4 wd (.dK []) wd = some (.dK []) := upd_same
    generalize upd H4 wd (.dK []) = H5 at s5 hwd5 ⊢
    refine ⟨(by show 1 ≤ sizeLine; decide), fun aW nW => ⟨_, rfl, x, _, dx, _, rfl, Same.upd nW _ _ (s5 _ _ x4), cl_Rooms T, T.n_ways, Nat.lt_of_le_of_lt f4 (by decide), ?_⟩⟩
    have nxW : aW ≠ x := (ne_of_none (s5 _ _ x4) nW).symm
    have kW := n0 (fun b o e n => s5 _ _ (o4 b o e n)) nW nxW
    have nWR : aW ≠ aR := (ne_of_none (s5 _ _ hR4) nW).symm
    have s6 := Same.upd (o := .lst [.ref wd]) nW
    have hW6 : upd H5 aW (.lst [.ref wd]) aW = some (.lst [.ref wd]) := upd_same
    generalize upd H5 aW (.lst [.ref wd]) = H6 at s6 hW6 ⊢
    obtain ⟨x7, o7, k7⟩ := st (f := "ways") (v := .ref aW) (s6 _ _ (s5 _ _ x4)) (fun b o e n => s6 _ _ (s5 _ _ (o4 b o e n)))
    have f7 := putF_le (f := "ways") (v := .ref aW) f4
    generalize e7 : putF "ways" (.ref aW) fs4 = fs7 at x7 o7 f7 k7 ⊢
    have hR7 := k7 _ _ nxR (s6 _ _ (s5 _ _ hR4))
    have hW7 := k7 _ _ nxW hW6
    have hwd7 := k7 _ _ nxwd (s6 _ _ hwd5)
    generalize upd H6 x (.ins A.c_Rooms dx fs7) = H7 at x7 o7 hR7 hW7 hwd7 ⊢
    refine ⟨_, rfl, L, rfl, hL1, hL2, fun gd H8 s8 ngd hgd8 => ?_⟩
    have nxgd : gd ≠ x := (ne_of_none x7 ngd).symm
    have kgd := n0 o7 ngd nxgd
    have ngw : gd ≠ wd := (ne_of_none hwd7 ngd).symm
    refine ⟨(by show 1 ≤ sizeLine; decide), fun aG nG => ⟨_, rfl, x, _, dx, _, rfl, Same.upd nG _ _ (s8 _ _ x7), cl_Rooms T, T.n_gaps, Nat.lt_of_le_of_lt f7 (by decide), ?_⟩⟩
    have nxG : aG ≠ x := (ne_of_none (s8 _ _ x7) nG).symm
    have kG := n0 (fun b o e n => s8 _ _ (o7 b o e n)) nG nxG
    have nGR : aG ≠ aR := (ne_of_none (s8 _ _ hR7) nG).symm
    have nGW : aG ≠ aW := (ne_of_none (s8 _ _ hW7) nG).symm
    have s9 := Same.upd (o := .lst [.ref gd]) nG
    have hG9 : upd H8 aG (.lst [.ref gd]) aG = some (.lst [.ref gd]) := upd_same
    generalize upd H8 aG (.lst [.ref gd]) = H9 at s9 hG9 ⊢
    obtain ⟨x10, o10, k10⟩ := st (f := "gaps") (v := .ref aG) (s9 _ _ (s8 _ _ x7)) (fun b o e n => s9 _ _ (s8 _ _ (o7 b o e n)))
    have f10 := putF_le (f := "gaps") (v := .ref aG) f7
    generalize e10 : putF "gaps" (.ref aG) fs7 = fs10 at x10 o10 f10 k10 ⊢
    have hR10 := k10 _ _ nxR (s9 _ _ (s8 _ _ hR7))
    have hW10 := k10 _ _ nxW (s9 _ _ (s8 _ _ hW7))
    have hwd10 := k10 _ _ nxwd (s9 _ _ (s8 _ _ hwd7))
    have hG10 := k10 _ _ nxG hG9
    have hgd10 := k10 _ _ nxgd (s9 _ _ hgd8)
    generalize upd H9 x (.ins A.c_Rooms dx fs10) = H10 at x10 o10 hR10 hW10 hwd10 hG10 hgd10 ⊢
    refine ⟨by decide, fun aE nE => ⟨_, rfl, x, _, dx, _, rfl, Same.upd nE _ _ x10, cl_Rooms T, T.n_elders, Nat.lt_of_le_of_lt f10 (by decide), ?_⟩⟩
    have nxE : aE ≠ x := (ne_of_none x10 nE).symm
    have kE := n0 o10 nE nxE
    have nER : aE ≠ aR := (ne_of_none hR10 nE).symm
    have nEW : aE ≠ aW := (ne_of_none hW10 nE).symm
    have nEG : aE ≠ aG := (ne_of_none hG10 nE).symm
    have s11 := Same.upd (o := .lst [.int 0]) nE
    have hE11 : upd H10 aE (.lst [.int 0]) aE = some (.lst [.int 0]) := upd_same
    generalize upd H10 aE (.lst [.int 0]) = H11 at s11 hE11 ⊢
    obtain ⟨x12, o12, k12⟩ := st (f := "elders") (v := .ref aE) (s11 _ _ x10) (fun b o e n => s11 _ _ (o10 b o e n))
    have f12 := putF_le (f := "elders") (v := .ref aE) f10
    generalize e12 : putF "elders" (.ref aE) fs10 = fs12 at x12 o12 f12 k12 ⊢
    have hR12 := k12 _ _ nxR (s11 _ _ hR10)
    have hW12 := k12 _ _ nxW (s11 _ _ hW10)
    have hwd12 := k12 _ _ nxwd (s11 _ _ hwd10)
    have hG12 := k12 _ _ nxG (s11 _ _ hG10)
    have hgd12 := k12 _ _ nxgd (s11 _ _ hgd10)
    have hE12 := k12 _ _ nxE hE11
    generalize upd H11 x (.ins A.c_Rooms dx fs12) = H12 at x12 o12 hR12 hW12 hwd12 hG12 hgd12 hE12 ⊢
    refine ⟨by decide, fun cl ncl => ⟨(by show 1 ≤ sizeLine; decide), fun aC nC => ⟨_, rfl, x, _, dx, _, rfl, Same.upd nC _ _ (Same.upd ncl _ _ x12), cl_Rooms T, T.n_called, Nat.lt_of_le_of_lt f12 (by decide), ?_⟩⟩⟩
    have nxcl : cl ≠ x := (ne_of_none x12 ncl).symm
    have kcl := n0 o12 ncl nxcl
    have ncR : cl ≠ aR := (ne_of_none hR12 ncl).symm
    have ncW : cl ≠ aW := (ne_of_none hW12 ncl).symm
    have ncG : cl ≠ aG := (ne_of_none hG12 ncl).symm
    have ncE : cl ≠ aE := (ne_of_none hE12 ncl).symm
    have s13 := Same.upd (o := .lst [.int 0]) ncl
    have hcl13 : upd H12 cl (.lst [.int 0]) cl = some (.lst [.int 0]) := upd_same
    generalize upd H12 cl (.lst [.int 0]) = H13 at s13 hcl13 nC ⊢
    have nxC : aC ≠ x := (ne_of_none (s13 _ _ x12) nC).symm
    have kC := n0 (fun b o e n => s13 _ _ (o12 b o e n)) nC nxC
    have nCR : aC ≠ aR := (ne_of_none (s13 _ _ hR12) nC).symm
    have nCW : aC ≠ aW := (ne_of_none (s13 _ _ hW12) nC).symm
    have nCG : aC ≠ aG := (ne_of_none (s13 _ _ hG12) nC).symm
    have nCE : aC ≠ aE := (ne_of_none (s13 _ _ hE12) nC).symm
    have nCc : aC ≠ cl := (ne_of_none hcl13 nC).symm
    have s14 := Same.upd (o := .lst [.ref cl]) nC
    have hC14 : upd H13 aC (.lst [.ref cl]) aC = some (.lst [.ref cl]) := upd_same
    generalize upd H13 aC (.lst [.ref cl]) = H14 at s14 hC14 ⊢
    obtain ⟨x15, o15, k15⟩ := st (f := "called") (v := .ref aC) (s14 _ _ (s13 _ _ x12)) (fun b o e n => s14 _ _ (s13 _ _ (o12 b o e n)))
    have f15 := putF_le (f := "called") (v := .ref aC) f12
    generalize e15 : putF "called" (.ref aC) fs12 = fs15 at x15 o15 f15 k15 ⊢
    have hR15 := k15 _ _ nxR (s14 _ _ (s13 _ _ hR12))
    have hW15 := k15 _ _ nxW (s14 _ _ (s13 _ _ hW12))
    have hwd15 := k15 _ _ nxwd (s14 _ _ (s13 _ _ hwd12))
    have hG15 := k15 _ _ nxG (s14 _ _ (s13 _ _ hG12))
    have hgd15 := k15 _ _ nxgd (s14 _ _ (s13 _ _ hgd12))
    have hE15 := k15 _ _ nxE (s14 _ _ (s13 _ _ hE12))
    have hcl15 := k15 _ _ nxcl (s14 _ _ hcl13)
    have hC15 := k15 _ _ nxC hC14
    generalize upd H14 x (.ins A.c_Rooms dx fs15) = H15 at x15 o15 hR15 hW15 hwd15 hG15 hgd15 hE15 hcl15 hC15 ⊢
    refine ⟨Nat.zero_le _, fun aN nN => ⟨_, rfl, x, _, dx, _, rfl, Same.upd nN _ _ x15, cl_Rooms T, T.n_went, Nat.lt_of_le_of_lt f15 (by decide), ?_⟩⟩
    have nxN : aN ≠ x := (ne_of_none x15 nN).symm
    have kN := n0 o15 nN nxN
    have nNR : aN ≠ aR := (ne_of_none hR15 nN).symm
    have nNW : aN ≠ aW := (ne_of_none hW15 nN).symm
    have nNG : aN ≠ aG := (ne_of_none hG15 nN).symm
    have nNE : aN ≠ aE := (ne_of_none hE15 nN).symm
    have nNC : aN ≠ aC := (ne_of_none hC15 nN).symm
    have nNc : aN ≠ cl := (ne_of_none hcl15 nN).symm
    have s16 := Same.upd (o := .lst []) nN
    have hN16 : upd H15 aN (.lst []) aN = some (.lst []) := upd_same
    generalize upd H15 aN (.lst []) = H16 at s16 hN16 ⊢
    obtain ⟨x17, o17, k17⟩ := st (f := "went") (v := .ref aN) (s16 _ _ x15) (fun b o e n => s16 _ _ (o15 b o e n))
    have ef : putF "went" (.ref aN) fs15 = flds (L : Int) 1 ⟨dx, aR, aW, aG, aE, aC, aN, [], [wd], [gd], [cl]⟩ := by
      rw [← e15, ← e12, ← e10, ← e7, ← e4, ← e2]
      kernel_rfl
    rw [ef] at x17 o17 k17 ⊢
    refine k ⟨dx, aR, aW, aG, aE, aC, aN, [], [wd], [gd], [cl]⟩ _ o17 ⟨x17, k17 _ _ nxR (s16 _ _ hR15), k17 _ _ nxW (s16 _ _ hW15), k17 _ _ nxG (s16 _ _ hG15), k17 _ _ nxE (s16 _ _ hE15), k17 _ _ nxC (s16 _ _ hC15), k17 _ _ nxN hN16, ⟨rfl, (fun i p d h => by simp at h)⟩, ?_, ?_, ?_, (fun d hd => by cases hd), ?_, ?_⟩ ?_
    · exact Each.snoc (ps := []) (xs := []) ⟨rfl, fun i p d h => by simp at h⟩ (k17 _ _ nxwd (s16 _ _ hwd15))
    · exact Each.snoc (ps := []) (xs := []) ⟨rfl, fun i p d h => by simp at h⟩ (k17 _ _ nxgd (s16 _ _ hgd15))
    · exact Each.snoc (ps := []) (xs := []) ⟨rfl, fun i p d h => by simp at h⟩ (k17 _ _ nxcl (s16 _ _ hcl15))
    · show [aR, aW, aG, aE, aC, aN, cl].Nodup
      simp only [List.nodup_cons, List.mem_cons, List.not_mem_nil, or_false, not_or, List.nodup_nil, and_true, not_false_eq_true]
      exact ⟨⟨nWR.symm, nGR.symm, nER.symm, nCR.symm, nNR.symm, ncR.symm⟩, ⟨nGW.symm, nEW.symm, nCW.symm, nNW.symm, ncW.symm⟩, ⟨nEG.symm, nCG.symm, nNG.symm, ncG.symm⟩, ⟨nCE.symm, nNE.symm, ncE.symm⟩, ⟨nNC.symm, nCc⟩, nNc⟩
    · show [wd, gd].Nodup
      simp only [List.nodup_cons, List.mem_cons, List.not_mem_nil, or_false, List.nodup_nil, and_true, not_false_eq_true]
      exact ngw.symm
    · intro b hb
      rcases hb with rfl | hb | hb
      · exact .inl rfl
      · simp only [RA.lists, List.mem_cons, List.not_mem_nil, or_false] at hb
        rcases hb with rfl | rfl | rfl | rfl | rfl | rfl | rfl <;> exact .inr (by assumption)
      · simp only [RA.dicts, List.mem_append, List.mem_cons, List.not_mem_nil, or_false] at hb
        rcases hb with rfl | rfl <;> exact .inr (by assumption)
theorem _root_.L2.RoomsAt.mkL {C : Addr} {H : Hp} {r : Addr} {S : RS} {a : RA} (h : RoomsAt C H r S a) {p : Addr} (hp : H p = none) : ¬ a.own r p := fun z => by
  obtain ⟨o, e⟩ := h.there z
  rw [hp] at e; cases e
theorem ok_Rooms_make (T : Txt K mg A) : FnOk P w K mg base CX0 3 A.f_Rooms_make A.d_Rooms_make ["self", "room", "step"] (spMake A.c_Rooms) := by
  have G_Rooms_keep : FnOk P w K mg base CX0 1 A.f_Rooms_keep A.d_Rooms_keep ["self", "room", "step", "other"] (spKeep A.c_Rooms) := ok_Rooms_keep T
  have G_all_gaps : FnOk P w K mg base CX0 2 A.f_all_gaps A.d_all_gaps ["letters"] spGaps := ok_all_gaps T
  refine T.Rooms_make.F.ok sc_Rooms_make (fun vs H Q E h => ?_) (fun cdv AA outer s H vs Q E hr h => ?_)
  · obtain ⟨r, S, a, c, z, rfl, _⟩ := h
    rfl
  · obtain ⟨r, S, a, c, z, rfl, h, hw, hL1, hL2, hc, hm, hrl, hz, k⟩ := h
    refine ⟨_, (pss_cons (ps_set (i := 3) sc_Rooms_make.nd rfl (Or.inl rfl) (pe_fld (pv 0) rfl))
      (pss_cons (ps_fld (pv 0) (pe_op op_add (pv 3) pe_int) rfl)
      (pss_cons (ps_expr (pe_bm PySem.F.plainAttrs_list PySem.F.slot_list_append PySem.F.type_list_append mt_append (pe_fld (pv 0) rfl) (pa_cons (pe_tup (pa_cons (pe_strX (l := [110, 101, 119]) rfl) (pa_cons (pv 1) (pa_cons (pv 2) (pa_cons (pv 3) pa_nil))))) pa_nil)))
      (pss_cons (ps_expr (pe_bm PySem.F.plainAttrs_list PySem.F.slot_list_append PySem.F.type_list_append mt_append (pe_fld (pv 0) rfl) (pa_cons pe_dnewK pa_nil)))
      (pss_cons (ps_expr (pe_bm PySem.F.plainAttrs_list PySem.F.slot_list_append PySem.F.type_list_append mt_append (pe_fld (pv 0) rfl) (pa_cons (pe_call (G_all_gaps) (hr.mono (by decide)) rfl T.all_gaps.m T.all_gaps.F.kp T.all_gaps.b .nil pass0 (pa_cons (pe_fld (pv 0) rfl) pa_nil)) pa_nil)))
      (pss_cons (ps_expr (pe_bm PySem.F.plainAttrs_list PySem.F.slot_list_append PySem.F.type_list_append mt_append (pe_fld (pv 0) rfl) (pa_cons (pv 3) pa_nil)))
      (pss_cons (ps_expr (pe_bm PySem.F.plainAttrs_list PySem.F.slot_list_append PySem.F.type_list_append mt_append (pe_fld (pv 0) rfl) (pa_cons (pe_lst (pa_cons (pv 3) pa_nil)) pa_nil)))
      (pss_cons (ps_expr (pe_meth (pv 0) (cl_Rooms T) T.Rooms_keep.m (G_Rooms_keep) (hr.mono (by decide)) T.Rooms_keep.b .nil pass0 (pa_cons (pv 1) (pa_cons (pv 2) (pa_cons (pv 3) pa_nil)))))
      (pss_one (ps_ret (pv 3))))))))))), ?_⟩
    refine ⟨_, rfl, r, _, a.dx, _, _, rfl, h.ins, cl_Rooms T, T.n_made, lk_made _ _ _, ?_⟩
    refine ⟨_, rfl, _, _, rfl, rfl, _, rfl, r, _, a.dx, _, rfl, h.ins, cl_Rooms T, T.n_made, (by show 8 < 1000; decide), ?_⟩
    rw [putF_made, show (S.made : Int) + 1 = ((S.made + 1 : Nat) : Int) by omega]
    have h1 := h.setMade (S.made + 1)
    have u1 : ButO a r H (upd H r (.ins A.c_Rooms a.dx (flds S.L ((S.made + 1 : Nat) : Int) a))) := ButO.upd (.inl rfl)
    generalize upd H r (.ins A.c_Rooms a.dx (flds S.L ((S.made + 1 : Nat) : Int) a)) = H1 at h1 u1 ⊢
    have lR : (a.rs.map V.ref).length < sizeLine := by rw [List.length_map, h.rR.1]; exact Nat.lt_of_le_of_lt hrl (by decide)
    refine ⟨_, rfl, r, _, a.dx, _, _, rfl, h1.ins, cl_Rooms T, T.n_rows, lk_rows _ _ _, .inl ⟨rfl, _, SqL.of h1.hR⟩, _, rfl, _, rfl, _, rfl, (by show 4 ≤ sizeLine; decide), fun t ht => ⟨a.aR, _, _, rfl, rfl, Same.upd ht _ _ h1.hR, lR, ?_⟩⟩
    have s2 := Same.upd (o := .tup [.str (tx [110, 101, 119]), .int c, .int z, .int S.made]) ht
    have ht2 : upd H1 t (.tup [.str (tx [110, 101, 119]), .int c, .int z, .int S.made]) t = some (.tup [.str (tx [110, 101, 119]), .int c, .int z, .int S.made]) := upd_same
    generalize upd H1 t (.tup [.str (tx [110, 101, 119]), .int c, .int z, .int S.made]) = H2 at s2 ht2 ⊢
    have hd2 : DtAt H2 4 (.ref t) (rowNew c z S.made) := by
      refine .t ht2 rfl fun j v d e1 e2 => ?_
      rcases j with _ | _ | _ | _ | j
      · simp at e1 e2; subst e1 e2; exact .s
      · simp at e1 e2; subst e1 e2; exact .i
      · simp at e1 e2; subst e1 e2; exact .i
      · simp at e1 e2; subst e1 e2; exact .i
      · simp at e1
    have nl : NoL (rowNew c z S.made) := .t (by show 4 ≤ 100000; decide) fun d hd => by
      simp only [List.mem_cons, List.not_mem_nil, or_false] at hd
      rcases hd with rfl | rfl | rfl | rfl
      · exact .s
      · exact .i
      · exact .i
      · exact .i
    have h3 := (h1.same s2).addRow hd2 nl
    have u3 : ButO a r H2 (upd H2 a.aR (.lst (a.rs.map V.ref ++ [.ref t]))) := ButO.upd (.inr (.inl mem_R))
    generalize upd H2 a.aR (.lst (a.rs.map V.ref ++ [.ref t])) = H3 at h3 u3 ⊢
    generalize ea3 : ({ a with rs := a.rs ++ [t] } : RA) = a3 at h3
    have own3 : ∀ b, a3.own r b → a.own r b := fun b hb => by rw [← ea3] at hb; exact hb
    have own3' : ∀ b, a.own r b → a3.own r b := fun b hb => by rw [← ea3]; exact hb
    have ewG : a3.dx = a.dx := by rw [← ea3]
    have U3 : ButO a r H H3 := u1.trans (fun b o hb e => u3 b o hb (s2 _ _ e))
    refine ⟨_, rfl, r, _, a3.dx, _, _, rfl, h3.ins, cl_Rooms T, T.n_ways, lk_ways _ _ _, .inl ⟨rfl, _, SqL.of h3.hW⟩, ?_⟩
    intro wd nwd
    have hdW : (a3.ws.map V.ref).length < sizeLine := by rw [List.length_map, h3.rW.1]; show S.ways.length < sizeLine; rw [hw.w]; exact Nat.lt_of_le_of_lt hm (by decide)
    have s4 := Same.upd (o := .dK []) nwd
    have hwd4 : upd H3 wd (.dK []) wd = some (.dK (wK [])) := upd_same
    have nwd0 := h3.mkL nwd
    refine ⟨a3.aW, _, _, rfl, rfl, s4 _ _ h3.hW, hdW, ?_⟩
    generalize upd H3 wd (.dK []) = H4 at s4 hwd4 ⊢
    have h5 := (h3.same s4).addWay hwd4 (fun z => nwd0 (.inr (.inr z)))
    have u5 : ButO a3 r H4 (upd H4 a3.aW (.lst (a3.ws.map V.ref ++ [.ref wd]))) := ButO.upd (.inr (.inl mem_W))
    generalize upd H4 a3.aW (.lst (a3.ws.map V.ref ++ [.ref wd])) = H5 at h5 u5 ⊢
    generalize ea5 : ({ a3 with ws := a3.ws ++ [wd] } : RA) = a5 at h5
    have own5 : ∀ b, a5.own r b → a3.own r b ∨ b = wd := fun b hb => by
      rw [← ea5] at hb
      rcases hb with hb | hb | hb
      · exact .inl (.inl hb)
      · exact .inl (.inr (.inl hb))
      · simp only [RA.dicts, List.mem_append, List.mem_singleton] at hb
        rcases hb with (hb | hb) | hb
        · exact .inl (.inr (.inr (List.mem_append_left _ hb)))
        · exact .inr hb
        · exact .inl (.inr (.inr (List.mem_append_right _ hb)))
    have kwd : H wd = none ∨ a.own r wd := by
      by_cases ho : a.own r wd
      · exact .inr ho
      · refine .inl ?_
        cases e : H wd with
        | none => rfl
        | some o => rw [U3 wd o ho e] at nwd; cases nwd
    have U5 : ButO a r H H5 := U3.trans fun b o hb e => u5 b o (fun z => hb (own3 b z)) (s4 _ _ e)
    refine ⟨_, rfl, r, _, a5.dx, _, _, rfl, h5.ins, cl_Rooms T, T.n_gaps, lk_gaps _ _ _, .inl ⟨rfl, _, SqL.of h5.hG⟩, _, rfl, r, _, a5.dx, _, _, rfl, h5.ins, cl_Rooms T, T.n_letters, lk_letters _ _ _, S.L, rfl, hL1, hL2, fun gd H6 s6 ngd hgd6 => ?_⟩
    have hdG : (a5.gs.map V.ref).length < sizeLine := by rw [List.length_map, h5.rG.1]; show S.gaps.length < sizeLine; rw [hw.g]; exact Nat.lt_of_le_of_lt hm (by decide)
    have h6 := h5.same s6
    have ngd0 := h5.mkL ngd
    refine ⟨a5.aG, _, _, rfl, rfl, h6.hG, hdG, ?_⟩
    have h7 := h6.addGap hgd6 (fun z => ngd0 (.inr (.inr z)))
    have u7 : ButO a5 r H6 (upd H6 a5.aG (.lst (a5.gs.map V.ref ++ [.ref gd]))) := ButO.upd (.inr (.inl mem_G))
    generalize upd H6 a5.aG (.lst (a5.gs.map V.ref ++ [.ref gd])) = H7 at h7 u7 ⊢
    generalize ea7 : ({ a5 with gs := a5.gs ++ [gd] } : RA) = a7 at h7
    have own7 : ∀ b, a7.own r b → a5.own r b ∨ b = gd := fun b hb => by
      rw [← ea7] at hb
      rcases hb with hb | hb | hb
      · exact .inl (.inl hb)
      · exact .inl (.inr (.inl hb))
      · simp only [RA.dicts, List.mem_append, List.mem_singleton] at hb
        rcases hb with hb | hb | hb
        · exact .inl (.inr (.inr (List.mem_append_left _ hb)))
        · exact .inl (.inr (.inr (List.mem_append_right _ hb)))
        · exact .inr hb
    have w5 : H wd = none ∨ a.own r wd := kwd
    have out5 : ∀ b o, ¬ a.own r b → H b = some o → ¬ a5.own r b := fun b o hb e z => by
      rcases own5 b z with z | rfl
      · exact hb (own3 b z)
      · rcases kwd with q | q
        · rw [q] at e; cases e
        · exact hb q
    have U7 : ButO a r H H7 := fun b o hb e => u7 b o (out5 b o hb e) (s6 _ _ (U5 b o hb e))
    have kgd : H gd = none ∨ a.own r gd := by
      by_cases ho : a.own r gd
      · exact .inr ho
      · refine .inl ?_
        cases e : H gd with
        | none => rfl
        | some o => rw [U5 gd o ho e] at ngd; cases ngd
    refine ⟨_, rfl, r, _, a7.dx, _, _, rfl, h7.ins, cl_Rooms T, T.n_elders, lk_elders _ _ _, .inl ⟨rfl, _, SqL.of h7.hE⟩, _, rfl, a7.aE, _, _, rfl, rfl, h7.hE, ?_, ?_⟩
    · rw [ints_len, nI_len]; show S.elders.length < sizeLine; rw [hw.e]; exact Nat.lt_of_le_of_lt hm (by decide)
    have eE : intV (nI S.elders) ++ [V.int (S.made : Int)] = intV (nI (S.elders ++ [S.made])) := by rw [nI_app, ints_app]; rfl
    show _
    have h8 := h7.setElders (S.elders ++ [S.made])
    rw [← eE] at h8
    have u8 : ButO a7 r H7 (upd H7 a7.aE (.lst (intV (nI S.elders) ++ [V.int (S.made : Int)]))) := ButO.upd (.inr (.inl mem_E))
    generalize upd H7 a7.aE (.lst (intV (nI S.elders) ++ [V.int (S.made : Int)])) = H8 at h8 u8 ⊢
    have out7 : ∀ b o, ¬ a.own r b → H b = some o → ¬ a7.own r b := fun b o hb e z => by
      rcases own7 b z with z | rfl
      · exact out5 b o hb e z
      · rcases kgd with q | q
        · rw [q] at e; cases e
        · exact hb q
    have U8 : ButO a r H H8 := fun b o hb e => u8 b o (out7 b o hb e) (U7 b o hb e)
    refine ⟨_, rfl, r, _, a7.dx, _, _, rfl, h8.ins, cl_Rooms T, T.n_called, lk_called _ _ _, .inl ⟨rfl, _, SqL.of h8.hC⟩, _, rfl, (by show 1 ≤ sizeLine; decide), fun cl ncl => ⟨a7.aC, _, _, rfl, rfl, Same.upd ncl _ _ h8.hC, ?_, ?_⟩⟩
    · rw [List.length_map, h8.rC.1]; show S.called.length < sizeLine; rw [hw.c]; exact Nat.lt_of_le_of_lt hm (by decide)
    have s9 := Same.upd (o := .lst [.int (S.made : Int)]) ncl
    have hcl9 : upd H8 cl (.lst [.int (S.made : Int)]) cl = some (.lst (intV (nI [S.made]))) := upd_same
    have ncl0 := h8.mkL ncl
    generalize upd H8 cl (.lst [.int (S.made : Int)]) = H9 at s9 hcl9 ⊢
    have h10 := (h8.same s9).addCalled hcl9 (fun z => ncl0 (.inr (.inl z)))
    have u10 : ButO a7 r H9 (upd H9 a7.aC (.lst (a7.cs.map V.ref ++ [.ref cl]))) := ButO.upd (.inr (.inl mem_C))
    generalize upd H9 a7.aC (.lst (a7.cs.map V.ref ++ [.ref cl])) = H10 at h10 u10 ⊢
    generalize ea10 : ({ a7 with cs := a7.cs ++ [cl] } : RA) = a10 at h10
    have own10 : ∀ b, a10.own r b → a7.own r b ∨ b = cl := fun b hb => by
      rw [← ea10] at hb
      rcases hb with hb | hb | hb
      · exact .inl (.inl hb)
      · have hb' : b ∈ a7.lists ++ [cl] := hb
        rcases List.mem_append.mp hb' with hb | hb
        · exact .inl (.inr (.inl hb))
        · exact .inr (List.mem_singleton.mp hb)
      · exact .inl (.inr (.inr hb))
    have kcl : H cl = none ∨ a.own r cl := by
      by_cases ho : a.own r cl
      · exact .inr ho
      · refine .inl ?_
        cases e : H cl with
        | none => rfl
        | some o => rw [U8 cl o ho e] at ncl; cases ncl
    have out10 : ∀ b o, ¬ a.own r b → H b = some o → ¬ a10.own r b := fun b o hb e z => by
      rcases own10 b z with z | rfl
      · exact out7 b o hb e z
      · rcases kcl with q | q
        · rw [q] at e; cases e
        · exact hb q
    have U10 : ButO a r H H10 := fun b o hb e => u10 b o (out7 b o hb e) (s9 _ _ (U8 b o hb e))
    have hS : RoomsAt A.c_Rooms H10 r (S.grown c z (stL (2 * S.L))) a10 := h10
    refine ⟨_, rfl, r, a10.dx, _, rfl, hS.ins, lk_none _ _ _ (by decide +kernel), _, rfl, _, rfl, _, rfl, r, S.grown c z (stL (2 * S.L)), a10, c, S.made, z, rfl, hS, ⟨?_, ?_, ?_, ?_⟩, ?_, ?_, ?_, fun H11 u11 h11 => ?_⟩
    · show (S.ways ++ [[]]).length = S.made + 1; rw [List.length_append, hw.w]; rfl
    · show (S.gaps ++ [_]).length = S.made + 1; rw [List.length_append, hw.g]; rfl
    · show (S.elders ++ [_]).length = S.made + 1; rw [List.length_append, hw.e]; rfl
    · show (S.called ++ [_]).length = S.made + 1; rw [List.length_append, hw.c]; rfl
    · show c < S.made + 1; omega
    · show S.made < S.made + 1; omega
    · intro l hl
      rcases List.mem_append.mp hl with hl | hl
      · exact hz l hl
      · rw [List.mem_singleton.mp hl]; exact Nat.zero_le _
    · refine ⟨_, rfl, k a10 H11 (fun b o hb e => u11 b o (out10 b o hb e) (U10 b o hb e)) h11 fun b hb => ?_⟩
      rcases own10 b hb with hb | rfl
      · rcases own7 b hb with hb | rfl
        · rcases own5 b hb with hb | rfl
          · exact .inl (own3 b hb)
          · exact kwd.symm
        · exact kgd.symm
      · exact kcl.symm
theorem ok_Rooms_standing (T : Txt K mg A) : FnOk P w K mg base CX0 1 A.f_Rooms_standing A.d_Rooms_standing ["self"] (spStanding A.c_Rooms) := by
  refine T.Rooms_standing.F.ok sc_Rooms_standing (fun vs H Q E h => ?_) (fun cdv AA outer s H vs Q E hr h => ?_)
  · obtain ⟨r, S, a, rfl, _⟩ := h
    rfl
  · obtain ⟨r, S, a, rfl, h, hw, hm, k⟩ := h
    refine ⟨_, (pss_one (ps_ret (pe_compIf (fns := ["self"]) (ixs := [0]) (cl := _) rfl (pi_range1 rfl T.z_range (pa_cons (pe_fld (pv 0) rfl) pa_nil)) (compScope1 rfl rfl (by decide +kernel) rfl (by decide +kernel) rfl (by decide +kernel) (by decide +kernel) rfl rfl rfl rfl) (fun C s H ex => (pt_cmpR op_eq (pe_ix (ix_listK (K := K) rfl) (pe_fldK (K := K) rfl (pv 1) rfl) (pv 0) (fun _ _ => rfl)) (pv 0) (nomark _))) (fun C s H ex => (pv 0))))), ?_⟩
    refine ⟨_, rfl, r, _, a.dx, _, _, rfl, h.ins, cl_Rooms T, T.n_made, lk_made _ _ _, (S.made : Int), rfl, by omega, by omega, ?_⟩
    rw [Int.toNat_natCast]
    refine ⟨fun i m ys H2 => m = S.made - i ∧ i ≤ S.made ∧ ys = intV (nI ((List.range i).filter fun c => decide (S.elders[c]? = some c))) ∧ H2 = H, ⟨S.made, by simp, Nat.zero_le _, rfl, rfl⟩, ?_⟩
    rintro i m ys H2 ⟨rfl, hi, rfl, rfl⟩
    have hlen : (intV (nI ((List.range i).filter fun c => decide (S.elders[c]? = some c)))).length ≤ i := by
      rw [ints_len, nI_len]
      exact Nat.le_trans (List.length_filter_le _ _) (by rw [List.length_range]; exact Nat.le_refl _)
    by_cases hlt : i < S.made
    · refine .inr ⟨hlt, ?_, fun x H3 hyl => ?_⟩
      · exact Nat.lt_of_le_of_lt (Nat.le_trans hlen (show i ≤ 100000 by omega)) (by decide)
      obtain ⟨rfl, rfl⟩ := hyl
      have he : S.elders[i]? = some (S.elders[i]'(by rw [hw.e]; exact hlt)) := List.getElem?_eq_getElem _
      generalize S.elders[i]'(by rw [hw.e]; exact hlt) = e at he
      refine ⟨_, rfl, r, _, a.dx, _, _, rfl, h.ins, cl_Rooms T, T.n_elders, lk_elders _ _ _, _, rfl, a.aE, _, _, _, rfl, rfl, SqL.of h.hE, (by rw [Int.zero_add]; exact atI_nat (ints_at (nI_get he))), ?_⟩
      refine ⟨_, rfl, rfl, _, rfl, ?_⟩
      by_cases hei : e = i
      · subst hei
        rw [show decide (V.int (e : Int) = V.int (0 + (e : Int))) = true from decide_eq_true (by rw [Int.zero_add])]
        refine ⟨_, rfl, S.made - (e + 1), by omega, rfl, hlt, ?_, rfl⟩
        rw [List.range_succ, List.filter_append, List.filter_cons_of_pos (by rw [he]; exact decide_eq_true rfl), List.filter_nil, nI_app, ints_app, Int.zero_add]; rfl
      · rw [show decide (V.int (e : Int) = V.int (0 + (i : Int))) = false from decide_eq_false (fun z => hei (by injection z with z; omega))]
        refine ⟨S.made - (i + 1), by omega, rfl, hlt, ?_, rfl⟩
        rw [List.range_succ, List.filter_append, List.filter_cons_of_neg (by rw [he]; intro z; exact hei (Option.some.inj (of_decide_eq_true z))), List.filter_nil, List.append_nil]
    · have e : i = S.made := by omega
      subst e
      exact .inl ⟨Nat.le_refl _, Nat.le_trans hlen (Nat.le_trans hm (by decide)), fun D hD => k D hD⟩
theorem ok_Rooms_paper (T : Txt K mg A) : FnOk P w K mg base CX0 4 A.f_Rooms_paper A.d_Rooms_paper ["self"] (spPaper 1 A.c_Rooms) := by
  have G_own : FnOk P w K mg base CX0 3 A.f_own A.d_own ["value"] (spOwn 1) := ok_own_v1 T
  refine T.Rooms_paper.F.ok sc_Rooms_paper (fun vs H Q E h => ?_) (fun cdv AA outer s H vs Q E hr h => ?_)
  · obtain ⟨r, S, a, rfl, _⟩ := h
    rfl
  · obtain ⟨r, S, a, rfl, h, hrl, hfl, k⟩ := h
    refine ⟨_, (pss_one (ps_ret (pe_comp (fns := []) (ixs := []) (cl := []) rfl (pi_list (pe_fld (pv 0) rfl)) (compScope0 (by decide +kernel) (by decide +kernel) rfl (by decide +kernel) rfl) (fun C s H ex => (pe_call (G_own) (hr.mono (by decide)) rfl T.own.m T.own.F.kp T.own.b .nil pass0 (pa_cons (pv 0) pa_nil)))))), ?_⟩
    refine ⟨_, rfl, r, _, a.dx, _, _, rfl, h.ins, cl_Rooms T, T.n_rows, lk_rows _ _ _, a.aR, rfl, ⟨_, SqL.of h.hR⟩, ?_⟩
    have hl0 : (a.rs.map V.ref).length = S.rows.length := by rw [List.length_map, h.rR.1]
    have hri : ∀ i, i < S.rows.length → ∃ p d, a.rs[i]? = some p ∧ S.rows[i]? = some d ∧ d ∈ S.rows ∧ DtAt H 4 (.ref p) d := fun i hi => by
      have hd := List.getElem?_eq_getElem hi
      obtain ⟨p, hp, q⟩ := h.rR.at hd
      exact ⟨p, _, hp, hd, List.mem_of_getElem? hd, q⟩
    refine comp_make (α := Unit) S.rows.length (fun i => (a.rs.map V.ref).getD i .non) (fun H2 v i => ∃ p d, v = .ref p ∧ S.rows[i]? = some d ∧ NoL d ∧ DtAt H2 4 (.ref p) d) (fun H1 H2 v i s ⟨p, x, e, e2, hn, q⟩ => ⟨p, x, e, e2, hn, q.same s⟩) ?_ (fun i H2 s2 hi => itl_go (SqL.of (s2 _ _ h.hR)) i (by omega)) (fun i x H2 H3 s2 hi y => ?_) (fun H2 s2 => ?_) (fun i H2 Rr hi s2 kk => ?_) (fun D H2 ys s2 hD hl hr => ?_)
    · exact Nat.le_trans hrl (by decide)
    · obtain ⟨e, hx⟩ := itl_yld (SqL.of (s2 _ _ h.hR)) i x H3 (by omega) y
      refine ⟨e, ?_⟩
      rw [List.getD_eq_getElem?_getD, hx]; rfl
    · have := itl_stop (SqL.of (K := K) (s2 _ _ h.hR))
      rw [hl0] at this
      exact this
    · obtain ⟨p, d, hp, hd, hm, q⟩ := hri i hi
      have hx : (a.rs.map V.ref).getD i .non = .ref p := by rw [List.getD_eq_getElem?_getD, List.getElem?_map, hp]; rfl
      have q1 := (hfl p d hm q).same s2
      rw [hx]
      refine ⟨_, rfl, .ref p, d, rfl, q1, h.flat d hm, fun v' H' s' q' => ?_⟩
      have : ∃ p', v' = .ref p' := by
        have hd' : ∃ ds, d = .t ds := by
          cases q with
          | t => exact ⟨_, rfl⟩
          | l => exact absurd (h.flat _ hm) (fun z => by cases z)
        obtain ⟨ds, rfl⟩ := hd'
        cases q' with
        | t => exact ⟨_, rfl⟩
      obtain ⟨p', rfl⟩ := this
      exact kk _ H' s' ⟨p', d, rfl, hd, h.flat d hm, q'.le (by decide)⟩
    · obtain ⟨ps, rfl, hps⟩ := refs_of (P := fun i p => ∃ d, S.rows[i]? = some d ∧ DtAt H2 4 (.ref p) d) ys 0 (fun i v hv => by
        obtain ⟨p, d, e, e2, -, q⟩ := hr i v hv
        rw [Nat.zero_add]
        exact ⟨p, e, d, e2, q⟩)
      have sD : Same H2 (upd H2 D (.lst (ps.map V.ref))) := Same.upd hD
      rw [List.length_map] at hl
      refine k D ps _ (s2.trans sD) (s2.free hD) upd_same ⟨hl, fun i p d e1 e2 => ?_⟩
      obtain ⟨d', e3, q⟩ := hps i p e1
      rw [Nat.zero_add] at e3
      obtain rfl : d' = d := Option.some.inj (e3.symm.trans e2)
      exact q.same sD
def spCell (K : PySem.W.Frag) : Sp := fun vs H Q _ => ∃ (a : Addr) (ns : List Int) (k : Nat), vs = [.ref a, .int k] ∧ SqL K H a (intV ns) ∧ k ≤ 1000 ∧ ∀ z, Q (.int z) H
def spWhole : Sp := fun vs H Q _ => ∃ n : Int, vs = [.int n] ∧ Q (.bl true) H
def spStep : Sp := fun vs H Q _ => ∃ (z : Int) (L : Nat), vs = [.int z, .int L] ∧ 1 ≤ L ∧ L ≤ 200 ∧ ∀ s : Int, s ≠ 0 → s.natAbs ≤ L → Q (.int s) H
def wKey (c : Nat) (z : Int) : List Key := [Sum.inl (c : Int), Sum.inl z]
def oI (o : Option Nat) : Option V := o.map fun n : Nat => V.int (n : Int)
def spBy (C : Addr) : Sp := fun vs H Q _ => ∃ (r d : Addr) (S : RS) (a : RA) (c : Nat) (z : Int) (kvs : List (List Key × V)), vs = [.ref r, .int c, .int z, .ref d] ∧ RoomsAt C H r S a ∧ c < S.ways.length ∧ Rd H d (.dT kvs) ∧ valV kvs (wKey c z) = oI (S.by c z) ∧ ∀ H', Same H H' → Q (.bl true) H'
def spRows : Sp := fun vs H Q _ => ∃ (t u : Addr) (ps qs : List Addr) (rows : List Dt), vs = [.ref t, .ref u] ∧ H t = some (.lst (ps.map V.ref)) ∧ H u = some (.lst (qs.map V.ref)) ∧ Each (fun p d => DtAt H 4 (.ref p) d) ps rows ∧ Each (fun p d => DtAt H 4 (.ref p) d) qs rows ∧ (∀ d ∈ rows, ∃ c z n, d = rowNew c z n) ∧ Q (.bl true) H
structure Mt (L : Nat) (S : RS) (kvs : List (List Key × V)) : Prop where
  l : S.L = L
  r : S.rows.length + 1 = S.made
  e : S.elders = List.range S.made
  v : ∀ c z, valV kvs (wKey c z) = oI (S.by c z)
  k : ∀ p ∈ kvs, ∃ c z, p.1 = wKey c z ∧ c < S.made
  n : kvs.length ≤ 2 * S.made
  w : ∀ l ∈ S.ways, l.length ≤ S.made
  d : ∀ d ∈ S.rows, ∃ c z n, d = rowNew c z n
def spSeen (C : Addr) : Sp := fun vs H Q _ => ∃ (r d u : Addr) (L : Nat) (S : RS) (a : RA) (qs : List Addr) (kvs : List (List Key × V)), vs = [.ref r, .int L, .ref d, .ref u] ∧ RoomsAt C H r S a ∧ S.Wf ∧ 1 ≤ L ∧ L ≤ 200 ∧ S.made ≤ 1000 ∧ H d = some (.dT kvs) ∧ H u = some (.lst (qs.map V.ref)) ∧ Each (fun p d => DtAt H 4 (.ref p) d) qs S.rows ∧ Mt L S kvs ∧ ∀ H', Same H H' → Q (.bl true) H'
theorem ok__law_cell_at (T : Txt K mg A) : FnOk P w K mg base CX0 1 A.f__law_cell_at A.d__law_cell_at ["_law_script", "_law_k"] (spCell K) := by
  refine T._law_cell_at.F.ok sc__law_cell_at (fun vs H Q E h => ?_) (fun cdv AA outer s H vs Q E hr h => ?_)
  · obtain ⟨a, ns, n, rfl, _⟩ := h
    rfl
  · obtain ⟨a, ns, n, rfl, ha, hn, k⟩ := h
    refine ⟨_, (pss_cons (ps_if (pt_cmpR op_lt (pv 1) (pe_callB call_len_seq rfl T.z_len PySem.boot_len (pa_cons (pv 0) pa_nil)) (nomark _))
        (pss_one (ps_ret (pe_ix ix_list (pv 0) (pv 1) (fun _ _ => rfl))))
        pss_nil)
      (pss_one (ps_ret pe_int))), ?_⟩
    refine ⟨_, rfl, _, rfl, a, _, rfl, .inl ha, _, _, rfl, rfl, _, rfl, ?_⟩
    refine ite2 (fun h => ?_) (fun h => ?_)
    · have h' : (n : Int) < ((intV ns).length : Int) := of_decide_eq_true h
      rw [ints_len] at h'
      have e0 : ns[n]? = some ns[n] := List.getElem?_eq_getElem (by omega)
      exact ⟨_, rfl, _, rfl, a, _, _, _, rfl, rfl, ha, atI_nat (ints_at e0), k _⟩
    · exact k _
theorem ok__law_whole (T : Txt K mg A) : FnOk P w K mg base CX0 1 A.f__law_whole A.d__law_whole ["_law_found"] spWhole := by
  refine T._law_whole.F.ok sc__law_whole (fun vs H Q E h => ?_) (fun cdv AA outer s H vs Q E hr h => ?_)
  · obtain ⟨n, rfl, _⟩ := h
    rfl
  · obtain ⟨n, rfl, k⟩ := h
    refine ⟨_, (pss_one (ps_ret (pe_and (pe_callB call_isi rfl T.z_isinstance PyProof.Rows.boot_isinstance (pa_cons (pv 0) (pa_cons (pe_bltn (v := .ty "int") rfl T.z_int PyProof.Rows.boot_int rfl) pa_nil))) (pe_one (pe_not (pe_callB call_isi rfl T.z_isinstance PyProof.Rows.boot_isinstance (pa_cons (pv 0) (pa_cons (pe_bltn (v := .ty "bool") rfl T.z_bool PyProof.Rows.boot_bool rfl) pa_nil)))))))), ?_⟩
    refine ⟨_, rfl, _, _, _, _, rfl, .int n, kit_self K "int", _, rfl, iteT ?_⟩
    exact ⟨_, rfl, _, _, _, _, rfl, .int n, kit_int_bool K, _, rfl, k⟩
theorem ok__law_step (T : Txt K mg A) : FnOk P w K mg base CX0 1 A.f__law_step A.d__law_step ["_law_number", "_law_letters"] spStep := by
  refine T._law_step.F.ok sc__law_step (fun vs H Q E h => ?_) (fun cdv AA outer s H vs Q E hr h => ?_)
  · obtain ⟨z, L, rfl, _⟩ := h
    rfl
  · obtain ⟨z, L, rfl, hL1, hL2, k⟩ := h
    refine ⟨_, (pss_cons (ps_if (pt_cmpR op_eq (pe_op op_mod (pv 0) pe_int) pe_int (nomark _))
        (pss_one (ps_ret (pe_un un_neg (pe_op op_add pe_int (pe_op op_mod (pe_op op_fdiv (pv 0) pe_int) (pv 1))))))
        pss_nil)
      (pss_one (ps_ret (pe_op op_add pe_int (pe_op op_mod (pe_op op_fdiv (pv 0) pe_int) (pv 1)))))), ?_⟩
    have hm : ∀ y : Int, 0 ≤ y % (L : Int) ∧ y % (L : Int) < L := fun y => ⟨Int.emod_nonneg _ (by omega), Int.emod_lt_of_pos _ (by omega)⟩
    have h1 := hm (z / 2)
    refine ⟨_, rfl, _, _, rfl, rfl, (by show (0 : Int) < 2; decide), rfl, _, rfl, ite2 (fun h => ?_) (fun h => ?_)⟩
    · refine ⟨_, rfl, _, _, rfl, rfl, ⟨by decide, by decide⟩, _, rfl, _, _, rfl, rfl, (by show (0 : Int) < (L : Int); omega), _, _, rfl, rfl, _, rfl, k _ ?_ ?_⟩ <;> omega
    · refine ⟨_, rfl, _, _, rfl, rfl, ⟨by decide, by decide⟩, _, rfl, _, _, rfl, rfl, (by show (0 : Int) < (L : Int); omega), _, _, rfl, rfl, k _ ?_ ?_⟩ <;> omega
theorem ok__law_by (T : Txt K mg A) : FnOk P w K mg base CX0 2 A.f__law_by A.d__law_by ["_law_rooms", "_law_room", "_law_step_here", "_law_ways"] (spBy A.c_Rooms) := by
  have G_Rooms_by : FnOk P w K mg base CX0 1 A.f_Rooms_by A.d_Rooms_by ["self", "room", "step"] (spRBy A.c_Rooms) := ok_Rooms_by T
  have G__law_whole : FnOk P w K mg base CX0 1 A.f__law_whole A.d__law_whole ["_law_found"] spWhole := ok__law_whole T
  refine T._law_by.F.ok sc__law_by (fun vs H Q E h => ?_) (fun cdv AA outer s H vs Q E hr h => ?_)
  · obtain ⟨r, d, S, a, c, z, kvs, rfl, _⟩ := h
    rfl
  · obtain ⟨r, d, S, a, c, z, kvs, rfl, h, hc, hd, hv, k⟩ := h
    have hu2 := hu_of hr
    refine ⟨_, (pss_cons (ps_set (i := 4) sc__law_by.nd rfl (Or.inl rfl) (pe_meth (pv 0) (cl_Rooms T) T.Rooms_by.m (G_Rooms_by) (hr.mono (by decide)) T.Rooms_by.b .nil pass0 (pa_cons (pv 1) (pa_cons (pv 2) pa_nil))))
      (pss_cons (ps_if (pt_cmp (pc_dnotin hu2 (pe_tup (pa_cons (pv 1) (pa_cons (pv 2) pa_nil))) (pv 3)))
        (pss_one (ps_ret (pe_cmpR op_isN (pv 4) pe_non (nomark _))))
        pss_nil)
      (pss_one (ps_ret (pe_and (pe_call (G__law_whole) (hr.mono (by decide)) rfl T._law_whole.m T._law_whole.F.kp T._law_whole.b .nil pass0 (pa_cons (pv 4) pa_nil)) (pe_one (pe_cmpR op_eq (pv 4) (pe_dget hu2 (pv 3) (pe_tup (pa_cons (pv 1) (pa_cons (pv 2) pa_nil))) (fun _ _ => rfl)) (nomark _)))))))), ?_⟩
    refine ⟨_, rfl, r, a.dx, _, rfl, h.ins, lk_none _ _ _ (by decide +kernel), _, rfl, _, rfl, r, S, a, c, z, rfl, h, hc, ?_⟩
    refine ⟨_, rfl, _, rfl, (by show 2 ≤ sizeLine; decide), fun t ht => ⟨_, rfl, d, _, rfl, .inr ⟨kvs, wKey c z, t, ?_, rfl, upd_same, rfl⟩, _, rfl, ?_⟩⟩
    · have s1 := Same.upd (o := .tup [.int (c : Int), .int z]) ht
      rcases hd with q | ⟨o, q⟩
      · exact .inl (s1 _ _ q)
      · exact .inr ⟨o, s1 _ _ q⟩
    have s1 := Same.upd (o := .tup [.int (c : Int), .int z]) ht
    generalize upd H t (.tup [.int (c : Int), .int z]) = H1 at s1 ⊢
    rw [hv]
    cases e : S.by c z with
    | none =>
      refine iteT ?_
      refine ⟨_, rfl, rfl, ?_⟩
      show Q (V.bl (decide (V.non = V.non))) H1
      rw [decide_eq_true rfl]
      exact k H1 s1
    | some n =>
      refine iteF ?_
      refine ⟨_, rfl, n, rfl, _, rfl, iteT ?_⟩
      refine ⟨_, rfl, _, rfl, _, rfl, _, rfl, (by show 2 ≤ sizeLine; decide), fun t2 ht2 => ?_⟩
      have s2 := Same.upd (o := .tup [.int (c : Int), .int z]) ht2
      refine ⟨d, .int n, rfl, .inr ⟨kvs, wKey c z, t2, ?_, rfl, upd_same, by rw [hv, e]; rfl⟩, rfl, ?_⟩
      · rcases hd with q | ⟨o, q⟩
        · exact .inl (s2 _ _ (s1 _ _ q))
        · exact .inr ⟨o, s2 _ _ (s1 _ _ q)⟩
      show Q (V.bl (decide (V.int (n : Int) = V.int (n : Int)))) _
      rw [decide_eq_true rfl]
      exact k _ (s1.trans s2)
theorem row_new {H : Hp} {p : Addr} {c n : Nat} {z : Int} (h : DtAt H 4 (.ref p) (rowNew c z n)) : H p = some (.tup [.str (tx [110, 101, 119]), .int c, .int z, .int n]) := by
  cases h with
  | @t _ _ vs _ h1 h2 h3 =>
    have hl : vs.length = 4 := h2
    match vs, hl with
    | [v0, v1, v2, v3], _ =>
      have q0 := h3 0 v0 _ rfl rfl
      have q1 := h3 1 v1 _ rfl rfl
      have q2 := h3 2 v2 _ rfl rfl
      have q3 := h3 3 v3 _ rfl rfl
      cases q0
      cases q1
      cases q2
      cases q3
      exact h1
theorem new_row {H : Hp} {p : Addr} {c n k : Nat} {z : Int} (h : H p = some (.tup [.str (tx [110, 101, 119]), .int c, .int z, .int n])) : DtAt H (k + 1) (.ref p) (rowNew c z n) := by
  refine .t h rfl fun j v d e1 e2 => ?_
  rcases j with _ | _ | _ | _ | j
  · simp at e1 e2; subst e1 e2; exact .s
  · simp at e1 e2; subst e1 e2; exact .i
  · simp at e1 e2; subst e1 e2; exact .i
  · simp at e1 e2; subst e1 e2; exact .i
  · simp at e1
theorem pap_dt {H : Hp} {t : Addr} {ps : List Addr} {rows : List Dt} (ht : H t = some (.lst (ps.map V.ref))) (h : Each (fun p d => DtAt H 4 (.ref p) d) ps rows) : DtAt H 8 (.ref t) (.l rows) := by
  refine .l ht (by rw [List.length_map]; exact h.1) fun j v d e1 e2 => ?_
  rw [List.getElem?_map] at e1
  cases hp : ps[j]? with
  | none => rw [hp] at e1; cases e1
  | some p =>
    rw [hp] at e1
    rw [← Option.some.inj e1]
    exact (h.2 j p d hp e2).le (by decide)
theorem ok__law_rows (T : Txt K mg A) : FnOk P w K mg base CX0 2 A.f__law_rows A.d__law_rows ["_law_told", "_law_due"] spRows := by
  have G__law_whole : FnOk P w K mg base CX0 1 A.f__law_whole A.d__law_whole ["_law_found"] spWhole := ok__law_whole T
  refine T._law_rows.F.ok sc__law_rows (fun vs H Q E h => ?_) (fun cdv AA outer s H vs Q E hr h => ?_)
  · obtain ⟨t, u, ps, qs, rows, rfl, _⟩ := h
    rfl
  · obtain ⟨t, u, ps, qs, rows, rfl, ht, hu, hps, hqs, hd, k⟩ := h
    have hu8 := Nat.lt_of_le_of_lt (Nat.add_le_add_left (by decide : 8 ≤ 64) _) hr.units
    refine ⟨_, (pss_cons (ps_cut (ps_if (PW.pt (pw_or (pt_not (pt_val (pe_callB call_isi rfl T.z_isinstance PyProof.Rows.boot_isinstance (pa_cons (pv 0) (pa_cons (pe_bltn (v := .ty "list") rfl T.z_list PyProof.Rows.boot_list rfl) pa_nil))))) (pw_or1 (pt_cmpR op_ne (pe_callB call_len_seq rfl T.z_len PySem.boot_len (pa_cons (pv 0) pa_nil)) (pe_callB call_len_seq rfl T.z_len PySem.boot_len (pa_cons (pv 1) pa_nil)) (nomark _)))))
        (pss_one (ps_ret pe_bl))
        pss_nil))
      (pss_cons (ps_for PassesOwn.never rfl (pi_list (pv 0)) (pg_name (i := 2) sc__law_rows.nd rfl (Or.inl rfl))
        (pss_cons (ps_cut (ps_if (PW.pt (pw_or (pt_not (pt_val (pe_callB call_isi rfl T.z_isinstance PyProof.Rows.boot_isinstance (pa_cons (pv 2) (pa_cons (pe_bltn (v := .ty "tuple") rfl T.z_tuple PyProof.Rows.boot_tuple rfl) pa_nil))))) (pw_or (pt_cmpR op_ne (pe_callB call_len_seq rfl T.z_len PySem.boot_len (pa_cons (pv 2) pa_nil)) pe_int (nomark _)) (pw_or1 (pt_not (pt_val (pe_callB call_isi rfl T.z_isinstance PyProof.Rows.boot_isinstance (pa_cons (pe_ix ix_tup (pv 2) pe_int (fun _ _ => rfl)) (pa_cons (pe_bltn (v := .ty "str") rfl T.z_str PyProof.Rows.boot_str rfl) pa_nil)))))))))
          (pss_one (ps_ret pe_bl))
          pss_nil))
        (pss_one (ps_cut (ps_if (PW.pt (pw_or (pt_not (pt_val (pe_call (G__law_whole) (hr.mono (by decide)) rfl T._law_whole.m T._law_whole.F.kp T._law_whole.b .nil pass0 (pa_cons (pe_ix ix_tup (pv 2) pe_int (fun _ _ => rfl)) pa_nil)))) (pw_or (pt_not (pt_val (pe_call (G__law_whole) (hr.mono (by decide)) rfl T._law_whole.m T._law_whole.F.kp T._law_whole.b .nil pass0 (pa_cons (pe_ix ix_tup (pv 2) pe_int (fun _ _ => rfl)) pa_nil)))) (pw_or1 (pt_not (pt_val (pe_call (G__law_whole) (hr.mono (by decide)) rfl T._law_whole.m T._law_whole.F.kp T._law_whole.b .nil pass0 (pa_cons (pe_ix ix_tup (pv 2) pe_int (fun _ _ => rfl)) pa_nil))))))))
          (pss_one (ps_ret pe_bl))
          pss_nil)))))
      (pss_one (ps_ret (pe_cmpR (op_eqDt hu8) (pv 0) (pv 1) (nomark _)))))), ?_⟩
    have e1 : (ps.map V.ref).length = rows.length := by rw [List.length_map, hps.1]
    have e2 : (qs.map V.ref).length = rows.length := by rw [List.length_map, hqs.1]
    refine ⟨fun σ' H' => σ' = [some (.ref t), some (.ref u), none] ∧ H' = H, ?_, ?_⟩
    · refine ⟨_, rfl, _, _, _, _, rfl, .lst ht, kit_self K "list", _, rfl, iteF ?_⟩
      refine ⟨_, rfl, t, _, rfl, .inl (SqL.of ht), _, rfl, u, _, rfl, .inl (SqL.of hu), rfl, _, rfl, ?_⟩
      rw [e1, e2]
      exact iteNS rfl ⟨rfl, rfl⟩
    rintro σ' H' ⟨rfl, rfl⟩
    refine ⟨_, rfl, t, rfl, ⟨_, SqL.of ht⟩, ?_⟩
    refine for_list (xs := ps.map V.ref) (fun i σ H2 => ∃ v, σ = [some (.ref t), some (.ref u), v] ∧ H2 = H') ⟨none, rfl, rfl⟩ (fun i σ H2 _ ⟨v, _, e⟩ => by rw [e]; exact SqL.of ht) ?_ ?_
    · rintro i x σ H2 hx ⟨v, rfl, rfl⟩
      have hi : i < rows.length := by rw [← e1]; exact (List.getElem?_eq_some_iff.mp hx).1
      obtain ⟨p, hp, q⟩ := hps.at (List.getElem?_eq_getElem hi)
      obtain rfl : x = .ref p := by rw [List.getElem?_map, hp] at hx; exact (Option.some.inj hx).symm
      obtain ⟨c, z, n, er⟩ := hd _ (List.mem_of_getElem? (List.getElem?_eq_getElem hi))
      rw [er] at q
      have hp4 := row_new q
      have sq : SqT K H2 p [.str (tx [110, 101, 119]), .int c, .int z, .int n] := SqT.of hp4
      refine ⟨fun σ' H3 => σ' = [some (.ref t), some (.ref u), some (.ref p)] ∧ H3 = H2, ?_, ?_⟩
      · refine ⟨_, rfl, _, _, _, _, rfl, .tup hp4, kit_self K "tuple", _, rfl, iteF ?_⟩
        refine ⟨_, rfl, p, _, rfl, .inr sq, rfl, _, rfl, iteNS rfl ?_⟩
        refine ⟨_, rfl, p, _, _, _, rfl, rfl, sq, (rfl : atI _ (0 : Int) = _), _, _, _, _, rfl, .str _, kit_self K "str", _, rfl, iteF ⟨rfl, rfl⟩⟩
      rintro σ' H3 ⟨rfl, rfl⟩
      refine ⟨fun σ' H4 => σ' = [some (.ref t), some (.ref u), some (.ref p)] ∧ H4 = H3, ?_, ?_⟩
      · refine ⟨_, rfl, p, _, _, _, rfl, rfl, sq, (rfl : atI _ (1 : Int) = _), c, rfl, _, rfl, iteF ?_⟩
        refine ⟨_, rfl, p, _, _, _, rfl, rfl, sq, (rfl : atI _ (2 : Int) = _), z, rfl, _, rfl, iteF ?_⟩
        refine ⟨_, rfl, p, _, _, _, rfl, rfl, sq, (rfl : atI _ (3 : Int) = _), n, rfl, _, rfl, iteF ⟨rfl, rfl⟩⟩
      rintro σ' H4 ⟨rfl, rfl⟩
      exact ⟨_, rfl, rfl⟩
    · rintro σ H2 ⟨v, rfl, rfl⟩
      exact ⟨_, rfl, _, rfl, .l rows, t, u, rfl, rfl, pap_dt ht hps, pap_dt hu hqs, k⟩
theorem flat_new {H : Hp} {p : Addr} {d : Dt} (h : ∃ c z n, d = rowNew c z n) (q : DtAt H 4 (.ref p) d) : DtAt H 1 (.ref p) d := by
  obtain ⟨c, z, n, rfl⟩ := h
  exact new_row (row_new q)
theorem each_same {H H' : Hp} {ps : List Addr} {rows : List Dt} (h : Each (fun p d => DtAt H 4 (.ref p) d) ps rows) (s : Same H H') : Each (fun p d => DtAt H' 4 (.ref p) d) ps rows := h.imp fun p x _ _ e => e.same s
theorem std_all {S : RS} (he : S.elders = List.range S.made) : ((List.range S.made).filter fun c => decide (S.elders[c]? = some c)) = List.range S.made := by
  refine List.filter_eq_self.mpr fun c hc => ?_
  rw [he]
  exact decide_eq_true (List.getElem?_range (List.mem_range.mp hc))
theorem rng_nI (n : Nat) : rng 0 n = nI (List.range n) := by
  unfold rng nI
  exact List.map_congr_left fun i _ => by omega
theorem ok__law_seen (T : Txt K mg A) : FnOk P w K mg base CX0 5 A.f__law_seen A.d__law_seen ["_law_rooms", "_law_letters", "_law_ways", "_law_rows_here"] (spSeen A.c_Rooms) := by
  have G_Rooms_standing : FnOk P w K mg base CX0 1 A.f_Rooms_standing A.d_Rooms_standing ["self"] (spStanding A.c_Rooms) := ok_Rooms_standing T
  have G__law_rows : FnOk P w K mg base CX0 2 A.f__law_rows A.d__law_rows ["_law_told", "_law_due"] spRows := ok__law_rows T
  have G__law_whole : FnOk P w K mg base CX0 1 A.f__law_whole A.d__law_whole ["_law_found"] spWhole := ok__law_whole T
  have G_Rooms_paper : FnOk P w K mg base CX0 4 A.f_Rooms_paper A.d_Rooms_paper ["self"] (spPaper 1 A.c_Rooms) := ok_Rooms_paper T
  have G__law_by : FnOk P w K mg base CX0 2 A.f__law_by A.d__law_by ["_law_rooms", "_law_room", "_law_step_here", "_law_ways"] (spBy A.c_Rooms) := ok__law_by T
  have G_Rooms_elder : FnOk P w K mg base CX0 1 A.f_Rooms_elder A.d_Rooms_elder ["self", "room"] (spElder A.c_Rooms) := ok_Rooms_elder T
  refine T._law_seen.F.ok sc__law_seen (fun vs H Q E h => ?_) (fun cdv AA outer s H vs Q E hr h => ?_)
  · obtain ⟨r, d, u, L, S, a, qs, kvs, rfl, _⟩ := h
    rfl
  · obtain ⟨r, d, u, L, S, a, qs, kvs, rfl, h, hw, hL1, hL2, hm, hd, hU, hqs, M, k⟩ := h
    have hu := Nat.lt_of_succ_lt (hu_of hr)
    refine ⟨_, (pss_cons (ps_cut (ps_if (PW.pt (pw_or (pt_not (pt_val (pe_call (G__law_whole) (hr.mono (by decide)) rfl T._law_whole.m T._law_whole.F.kp T._law_whole.b .nil pass0 (pa_cons (pe_fld (pv 0) rfl) pa_nil)))) (pw_or (pt_cmpR op_ne (pe_fld (pv 0) rfl) (pe_op op_add (pe_callB call_len_seq rfl T.z_len PySem.boot_len (pa_cons (pv 3) pa_nil)) pe_int) (nomark _)) (pw_or1 (pt_cmpR op_ne (pe_fld (pv 0) rfl) (pv 1) (nomark _))))))
        (pss_one (ps_ret pe_bl))
        pss_nil))
      (pss_cons (ps_if (pt_not (pt_val (pe_call (G__law_rows) (hr.mono (by decide)) rfl T._law_rows.m T._law_rows.F.kp T._law_rows.b .nil pass0 (pa_cons (pe_meth0 (pv 0) (cl_Rooms T) T.Rooms_paper.m (G_Rooms_paper) (hr.mono (by decide)) T.Rooms_paper.b .nil pass0) (pa_cons (pv 3) pa_nil)))))
        (pss_one (ps_ret pe_bl))
        pss_nil)
      (pss_cons (ps_set (i := 4) sc__law_seen.nd rfl (Or.inl rfl) (pe_meth0 (pv 0) (cl_Rooms T) T.Rooms_standing.m (G_Rooms_standing) (hr.mono (by decide)) T.Rooms_standing.b .nil pass0))
      (pss_cons (ps_cut (ps_if (PW.pt (pw_or (pt_not (pt_val (pe_callB call_isi rfl T.z_isinstance PyProof.Rows.boot_isinstance (pa_cons (pv 4) (pa_cons (pe_bltn (v := .ty "list") rfl T.z_list PyProof.Rows.boot_list rfl) pa_nil))))) (pw_or1 (pt_cmpR (op_neLI hu) (pv 4) (pe_listRange1 rfl rfl T.z_list rfl T.z_range (pa_cons (pe_op op_add (pe_callB call_len_seq rfl T.z_len PySem.boot_len (pa_cons (pv 3) pa_nil)) pe_int) pa_nil)) (nomark _)))))
        (pss_one (ps_ret pe_bl))
        pss_nil))
      (pss_cons (ps_for PassesOwn.never rfl (pi_range1 rfl T.z_range (pa_cons (pe_op op_add (pe_callB call_len_seq rfl T.z_len PySem.boot_len (pa_cons (pv 3) pa_nil)) pe_int) pa_nil)) (pg_name (i := 5) sc__law_seen.nd rfl (Or.inl rfl))
        (pss_cons (ps_cut (ps_if (PW.pt (pw_or (pt_not (pt_val (pe_call (G__law_whole) (hr.mono (by decide)) rfl T._law_whole.m T._law_whole.F.kp T._law_whole.b .nil pass0 (pa_cons (pe_ix ix_list (pv 4) (pv 5) (fun _ _ => rfl)) pa_nil)))) (pw_or1 (pt_cmpR op_ne (pe_meth (pv 0) (cl_Rooms T) T.Rooms_elder.m (G_Rooms_elder) (hr.mono (by decide)) T.Rooms_elder.b .nil pass0 (pa_cons (pv 5) pa_nil)) (pv 5) (nomark _)))))
          (pss_one (ps_ret pe_bl))
          pss_nil))
        (pss_one (ps_for PassesOwn.never rfl (pi_list (pe_lst (pa_cons pe_int (pa_cons (pe_un un_neg pe_int) (pa_cons (pv 1) (pa_cons (pe_un un_neg (pv 1)) pa_nil)))))) (pg_name (i := 6) sc__law_seen.nd rfl (Or.inl rfl))
          (pss_one (ps_if (pt_not (pt_val (pe_call (G__law_by) (hr.mono (by decide)) rfl T._law_by.m T._law_by.F.kp T._law_by.b .nil pass0 (pa_cons (pv 0) (pa_cons (pv 5) (pa_cons (pv 6) (pa_cons (pv 2) pa_nil)))))))
            (pss_one (ps_ret pe_bl))
            pss_nil))))))
      (pss_cons (ps_thaw (ps_for PassesOwn.never rfl (pi_dT (pv 2)) (pg_tup rfl (pgs_cons (pg_name (i := 5) sc__law_seen.nd rfl (Or.inl rfl)) (pgs_cons (pg_name (i := 6) sc__law_seen.nd rfl (Or.inl rfl)) pgs_nil)))
        (pss_one (ps_if (pt_not (pt_val (pe_call (G__law_by) (hr.mono (by decide)) rfl T._law_by.m T._law_by.F.kp T._law_by.b .nil pass0 (pa_cons (pv 0) (pa_cons (pv 5) (pa_cons (pv 6) (pa_cons (pv 2) pa_nil)))))))
          (pss_one (ps_ret pe_bl))
          pss_nil))))
      (pss_one (ps_ret pe_bl)))))))), ?_⟩
    have hql : ((qs.map V.ref).length : Int) + 1 = (S.made : Int) := by rw [List.length_map, hqs.1, ← M.r]; omega
    have hrl : S.rows.length ≤ 1000 := by have := M.r; omega
    refine ⟨fun σ' H' => σ' = [some (.ref r), some (.int L), some (.ref d), some (.ref u), none, none, none] ∧ H' = H, ?_, ?_⟩
    · refine ⟨_, rfl, r, _, a.dx, _, _, rfl, h.ins, cl_Rooms T, T.n_made, lk_made _ _ _, _, rfl, _, rfl, iteF ?_⟩
      refine ⟨_, rfl, r, _, a.dx, _, _, rfl, h.ins, cl_Rooms T, T.n_made, lk_made _ _ _, _, rfl, u, _, rfl, .inl (SqL.of hU), _, _, rfl, rfl, rfl, _, rfl, ?_⟩
      refine iteNS (congrArg V.int hql.symm) ?_
      refine ⟨_, rfl, r, _, a.dx, _, _, rfl, h.ins, cl_Rooms T, T.n_letters, lk_letters _ _ _, _, rfl, rfl, _, rfl, ?_⟩
      rw [M.l]
      exact iteNS rfl ⟨rfl, rfl⟩
    rintro σ' H' ⟨rfl, rfl⟩
    refine ⟨_, rfl, r, a.dx, _, rfl, h.ins, lk_none _ _ _ (by decide +kernel), r, S, a, rfl, h, by omega, fun p x hx q => flat_new (M.d x hx) q, fun l ps H1 s1 nl hl he => ?_⟩
    refine ⟨_, rfl, l, u, ps, qs, S.rows, rfl, hl, s1 _ _ hU, he, each_same hqs s1, M.d, _, rfl, iteF ?_⟩
    have h1 := h.same s1
    refine ⟨_, rfl, r, a.dx, _, rfl, h1.ins, lk_none _ _ _ (by decide +kernel), r, S, a, rfl, h1, hw, by omega, fun l2 nl2 => ?_⟩
    rw [std_all M.e]
    have s2 := Same.upd (o := .lst (intV (nI (List.range S.made)))) nl2
    have hl2 : upd H1 l2 (.lst (intV (nI (List.range S.made)))) l2 = some (.lst (intV (nI (List.range S.made)))) := upd_same
    generalize upd H1 l2 (.lst (intV (nI (List.range S.made)))) = H2 at s2 hl2 ⊢
    have s02 := s1.trans s2
    refine ⟨fun σ' H3 => σ' = [some (.ref r), some (.int L), some (.ref d), some (.ref u), some (.ref l2), none, none] ∧ Same H2 H3, ?_, ?_⟩
    · refine ⟨_, rfl, _, _, _, _, rfl, .lst hl2, kit_self K "list", _, rfl, iteF ?_⟩
      refine ⟨_, rfl, _, rfl, u, _, rfl, .inl (SqL.of (s02 _ _ hU)), _, _, rfl, rfl, S.made, congrArg (fun x => [V.int x]) hql, by omega, fun l3 nl3 => ?_⟩
      refine ⟨l2, l3, _, _, rfl, rfl, Same.upd nl3 _ _ hl2, upd_same, _, rfl, ?_⟩
      rw [rng_nI]
      exact iteNS rfl ⟨rfl, Same.upd nl3⟩
    rintro σ' H3 ⟨rfl, s23⟩
    have s03 := s02.trans s23
    have hl3 := s23 _ _ hl2
    clear s02 s23 hl2 nl2 he hl h1
    refine ⟨_, rfl, u, _, rfl, .inl (SqL.of (s03 _ _ hU)), _, _, rfl, rfl, (S.made : Int), congrArg (fun x => [V.int x]) hql, by omega, by omega, ?_⟩
    rw [Int.toNat_natCast]
    refine for_range (lo := 0) (n := S.made) (fun i σ H4 => ∃ v5 v6, σ = [some (.ref r), some (.int L), some (.ref d), some (.ref u), some (.ref l2), v5, v6] ∧ Same H3 H4) ⟨none, none, rfl, fun _ _ e => e⟩ ?_ ?_
    · rintro i σ H4 hi ⟨v5, v6, rfl, s34⟩
      have s04 := s03.trans s34
      have h4 := h.same s04
      rw [Int.zero_add]
      refine ⟨fun σ' H5 => σ' = [some (.ref r), some (.int L), some (.ref d), some (.ref u), some (.ref l2), some (.int (i : Int)), v6] ∧ H5 = H4, ?_, ?_⟩
      · have gi : (nI (List.range S.made))[i]? = some (i : Int) := nI_get (List.getElem?_range hi)
        refine ⟨_, rfl, _, rfl, l2, _, _, _, rfl, rfl, SqL.of (s34 _ _ hl3), atI_nat (ints_at gi), _, rfl, _, rfl, iteF ?_⟩
        refine ⟨_, rfl, r, a.dx, _, rfl, h4.ins, lk_none _ _ _ (by decide +kernel), _, rfl, r, S, a, i, i, rfl, h4, (by rw [M.e]; exact List.getElem?_range hi), _, rfl, rfl, _, rfl, iteNS rfl ⟨rfl, rfl⟩⟩
      rintro σ' H5 ⟨rfl, rfl⟩
      refine ⟨_, rfl, _, rfl, _, rfl, _, rfl, (by show 4 ≤ sizeLine; decide), fun q hq => ⟨q, rfl, ⟨_, SqL.of upd_same⟩, ?_⟩⟩
      have s5 := Same.upd (o := .lst [.int 1, .int (-1), .int (L : Int), .int (-(L : Int))]) hq
      have hq5 : upd H5 q (.lst [.int 1, .int (-1), .int (L : Int), .int (-(L : Int))]) q = some (.lst [.int 1, .int (-1), .int (L : Int), .int (-(L : Int))]) := upd_same
      generalize upd H5 q (.lst [.int 1, .int (-1), .int (L : Int), .int (-(L : Int))]) = H6 at s5 hq5 ⊢
      refine for_list (xs := [.int 1, .int (-1), .int (L : Int), .int (-(L : Int))]) (fun j σ H7 => ∃ v6, σ = [some (.ref r), some (.int L), some (.ref d), some (.ref u), some (.ref l2), some (.int (i : Int)), v6] ∧ Same H6 H7) ⟨_, rfl, fun _ _ e => e⟩ (fun j σ H7 _ ⟨_, _, s⟩ => SqL.of (s _ _ hq5)) ?_ ?_
      · rintro j x σ H7 hx ⟨v6, rfl, s67⟩
        obtain ⟨z, rfl⟩ : ∃ z, x = .int z := by
          rcases j with _ | _ | _ | _ | j
          · exact ⟨_, (Option.some.inj hx).symm⟩
          · exact ⟨_, (Option.some.inj hx).symm⟩
          · exact ⟨_, (Option.some.inj hx).symm⟩
          · exact ⟨_, (Option.some.inj hx).symm⟩
          · simp at hx
        have s07 := s04.trans (s5.trans s67)
        refine ⟨_, rfl, _, rfl, _, rfl, _, rfl, r, d, S, a, i, z, kvs, rfl, h.same s07, by rw [hw.w]; exact hi, .inl (s07 _ _ hd), M.v i z, fun H8 s78 => ⟨_, rfl, iteF ⟨_, rfl, s67.trans s78⟩⟩⟩
      · rintro σ H7 ⟨v6, rfl, s67⟩
        exact ⟨_, _, rfl, s34.trans (s5.trans s67)⟩
    · rintro σ H4 ⟨v5, v6, rfl, s34⟩
      have s04 := s03.trans s34
      have hd4 := s04 _ _ hd
      refine ⟨d, .dT kvs, hd4, True.intro, _, rfl, d, kvs, rfl, hd4, fun o => ?_⟩
      have kf : ∀ b x, b ≠ d → H4 b = some x → upd H4 d (.frz o (.dT kvs)) b = some x := fun b x n e => by rw [upd_ne n]; exact e
      have hf : upd H4 d (.frz o (.dT kvs)) d = some (.frz o (.dT kvs)) := upd_same
      generalize upd H4 d (.frz o (.dT kvs)) = H5 at kf hf ⊢
      have hRO : ∀ {b : Addr}, a.own r b → b ≠ d := fun {b} hb z => by
        rw [z] at hb
        rcases hb with e | e | e
        · have := (h.same s04).ins; rw [← e, hd4] at this; cases this
        · obtain ⟨xs, q⟩ := (h.same s04).isL e; rw [hd4] at q; cases q
        · obtain ⟨xs, q⟩ := (h.same s04).isD e; rw [hd4] at q; cases q
      have h5 : RoomsAt A.c_Rooms H5 r S a := (h.same s04).keep (fun b x hb e => kf b x (hRO hb) e) (fun b xs e => kf b _ (ne_of e hd4 (by intro z; cases z)) e)
      refine for_dT (o := o) (kvs := kvs) (fun j σ H6 => ∃ v5 v6, σ = [some (.ref r), some (.int L), some (.ref d), some (.ref u), some (.ref l2), v5, v6] ∧ Same H5 H6) ⟨v5, v6, rfl, fun _ _ e => e⟩ (fun j σ H6 _ ⟨_, _, _, s⟩ => s _ _ hf) ?_ ?_
      · rintro j kv σ H6 p hkv hp ⟨v5, v6, rfl, s56⟩
        obtain ⟨c, z, ek, hc⟩ := M.k kv (List.mem_of_getElem? hkv)
        rw [ek] at hp
        refine ⟨p, _, rfl, SqT.of hp, rfl, _, _, rfl, _, _, rfl, rfl, ?_⟩
        refine ⟨_, rfl, _, rfl, _, rfl, _, rfl, r, d, S, a, c, z, kvs, rfl, h5.same s56, by rw [hw.w]; exact hc, .inr ⟨o, s56 _ _ hf⟩, M.v c z, fun H8 s78 => ⟨_, rfl, iteF ⟨_, _, rfl, s56.trans s78⟩⟩⟩
      · rintro σ H6 ⟨v5, v6, rfl, s56⟩
        refine ⟨o, s56 _ _ hf, k _ fun b x e => ?_⟩
        by_cases hb : b = d
        · subst hb
          rw [upd_same]
          rw [hd] at e
          exact e
        · rw [upd_ne hb]
          exact s56 _ _ (kf b x hb (s04 _ _ e))
theorem wKey_inj {c c' : Nat} {z z' : Int} : wKey c z = wKey c' z' ↔ c = c' ∧ z = z' := by
  unfold wKey
  constructor
  · intro h
    injection h with h1 h2
    injection h2 with h2 _
    exact ⟨by have := Sum.inl.inj h1; omega, Sum.inl.inj h2⟩
  · rintro ⟨rfl, rfl⟩; rfl
theorem way_setW {S : RS} {c c' : Nat} {l : List (Int × Nat)} (hc : c < S.ways.length) : (S.setW c l).way c' = if c' = c then l else S.way c' := by
  unfold RS.setW RS.way
  show (S.ways.set c l).getD c' [] = _
  rw [List.getD_eq_getElem?_getD, List.getD_eq_getElem?_getD]
  by_cases h : c = c'
  · subst h; rw [List.getElem?_set_self hc, if_pos rfl]; rfl
  · rw [List.getElem?_set_ne h, if_neg (Ne.symm h)]
theorem by_putWay {S : RS} {c c' d : Nat} {z z' : Int} (hc : c < S.ways.length) : (S.putWay c z d).by c' z' = if c' = c ∧ z' = z then some d else S.by c' z' := by
  unfold RS.putWay RS.by
  rw [way_setW hc]
  by_cases h : c' = c
  · subst h
    rw [if_pos rfl, getW_put]
    by_cases hz : z' = z
    · rw [if_pos hz, if_pos ⟨rfl, hz⟩]
    · rw [if_neg hz, if_neg (fun q => hz q.2)]
  · rw [if_neg h, if_neg (fun q => h q.1)]
theorem by_grown {S : RS} {c c' : Nat} {z z' : Int} {g : List Int} : (S.grown c z g).by c' z' = S.by c' z' := by
  unfold RS.by RS.way RS.grown
  show getW ((S.ways ++ [[]]).getD c' []) z' = _
  rw [List.getD_eq_getElem?_getD, List.getD_eq_getElem?_getD]
  by_cases h : c' < S.ways.length
  · rw [List.getElem?_append_left h]
  · rw [List.getElem?_append_right (by omega), List.getElem?_eq_none (l := S.ways) (by omega)]
    by_cases h2 : c' - S.ways.length = 0
    · rw [h2]; rfl
    · rw [List.getElem?_eq_none (by simp; omega)]
theorem by_noGap {S : RS} {c c' : Nat} {z z' : Int} : (S.noGap c z).by c' z' = S.by c' z' := rfl
theorem by_make {S : RS} {c c' : Nat} {z z' : Int} {g : List Int} (hw : S.Wf) (hc : c < S.made) : (S.make c z g).by c' z' = if c' = S.made ∧ z' = -z then some c else if c' = c ∧ z' = z then some S.made else S.by c' z' := by
  unfold RS.make RS.keep
  have l1 : (S.grown c z g).ways.length = S.made + 1 := by show (S.ways ++ [[]]).length = _; rw [List.length_append, hw.w]; rfl
  rw [by_noGap, by_noGap, by_putWay (by show ((S.grown c z g).ways.set c _).length > _; rw [List.length_set, l1]; omega), by_putWay (by rw [l1]; omega), by_grown]
theorem wf_make {S : RS} {c : Nat} {z : Int} {g : List Int} (hw : S.Wf) : (S.make c z g).Wf := by
  refine ⟨?_, ?_, ?_, ?_⟩
  · show ((List.set _ _ _).set _ _).length = S.made + 1
    rw [List.length_set, List.length_set]; show (S.ways ++ [[]]).length = _; rw [List.length_append, hw.w]; rfl
  · show ((List.set _ _ _).set _ _).length = S.made + 1
    rw [List.length_set, List.length_set]; show (S.gaps ++ [_]).length = _; rw [List.length_append, hw.g]; rfl
  · show (S.elders ++ [_]).length = S.made + 1; rw [List.length_append, hw.e]; rfl
  · show (S.called ++ [_]).length = S.made + 1; rw [List.length_append, hw.c]; rfl
theorem mem_putK {kvs : List (List Key × V)} {k : List Key} {v : V} {p : List Key × V} (h : p ∈ putK kvs k v) : p.1 = k ∨ ∃ q ∈ kvs, q.1 = p.1 := by
  unfold putK at h
  split at h
  · obtain ⟨q, hq, rfl⟩ := List.mem_map.mp h
    split
    · exact .inr ⟨q, hq, rfl⟩
    · exact .inr ⟨q, hq, rfl⟩
  · rcases List.mem_append.mp h with h | h
    · exact .inr ⟨p, h, rfl⟩
    · rw [List.mem_singleton.mp h]; exact .inl rfl
def kvNew (kvs : List (List Key × V)) (c : Nat) (z : Int) (m : Nat) : List (List Key × V) := putK (putK kvs (wKey c z) (.int m)) (wKey m (-z)) (.int c)
theorem Mt.make {L : Nat} {S : RS} {kvs : List (List Key × V)} (h : Mt L S kvs) (hw : S.Wf) {c : Nat} (hc : c < S.made) (z : Int) (g : List Int) : Mt L (S.make c z g) (kvNew kvs c z S.made) where
  l := h.l
  r := by show (S.rows ++ [_]).length + 1 = S.made + 1; rw [List.length_append, List.length_singleton, h.r]
  e := by show S.elders ++ [S.made] = List.range (S.made + 1); rw [h.e, List.range_succ]
  v := fun c' z' => by
    unfold kvNew
    rw [valV_put, valV_put, by_make hw hc, h.v]
    simp only [wKey_inj]
    split
    · rfl
    · split <;> rfl
  k := fun p hp => by
    rcases mem_putK hp with e | ⟨q, hq, e⟩
    · exact ⟨S.made, -z, e, by show S.made < S.made + 1; omega⟩
    · rcases mem_putK hq with e2 | ⟨q2, hq2, e2⟩
      · exact ⟨c, z, by rw [← e, e2], by show c < S.made + 1; omega⟩
      · obtain ⟨c', z', e3, h3⟩ := h.k q2 hq2
        exact ⟨c', z', by rw [← e, ← e2, e3], by show c' < S.made + 1; omega⟩
  n := by
    have h1 := length_putK kvs (wKey c z) (.int S.made)
    have h2 := length_putK (putK kvs (wKey c z) (.int S.made)) (wKey S.made (-z)) (.int c)
    have := h.n
    show (kvNew kvs c z S.made).length ≤ 2 * (S.made + 1)
    unfold kvNew
    omega
  w := fun l hl => by
    have hl' : l ∈ (((S.grown c z g).putWay c z S.made).putWay S.made (-z) c).ways := hl
    have l1 : (S.grown c z g).ways.length = S.made + 1 := by show (S.ways ++ [[]]).length = _; rw [List.length_append, hw.w]; rfl
    have em : ((S.grown c z g).putWay c z S.made).way S.made = [] := by
      unfold RS.putWay
      rw [way_setW (by rw [l1]; omega), if_neg (by omega)]
      unfold RS.way
      show (S.ways ++ [[]]).getD S.made [] = []
      rw [List.getD_eq_getElem?_getD, List.getElem?_append_right (by rw [hw.w]; exact Nat.le_refl _), hw.w, Nat.sub_self]; rfl
    show l.length ≤ S.made + 1
    rcases List.mem_or_eq_of_mem_set hl' with hl | rfl
    · rcases List.mem_or_eq_of_mem_set hl with hl | rfl
      · rcases List.mem_append.mp hl with hl | hl
        · exact Nat.le_succ_of_le (h.w l hl)
        · rw [List.mem_singleton.mp hl]; exact Nat.zero_le _
      · refine Nat.le_trans (putW_len _ _ _) (Nat.succ_le_succ ?_)
        have : (S.grown c z g).way c = S.way c := by
          unfold RS.way
          show (S.ways ++ [[]]).getD c [] = _
          rw [List.getD_eq_getElem?_getD, List.getD_eq_getElem?_getD, List.getElem?_append_left (by rw [hw.w]; exact hc)]
        rw [this]
        exact way_le h.w
    · rw [em]
      refine Nat.le_trans (putW_len _ _ _) ?_
      show 0 + 1 ≤ _
      omega
  d := fun d hd => by
    rcases List.mem_append.mp hd with hd | hd
    · exact h.d d hd
    · exact ⟨c, z, S.made, List.mem_singleton.mp hd⟩
theorem mt_new (L : Nat) (g : List Int) : Mt L (RS.new L g) [] where
  l := rfl
  r := rfl
  e := rfl
  v := fun c z => by
    have : (RS.new L g).by c z = none := by
      unfold RS.by RS.way RS.new
      show getW ([[]].getD c []) z = none
      rcases c with _ | c <;> rfl
    rw [this]; rfl
  k := fun p hp => by cases hp
  n := Nat.zero_le _
  w := fun l hl => by rw [List.mem_singleton.mp hl]; exact Nat.zero_le _
  d := fun d hd => by cases hd
theorem wf_new (L : Nat) (g : List Int) : (RS.new L g).Wf := ⟨rfl, rfl, rfl, rfl⟩
structure Ob where
  r : Addr
  d : Addr
  l : Addr
  S : RS
  a : RA
  kvs : List (List Key × V)
  ps : List Addr
def Ob.fp (o : Ob) (b : Addr) : Prop := o.a.own o.r b ∨ b = o.d ∨ b = o.l
structure ObAt (C : Addr) (H : Hp) (L : Nat) (o : Ob) : Prop where
  rm : RoomsAt C H o.r o.S o.a
  wf : o.S.Wf
  hd : H o.d = some (.dT o.kvs)
  hl : H o.l = some (.lst (o.ps.map V.ref))
  rows : Each (fun p d => DtAt H 4 (.ref p) d) o.ps o.S.rows
  m : Mt L o.S o.kvs
  nl : ¬ o.a.own o.r o.l
theorem ObAt.keep {C : Addr} {H H' : Hp} {L : Nat} {o : Ob} (h : ObAt C H L o) (k : ∀ b x, o.fp b → H b = some x → H' b = some x) (kt : ∀ b xs, H b = some (.tup xs) → H' b = some (.tup xs)) : ObAt C H' L o :=
  ⟨h.rm.keep (fun b x hb => k b x (.inl hb)) kt, h.wf, k _ _ (.inr (.inl rfl)) h.hd, k _ _ (.inr (.inr rfl)) h.hl, h.rows.imp fun p x _ hx e => e.keepT kt (h.rm.flat x hx), h.m, h.nl⟩
theorem ObAt.there {C : Addr} {H : Hp} {L : Nat} {o : Ob} (h : ObAt C H L o) {b : Addr} (hb : o.fp b) : ∃ x, H b = some x := by
  rcases hb with hb | rfl | rfl
  · exact h.rm.there hb
  · exact ⟨_, h.hd⟩
  · exact ⟨_, h.hl⟩
theorem ObAt.notup {C : Addr} {H : Hp} {L : Nat} {o : Ob} (h : ObAt C H L o) {b : Addr} {xs : List V} (e : H b = some (.tup xs)) : ¬ o.fp b := fun hb => by
  rcases hb with hb | rfl | rfl
  · exact h.rm.notup e hb
  · rw [h.hd] at e; cases e
  · rw [h.hl] at e; cases e
theorem ObAt.nd {C : Addr} {H : Hp} {L : Nat} {o : Ob} (h : ObAt C H L o) : ¬ o.a.own o.r o.d := fun hb => by
  rcases hb with e | e | e
  · have := h.rm.ins; rw [← e, h.hd] at this; cases this
  · obtain ⟨xs, q⟩ := h.rm.isL e; rw [h.hd] at q; cases q
  · obtain ⟨xs, q⟩ := h.rm.isD e; rw [h.hd] at q; cases q
structure LI (C : Addr) (H : Hp) (L n : Nat) (rs ds ls : List Addr) (E : Addr) (N : List Addr) (P : List (Addr × HO)) (os : List Ob) (hs : List (Addr × Addr × Addr)) : Prop where
  ob : ∀ (i : Nat) (o : Ob), os[i]? = some o → ObAt C H L o ∧ o.S.made ≤ n + 1
  dj : ∀ (i j : Nat) (o p : Ob), i ≠ j → os[i]? = some o → os[j]? = some p → ∀ b, o.fp b → ¬ p.fp b
  er : os.map (·.r) = rs
  ed : os.map (·.d) = ds
  el : os.map (·.l) = ls
  hE : H E = some (.lst (hs.map fun h => V.ref h.1))
  nE : ∀ (i : Nat) (o : Ob), os[i]? = some o → ¬ o.fp E
  pr : ∀ q ∈ P, H q.1 = some q.2 ∧ q.1 ≠ E ∧ ∀ (i : Nat) (o : Ob), os[i]? = some o → ¬ o.fp q.1
  held : ∀ h ∈ hs, H h.1 = some (.tup [.ref h.2.1, .ref h.2.2]) ∧ h.2.1 ∉ N ∧ ∃ (vs ws : List V) (dd : List Dt), (h.2.1, HO.lst vs) ∈ P ∧ (h.2.2, HO.lst ws) ∈ P ∧ vs.length = dd.length ∧ ws.length = dd.length ∧ (∀ d ∈ dd, NoL d) ∧ (∀ (j : Nat) (v : V) (d : Dt), vs[j]? = some v → dd[j]? = some d → DtAt H 4 v d) ∧ ∀ (j : Nat) (v : V) (d : Dt), ws[j]? = some v → dd[j]? = some d → DtAt H 4 v d
  pw : hs.Pairwise fun h h' => h'.2.1 ≠ h.2.1 ∧ h'.2.2 ≠ h.2.1
  nh : hs.length ≤ 2 * n
section
variable {C : Addr} {H H' : Hp} {L n : Nat} {rs ds ls N : List Addr} {E : Addr} {P : List (Addr × HO)} {os : List Ob} {hs : List (Addr × Addr × Addr)}
theorem LI.same (h : LI C H L n rs ds ls E N P os hs) (s : Same H H') : LI C H' L n rs ds ls E N P os hs :=
  ⟨fun i o e => ⟨(h.ob i o e).1.keep (fun _ _ _ q => s _ _ q) (fun _ _ q => s _ _ q), (h.ob i o e).2⟩, h.dj, h.er, h.ed, h.el, s _ _ h.hE, h.nE, fun q hq => ⟨s _ _ (h.pr q hq).1, (h.pr q hq).2⟩, fun x hx => by
    obtain ⟨a, b, vs, ws, dd, c1, c2, c3, c4, c5, c6, c7⟩ := h.held x hx
    exact ⟨s _ _ a, b, vs, ws, dd, c1, c2, c3, c4, c5, fun j v d e1 e2 => (c6 j v d e1 e2).same s, fun j v d e1 e2 => (c7 j v d e1 e2).same s⟩, h.pw, h.nh⟩
theorem LI.up (h : LI C H L n rs ds ls E N P os hs) : LI C H L (n + 1) rs ds ls E N P os hs :=
  ⟨fun i o e => ⟨(h.ob i o e).1, Nat.le_succ_of_le (h.ob i o e).2⟩, h.dj, h.er, h.ed, h.el, h.hE, h.nE, h.pr, h.held, h.pw, Nat.le_trans h.nh (by omega)⟩
theorem LI.fresh (h : LI C H L n rs ds ls E N P os hs) {t : Addr} (ht : H t = none) : t ≠ E ∧ (∀ (i : Nat) (o : Ob), os[i]? = some o → ¬ o.fp t) ∧ ∀ q ∈ P, t ≠ q.1 := by
  refine ⟨(ne_of_none h.hE ht).symm, fun i o e z => ?_, fun q hq => (ne_of_none (h.pr q hq).1 ht).symm⟩
  obtain ⟨x, q⟩ := (h.ob i o e).1.there z
  rw [ht] at q; cases q
theorem LI.step (h : LI C H L n rs ds ls E N P os hs) {w : Nat} {o o' : Ob} (ho : os[w]? = some o) (h' : ObAt C H' L o') (hb : o'.S.made ≤ n + 1) (k : ∀ b x, ¬ o.fp b → H b = some x → H' b = some x) (g : ∀ b, o'.fp b → o.fp b ∨ H b = none) (e1 : o'.r = o.r) (e2 : o'.d = o.d) (e3 : o'.l = o.l) :
    LI C H' L n rs ds ls E N P (os.set w o') hs := by
  have hw : w < os.length := (List.getElem?_eq_some_iff.mp ho).1
  have kt : ∀ b xs, H b = some (.tup xs) → H' b = some (.tup xs) := fun b xs e => k b _ ((h.ob w o ho).1.notup e) e
  have at' : ∀ (i : Nat) (p : Ob), (os.set w o')[i]? = some p → (i = w ∧ p = o') ∨ (i ≠ w ∧ os[i]? = some p) := fun i p e => by
    by_cases z : w = i
    · subst z
      rw [List.getElem?_set_self hw] at e
      exact .inl ⟨rfl, (Option.some.inj e).symm⟩
    · rw [List.getElem?_set_ne z] at e
      exact .inr ⟨Ne.symm z, e⟩
  have out : ∀ {b : Addr} {x : HO}, H b = some x → ¬ o.fp b → ¬ o'.fp b := fun {b x} e nb z => by
    rcases g b z with q | q
    · exact nb q
    · rw [q] at e; cases e
  have mp : ∀ (f : Ob → Addr), f o' = f o → (os.set w o').map f = os.map f := fun f e => by
    rw [List.map_set]
    refine List.ext_getElem? fun i => ?_
    by_cases z : w = i
    · subst z; rw [List.getElem?_set_self (by rw [List.length_map]; exact hw), List.getElem?_map, ho, e]; rfl
    · rw [List.getElem?_set_ne z]
  refine ⟨fun i p e => ?_, fun i j p q hij e f b hpb => ?_, (mp _ e1).trans h.er, (mp _ e2).trans h.ed, (mp _ e3).trans h.el, k _ _ (h.nE w o ho) h.hE, fun i p e => ?_, fun q hq => ?_, fun x hx => ?_, h.pw, h.nh⟩
  · rcases at' i p e with ⟨rfl, rfl⟩ | ⟨z, e⟩
    · exact ⟨h', hb⟩
    · exact ⟨(h.ob i p e).1.keep (fun b x hb q => k b x (h.dj i w p o z e ho b hb) q) kt, (h.ob i p e).2⟩
  · rcases at' i p e with ⟨z1, z2⟩ | ⟨z, e'⟩
    · rcases at' j q f with ⟨z3, z4⟩ | ⟨z3, f'⟩
      · exact absurd (z1.trans z3.symm) hij
      · intro hq
        obtain ⟨x, hx⟩ := (h.ob j q f').1.there hq
        rw [z2] at hpb
        exact out hx (h.dj j w q o z3 f' ho b hq) hpb
    · rcases at' j q f with ⟨z3, z4⟩ | ⟨z3, f'⟩
      · obtain ⟨x, hx⟩ := (h.ob i p e').1.there hpb
        rw [z4]
        exact out hx (h.dj i w p o z e' ho b hpb)
      · exact h.dj i j p q hij e' f' b hpb
  · rcases at' i p e with ⟨rfl, rfl⟩ | ⟨z, e⟩
    · exact out h.hE (h.nE i o ho)
    · exact h.nE i p e
  · obtain ⟨a, b, c⟩ := h.pr q hq
    refine ⟨k _ _ (c w o ho) a, b, fun i p e => ?_⟩
    rcases at' i p e with ⟨rfl, rfl⟩ | ⟨z, e⟩
    · exact out a (c i o ho)
    · exact c i p e
  · obtain ⟨a, b, vs, ws, dd, c1, c2, c3, c4, c5, c6, c7⟩ := h.held x hx
    exact ⟨kt _ _ a, b, vs, ws, dd, c1, c2, c3, c4, c5, fun j v d e1 e2 => (c6 j v d e1 e2).keepT kt (c5 d (List.mem_of_getElem? e2)), fun j v d e1 e2 => (c7 j v d e1 e2).keepT kt (c5 d (List.mem_of_getElem? e2))⟩
theorem LI.push (h : LI C H L n rs ds ls E N P os hs) {q t u : Addr} {vs ws : List V} {dd : List Dt} (hq : H q = some (.tup [.ref t, .ref u])) (ht : H t = some (.lst vs)) (hu : H u = some (.lst ws)) (ft : t ≠ E ∧ (∀ (i : Nat) (o : Ob), os[i]? = some o → ¬ o.fp t) ∧ ∀ q ∈ P, t ≠ q.1)
    (fu : u ≠ E ∧ (∀ (i : Nat) (o : Ob), os[i]? = some o → ¬ o.fp u) ∧ ∀ q ∈ P, u ≠ q.1) (nN : t ∉ N) (l1 : vs.length = dd.length) (l2 : ws.length = dd.length) (hn : ∀ d ∈ dd, NoL d) (d1 : ∀ (j : Nat) (v : V) (d : Dt), vs[j]? = some v → dd[j]? = some d → DtAt H 4 v d) (d2 : ∀ (j : Nat) (v : V) (d : Dt), ws[j]? = some v → dd[j]? = some d → DtAt H 4 v d) (hl : hs.length + 1 ≤ 2 * n) :
    LI C (upd H E (.lst ((hs.map fun h => V.ref h.1) ++ [.ref q]))) L n rs ds ls E N (P ++ [(t, .lst vs), (u, .lst ws)]) os (hs ++ [(q, t, u)]) := by
  have k : ∀ b x, b ≠ E → H b = some x → upd H E (.lst ((hs.map fun h => V.ref h.1) ++ [.ref q])) b = some x := fun b x nb e => by rw [upd_ne nb]; exact e
  have kt : ∀ b xs, H b = some (.tup xs) → upd H E (.lst ((hs.map fun h => V.ref h.1) ++ [.ref q])) b = some (.tup xs) := fun b xs e => k b _ (ne_of e h.hE (by intro z; cases z)) e
  refine ⟨fun i o e => ⟨(h.ob i o e).1.keep (fun b x hb q => k b x (fun z => h.nE i o e (z ▸ hb)) q) kt, (h.ob i o e).2⟩, h.dj, h.er, h.ed, h.el, ?_, h.nE, fun p hp => ?_, fun x hx => ?_, ?_, ?_⟩
  · rw [upd_same, List.map_append]; rfl
  · rcases List.mem_append.mp hp with hp | hp
    · obtain ⟨a, b, c⟩ := h.pr p hp
      exact ⟨k _ _ b a, b, c⟩
    · simp only [List.mem_cons, List.not_mem_nil, or_false] at hp
      rcases hp with rfl | rfl
      · exact ⟨k _ _ ft.1 ht, ft.1, ft.2.1⟩
      · exact ⟨k _ _ fu.1 hu, fu.1, fu.2.1⟩
  · rcases List.mem_append.mp hx with hx | hx
    · obtain ⟨a, b, vs, ws, dd, c1, c2, c3, c4, c5, c6, c7⟩ := h.held x hx
      exact ⟨kt _ _ a, b, vs, ws, dd, List.mem_append_left _ c1, List.mem_append_left _ c2, c3, c4, c5, fun j v d e1 e2 => (c6 j v d e1 e2).keepT kt (c5 d (List.mem_of_getElem? e2)), fun j v d e1 e2 => (c7 j v d e1 e2).keepT kt (c5 d (List.mem_of_getElem? e2))⟩
    · rw [List.mem_singleton.mp hx]
      exact ⟨kt _ _ hq, nN, vs, ws, dd, List.mem_append_right _ (by simp), List.mem_append_right _ (by simp), l1, l2, hn, fun j v d e1 e2 => (d1 j v d e1 e2).keepT kt (hn d (List.mem_of_getElem? e2)), fun j v d e1 e2 => (d2 j v d e1 e2).keepT kt (hn d (List.mem_of_getElem? e2))⟩
  · refine List.pairwise_append.mpr ⟨h.pw, List.pairwise_singleton _ _, fun x hx y hy => ?_⟩
    rw [List.mem_singleton.mp hy]
    obtain ⟨_, _, vs, _, _, c1, _⟩ := h.held x hx
    exact ⟨ft.2.2 _ c1, fu.2.2 _ c1⟩
  · rw [List.length_append]; exact hl
end
theorem new_ob {C : Addr} {H H1 : Hp} {x dx : Addr} {S : RS} {a : RA} (nx : H x = none) (ndx : H dx = none) (k1 : ∀ b o, upd (upd H dx (.own x)) x (.ins C dx []) b = some o → b ≠ x → H1 b = some o) (ho : ∀ b, a.own x b → b = x ∨ upd (upd H dx (.own x)) x (.ins C dx []) b = none) : Same H H1 ∧ ∀ b, a.own x b → H b = none := by
  refine ⟨fun b o e => k1 b o ?_ (ne_of_none e nx), fun b hb => ?_⟩
  · rw [upd_ne (ne_of_none e nx), upd_ne (ne_of_none e ndx)]; exact e
  · rcases ho b hb with rfl | q
    · exact nx
    · by_cases h1 : b = x
      · rw [h1]; exact nx
      · by_cases h2 : b = dx
        · rw [h2]; exact ndx
        · rw [upd_ne h1, upd_ne h2] at q; exact q
theorem ob_at {os : List Ob} {f : Ob → Addr} {rs : List Addr} (e : os.map f = rs) {w : Nat} {o : Ob} (h : os[w]? = some o) : atI (rs.map V.ref) (w : Int) = some (V.ref (f o)) := ref_at (by rw [← e, List.getElem?_map, h]; rfl)
theorem ok_law (T : Txt K mg A) : FnOk P w K mg base CX0 9 A.f_law A.d_law ["_law_script"] (spLaw K) := by
  have G_Rooms___init__ : FnOk P w K mg base CX0 3 A.f_Rooms___init__ A.d_Rooms___init__ ["self", "letters"] (spNew A.c_Rooms) := ok_Rooms___init__ T
  have G__law_step : FnOk P w K mg base CX0 1 A.f__law_step A.d__law_step ["_law_number", "_law_letters"] spStep := ok__law_step T
  have G__law_seen : FnOk P w K mg base CX0 5 A.f__law_seen A.d__law_seen ["_law_rooms", "_law_letters", "_law_ways", "_law_rows_here"] (spSeen A.c_Rooms) := ok__law_seen T
  have G__law_cell_at : FnOk P w K mg base CX0 1 A.f__law_cell_at A.d__law_cell_at ["_law_script", "_law_k"] (spCell K) := ok__law_cell_at T
  have G__law_by : FnOk P w K mg base CX0 2 A.f__law_by A.d__law_by ["_law_rooms", "_law_room", "_law_step_here", "_law_ways"] (spBy A.c_Rooms) := ok__law_by T
  have G_Rooms_make : FnOk P w K mg base CX0 3 A.f_Rooms_make A.d_Rooms_make ["self", "room", "step"] (spMake A.c_Rooms) := ok_Rooms_make T
  have G__law_whole : FnOk P w K mg base CX0 1 A.f__law_whole A.d__law_whole ["_law_found"] spWhole := ok__law_whole T
  have G_Rooms_paper : FnOk P w K mg base CX0 4 A.f_Rooms_paper A.d_Rooms_paper ["self"] (spPaper 1 A.c_Rooms) := ok_Rooms_paper T
  have G_Rooms_standing : FnOk P w K mg base CX0 1 A.f_Rooms_standing A.d_Rooms_standing ["self"] (spStanding A.c_Rooms) := ok_Rooms_standing T
  refine T.law.F.ok sc_law (fun vs H Q E h => ?_) (fun cdv AA outer s H vs Q E hr h => ?_)
  · obtain ⟨sa, ns, rfl, _⟩ := h
    rfl
  · obtain ⟨sa, ns, rfl, hS, hns, k⟩ := h
    have hu2 := hu_of hr
    have hu8 := Nat.lt_of_le_of_lt (Nat.add_le_add_left (by decide : 8 ≤ 64) _) hr.units
    refine ⟨_, (pss_cons (ps_set (i := 1) sc_law.nd rfl (Or.inl rfl) (pe_op op_add pe_int (pe_op op_mod (pe_call (G__law_cell_at) (hr.mono (by decide)) rfl T._law_cell_at.m T._law_cell_at.F.kp T._law_cell_at.b .nil pass0 (pa_cons (pv 0) (pa_cons pe_int pa_nil))) pe_int)))
      (pss_cons (ps_cut (ps_if (pt_cmpR op_eq (pe_op op_mod (pe_op op_fdiv (pe_call (G__law_cell_at) (hr.mono (by decide)) rfl T._law_cell_at.m T._law_cell_at.F.kp T._law_cell_at.b .nil pass0 (pa_cons (pv 0) (pa_cons pe_int pa_nil))) pe_int) pe_int) pe_int (nomark _))
        (pss_one (ps_set (i := 1) sc_law.nd rfl (Or.inl rfl) pe_int))
        pss_nil))
      (pss_cons (ps_set (i := 2) sc_law.nd rfl (Or.inl rfl) (pe_lst (pa_cons (pe_make (mk_Rooms T) (G_Rooms___init__) (hr.mono (by decide)) rfl T.m_Rooms T.Rooms___init__.b .nil pass0 (pa_cons (pv 1) pa_nil)) (pa_cons (pe_make (mk_Rooms T) (G_Rooms___init__) (hr.mono (by decide)) rfl T.m_Rooms T.Rooms___init__.b .nil pass0 (pa_cons (pv 1) pa_nil)) pa_nil))))
      (pss_cons (ps_set (i := 3) sc_law.nd rfl (Or.inl rfl) (pe_lst (pa_cons pe_dnewT (pa_cons pe_dnewT pa_nil))))
      (pss_cons (ps_set (i := 4) sc_law.nd rfl (Or.inl rfl) (pe_lst (pa_cons (pe_lst pa_nil) (pa_cons (pe_lst pa_nil) pa_nil))))
      (pss_cons (ps_set (i := 5) sc_law.nd rfl (Or.inl rfl) (pe_lst pa_nil))
      (pss_cons (ps_for PassesOwn.never rfl (pi_list (pe_slice sl_list (pv 0) (po_some pe_int) (po_some pe_int))) (pg_name (i := 6) sc_law.nd rfl (Or.inl rfl))
        (pss_cons (ps_set (i := 7) sc_law.nd rfl (Or.inl rfl) (pe_op op_mod (pv 6) pe_int))
        (pss_cons (ps_set (i := 8) sc_law.nd rfl (Or.inl rfl) (pe_op op_add (pe_callB call_len_seq rfl T.z_len PySem.boot_len (pa_cons (pe_ix ix_list (pv 4) (pv 7) (fun _ _ => rfl)) pa_nil)) pe_int))
        (pss_cons (ps_cut (ps_set (i := 9) sc_law.nd rfl (Or.inl rfl) (pe_op op_mod (pe_op op_mod (pe_op op_mul (pe_op op_fdiv (pv 6) pe_int) pe_int) pe_int) (pv 8))))
        (pss_cons (ps_set (i := 10) sc_law.nd rfl (Or.inl rfl) (pe_call (G__law_step) (hr.mono (by decide)) rfl T._law_step.m T._law_step.F.kp T._law_step.b .nil pass0 (pa_cons (pe_op op_mod (pe_op op_mul (pe_op op_fdiv (pv 6) pe_int) pe_int) pe_int) (pa_cons (pv 1) pa_nil))))
        (pss_cons (ps_if (pt_not (pt_val (pe_call (G__law_by) (hr.mono (by decide)) rfl T._law_by.m T._law_by.F.kp T._law_by.b .nil pass0 (pa_cons (pe_ix ix_list (pv 2) (pv 7) (fun _ _ => rfl)) (pa_cons (pv 9) (pa_cons (pv 10) (pa_cons (pe_ix ix_list (pv 3) (pv 7) (fun _ _ => rfl)) pa_nil)))))))
          (pss_one (ps_ret pe_bl))
          pss_nil)
        (pss_cons (ps_cut (ps_if (pt_cmp (pc_dnotin hu2 (pe_tup (pa_cons (pv 9) (pa_cons (pv 10) pa_nil))) (pe_ix ix_list (pv 3) (pv 7) (fun _ _ => rfl))))
          (pss_cons (ps_set (i := 11) sc_law.nd rfl (Or.inl rfl) (pe_meth (pe_ix ix_list (pv 2) (pv 7) (fun _ _ => rfl)) (cl_Rooms T) T.Rooms_make.m (G_Rooms_make) (hr.mono (by decide)) T.Rooms_make.b .nil pass0 (pa_cons (pv 9) (pa_cons (pv 10) pa_nil))))
          (pss_cons (ps_cut (ps_if (PW.pt (pw_or (pt_not (pt_val (pe_call (G__law_whole) (hr.mono (by decide)) rfl T._law_whole.m T._law_whole.F.kp T._law_whole.b .nil pass0 (pa_cons (pv 11) pa_nil)))) (pw_or1 (pt_cmpR op_ne (pv 11) (pv 8) (nomark _)))))
            (pss_one (ps_ret pe_bl))
            pss_nil))
          (pss_cons (ps_dput hu2 (pe_ix ix_list (pv 3) (pv 7) (fun _ _ => rfl)) (pe_tup (pa_cons (pv 9) (pa_cons (pv 10) pa_nil))) (pv 8) rfl)
          (pss_cons (ps_dput hu2 (pe_ix ix_list (pv 3) (pv 7) (fun _ _ => rfl)) (pe_tup (pa_cons (pv 8) (pa_cons (pe_un un_neg (pv 10)) pa_nil))) (pv 9) rfl)
          (pss_one (ps_expr (pe_bm PySem.F.plainAttrs_list PySem.F.slot_list_append PySem.F.type_list_append mt_append (pe_ix ix_list (pv 4) (pv 7) (fun _ _ => rfl)) (pa_cons (pe_tup (pa_cons (pe_strX (l := [110, 101, 119]) rfl) (pa_cons (pv 9) (pa_cons (pv 10) (pa_cons (pv 8) pa_nil))))) pa_nil))))))))
          pss_nil))
        (pss_one (ps_cut (ps_if (pt_cmpR op_eq (pe_op op_mod (pv 6) pe_int) pe_int (nomark _))
          (pss_cons (ps_expr (pe_bm PySem.F.plainAttrs_list PySem.F.slot_list_append PySem.F.type_list_append mt_append (pv 5) (pa_cons (pe_tup (pa_cons (pe_meth0 (pe_ix ix_list (pv 2) (pv 7) (fun _ _ => rfl)) (cl_Rooms T) T.Rooms_paper.m (G_Rooms_paper) (hr.mono (by decide)) T.Rooms_paper.b .nil pass0) (pa_cons (pe_callTy call_list_of rfl T.z_list PyProof.Rows.boot_list (pa_cons (pe_ix ix_list (pv 4) (pv 7) (fun _ _ => rfl)) pa_nil)) pa_nil))) pa_nil)))
          (pss_one (ps_expr (pe_bm PySem.F.plainAttrs_list PySem.F.slot_list_append PySem.F.type_list_append mt_append (pv 5) (pa_cons (pe_tup (pa_cons (pe_meth0 (pe_ix ix_list (pv 2) (pv 7) (fun _ _ => rfl)) (cl_Rooms T) T.Rooms_standing.m (G_Rooms_standing) (hr.mono (by decide)) T.Rooms_standing.b .nil pass0) (pa_cons (pe_listRange1 rfl rfl T.z_list rfl T.z_range (pa_cons (pe_op op_add (pe_callB call_len_seq rfl T.z_len PySem.boot_len (pa_cons (pe_ix ix_list (pv 4) (pv 7) (fun _ _ => rfl)) pa_nil)) pe_int) pa_nil)) pa_nil))) pa_nil)))))
          pss_nil))))))))))
      (pss_cons (ps_for PassesOwn.never rfl (pi_range1 rfl T.z_range (pa_cons pe_int pa_nil)) (pg_name (i := 7) sc_law.nd rfl (Or.inl rfl))
        (pss_one (ps_if (pt_not (pt_val (pe_call (G__law_seen) (hr.mono (by decide)) rfl T._law_seen.m T._law_seen.F.kp T._law_seen.b .nil pass0 (pa_cons (pe_ix ix_list (pv 2) (pv 7) (fun _ _ => rfl)) (pa_cons (pv 1) (pa_cons (pe_ix ix_list (pv 3) (pv 7) (fun _ _ => rfl)) (pa_cons (pe_ix ix_list (pv 4) (pv 7) (fun _ _ => rfl)) pa_nil)))))))
          (pss_one (ps_ret pe_bl))
          pss_nil)))
      (pss_cons (ps_for PassesOwn.never rfl (pi_list (pv 5)) (pg_tup rfl (pgs_cons (pg_name (i := 12) sc_law.nd rfl (Or.inl rfl)) (pgs_cons (pg_name (i := 13) sc_law.nd rfl (Or.inl rfl)) pgs_nil)))
        (pss_cons (ps_if (pt_cmpR (op_neDt hu8) (pv 12) (pv 13) (nomark _))
          (pss_one (ps_ret pe_bl))
          pss_nil)
        (pss_one (ps_expr (pe_bm0 PySem.F.plainAttrs_list PySem.F.slot_list_clear PySem.F.type_list_clear mt_clear (pv 12))))))
      (pss_one (ps_ret (pe_and (pe_call (G__law_seen) (hr.mono (by decide)) rfl T._law_seen.m T._law_seen.F.kp T._law_seen.b .nil pass0 (pa_cons (pe_ix ix_list (pv 2) pe_int (fun _ _ => rfl)) (pa_cons (pv 1) (pa_cons (pe_ix ix_list (pv 3) pe_int (fun _ _ => rfl)) (pa_cons (pe_ix ix_list (pv 4) pe_int (fun _ _ => rfl)) pa_nil))))) (pe_one (pe_call (G__law_seen) (hr.mono (by decide)) rfl T._law_seen.m T._law_seen.F.kp T._law_seen.b .nil pass0 (pa_cons (pe_ix ix_list (pv 2) pe_int (fun _ _ => rfl)) (pa_cons (pv 1) (pa_cons (pe_ix ix_list (pv 3) pe_int (fun _ _ => rfl)) (pa_cons (pe_ix ix_list (pv 4) pe_int (fun _ _ => rfl)) pa_nil)))))))))))))))))), ?_⟩
    refine ⟨_, rfl, sa, ns, 0, rfl, hS, by decide, fun y => ⟨_, _, rfl, rfl, (by show (0 : Int) < 4; decide), _, _, rfl, rfl, ?_⟩⟩
    have b1 := Int.emod_nonneg y (show (4 : Int) ≠ 0 by decide)
    have b2 := Int.emod_lt_of_pos y (show (0 : Int) < 4 by decide)
    obtain ⟨L0, eL0⟩ : ∃ L0 : Nat, 1 + y % 4 = (L0 : Int) := ⟨(1 + y % 4).toNat, by omega⟩
    refine ⟨fun σ' H' => ∃ L : Nat, σ' = [some (.ref sa), some (.int (L : Int)), none, none, none, none, none, none, none, none, none, none, none, none] ∧ H' = H ∧ 1 ≤ L ∧ L ≤ 200, ?_, ?_⟩
    · refine ⟨_, rfl, sa, ns, 0, rfl, hS, by decide, fun y2 => ⟨_, _, rfl, rfl, ⟨by decide, by decide⟩, _, _, rfl, rfl, (by show (0 : Int) < 5; decide), rfl, _, rfl, ite2 (fun h => ?_) (fun h => ?_)⟩⟩
      · exact ⟨200, rfl, rfl, by decide, by decide⟩
      · refine ⟨L0, ?_, rfl, by omega, by omega⟩
        rw [← eL0]; rfl
    rintro σ' H' ⟨L, rfl, rfl, hL1, hL2⟩
    refine ⟨_, rfl, fun x0 dx0 nx0 ndx0 nex0 => ⟨x0, dx0, L, rfl, upd_same, hL1, hL2, fun a0 H1 k1 hR0 ho0 => ⟨rfl, ?_⟩⟩⟩
    obtain ⟨s1, own0⟩ := new_ob (C := A.c_Rooms) (S := RS.new L (stL (2 * L))) nx0 ndx0 k1 ho0
    refine ⟨_, rfl, fun x1 dx1 nx1 ndx1 nex1 => ⟨x1, dx1, L, rfl, upd_same, hL1, hL2, fun a1 H2 k2 hR1 ho1 => ⟨rfl, ?_⟩⟩⟩
    obtain ⟨s2, own1⟩ := new_ob (C := A.c_Rooms) (S := RS.new L (stL (2 * L))) nx1 ndx1 k2 ho1
    have hR0' := hR0.same s2
    clear k1 k2 ho0 ho1
    refine ⟨(by show 2 ≤ sizeLine; decide), fun B nB => ?_⟩
    have s3 := Same.upd (o := .lst [.ref x0, .ref x1]) nB
    have hB3 : upd H2 B (.lst [.ref x0, .ref x1]) B = some (.lst [.ref x0, .ref x1]) := upd_same
    generalize upd H2 B (.lst [.ref x0, .ref x1]) = H3 at s3 hB3 ⊢
    intro d0 nd0
    have s4 := Same.upd (o := .dT []) nd0
    have hd04 : upd H3 d0 (.dT []) d0 = some (.dT []) := upd_same
    generalize upd H3 d0 (.dT []) = H4 at s4 hd04 ⊢
    intro d1 nd1
    have s5 := Same.upd (o := .dT []) nd1
    have hd15 : upd H4 d1 (.dT []) d1 = some (.dT []) := upd_same
    generalize upd H4 d1 (.dT []) = H5 at s5 hd15 ⊢
    refine ⟨(by show 2 ≤ sizeLine; decide), fun W nW => ?_⟩
    have s6 := Same.upd (o := .lst [.ref d0, .ref d1]) nW
    have hW6 : upd H5 W (.lst [.ref d0, .ref d1]) W = some (.lst [.ref d0, .ref d1]) := upd_same
    generalize upd H5 W (.lst [.ref d0, .ref d1]) = H6 at s6 hW6 ⊢
    refine ⟨Nat.zero_le _, fun l0 nl0 => ?_⟩
    have s7 := Same.upd (o := .lst []) nl0
    have hl07 : upd H6 l0 (.lst []) l0 = some (.lst []) := upd_same
    generalize upd H6 l0 (.lst []) = H7 at s7 hl07 ⊢
    refine ⟨Nat.zero_le _, fun l1 nl1 => ?_⟩
    have s8 := Same.upd (o := .lst []) nl1
    have hl18 : upd H7 l1 (.lst []) l1 = some (.lst []) := upd_same
    generalize upd H7 l1 (.lst []) = H8 at s8 hl18 ⊢
    refine ⟨(by show 2 ≤ sizeLine; decide), fun R nR => ?_⟩
    have s9 := Same.upd (o := .lst [.ref l0, .ref l1]) nR
    have hR9 : upd H8 R (.lst [.ref l0, .ref l1]) R = some (.lst [.ref l0, .ref l1]) := upd_same
    generalize upd H8 R (.lst [.ref l0, .ref l1]) = H9 at s9 hR9 ⊢
    refine ⟨Nat.zero_le _, fun E nE => ?_⟩
    have s10 := Same.upd (o := .lst []) nE
    have hE10 : upd H9 E (.lst []) E = some (.lst []) := upd_same
    generalize upd H9 E (.lst []) = H10 at s10 hE10 ⊢
    have s210 := s3.trans (s4.trans (s5.trans (s6.trans (s7.trans (s8.trans (s9.trans s10))))))
    have s010 := s1.trans (s2.trans s210)
    refine ⟨_, rfl, 1, rfl, 63, rfl, sa, ns.map V.int, rfl, s010.seq hS, fun lp nlp => ?_⟩
    show _
    rw [show (ns.map V.int) = intV ns from rfl, cut_ints]
    generalize hcs : (ns.drop (HT.sIx ns.length 0 (some 1))).take (HT.sIx ns.length ns.length (some 63) - HT.sIx ns.length 0 (some 1)) = cs
    have hcl : cs.length ≤ 63 := by
      rw [← hcs, List.length_take, List.length_drop]
      omega
    have s11 := Same.upd (o := .lst (intV cs)) nlp
    have hlp11 : upd H10 lp (.lst (intV cs)) lp = some (.lst (intV cs)) := upd_same
    generalize upd H10 lp (.lst (intV cs)) = H11 at s11 hlp11 ⊢
    have f : ∀ {H1 H2 : Hp} {b c : Addr} {x : HO}, Same H1 H2 → H1 b = some x → H2 c = none → b ≠ c := fun s e n => ne_of_none (s _ _ e) n
    have g0 : ∀ {H2 : Hp} {c : Addr}, Same H1 H2 → H2 c = none → ¬ a0.own x0 c := fun {H2 c} s n z => by
      obtain ⟨o, e⟩ := hR0.there z
      have := s _ _ e; rw [n] at this; cases this
    have g1 : ∀ {H3 : Hp} {c : Addr}, Same H2 H3 → H3 c = none → ¬ a1.own x1 c := fun {H3 c} s n z => by
      obtain ⟨o, e⟩ := hR1.there z
      have := s _ _ e; rw [n] at this; cases this
    let o0 : Ob := ⟨x0, d0, l0, RS.new L (stL (2 * L)), a0, [], []⟩
    let o1 : Ob := ⟨x1, d1, l1, RS.new L (stL (2 * L)), a1, [], []⟩
    have t3 := s3
    have t4 := t3.trans s4
    have t5 := t4.trans s5
    have t6 := t5.trans s6
    have t7 := t6.trans s7
    have t8 := t7.trans s8
    have t9 := t8.trans s9
    have t10 := t9.trans s10
    have t11 := t10.trans s11
    have nfp0 : ∀ {H3 : Hp} {c : Addr}, Same H2 H3 → H3 c = none → c ≠ d0 → c ≠ l0 → ¬ o0.fp c := fun s n e1 e2 z => by
      rcases z with z | z | z
      · exact g0 (s2.trans s) n z
      · exact e1 z
      · exact e2 z
    have nfp1 : ∀ {H3 : Hp} {c : Addr}, Same H2 H3 → H3 c = none → c ≠ d1 → c ≠ l1 → ¬ o1.fp c := fun s n e1 e2 z => by
      rcases z with z | z | z
      · exact g1 s n z
      · exact e1 z
      · exact e2 z
    have ob0 : ObAt A.c_Rooms H11 L o0 := ⟨hR0'.same t11, wf_new _ _, (s5.trans (s6.trans (s7.trans (s8.trans (s9.trans (s10.trans s11)))))) _ _ hd04, (s8.trans (s9.trans (s10.trans s11))) _ _ hl07, ⟨rfl, fun i p d h => by simp [o0] at h⟩, mt_new _ _, g0 (s2.trans t6) nl0⟩
    have ob1 : ObAt A.c_Rooms H11 L o1 := ⟨hR1.same t11, wf_new _ _, (s6.trans (s7.trans (s8.trans (s9.trans (s10.trans s11))))) _ _ hd15, (s9.trans (s10.trans s11)) _ _ hl18, ⟨rfl, fun i p d h => by simp [o1] at h⟩, mt_new _ _, g1 t7 nl1⟩
    have d01 : ∀ b, o0.fp b → ¬ o1.fp b := fun b h0 h1 => by
      rcases h0 with h0 | h0 | h0
      · rcases h1 with h1 | h1 | h1
        · have n := own1 b h1
          obtain ⟨o, e⟩ := hR0.there h0
          rw [n] at e; cases e
        · subst h1; exact g0 (s2.trans t4) nd1 h0
        · subst h1; exact g0 (s2.trans t7) nl1 h0
      · have e0 : b = d0 := h0
        rcases h1 with h1 | h1 | h1
        · rw [e0] at h1; exact g1 t3 nd0 h1
        · have e : d0 = d1 := e0.symm.trans h1
          rw [← e, hd04] at nd1; cases nd1
        · have e : d0 = l1 := e0.symm.trans h1
          have := (s5.trans (s6.trans s7)) _ _ hd04
          rw [e, nl1] at this; cases this
      · have e0 : b = l0 := h0
        rcases h1 with h1 | h1 | h1
        · rw [e0] at h1; exact g1 t6 nl0 h1
        · have e : l0 = d1 := e0.symm.trans h1
          have := s6 _ _ hd15
          rw [← e, nl0] at this; cases this
        · have e : l0 = l1 := e0.symm.trans h1
          rw [← e, hl07] at nl1; cases nl1
    have nd : ∀ {b : Addr} {x y : HO} {c : Addr}, H11 b = some x → H11 c = some y → x ≠ y → b ≠ c := fun e1 e2 n => ne_of e1 e2 n
    have eB := (s4.trans (s5.trans (s6.trans (s7.trans (s8.trans (s9.trans (s10.trans s11))))))) _ _ hB3
    have eW := (s7.trans (s8.trans (s9.trans (s10.trans s11)))) _ _ hW6
    have eR := (s10.trans s11) _ _ hR9
    have eE := s11 _ _ hE10
    have LI0 : LI A.c_Rooms H11 L 0 [x0, x1] [d0, d1] [l0, l1] E [B, W, R] [(B, .lst ([x0, x1].map V.ref)), (W, .lst ([d0, d1].map V.ref)), (R, .lst ([l0, l1].map V.ref)), (lp, .lst (intV cs))] [o0, o1] [] := by
      have two : ∀ (i : Nat) (o : Ob), [o0, o1][i]? = some o → o = o0 ∨ o = o1 := fun i o e => by
        have := List.mem_of_getElem? e
        simpa using this
      refine ⟨fun i o e => ?_, fun i j o p hij e f b hb => ?_, rfl, rfl, rfl, eE, fun i o e => ?_, fun q hq => ?_, (fun h hh => by cases hh), List.Pairwise.nil, Nat.zero_le _⟩
      · rcases two i o e with rfl | rfl
        · exact ⟨ob0, Nat.le_refl _⟩
        · exact ⟨ob1, Nat.le_refl _⟩
      · rcases i with _ | _ | i
        · rcases j with _ | _ | j
          · exact absurd rfl hij
          · obtain rfl : o0 = o := Option.some.inj e
            obtain rfl : o1 = p := Option.some.inj f
            exact d01 b hb
          · simp at f
        · rcases j with _ | _ | j
          · obtain rfl : o1 = o := Option.some.inj e
            obtain rfl : o0 = p := Option.some.inj f
            exact fun z => d01 b z hb
          · exact absurd rfl hij
          · simp at f
        · simp at e
      · rcases two i o e with rfl | rfl
        · exact nfp0 t9 nE (f (s5.trans (s6.trans (s7.trans (s8.trans s9)))) hd04 nE).symm (f (s8.trans s9) hl07 nE).symm
        · exact nfp1 t9 nE (f (s6.trans (s7.trans (s8.trans s9))) hd15 nE).symm (f s9 hl18 nE).symm
      · simp only [List.mem_cons, List.not_mem_nil, or_false] at hq
        rcases hq with rfl | rfl | rfl | rfl
        · refine ⟨eB, (f (s4.trans (s5.trans (s6.trans (s7.trans (s8.trans s9))))) hB3 nE), fun i o e => ?_⟩
          rcases two i o e with rfl | rfl
          · exact nfp0 (fun _ _ e => e) nB (nd eB ob0.hd (by intro z; cases z)) (f (s4.trans (s5.trans s6)) hB3 nl0)
          · exact nfp1 (fun _ _ e => e) nB (nd eB ob1.hd (by intro z; cases z)) (f (s4.trans (s5.trans (s6.trans s7))) hB3 nl1)
        · refine ⟨eW, (f (s7.trans (s8.trans s9)) hW6 nE), fun i o e => ?_⟩
          rcases two i o e with rfl | rfl
          · exact nfp0 t5 nW (nd eW ob0.hd (by intro z; cases z)) (f (fun _ _ e => e) hW6 nl0)
          · exact nfp1 t5 nW (nd eW ob1.hd (by intro z; cases z)) (f s7 hW6 nl1)
        · refine ⟨eR, (f (fun _ _ e => e) hR9 nE), fun i o e => ?_⟩
          rcases two i o e with rfl | rfl
          · exact nfp0 t8 nR (nd eR ob0.hd (by intro z; cases z)) (f s8 hl07 nR).symm
          · exact nfp1 t8 nR (nd eR ob1.hd (by intro z; cases z)) (f (fun _ _ e => e) hl18 nR).symm
        · refine ⟨hlp11, (f (fun _ _ e => e) hE10 nlp).symm, fun i o e => ?_⟩
          rcases two i o e with rfl | rfl
          · exact nfp0 t10 nlp (nd hlp11 ob0.hd (by intro z; cases z)) (f (s8.trans (s9.trans s10)) hl07 nlp).symm
          · exact nfp1 t10 nlp (nd hlp11 ob1.hd (by intro z; cases z)) (f (s9.trans s10) hl18 nlp).symm
    clear_value o0 o1
    clear ob0 ob1 d01 nfp0 nfp1 g0 g1 eB eW eR eE nd f t3 t4 t5 t6 t7 t8 t9 t10 t11 s3 s4 s5 s6 s7 s8 s9 s10 s210 s010 own0 own1 hR0 hR1 hR0' hlp11 hE10 hR9 hl18 hl07 hW6 hd15 hd04 hB3
    have mB : (B, HO.lst ([x0, x1].map V.ref)) ∈ [(B, HO.lst ([x0, x1].map V.ref)), (W, .lst ([d0, d1].map V.ref)), (R, .lst ([l0, l1].map V.ref)), (lp, .lst (intV cs))] := by simp
    have mW : (W, HO.lst ([d0, d1].map V.ref)) ∈ [(B, HO.lst ([x0, x1].map V.ref)), (W, .lst ([d0, d1].map V.ref)), (R, .lst ([l0, l1].map V.ref)), (lp, .lst (intV cs))] := by simp
    have mR : (R, HO.lst ([l0, l1].map V.ref)) ∈ [(B, HO.lst ([x0, x1].map V.ref)), (W, .lst ([d0, d1].map V.ref)), (R, .lst ([l0, l1].map V.ref)), (lp, .lst (intV cs))] := by simp
    have mP : (lp, HO.lst (intV cs)) ∈ [(B, HO.lst ([x0, x1].map V.ref)), (W, .lst ([d0, d1].map V.ref)), (R, .lst ([l0, l1].map V.ref)), (lp, .lst (intV cs))] := by simp
    have nBWR : ∀ t, H11 t = none → t ∉ [B, W, R] := fun t ht z => by
      simp only [List.mem_cons, List.not_mem_nil, or_false] at z
      rcases z with rfl | rfl | rfl
      · have := (LI0.pr _ mB).1; rw [ht] at this; cases this
      · have := (LI0.pr _ mW).1; rw [ht] at this; cases this
      · have := (LI0.pr _ mR).1; rw [ht] at this; cases this
    generalize [(B, HO.lst ([x0, x1].map V.ref)), (W, HO.lst ([d0, d1].map V.ref)), (R, HO.lst ([l0, l1].map V.ref)), (lp, HO.lst (intV cs))] = P0 at LI0 mB mW mR mP
    generalize [o0, o1] = os0 at LI0
    generalize hrs : [x0, x1] = rs at LI0 mB
    generalize hds : [d0, d1] = ds at LI0 mW
    generalize hls : [l0, l1] = ls at LI0 mR
    have hrl : rs.length = 2 := by rw [← hrs]; rfl
    clear hrs hds hls
    refine ⟨lp, rfl, ⟨_, SqL.of (LI0.pr _ mP).1⟩, ?_⟩
    refine for_list (xs := intV cs) (fun n σ H2 => ∃ P os hs v6 v7 v8 v9 v10 v11, σ = [some (.ref sa), some (.int (L : Int)), some (.ref B), some (.ref W), some (.ref R), some (.ref E), v6, v7, v8, v9, v10, v11, none, none] ∧ LI A.c_Rooms H2 L n rs ds ls E [B, W, R] P os hs ∧ (∀ q ∈ P0, q ∈ P)) ⟨P0, os0, [], none, none, none, none, none, none, rfl, LI0, fun q h => h⟩ (fun n σ H2 _ ⟨P, os, hs, v6, v7, v8, v9, v10, v11, e, li, hP⟩ => SqL.of (li.pr _ (hP _ mP)).1) ?_ ?_
    · rintro n x σ H2 hx ⟨P, os, hs, v6, v7, v8, v9, v10, v11, rfl, li, hP⟩
      obtain ⟨z, rfl, hz⟩ := ints_of_at hx
      have hn : n < 63 := by have := (List.getElem?_eq_some_iff.mp hz).1; omega
      obtain ⟨w, ew, hw⟩ := emod_nat z (n := 2) (by decide)
      have ew' : z % 2 = (w : Int) := ew
      have hol : os.length = 2 := by have := congrArg List.length li.er; rw [List.length_map, hrl] at this; exact this
      have ho : os[w]? = some (os[w]'(by omega)) := List.getElem?_eq_getElem (by omega)
      generalize os[w]'(by omega) = o at ho
      obtain ⟨hO, hmn⟩ := li.ob w o ho
      have hB := (li.pr _ (hP _ mB)).1
      have hW := (li.pr _ (hP _ mW)).1
      have hR := (li.pr _ (hP _ mR)).1
      have aB := ob_at li.er ho
      have aW := ob_at li.ed ho
      have aL := ob_at li.el ho
      have hmk : ((o.ps.map V.ref).length : Int) + 1 = (o.S.made : Int) := by rw [List.length_map, hO.rows.1, ← hO.m.r]; omega
      have hmd : 1 ≤ o.S.made := by have := hO.m.r; omega
      refine ⟨_, rfl, _, _, rfl, rfl, (by show (0 : Int) < 2; decide), ?_⟩
      refine ⟨_, rfl, _, rfl, R, _, _, _, rfl, rfl, SqL.of hR, (by rw [ew']; exact aL), o.l, _, rfl, .inl (SqL.of hO.hl), _, _, rfl, rfl, ?_⟩
      refine ⟨fun σ' H' => ∃ c : Nat, σ' = [some (.ref sa), some (.int (L : Int)), some (.ref B), some (.ref W), some (.ref R), some (.ref E), some (.int z), some (.int (w : Int)), some (.int (o.S.made : Int)), some (.int (c : Int)), v10, v11, none, none] ∧ H' = H2 ∧ c < o.S.made, ?_, ?_⟩
      · refine ⟨_, rfl, _, _, rfl, rfl, ⟨by decide, by decide⟩, _, _, rfl, rfl, .inr ⟨by decide, by decide⟩, _, _, rfl, rfl, (by show (0 : Int) < 2147483647; decide), _, rfl, _, _, rfl, rfl, (by rw [hmk]; omega), ?_⟩
        obtain ⟨c, ec, hc⟩ := emod_nat (z / 2 * 48271 % 2147483647) (n := o.S.made) (by omega)
        refine ⟨c, ?_, rfl, hc⟩
        rw [← ew', ← ec, ← hmk]; rfl
      rintro σ' H' ⟨c, rfl, rfl, hc⟩
      refine ⟨_, rfl, _, _, rfl, rfl, ⟨by decide, by decide⟩, _, _, rfl, rfl, .inr ⟨by decide, by decide⟩, _, _, rfl, rfl, (by show (0 : Int) < 2147483629; decide), _, rfl, _, L, rfl, hL1, hL2, fun s hs0 hsL => ?_⟩
      refine ⟨_, rfl, _, rfl, B, _, _, _, rfl, rfl, SqL.of hB, aB, _, rfl, _, rfl, _, rfl, _, rfl, W, _, _, _, rfl, rfl, SqL.of hW, aW, o.r, o.d, o.S, o.a, c, s, o.kvs, rfl, hO.rm, (by rw [hO.wf.w]; exact hc), .inl hO.hd, hO.m.v c s, fun H3 s3 => ⟨_, rfl, iteF ?_⟩⟩
      have li3 := li.same s3
      clear hB hW hR hO li
      refine ⟨fun σ' H' => ∃ os' v11, σ' = [some (.ref sa), some (.int (L : Int)), some (.ref B), some (.ref W), some (.ref R), some (.ref E), some (.int z), some (.int (w : Int)), some (.int (o.S.made : Int)), some (.int (c : Int)), some (.int s), v11, none, none] ∧ LI A.c_Rooms H' L (n + 1) rs ds ls E [B, W, R] P os' hs, ?_, ?_⟩
      · refine ⟨_, rfl, _, rfl, (by show 2 ≤ sizeLine; decide), fun t ht => ?_⟩
        have s4 := Same.upd (o := .tup [.int (c : Int), .int s]) ht
        have ht4 : upd H3 t (.tup [.int (c : Int), .int s]) t = some (.tup ((wKey c s).map kV)) := upd_same
        generalize upd H3 t (.tup [.int (c : Int), .int s]) = H4 at s4 ht4 ⊢
        have li4 := li3.same s4
        obtain ⟨hO, hmn⟩ := li4.ob w o ho
        have hB := (li4.pr _ (hP _ mB)).1
        have hW := (li4.pr _ (hP _ mW)).1
        refine ⟨_, rfl, _, rfl, W, _, _, _, rfl, rfl, SqL.of hW, aW, o.d, _, rfl, DGet.t (k := wKey c s) hO.hd ht4, _, rfl, ?_⟩
        rw [hO.m.v]
        cases eb : o.S.by c s with
        | some m => exact iteF ⟨os, v11, rfl, li4.up⟩
        | none =>
          refine iteT ?_
          refine ⟨_, rfl, _, rfl, B, _, _, _, rfl, rfl, SqL.of hB, aB, o.r, o.a.dx, _, rfl, hO.rm.ins, lk_none _ _ _ (by decide +kernel), _, rfl, _, rfl, o.r, o.S, o.a, c, s, rfl, hO.rm, hO.wf, by rw [hO.m.l]; exact hL1, by rw [hO.m.l]; exact hL2, hc, by omega, by have := hO.m.r; omega, fun l hl => Nat.le_trans (hO.m.w l hl) (by omega), fun a' H5 b5 h5 g5 => ?_⟩
          refine ⟨fun σ' H' => σ' = [some (.ref sa), some (.int (L : Int)), some (.ref B), some (.ref W), some (.ref R), some (.ref E), some (.int z), some (.int (w : Int)), some (.int (o.S.made : Int)), some (.int (c : Int)), some (.int s), some (.int (o.S.made : Int)), none, none] ∧ H' = H5, ?_, ?_⟩
          · exact ⟨_, rfl, _, rfl, _, rfl, iteF ⟨_, rfl, _, rfl, rfl, _, rfl, iteNS rfl ⟨rfl, rfl⟩⟩⟩
          rintro σ' H' ⟨rfl, rfl⟩
          have nW : ¬ o.fp W := (li4.pr _ (hP _ mW)).2.2 w o ho
          have nR : ¬ o.fp R := (li4.pr _ (hP _ mR)).2.2 w o ho
          have hW5 := b5 _ _ (fun q => nW (.inl q)) hW
          have hR5 := b5 _ _ (fun q => nR (.inl q)) (li4.pr _ (hP _ mR)).1
          have hd5 := b5 _ _ hO.nd hO.hd
          have hl5 := b5 _ _ hO.nl hO.hl
          have kl : o.kvs.length ≤ 200 := by have := hO.m.n; omega
          refine ⟨_, rfl, _, rfl, _, rfl, W, _, _, _, rfl, rfl, SqL.of hW5, aW, _, rfl, _, rfl, (by show 2 ≤ sizeLine; decide), fun t6 ht6 => ?_⟩
          have s6 := Same.upd (o := .tup [.int (c : Int), .int s]) ht6
          have ht6' : upd H' t6 (.tup [.int (c : Int), .int s]) t6 = some (.tup ((wKey c s).map kV)) := upd_same
          generalize upd H' t6 (.tup [.int (c : Int), .int s]) = H6 at s6 ht6' ⊢
          refine ⟨o.d, _, rfl, DPut.t (k := wKey c s) (s6 _ _ hd5) ht6' (Nat.lt_of_le_of_lt kl (by decide)), ?_⟩
          have k7 : ∀ b x, b ≠ o.d → H6 b = some x → upd H6 o.d (.dT (putK o.kvs (wKey c s) (.int (o.S.made : Int)))) b = some x := fun b x nb e => by rw [upd_ne nb]; exact e
          have hd7 : upd H6 o.d (.dT (putK o.kvs (wKey c s) (.int (o.S.made : Int)))) o.d = some (.dT (putK o.kvs (wKey c s) (.int (o.S.made : Int)))) := upd_same
          generalize upd H6 o.d (.dT (putK o.kvs (wKey c s) (.int (o.S.made : Int)))) = H7 at k7 hd7 ⊢
          have nWd : W ≠ o.d := fun q => nW (.inr (.inl q))
          have nRd : R ≠ o.d := fun q => nR (.inr (.inl q))
          have hW7 := k7 _ _ nWd (s6 _ _ hW5)
          refine ⟨_, rfl, _, rfl, _, rfl, W, _, _, _, rfl, rfl, SqL.of hW7, aW, _, rfl, _, rfl, _, rfl, (by show 2 ≤ sizeLine; decide), fun t8 ht8 => ?_⟩
          have s8 := Same.upd (o := .tup [.int (o.S.made : Int), .int (-s)]) ht8
          have ht8' : upd H7 t8 (.tup [.int (o.S.made : Int), .int (-s)]) t8 = some (.tup ((wKey o.S.made (-s)).map kV)) := upd_same
          generalize upd H7 t8 (.tup [.int (o.S.made : Int), .int (-s)]) = H8 at s8 ht8' ⊢
          have kl2 := length_putK o.kvs (wKey c s) (.int (o.S.made : Int))
          refine ⟨o.d, _, rfl, DPut.t (k := wKey o.S.made (-s)) (s8 _ _ hd7) ht8' (Nat.lt_of_le_of_lt (show _ ≤ 201 by omega) (by decide)), ?_⟩
          have k9 : ∀ b x, b ≠ o.d → H8 b = some x → upd H8 o.d (.dT (putK (putK o.kvs (wKey c s) (.int (o.S.made : Int))) (wKey o.S.made (-s)) (.int (c : Int)))) b = some x := fun b x nb e => by rw [upd_ne nb]; exact e
          have hd9 : upd H8 o.d (.dT (putK (putK o.kvs (wKey c s) (.int (o.S.made : Int))) (wKey o.S.made (-s)) (.int (c : Int)))) o.d = some (.dT (kvNew o.kvs c s o.S.made)) := upd_same
          generalize upd H8 o.d (.dT (putK (putK o.kvs (wKey c s) (.int (o.S.made : Int))) (wKey o.S.made (-s)) (.int (c : Int)))) = H9 at k9 hd9 ⊢
          have hR9 := k9 _ _ nRd (s8 _ _ (k7 _ _ nRd (s6 _ _ hR5)))
          have nld : o.l ≠ o.d := ne_of hO.hl hO.hd (by intro q; cases q)
          have hl9 := k9 _ _ nld (s8 _ _ (k7 _ _ nld (s6 _ _ hl5)))
          have hpl : (o.ps.map V.ref).length < sizeLine := Nat.lt_of_le_of_lt (show _ ≤ 100 by omega) (by decide)
          refine ⟨_, rfl, _, rfl, R, _, _, _, rfl, rfl, SqL.of hR9, aL, .inl ⟨rfl, _, SqL.of hl9⟩, _, rfl, _, rfl, _, rfl, (by show 4 ≤ sizeLine; decide), fun t10 ht10 => ?_⟩
          have s10 := Same.upd (o := .tup [.str (tx [110, 101, 119]), .int (c : Int), .int s, .int (o.S.made : Int)]) ht10
          have ht10' : upd H9 t10 (.tup [.str (tx [110, 101, 119]), .int (c : Int), .int s, .int (o.S.made : Int)]) t10 = some (.tup [.str (tx [110, 101, 119]), .int (c : Int), .int s, .int (o.S.made : Int)]) := upd_same
          generalize upd H9 t10 (.tup [.str (tx [110, 101, 119]), .int (c : Int), .int s, .int (o.S.made : Int)]) = H10 at s10 ht10' ⊢
          refine ⟨o.l, _, _, rfl, rfl, s10 _ _ hl9, hpl, ?_⟩
          have k11 : ∀ b x, b ≠ o.l → H10 b = some x → upd H10 o.l (.lst (o.ps.map V.ref ++ [.ref t10])) b = some x := fun b x nb e => by rw [upd_ne nb]; exact e
          have hl11 : upd H10 o.l (.lst (o.ps.map V.ref ++ [.ref t10])) o.l = some (.lst ((o.ps ++ [t10]).map V.ref)) := by rw [upd_same, List.map_append]; rfl
          generalize upd H10 o.l (.lst (o.ps.map V.ref ++ [.ref t10])) = H11' at k11 hl11 ⊢
          have kAll : ∀ b x, b ≠ o.d → b ≠ o.l → H' b = some x → H11' b = some x := fun b x n1 n2 e => k11 b x n2 (s10 _ _ (k9 b x n1 (s8 _ _ (k7 b x n1 (s6 _ _ e)))))
          have kTup : ∀ b xs, H' b = some (.tup xs) → H11' b = some (.tup xs) := fun b xs e => kAll b _ (ne_of e hd5 (by intro q; cases q)) (ne_of e hl5 (by intro q; cases q)) e
          have nod : ∀ b, a'.own o.r b → b ≠ o.d ∧ b ≠ o.l := fun b hb => by
            rcases g5 b hb with q | q
            · exact ⟨fun z => hO.nd (z ▸ q), fun z => hO.nl (z ▸ q)⟩
            · exact ⟨(fun z => by rw [z, hO.hd] at q; cases q), (fun z => by rw [z, hO.hl] at q; cases q)⟩
          have h11 : RoomsAt A.c_Rooms H11' o.r (o.S.make c s (stL (2 * o.S.L))) a' := h5.keep (fun b x hb e => kAll b x (nod b hb).1 (nod b hb).2 e) kTup
          have hro : Each (fun p d => DtAt H11' 4 (.ref p) d) (o.ps ++ [t10]) (o.S.rows ++ [rowNew c s o.S.made]) := by
            refine Each.snoc (hO.rows.imp fun p x _ hx e => e.keepT (fun b xs q => kTup b xs (b5 b _ (hO.rm.notup q) q)) (hO.rm.flat x hx)) ?_
            exact new_row (k11 _ _ (ne_of ht10' (s10 _ _ hl9) (by intro q; cases q)) ht10')
          have ob' : ObAt A.c_Rooms H11' L ⟨o.r, o.d, o.l, o.S.make c s (stL (2 * o.S.L)), a', kvNew o.kvs c s o.S.made, o.ps ++ [t10]⟩ :=
            ⟨h11, wf_make hO.wf, k11 _ _ (Ne.symm nld) (s10 _ _ hd9), hl11, hro, hO.m.make hO.wf hc s _, fun q => (nod _ q).2 rfl⟩
          refine ⟨_, _, rfl, li4.up.step ho ob' (by show o.S.made + 1 ≤ n + 1 + 1; omega) (fun b x nb e => kAll b x (fun q => nb (.inr (.inl q))) (fun q => nb (.inr (.inr q))) (b5 b x (fun q => nb (.inl q)) e)) (fun b hb => ?_) rfl rfl rfl⟩
          rcases hb with hb | hb | hb
          · exact (g5 b hb).imp .inl id
          · exact .inl (.inr (.inl hb))
          · exact .inl (.inr (.inr hb))
      have nh0 := li3.nh
      clear li3
      rintro σ' H4 ⟨os4, v11', rfl, li4⟩
      have hol4 : os4.length = 2 := by have := congrArg List.length li4.er; rw [List.length_map, hrl] at this; exact this
      have ho4 : os4[w]? = some (os4[w]'(by omega)) := List.getElem?_eq_getElem (by omega)
      generalize os4[w]'(by omega) = o4 at ho4
      refine ⟨fun σ' H' => ∃ P os hs v6 v7 v8 v9 v10 v11, σ' = [some (.ref sa), some (.int (L : Int)), some (.ref B), some (.ref W), some (.ref R), some (.ref E), v6, v7, v8, v9, v10, v11, none, none] ∧ LI A.c_Rooms H' L (n + 1) rs ds ls E [B, W, R] P os hs ∧ (∀ q ∈ P0, q ∈ P), ?_, fun σ' H' h => h⟩
      refine ⟨_, rfl, _, _, rfl, rfl, (by show (0 : Int) < 7; decide), rfl, _, rfl, ite2 (fun h => ?_) (fun h => ?_)⟩
      · have aB4 := ob_at li4.er ho4
        have aL4 := ob_at li4.el ho4
        obtain ⟨hO, hmn4⟩ := li4.ob w o4 ho4
        have hB := (li4.pr _ (hP _ mB)).1
        have hR := (li4.pr _ (hP _ mR)).1
        have hrw : o4.S.rows.length ≤ 100 := by have := hO.m.r; omega
        have hmk4 : ((o4.ps.map V.ref).length : Int) + 1 = (o4.S.made : Int) := by rw [List.length_map, hO.rows.1, ← hO.m.r]; omega
        have hEl : (hs.map fun h => V.ref h.1).length < sizeLine := by rw [List.length_map]; exact Nat.lt_of_le_of_lt (show _ ≤ 200 by omega) (by decide)
        refine ⟨_, rfl, .inl ⟨rfl, _, SqL.of li4.hE⟩, _, rfl, _, rfl, B, _, _, _, rfl, rfl, SqL.of hB, aB4, o4.r, o4.a.dx, _, rfl, hO.rm.ins, lk_none _ _ _ (by decide +kernel), o4.r, o4.S, o4.a, rfl, hO.rm, by omega, fun p x hx q => flat_new (hO.m.d x hx) q, fun t1 ps1 H5 s5 nt1 ht1 he1 => ?_⟩
        refine ⟨_, rfl, _, rfl, R, _, _, _, rfl, rfl, SqL.of (s5 _ _ hR), aL4, o4.l, _, rfl, .inl (SqL.of (s5 _ _ hO.hl)), fun u1 nu1 => ?_⟩
        have s6 := Same.upd (o := .lst (o4.ps.map V.ref)) nu1
        have hu6 : upd H5 u1 (.lst (o4.ps.map V.ref)) u1 = some (.lst (o4.ps.map V.ref)) := upd_same
        generalize upd H5 u1 (.lst (o4.ps.map V.ref)) = H6 at s6 hu6 ⊢
        refine ⟨(by show 2 ≤ sizeLine; decide), fun q1 nq1 => ?_⟩
        have s7 := Same.upd (o := .tup [.ref t1, .ref u1]) nq1
        have hq7 : upd H6 q1 (.tup [.ref t1, .ref u1]) q1 = some (.tup [.ref t1, .ref u1]) := upd_same
        generalize upd H6 q1 (.tup [.ref t1, .ref u1]) = H7 at s7 hq7 ⊢
        have s57 := s5.trans (s6.trans s7)
        have li7 := li4.same s57
        refine ⟨E, _, _, rfl, rfl, li7.hE, hEl, ?_⟩
        have ft := li4.fresh nt1
        have nN : t1 ∉ [B, W, R] := fun z => by
          simp only [List.mem_cons, List.not_mem_nil, or_false] at z
          rcases z with z | z | z
          · exact ft.2.2 _ (hP _ mB) z
          · exact ft.2.2 _ (hP _ mW) z
          · exact ft.2.2 _ (hP _ mR) z
        have hp : ∀ {H0 : Hp} {ps : List Addr}, Each (fun p d => DtAt H0 4 (.ref p) d) ps o4.S.rows → ∀ (j : Nat) (v : V) (d : Dt), (ps.map V.ref)[j]? = some v → o4.S.rows[j]? = some d → DtAt H0 4 v d := fun {H0 ps} h j v d e1 e2 => by
          rw [List.getElem?_map] at e1
          cases hpj : ps[j]? with
          | none => rw [hpj] at e1; cases e1
          | some p => rw [hpj] at e1; rw [← Option.some.inj e1]; exact h.2 j p d hpj e2
        have li8 := li7.push hq7 ((s6.trans s7) _ _ ht1) (s7 _ _ hu6) ft ((li4.same s5).fresh nu1) nN (by rw [List.length_map, he1.1]) (by rw [List.length_map, hO.rows.1]) hO.rm.flat (hp (each_same he1 (s6.trans s7))) (hp (each_same hO.rows s57)) (by omega)
        generalize upd H7 E (.lst ((hs.map fun h => V.ref h.1) ++ [.ref q1])) = H8 at li8 ⊢
        generalize hP8 : P ++ [(t1, HO.lst (ps1.map V.ref)), (u1, HO.lst (o4.ps.map V.ref))] = P8 at li8
        have hPP : ∀ q ∈ P0, q ∈ P8 := fun q hq => by rw [← hP8]; exact List.mem_append_left _ (hP q hq)
        generalize hh8 : hs ++ [(q1, t1, u1)] = hs8 at li8
        have hl8 : hs8.length ≤ 2 * n + 1 := by rw [← hh8, List.length_append, List.length_singleton]; omega
        clear hO
        obtain ⟨hO, -⟩ := li8.ob w o4 ho4
        have hB8 := (li8.pr _ (hPP _ mB)).1
        have hR8 := (li8.pr _ (hPP _ mR)).1
        have hEl8 : (hs8.map fun h => V.ref h.1).length < sizeLine := by rw [List.length_map]; exact Nat.lt_of_le_of_lt (show _ ≤ 200 by omega) (by decide)
        refine ⟨_, rfl, .inl ⟨rfl, _, SqL.of li8.hE⟩, _, rfl, _, rfl, B, _, _, _, rfl, rfl, SqL.of hB8, aB4, o4.r, o4.a.dx, _, rfl, hO.rm.ins, lk_none _ _ _ (by decide +kernel), o4.r, o4.S, o4.a, rfl, hO.rm, hO.wf, by omega, fun t2 nt2 => ?_⟩
        rw [std_all hO.m.e]
        have s9 := Same.upd (o := .lst (intV (nI (List.range o4.S.made)))) nt2
        have ht9 : upd H8 t2 (.lst (intV (nI (List.range o4.S.made)))) t2 = some (.lst (intV (nI (List.range o4.S.made)))) := upd_same
        generalize upd H8 t2 (.lst (intV (nI (List.range o4.S.made)))) = H9 at s9 ht9 ⊢
        refine ⟨_, rfl, _, rfl, R, _, _, _, rfl, rfl, SqL.of (s9 _ _ hR8), aL4, o4.l, _, rfl, .inl (SqL.of (s9 _ _ hO.hl)), _, _, rfl, rfl, o4.S.made, congrArg (fun x => [V.int x]) hmk4, by omega, fun u2 nu2 => ?_⟩
        rw [rng_nI]
        have s10 := Same.upd (o := .lst (intV (nI (List.range o4.S.made)))) nu2
        have hu10 : upd H9 u2 (.lst (intV (nI (List.range o4.S.made)))) u2 = some (.lst (intV (nI (List.range o4.S.made)))) := upd_same
        generalize upd H9 u2 (.lst (intV (nI (List.range o4.S.made)))) = H10 at s10 hu10 ⊢
        refine ⟨(by show 2 ≤ sizeLine; decide), fun q2 nq2 => ?_⟩
        have s11 := Same.upd (o := .tup [.ref t2, .ref u2]) nq2
        have hq11 : upd H10 q2 (.tup [.ref t2, .ref u2]) q2 = some (.tup [.ref t2, .ref u2]) := upd_same
        generalize upd H10 q2 (.tup [.ref t2, .ref u2]) = H11' at s11 hq11 ⊢
        have s811 := s9.trans (s10.trans s11)
        have li11 := li8.same s811
        refine ⟨E, _, _, rfl, rfl, li11.hE, hEl8, ?_⟩
        have ft2 := li8.fresh nt2
        have nN2 : t2 ∉ [B, W, R] := fun z => by
          simp only [List.mem_cons, List.not_mem_nil, or_false] at z
          rcases z with z | z | z
          · exact ft2.2.2 _ (hPP _ mB) z
          · exact ft2.2.2 _ (hPP _ mW) z
          · exact ft2.2.2 _ (hPP _ mR) z
        have hi : ∀ {H0 : Hp} (j : Nat) (v : V) (d : Dt), (intV (nI (List.range o4.S.made)))[j]? = some v → ((List.range o4.S.made).map fun c : Nat => Dt.i (c : Int))[j]? = some d → DtAt H0 4 v d := fun {H0} j v d e1 e2 => by
          obtain ⟨y, rfl, e3⟩ := ints_of_at e1
          unfold nI at e3
          rw [List.getElem?_map] at e2 e3
          cases hc : (List.range o4.S.made)[j]? with
          | none => rw [hc] at e2; cases e2
          | some c =>
            rw [hc] at e2 e3
            rw [← Option.some.inj e2, ← Option.some.inj e3]
            exact .i
        have li12 := li11.push hq11 ((s10.trans s11) _ _ ht9) (s11 _ _ hu10) ft2 ((li8.same s9).fresh nu2) nN2 (dd := (List.range o4.S.made).map fun c : Nat => Dt.i (c : Int)) (by rw [ints_len, nI_len, List.length_map]) (by rw [ints_len, nI_len, List.length_map]) (fun d hd => by
          obtain ⟨c, _, rfl⟩ := List.mem_map.mp hd
          exact .i) hi hi (by omega)
        exact ⟨_, _, _, _, _, _, _, _, _, rfl, li12, fun q hq => List.mem_append_left _ (hPP q hq)⟩
      · exact ⟨P, os4, hs, _, _, _, _, _, _, rfl, li4, hP⟩
    · rintro σ H2 ⟨P, os, hs, v6, v7, v8, v9, v10, v11, rfl, li, hP⟩
      rw [ints_len] at li
      have hol : os.length = 2 := by have := congrArg List.length li.er; rw [List.length_map, hrl] at this; exact this
      have seen : ∀ (w : Nat), w < 2 → ∃ o, os[w]? = some o ∧ atI (rs.map V.ref) (w : Int) = some (V.ref o.r) ∧ atI (ds.map V.ref) (w : Int) = some (V.ref o.d) ∧ atI (ls.map V.ref) (w : Int) = some (V.ref o.l) ∧ o.S.made ≤ 1000 := fun w hw => by
        have ho : os[w]? = some (os[w]'(by omega)) := List.getElem?_eq_getElem (by omega)
        exact ⟨_, ho, ob_at li.er ho, ob_at li.ed ho, ob_at li.el ho, by have := (li.ob w _ ho).2; omega⟩
      refine ⟨2, rfl, by decide, by decide, ?_⟩
      refine for_range (lo := 0) (n := 2) (fun i σ H3 => ∃ v7, σ = [some (.ref sa), some (.int (L : Int)), some (.ref B), some (.ref W), some (.ref R), some (.ref E), v6, v7, v8, v9, v10, v11, none, none] ∧ Same H2 H3) ⟨v7, rfl, fun _ _ e => e⟩ ?_ ?_
      · rintro i σ H3 hi ⟨v7, rfl, s3⟩
        obtain ⟨o, ho, aB, aW, aL, hm⟩ := seen i hi
        have li3 := li.same s3
        obtain ⟨hO, -⟩ := li3.ob i o ho
        rw [Int.zero_add]
        refine ⟨_, rfl, _, rfl, B, _, _, _, rfl, rfl, SqL.of (li3.pr _ (hP _ mB)).1, aB, _, rfl, _, rfl, _, rfl, W, _, _, _, rfl, rfl, SqL.of (li3.pr _ (hP _ mW)).1, aW, _, rfl, _, rfl, R, _, _, _, rfl, rfl, SqL.of (li3.pr _ (hP _ mR)).1, aL, o.r, o.d, o.l, L, o.S, o.a, o.ps, o.kvs, rfl, hO.rm, hO.wf, hL1, hL2, hm, hO.hd, hO.hl, hO.rows, hO.m, fun H4 s4 => ⟨_, rfl, iteF ⟨_, rfl, s3.trans s4⟩⟩⟩
      · rintro σ H3 ⟨v7, rfl, s3⟩
        have li3 := li.same s3
        clear li
        refine ⟨_, rfl, E, rfl, ⟨_, SqL.of li3.hE⟩, ?_⟩
        have tolds : ∀ h ∈ hs, ∃ vs, (h.2.1, HO.lst vs) ∈ P := fun h hh => by
          obtain ⟨_, _, vs, _, _, c, _⟩ := li3.held h hh
          exact ⟨vs, c⟩
        have outF : ∀ (i : Nat) (o : Ob), os[i]? = some o → ∀ h ∈ hs, ¬ o.fp h.2.1 := fun i o e h hh => by
          obtain ⟨vs, c⟩ := tolds h hh
          exact (li3.pr _ c).2.2 i o e
        refine for_list (xs := hs.map fun h => V.ref h.1) (fun i σ H4 => ∃ v12 v13, σ = [some (.ref sa), some (.int (L : Int)), some (.ref B), some (.ref W), some (.ref R), some (.ref E), v6, v7, v8, v9, v10, v11, v12, v13] ∧ ∀ b x, H3 b = some x → (∀ (j : Nat) (h : Addr × Addr × Addr), j < i → hs[j]? = some h → b ≠ h.2.1) → H4 b = some x) ⟨none, none, rfl, fun b x e _ => e⟩ (fun i σ H4 _ ⟨_, _, _, kk⟩ => SqL.of (kk _ _ li3.hE fun j h _ e => by
          obtain ⟨vs, c⟩ := tolds h (List.mem_of_getElem? e)
          exact (li3.pr _ c).2.1.symm)) ?_ ?_
        · rintro i x σ H4 hx ⟨v12, v13, rfl, kk⟩
          rw [List.getElem?_map] at hx
          cases hh : hs[i]? with
          | none => rw [hh] at hx; cases hx
          | some h =>
            rw [hh] at hx
            obtain rfl : V.ref h.1 = x := Option.some.inj hx
            obtain ⟨h1, -, vs, ws, dd, c1, c2, c3, c4, c5, c6, c7⟩ := li3.held h (List.mem_of_getElem? hh)
            have notup : ∀ b xs, H3 b = some (.tup xs) → ∀ (j : Nat) (h' : Addr × Addr × Addr), j < i → hs[j]? = some h' → b ≠ h'.2.1 := fun b xs e j h' _ e' => by
              obtain ⟨vs', c⟩ := tolds h' (List.mem_of_getElem? e')
              exact ne_of e (li3.pr _ c).1 (by intro z; cases z)
            have kt : ∀ b xs, H3 b = some (.tup xs) → H4 b = some (.tup xs) := fun b xs e => kk b _ e (notup b xs e)
            have pws : ∀ (j : Nat) (h' : Addr × Addr × Addr), j < i → hs[j]? = some h' → h.2.1 ≠ h'.2.1 ∧ h.2.2 ≠ h'.2.1 := fun j h' hj e' => by
              have hp := List.pairwise_iff_getElem.mp li3.pw
              have hil := (List.getElem?_eq_some_iff.mp hh)
              have hjl := (List.getElem?_eq_some_iff.mp e')
              obtain ⟨q1, q2⟩ := hil
              obtain ⟨q3, q4⟩ := hjl
              have := hp j i q3 q1 hj
              rw [q2, q4] at this
              exact this
            have ht := kk _ _ (li3.pr _ c1).1 fun j h' hj e' => (pws j h' hj e').1
            have hu := kk _ _ (li3.pr _ c2).1 fun j h' hj e' => (pws j h' hj e').2
            refine ⟨h.1, _, rfl, SqT.of (kt _ _ h1), rfl, _, _, rfl, _, _, rfl, rfl, ?_⟩
            refine ⟨_, rfl, _, rfl, .l dd, h.2.1, h.2.2, rfl, rfl, .l ht c3 (fun j v d e1 e2 => ((c6 j v d e1 e2).keepT kt (c5 d (List.mem_of_getElem? e2))).le (by decide)), .l hu c4 (fun j v d e1 e2 => ((c7 j v d e1 e2).keepT kt (c5 d (List.mem_of_getElem? e2))).le (by decide)), _, rfl, iteF ?_⟩
            refine ⟨_, rfl, .inl ⟨rfl, _, SqL.of ht⟩, h.2.1, _, rfl, rfl, ht, ?_⟩
            refine ⟨_, _, rfl, fun b x e nb => ?_⟩
            rw [upd_ne (nb i h (by omega) hh)]
            exact kk b x e fun j h' hj e' => nb j h' (by omega) e'
        · rintro σ H4 ⟨v12, v13, rfl, kk⟩
          have keepP : ∀ b x, H3 b = some x → b ∈ [B, W, R] → H4 b = some x := fun b x e hb => kk b x e fun j h _ e' z => by
            obtain ⟨_, nn, _⟩ := li3.held h (List.mem_of_getElem? e')
            exact nn (z ▸ hb)
          have ob4 : ∀ (i : Nat) (o : Ob), os[i]? = some o → ObAt A.c_Rooms H4 L o := fun i o e => (li3.ob i o e).1.keep (fun b x hb q => kk b x q fun j h _ e' z => outF i o e h (List.mem_of_getElem? e') (z ▸ hb)) (fun b xs q => kk b _ q fun j h _ e' => by
            obtain ⟨vs', c⟩ := tolds h (List.mem_of_getElem? e')
            exact ne_of q (li3.pr _ c).1 (by intro z; cases z))
          have hB := keepP _ _ (li3.pr _ (hP _ mB)).1 (by simp)
          have hW := keepP _ _ (li3.pr _ (hP _ mW)).1 (by simp)
          have hR := keepP _ _ (li3.pr _ (hP _ mR)).1 (by simp)
          obtain ⟨p0, hp0, aB0, aW0, aL0, hm0⟩ := seen 0 (by decide)
          obtain ⟨p1, hp1, aB1, aW1, aL1, hm1⟩ := seen 1 (by decide)
          have o0 := ob4 0 p0 hp0
          refine ⟨_, rfl, B, _, _, _, rfl, rfl, SqL.of hB, aB0, _, rfl, _, rfl, W, _, _, _, rfl, rfl, SqL.of hW, aW0, _, rfl, R, _, _, _, rfl, rfl, SqL.of hR, aL0, p0.r, p0.d, p0.l, L, p0.S, p0.a, p0.ps, p0.kvs, rfl, o0.rm, o0.wf, hL1, hL2, hm0, o0.hd, o0.hl, o0.rows, o0.m, fun H5 s5 => ⟨_, rfl, iteT ?_⟩⟩
          have o1 := (ob4 1 p1 hp1).keep (fun b x _ q => s5 _ _ q) (fun b xs q => s5 _ _ q)
          exact ⟨_, rfl, B, _, _, _, rfl, rfl, SqL.of (s5 _ _ hB), aB1, _, rfl, _, rfl, W, _, _, _, rfl, rfl, SqL.of (s5 _ _ hW), aW1, _, rfl, R, _, _, _, rfl, rfl, SqL.of (s5 _ _ hR), aL1, p1.r, p1.d, p1.l, L, p1.S, p1.a, p1.ps, p1.kvs, rfl, o1.rm, o1.wf, hL1, hL2, hm1, o1.hd, o1.hl, o1.rows, o1.m, fun H6 s6 => k H6⟩
end
theorem all_mk {l : PySem.W.OpenLaw} {w : World} {K : PySem.W.Frag} {h : Heap} {mg : Str → Option Value} {fa : Addr} (X : K.In h) (G : h.Ns mainGlobals mg) (hfa : mg "law" = some (.ref fa))
    {C_Rooms : Addr} {f1 : Addr} {od1 an1 : Option Addr} {sl1 : Array (Option Value)} {oc1 kV1 dc1 pm1 cd1 ct1 : Value} {f2 : Addr} {od2 an2 : Option Addr} {sl2 : Array (Option Value)} {oc2 kV2 dc2 pm2 cd2 ct2 : Value} {f3 : Addr} {od3 an3 : Option Addr} {sl3 : Array (Option Value)} {oc3 kV3 dc3 pm3 cd3 ct3 : Value} {f4 : Addr} {od4 an4 : Option Addr} {sl4 : Array (Option Value)} {oc4 kV4 dc4 pm4 cd4 ct4 : Value} {f5 : Addr} {od5 an5 : Option Addr} {sl5 : Array (Option Value)} {oc5 kV5 dc5 pm5 cd5 ct5 : Value} {f6 : Addr} {od6 an6 : Option Addr} {sl6 : Array (Option Value)} {oc6 kV6 dc6 pm6 cd6 ct6 : Value} {f7 : Addr} {od7 an7 : Option Addr} {sl7 : Array (Option Value)} {oc7 kV7 dc7 pm7 cd7 ct7 : Value} {f8 : Addr} {od8 an8 : Option Addr} {sl8 : Array (Option Value)} {oc8 kV8 dc8 pm8 cd8 ct8 : Value} {f9 : Addr} {od9 an9 : Option Addr} {sl9 : Array (Option Value)} {oc9 kV9 dc9 pm9 cd9 ct9 : Value} {f10 : Addr} {od10 an10 : Option Addr} {sl10 : Array (Option Value)} {oc10 kV10 dc10 pm10 cd10 ct10 : Value} {f11 : Addr} {od11 an11 : Option Addr} {sl11 : Array (Option Value)} {oc11 kV11 dc11 pm11 cd11 ct11 : Value} {f12 : Addr} {od12 an12 : Option Addr} {sl12 : Array (Option Value)} {oc12 kV12 dc12 pm12 cd12 ct12 : Value} {f13 : Addr} {od13 an13 : Option Addr} {sl13 : Array (Option Value)} {oc13 kV13 dc13 pm13 cd13 ct13 : Value} {f14 : Addr} {od14 an14 : Option Addr} {sl14 : Array (Option Value)} {oc14 kV14 dc14 pm14 cd14 ct14 : Value} {f15 : Addr} {od15 an15 : Option Addr} {sl15 : Array (Option Value)} {oc15 kV15 dc15 pm15 cd15 ct15 : Value} {f16 : Addr} {od16 an16 : Option Addr} {sl16 : Array (Option Value)} {oc16 kV16 dc16 pm16 cd16 ct16 : Value} {f17 : Addr} {od17 an17 : Option Addr} {sl17 : Array (Option Value)} {oc17 kV17 dc17 pm17 cd17 ct17 : Value}
    (y_Rooms : PySem.W.nsIn K mainGlobals "Rooms" = some (some (.ref C_Rooms)))
    (a1 : PySem.W.nsIn K mainGlobals "steps_of" = some (some (.ref f1))) (l1 : K.lookup f1 = some ⟨oc1, od1, .func (PySem.W.fnOf "steps_of" "steps_of" (defArgs s_steps_of) (defBody s_steps_of) (defScope s_steps_of) .none kV1 dc1 pm1 an1 cd1 ct1), sl1⟩) (c1 : PySem.W.codeIn K cd1 "steps_of" = true) (k1 : PySem.W.keepIn K (.ref f1) = true)
    (a2 : PySem.W.nsIn K mainGlobals "all_gaps" = some (some (.ref f2))) (l2 : K.lookup f2 = some ⟨oc2, od2, .func (PySem.W.fnOf "all_gaps" "all_gaps" (defArgs s_all_gaps) (defBody s_all_gaps) (defScope s_all_gaps) .none kV2 dc2 pm2 an2 cd2 ct2), sl2⟩) (c2 : PySem.W.codeIn K cd2 "all_gaps" = true) (k2 : PySem.W.keepIn K (.ref f2) = true)
    (a3 : PySem.W.nsIn K mainGlobals "own" = some (some (.ref f3))) (l3 : K.lookup f3 = some ⟨oc3, od3, .func (PySem.W.fnOf "own" "own" (defArgs s_own) (defBody s_own) (defScope s_own) .none kV3 dc3 pm3 an3 cd3 ct3), sl3⟩) (c3 : PySem.W.codeIn K cd3 "own" = true) (k3 : PySem.W.keepIn K (.ref f3) = true)
    (a4 : PySem.W.nsIn K mainGlobals "_law_cell_at" = some (some (.ref f4))) (l4 : K.lookup f4 = some ⟨oc4, od4, .func (PySem.W.fnOf "_law_cell_at" "_law_cell_at" (defArgs s__law_cell_at) (defBody s__law_cell_at) (defScope s__law_cell_at) .none kV4 dc4 pm4 an4 cd4 ct4), sl4⟩) (c4 : PySem.W.codeIn K cd4 "_law_cell_at" = true) (k4 : PySem.W.keepIn K (.ref f4) = true)
    (a5 : PySem.W.nsIn K mainGlobals "_law_whole" = some (some (.ref f5))) (l5 : K.lookup f5 = some ⟨oc5, od5, .func (PySem.W.fnOf "_law_whole" "_law_whole" (defArgs s__law_whole) (defBody s__law_whole) (defScope s__law_whole) .none kV5 dc5 pm5 an5 cd5 ct5), sl5⟩) (c5 : PySem.W.codeIn K cd5 "_law_whole" = true) (k5 : PySem.W.keepIn K (.ref f5) = true)
    (a6 : PySem.W.nsIn K mainGlobals "_law_step" = some (some (.ref f6))) (l6 : K.lookup f6 = some ⟨oc6, od6, .func (PySem.W.fnOf "_law_step" "_law_step" (defArgs s__law_step) (defBody s__law_step) (defScope s__law_step) .none kV6 dc6 pm6 an6 cd6 ct6), sl6⟩) (c6 : PySem.W.codeIn K cd6 "_law_step" = true) (k6 : PySem.W.keepIn K (.ref f6) = true)
    (a7 : PySem.W.nsIn K mainGlobals "_law_rows" = some (some (.ref f7))) (l7 : K.lookup f7 = some ⟨oc7, od7, .func (PySem.W.fnOf "_law_rows" "_law_rows" (defArgs s__law_rows) (defBody s__law_rows) (defScope s__law_rows) .none kV7 dc7 pm7 an7 cd7 ct7), sl7⟩) (c7 : PySem.W.codeIn K cd7 "_law_rows" = true) (k7 : PySem.W.keepIn K (.ref f7) = true)
    (a8 : PySem.W.nsIn K mainGlobals "_law_by" = some (some (.ref f8))) (l8 : K.lookup f8 = some ⟨oc8, od8, .func (PySem.W.fnOf "_law_by" "_law_by" (defArgs s__law_by) (defBody s__law_by) (defScope s__law_by) .none kV8 dc8 pm8 an8 cd8 ct8), sl8⟩) (c8 : PySem.W.codeIn K cd8 "_law_by" = true) (k8 : PySem.W.keepIn K (.ref f8) = true)
    (a9 : PySem.W.nsIn K mainGlobals "_law_seen" = some (some (.ref f9))) (l9 : K.lookup f9 = some ⟨oc9, od9, .func (PySem.W.fnOf "_law_seen" "_law_seen" (defArgs s__law_seen) (defBody s__law_seen) (defScope s__law_seen) .none kV9 dc9 pm9 an9 cd9 ct9), sl9⟩) (c9 : PySem.W.codeIn K cd9 "_law_seen" = true) (k9 : PySem.W.keepIn K (.ref f9) = true)
    (a10 : PySem.W.nsIn K mainGlobals "law" = some (some (.ref f10))) (l10 : K.lookup f10 = some ⟨oc10, od10, .func (PySem.W.fnOf "law" "law" (defArgs s_law) (defBody s_law) (defScope s_law) .none kV10 dc10 pm10 an10 cd10 ct10), sl10⟩) (c10 : PySem.W.codeIn K cd10 "law" = true) (k10 : PySem.W.keepIn K (.ref f10) = true)
    (a11 : PySem.W.findIn K (.ref C_Rooms) "__init__" = some (some (.ref f11))) (i11 : PySem.W.isFn K (.ref f11) = true) (l11 : K.lookup f11 = some ⟨oc11, od11, .func (PySem.W.fnOf "__init__" "Rooms.__init__" (defArgs s_Rooms___init__) (defBody s_Rooms___init__) (defScope s_Rooms___init__) .none kV11 dc11 pm11 an11 cd11 ct11), sl11⟩) (c11 : PySem.W.codeIn K cd11 "Rooms.__init__" = true) (k11 : PySem.W.keepIn K (.ref f11) = true)
    (a12 : PySem.W.findIn K (.ref C_Rooms) "make" = some (some (.ref f12))) (i12 : PySem.W.isFn K (.ref f12) = true) (l12 : K.lookup f12 = some ⟨oc12, od12, .func (PySem.W.fnOf "make" "Rooms.make" (defArgs s_Rooms_make) (defBody s_Rooms_make) (defScope s_Rooms_make) .none kV12 dc12 pm12 an12 cd12 ct12), sl12⟩) (c12 : PySem.W.codeIn K cd12 "Rooms.make" = true) (k12 : PySem.W.keepIn K (.ref f12) = true)
    (a13 : PySem.W.findIn K (.ref C_Rooms) "by" = some (some (.ref f13))) (i13 : PySem.W.isFn K (.ref f13) = true) (l13 : K.lookup f13 = some ⟨oc13, od13, .func (PySem.W.fnOf "by" "Rooms.by" (defArgs s_Rooms_by) (defBody s_Rooms_by) (defScope s_Rooms_by) .none kV13 dc13 pm13 an13 cd13 ct13), sl13⟩) (c13 : PySem.W.codeIn K cd13 "Rooms.by" = true) (k13 : PySem.W.keepIn K (.ref f13) = true)
    (a14 : PySem.W.findIn K (.ref C_Rooms) "elder" = some (some (.ref f14))) (i14 : PySem.W.isFn K (.ref f14) = true) (l14 : K.lookup f14 = some ⟨oc14, od14, .func (PySem.W.fnOf "elder" "Rooms.elder" (defArgs s_Rooms_elder) (defBody s_Rooms_elder) (defScope s_Rooms_elder) .none kV14 dc14 pm14 an14 cd14 ct14), sl14⟩) (c14 : PySem.W.codeIn K cd14 "Rooms.elder" = true) (k14 : PySem.W.keepIn K (.ref f14) = true)
    (a15 : PySem.W.findIn K (.ref C_Rooms) "standing" = some (some (.ref f15))) (i15 : PySem.W.isFn K (.ref f15) = true) (l15 : K.lookup f15 = some ⟨oc15, od15, .func (PySem.W.fnOf "standing" "Rooms.standing" (defArgs s_Rooms_standing) (defBody s_Rooms_standing) (defScope s_Rooms_standing) .none kV15 dc15 pm15 an15 cd15 ct15), sl15⟩) (c15 : PySem.W.codeIn K cd15 "Rooms.standing" = true) (k15 : PySem.W.keepIn K (.ref f15) = true)
    (a16 : PySem.W.findIn K (.ref C_Rooms) "paper" = some (some (.ref f16))) (i16 : PySem.W.isFn K (.ref f16) = true) (l16 : K.lookup f16 = some ⟨oc16, od16, .func (PySem.W.fnOf "paper" "Rooms.paper" (defArgs s_Rooms_paper) (defBody s_Rooms_paper) (defScope s_Rooms_paper) .none kV16 dc16 pm16 an16 cd16 ct16), sl16⟩) (c16 : PySem.W.codeIn K cd16 "Rooms.paper" = true) (k16 : PySem.W.keepIn K (.ref f16) = true)
    (a17 : PySem.W.findIn K (.ref C_Rooms) "keep" = some (some (.ref f17))) (i17 : PySem.W.isFn K (.ref f17) = true) (l17 : K.lookup f17 = some ⟨oc17, od17, .func (PySem.W.fnOf "keep" "Rooms.keep" (defArgs s_Rooms_keep) (defBody s_Rooms_keep) (defScope s_Rooms_keep) .none kV17 dc17 pm17 an17 cd17 ct17), sl17⟩) (c17 : PySem.W.codeIn K cd17 "Rooms.keep" = true) (k17 : PySem.W.keepIn K (.ref f17) = true)
    (w_pg_Rooms : PySem.W.plainGet K C_Rooms Str.empty = true)
    (w_hd_Rooms : PySem.W.hasDictIn K C_Rooms = true)
    (w_po_Rooms : PySem.W.plainOver K C_Rooms = true)
    (w_sa_Rooms : PySem.W.findIn K (.ref C_Rooms) "__setattr__" = some (some (.builtin "object.__setattr__")))
    (w_mk_Rooms : PySem.W.makesIn K C_Rooms = true)
    (w_kc_Rooms : PySem.W.keepIn K (.ref C_Rooms) = true)
    (w_n_letters : PySem.W.findIn K (.ref C_Rooms) "letters" = some none)
    (w_n_made : PySem.W.findIn K (.ref C_Rooms) "made" = some none)
    (w_n_rows : PySem.W.findIn K (.ref C_Rooms) "rows" = some none)
    (w_n_ways : PySem.W.findIn K (.ref C_Rooms) "ways" = some none)
    (w_n_gaps : PySem.W.findIn K (.ref C_Rooms) "gaps" = some none)
    (w_n_elders : PySem.W.findIn K (.ref C_Rooms) "elders" = some none)
    (w_n_called : PySem.W.findIn K (.ref C_Rooms) "called" = some none)
    (w_n_went : PySem.W.findIn K (.ref C_Rooms) "went" = some none)
    (z1 : PySem.W.nsIn K mainGlobals "range" = some none)
    (z2 : PySem.W.nsIn K mainGlobals "len" = some none)
    (z3 : PySem.W.nsIn K mainGlobals "tuple" = some none)
    (z4 : PySem.W.nsIn K mainGlobals "list" = some none)
    (z5 : PySem.W.nsIn K mainGlobals "isinstance" = some none)
    (z6 : PySem.W.nsIn K mainGlobals "bool" = some none)
    (z7 : PySem.W.nsIn K mainGlobals "int" = some none)
    (z8 : PySem.W.nsIn K mainGlobals "dict" = some none)
    (z9 : PySem.W.nsIn K mainGlobals "str" = some none)
    : ∃ fd : FuncData, (∀ (s : Shared) (v : Value), BindsTo s fd ⟨[v], []⟩ [("_law_script", v)]) ∧ ∀ base : Heap, K.In base → base.Ns mainGlobals mg → FnOk l.prog w K mg base CX0 9 fa fd ["_law_script"] (spLaw K) := by
  have e := hfa.symm.trans (PySem.W.mg_of X G a10)
  cases e
  have F1 := fun_mk (st := s_steps_of) l1 c1 k1
  have D1 : Def K mg "steps_of" s_steps_of ["letters"] _ _ := ⟨F1, PySem.W.mg_of X G a1, F1.binds (ps := ["letters"]) fun _ _ _ _ _ _ us hl => match us, hl with | [_], _ => rfl⟩
  have F2 := fun_mk (st := s_all_gaps) l2 c2 k2
  have D2 : Def K mg "all_gaps" s_all_gaps ["letters"] _ _ := ⟨F2, PySem.W.mg_of X G a2, F2.binds (ps := ["letters"]) fun _ _ _ _ _ _ us hl => match us, hl with | [_], _ => rfl⟩
  have F3 := fun_mk (st := s_own) l3 c3 k3
  have D3 : Def K mg "own" s_own ["value"] _ _ := ⟨F3, PySem.W.mg_of X G a3, F3.binds (ps := ["value"]) fun _ _ _ _ _ _ us hl => match us, hl with | [_], _ => rfl⟩
  have F4 := fun_mk (st := s__law_cell_at) l4 c4 k4
  have D4 : Def K mg "_law_cell_at" s__law_cell_at ["_law_script", "_law_k"] _ _ := ⟨F4, PySem.W.mg_of X G a4, F4.binds (ps := ["_law_script", "_law_k"]) fun _ _ _ _ _ _ us hl => match us, hl with | [_, _], _ => rfl⟩
  have F5 := fun_mk (st := s__law_whole) l5 c5 k5
  have D5 : Def K mg "_law_whole" s__law_whole ["_law_found"] _ _ := ⟨F5, PySem.W.mg_of X G a5, F5.binds (ps := ["_law_found"]) fun _ _ _ _ _ _ us hl => match us, hl with | [_], _ => rfl⟩
  have F6 := fun_mk (st := s__law_step) l6 c6 k6
  have D6 : Def K mg "_law_step" s__law_step ["_law_number", "_law_letters"] _ _ := ⟨F6, PySem.W.mg_of X G a6, F6.binds (ps := ["_law_number", "_law_letters"]) fun _ _ _ _ _ _ us hl => match us, hl with | [_, _], _ => rfl⟩
  have F7 := fun_mk (st := s__law_rows) l7 c7 k7
  have D7 : Def K mg "_law_rows" s__law_rows ["_law_told", "_law_due"] _ _ := ⟨F7, PySem.W.mg_of X G a7, F7.binds (ps := ["_law_told", "_law_due"]) fun _ _ _ _ _ _ us hl => match us, hl with | [_, _], _ => rfl⟩
  have F8 := fun_mk (st := s__law_by) l8 c8 k8
  have D8 : Def K mg "_law_by" s__law_by ["_law_rooms", "_law_room", "_law_step_here", "_law_ways"] _ _ := ⟨F8, PySem.W.mg_of X G a8, F8.binds (ps := ["_law_rooms", "_law_room", "_law_step_here", "_law_ways"]) fun _ _ _ _ _ _ us hl => match us, hl with | [_, _, _, _], _ => rfl⟩
  have F9 := fun_mk (st := s__law_seen) l9 c9 k9
  have D9 : Def K mg "_law_seen" s__law_seen ["_law_rooms", "_law_letters", "_law_ways", "_law_rows_here"] _ _ := ⟨F9, PySem.W.mg_of X G a9, F9.binds (ps := ["_law_rooms", "_law_letters", "_law_ways", "_law_rows_here"]) fun _ _ _ _ _ _ us hl => match us, hl with | [_, _, _, _], _ => rfl⟩
  have F10 := fun_mk (st := s_law) l10 c10 k10
  have D10 : Def K mg "law" s_law ["_law_script"] _ _ := ⟨F10, PySem.W.mg_of X G a10, F10.binds (ps := ["_law_script"]) fun _ _ _ _ _ _ us hl => match us, hl with | [_], _ => rfl⟩
  have F11 := fun_mk (st := s_Rooms___init__) l11 c11 k11
  have D11 : MDef K C_Rooms "__init__" "Rooms.__init__" s_Rooms___init__ ["self", "letters"] _ _ := ⟨F11, ⟨a11, i11, k11⟩, F11.binds (ps := ["self", "letters"]) fun _ _ _ _ _ _ us hl => match us, hl with | [_, _], _ => rfl⟩
  have F12 := fun_mk (st := s_Rooms_make) l12 c12 k12
  have D12 : MDef K C_Rooms "make" "Rooms.make" s_Rooms_make ["self", "room", "step"] _ _ := ⟨F12, ⟨a12, i12, k12⟩, F12.binds (ps := ["self", "room", "step"]) fun _ _ _ _ _ _ us hl => match us, hl with | [_, _, _], _ => rfl⟩
  have F13 := fun_mk (st := s_Rooms_by) l13 c13 k13
  have D13 : MDef K C_Rooms "by" "Rooms.by" s_Rooms_by ["self", "room", "step"] _ _ := ⟨F13, ⟨a13, i13, k13⟩, F13.binds (ps := ["self", "room", "step"]) fun _ _ _ _ _ _ us hl => match us, hl with | [_, _, _], _ => rfl⟩
  have F14 := fun_mk (st := s_Rooms_elder) l14 c14 k14
  have D14 : MDef K C_Rooms "elder" "Rooms.elder" s_Rooms_elder ["self", "room"] _ _ := ⟨F14, ⟨a14, i14, k14⟩, F14.binds (ps := ["self", "room"]) fun _ _ _ _ _ _ us hl => match us, hl with | [_, _], _ => rfl⟩
  have F15 := fun_mk (st := s_Rooms_standing) l15 c15 k15
  have D15 : MDef K C_Rooms "standing" "Rooms.standing" s_Rooms_standing ["self"] _ _ := ⟨F15, ⟨a15, i15, k15⟩, F15.binds (ps := ["self"]) fun _ _ _ _ _ _ us hl => match us, hl with | [_], _ => rfl⟩
  have F16 := fun_mk (st := s_Rooms_paper) l16 c16 k16
  have D16 : MDef K C_Rooms "paper" "Rooms.paper" s_Rooms_paper ["self"] _ _ := ⟨F16, ⟨a16, i16, k16⟩, F16.binds (ps := ["self"]) fun _ _ _ _ _ _ us hl => match us, hl with | [_], _ => rfl⟩
  have F17 := fun_mk (st := s_Rooms_keep) l17 c17 k17
  have D17 : MDef K C_Rooms "keep" "Rooms.keep" s_Rooms_keep ["self", "room", "step", "other"] _ _ := ⟨F17, ⟨a17, i17, k17⟩, F17.binds (ps := ["self", "room", "step", "other"]) fun _ _ _ _ _ _ us hl => match us, hl with | [_, _, _, _], _ => rfl⟩
  have T : Txt K mg ⟨f1, PySem.W.fnOf "steps_of" "steps_of" (defArgs s_steps_of) (defBody s_steps_of) (defScope s_steps_of) .none kV1 dc1 pm1 an1 cd1 ct1, f2, PySem.W.fnOf "all_gaps" "all_gaps" (defArgs s_all_gaps) (defBody s_all_gaps) (defScope s_all_gaps) .none kV2 dc2 pm2 an2 cd2 ct2, f3, PySem.W.fnOf "own" "own" (defArgs s_own) (defBody s_own) (defScope s_own) .none kV3 dc3 pm3 an3 cd3 ct3, f4, PySem.W.fnOf "_law_cell_at" "_law_cell_at" (defArgs s__law_cell_at) (defBody s__law_cell_at) (defScope s__law_cell_at) .none kV4 dc4 pm4 an4 cd4 ct4, f5, PySem.W.fnOf "_law_whole" "_law_whole" (defArgs s__law_whole) (defBody s__law_whole) (defScope s__law_whole) .none kV5 dc5 pm5 an5 cd5 ct5, f6, PySem.W.fnOf "_law_step" "_law_step" (defArgs s__law_step) (defBody s__law_step) (defScope s__law_step) .none kV6 dc6 pm6 an6 cd6 ct6, f7, PySem.W.fnOf "_law_rows" "_law_rows" (defArgs s__law_rows) (defBody s__law_rows) (defScope s__law_rows) .none kV7 dc7 pm7 an7 cd7 ct7, f8, PySem.W.fnOf "_law_by" "_law_by" (defArgs s__law_by) (defBody s__law_by) (defScope s__law_by) .none kV8 dc8 pm8 an8 cd8 ct8, f9, PySem.W.fnOf "_law_seen" "_law_seen" (defArgs s__law_seen) (defBody s__law_seen) (defScope s__law_seen) .none kV9 dc9 pm9 an9 cd9 ct9, fa, PySem.W.fnOf "law" "law" (defArgs s_law) (defBody s_law) (defScope s_law) .none kV10 dc10 pm10 an10 cd10 ct10, f11, PySem.W.fnOf "__init__" "Rooms.__init__" (defArgs s_Rooms___init__) (defBody s_Rooms___init__) (defScope s_Rooms___init__) .none kV11 dc11 pm11 an11 cd11 ct11, f12, PySem.W.fnOf "make" "Rooms.make" (defArgs s_Rooms_make) (defBody s_Rooms_make) (defScope s_Rooms_make) .none kV12 dc12 pm12 an12 cd12 ct12, f13, PySem.W.fnOf "by" "Rooms.by" (defArgs s_Rooms_by) (defBody s_Rooms_by) (defScope s_Rooms_by) .none kV13 dc13 pm13 an13 cd13 ct13, f14, PySem.W.fnOf "elder" "Rooms.elder" (defArgs s_Rooms_elder) (defBody s_Rooms_elder) (defScope s_Rooms_elder) .none kV14 dc14 pm14 an14 cd14 ct14, f15, PySem.W.fnOf "standing" "Rooms.standing" (defArgs s_Rooms_standing) (defBody s_Rooms_standing) (defScope s_Rooms_standing) .none kV15 dc15 pm15 an15 cd15 ct15, f16, PySem.W.fnOf "paper" "Rooms.paper" (defArgs s_Rooms_paper) (defBody s_Rooms_paper) (defScope s_Rooms_paper) .none kV16 dc16 pm16 an16 cd16 ct16, f17, PySem.W.fnOf "keep" "Rooms.keep" (defArgs s_Rooms_keep) (defBody s_Rooms_keep) (defScope s_Rooms_keep) .none kV17 dc17 pm17 an17 cd17 ct17, C_Rooms⟩ := ⟨D1, D2, D3, D4, D5, D6, D7, D8, D9, D10, D11, D12, D13, D14, D15, D16, D17, PySem.W.mg_none_of X G z1, PySem.W.mg_none_of X G z2, PySem.W.mg_none_of X G z3, PySem.W.mg_none_of X G z4, PySem.W.mg_none_of X G z5, PySem.W.mg_none_of X G z6, PySem.W.mg_none_of X G z7, PySem.W.mg_none_of X G z8, PySem.W.mg_none_of X G z9, PySem.W.mg_of X G y_Rooms, w_pg_Rooms, w_hd_Rooms, w_po_Rooms, w_sa_Rooms, w_mk_Rooms, w_kc_Rooms, w_n_letters, w_n_made, w_n_rows, w_n_ways, w_n_gaps, w_n_elders, w_n_called, w_n_went⟩
  exact ⟨_, fun s v => .of_eq rfl, fun base _ _ => ok_law T⟩
theorem walk {l : PySem.W.OpenLaw} {q : Program} {loose : List Str} {XP : (Str → Option Value) → Heap → Prop} {YP : World → Heap → Prop} {d : DefRec} {K : Params → PySem.W.Frag} (hn : l.most = some 63) (hdf : d.params.defaults = [])
    (hY : ∀ (w : World) (h : Heap), YP w h → (K w.params).In h)
    (F : ∀ (w : World) (mg : Str → Option Value) (fa : Addr) (h : Heap), (K w.params).In h → h.Ns mainGlobals mg → mg d.name = some (.ref fa) →
      ∃ fd : FuncData, (∀ (s : Shared) (u : Value), BindsTo s fd ⟨[u], []⟩ [("_law_script", u)]) ∧ ∀ base : Heap, (K w.params).In base → base.Ns mainGlobals mg → FnOk l.prog w (K w.params) mg base CX0 9 fa fd ["_law_script"] (spLaw (K w.params))) :
    PySem.W.WalkO q loose XP YP l.row.toRowW d [] (fun f vs => PySem.call f vs) :=
  L2.walk_of (n := 63) (k := 9) (x := "_law_script") (CX := fun w => CX0) (sp := fun w => spLaw (K w.params)) hn (by decide) hdf ⟨rfl, by decide, by decide⟩ hY F (fun _ _ a ns hl _ hS => ⟨a, ns, rfl, hS, hl, fun _ => rfl⟩) fun _ _ _ _ _ z => z
end K11
open PySem PySem.W PyProof.Rows
set_option maxRecDepth 100000 in
set_option maxHeartbeats 0 in
theorem PySem.Challenge.cw_cosetyard_k11_rooms_made_holds : PySem.Challenge.rw_cosetyard_k11_rooms_made.Holds := by
  w_on; o_law; k_head; (case hw => w_witness2)
  k_fill
  refine K11.walk (l := PySem.Challenge.rw_cosetyard_k11_rooms_made) rfl rfl (fun w h Y => PySem.W.kIn_of Y) ?F
  case F =>
    intro w mg fa h KX G hmg
    refine' K11.all_mk KX G hmg ?y_Rooms ?a1 ?l1 ?c1 ?k1 ?a2 ?l2 ?c2 ?k2 ?a3 ?l3 ?c3 ?k3 ?a4 ?l4 ?c4 ?k4 ?a5 ?l5 ?c5 ?k5 ?a6 ?l6 ?c6 ?k6 ?a7 ?l7 ?c7 ?k7 ?a8 ?l8 ?c8 ?k8 ?a9 ?l9 ?c9 ?k9 ?a10 ?l10 ?c10 ?k10 ?a11 ?i11 ?l11 ?c11 ?k11 ?a12 ?i12 ?l12 ?c12 ?k12 ?a13 ?i13 ?l13 ?c13 ?k13 ?a14 ?i14 ?l14 ?c14 ?k14 ?a15 ?i15 ?l15 ?c15 ?k15 ?a16 ?i16 ?l16 ?c16 ?k16 ?a17 ?i17 ?l17 ?c17 ?k17 ?w_pg_Rooms ?w_hd_Rooms ?w_po_Rooms ?w_sa_Rooms ?w_mk_Rooms ?w_kc_Rooms ?w_n_letters ?w_n_made ?w_n_rows ?w_n_ways ?w_n_gaps ?w_n_elders ?w_n_called ?w_n_went ?z1 ?z2 ?z3 ?z4 ?z5 ?z6 ?z7 ?z8 ?z9
    (case y_Rooms => k_is)
    (case a1 => k_is)
    (case l1 => k_is)
    (case c1 => k_is)
    (case k1 => k_is)
    (case a2 => k_is)
    (case l2 => k_is)
    (case c2 => k_is)
    (case k2 => k_is)
    (case a3 => k_is)
    (case l3 => k_is)
    (case c3 => k_is)
    (case k3 => k_is)
    (case a4 => k_is)
    (case l4 => k_is)
    (case c4 => k_is)
    (case k4 => k_is)
    (case a5 => k_is)
    (case l5 => k_is)
    (case c5 => k_is)
    (case k5 => k_is)
    (case a6 => k_is)
    (case l6 => k_is)
    (case c6 => k_is)
    (case k6 => k_is)
    (case a7 => k_is)
    (case l7 => k_is)
    (case c7 => k_is)
    (case k7 => k_is)
    (case a8 => k_is)
    (case l8 => k_is)
    (case c8 => k_is)
    (case k8 => k_is)
    (case a9 => k_is)
    (case l9 => k_is)
    (case c9 => k_is)
    (case k9 => k_is)
    (case a10 => k_is)
    (case l10 => k_is)
    (case c10 => k_is)
    (case k10 => k_is)
    (case a11 => k_is)
    (case i11 => k_is)
    (case l11 => k_is)
    (case c11 => k_is)
    (case k11 => k_is)
    (case a12 => k_is)
    (case i12 => k_is)
    (case l12 => k_is)
    (case c12 => k_is)
    (case k12 => k_is)
    (case a13 => k_is)
    (case i13 => k_is)
    (case l13 => k_is)
    (case c13 => k_is)
    (case k13 => k_is)
    (case a14 => k_is)
    (case i14 => k_is)
    (case l14 => k_is)
    (case c14 => k_is)
    (case k14 => k_is)
    (case a15 => k_is)
    (case i15 => k_is)
    (case l15 => k_is)
    (case c15 => k_is)
    (case k15 => k_is)
    (case a16 => k_is)
    (case i16 => k_is)
    (case l16 => k_is)
    (case c16 => k_is)
    (case k16 => k_is)
    (case a17 => k_is)
    (case i17 => k_is)
    (case l17 => k_is)
    (case c17 => k_is)
    (case k17 => k_is)
    (case w_pg_Rooms => first | k_is | kit_is | kts_exm | kernel_rfl)
    (case w_hd_Rooms => first | k_is | kit_is | kts_exm | kernel_rfl)
    (case w_po_Rooms => first | k_is | kit_is | kts_exm | kernel_rfl)
    (case w_sa_Rooms => first | k_is | kit_is | kts_exm | kernel_rfl)
    (case w_mk_Rooms => first | k_is | kit_is | kts_exm | kernel_rfl)
    (case w_kc_Rooms => first | k_is | kit_is | kts_exm | kernel_rfl)
    (case w_n_letters => first | k_is | kit_is | kts_exm | kernel_rfl)
    (case w_n_made => first | k_is | kit_is | kts_exm | kernel_rfl)
    (case w_n_rows => first | k_is | kit_is | kts_exm | kernel_rfl)
    (case w_n_ways => first | k_is | kit_is | kts_exm | kernel_rfl)
    (case w_n_gaps => first | k_is | kit_is | kts_exm | kernel_rfl)
    (case w_n_elders => first | k_is | kit_is | kts_exm | kernel_rfl)
    (case w_n_called => first | k_is | kit_is | kts_exm | kernel_rfl)
    (case w_n_went => first | k_is | kit_is | kts_exm | kernel_rfl)
    (case z1 => k_is)
    (case z2 => k_is)
    (case z3 => k_is)
    (case z4 => k_is)
    (case z5 => k_is)
    (case z6 => k_is)
    (case z7 => k_is)
    (case z8 => k_is)
    (case z9 => k_is)
