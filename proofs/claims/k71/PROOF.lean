import PyProof.Rows.All
import Wide.All
import OpenK.AllK
import Wide.FinOn
import Lean
import PyProof.EqAt
import PyProof.EqKinds
import PyProof.TupleCall
import PyProof.FString
import OpenK.KOwn
import KE.KTryMore
import PyProof.NsDelKeeps
import PyProof.StrBlock2
import PyProof.AutoListH
import KE.KIntText
import PyProof.Rows.StrIntSpec
import KE.KRevIter
import PyProof.StrWalks
import PyProof.CompUse
import PyProof.NeKinds
import PyProof.Rows.Range3
import PyProof.Rows.EnumRows
import PyProof.ConsumeWalk
import PyProof.Rows.SeqGen
import PyProof.StrLawsRepr
import PyProof.ZipIter
import PyProof.Rows.FactsT2
import PyProof.EnumMake
import PyProof.DictWalks
import PyProof.DictTruth
import PyProof.ListRange
import PyProof.ListStr
import PyProof.TupleOfGen
import PyProof.TupleOfSeq
import KE.KRevSl
import PyProof.Rows.SeqMore
import PyProof.ListMulRoad
import PySem.Challenge.RW_cosetyard_k71_carries
-- CHANGE: your row's module here, as the last of these rows
set_option Elab.async false
set_option linter.all false
set_option maxRecDepth 100000
namespace L2
open PySem PySem.Spec PyProof.Rows
abbrev Key := Sum Int Str
def keyIs : Key → Value → Bool
  | .inl k, v => Value.isInt k v
  | .inr x, v => Value.isStrOf x v
def keyH (w : World) : Key → Int
  | .inl k => hashInt k
  | .inr x => hashStr w x
theorem keyIs_shape : ∀ {k : Key} {v : Value}, keyIs k v = true → (∃ i t, k = Sum.inl i ∧ v = Value.int i t) ∨ (∃ x t, k = Sum.inr x ∧ v = Value.str x t)
  | .inl i, v, h => by
    obtain ⟨t, e⟩ := Value.isInt_shape (k := i) (v := v) h
    exact .inl ⟨i, t, rfl, e⟩
  | .inr x, v, h => by
    obtain ⟨t, e⟩ := Value.isStrOf_shape (x := x) (v := v) h
    exact .inr ⟨x, t, rfl, e⟩
theorem key_ll (a b : Int) : decide ((Sum.inl a : Key) = Sum.inl b) = (a == b) := by
  by_cases e : a = b
  · subst e; simp
  · have h : ¬ (Sum.inl a : Key) = Sum.inl b := fun q => e (Sum.inl.inj q)
    rw [decide_eq_false h]
    exact (beq_eq_false_iff_ne.mpr e).symm
theorem key_rr (a b : Str) : decide ((Sum.inr a : Key) = Sum.inr b) = decide (a = b) := by
  by_cases e : a = b
  · subst e; simp
  · have h : ¬ (Sum.inr a : Key) = Sum.inr b := fun q => e (Sum.inr.inj q)
    rw [decide_eq_false h, decide_eq_false e]
theorem key_lr (a : Int) (b : Str) : decide ((Sum.inl a : Key) = Sum.inr b) = false := decide_eq_false (fun q => nomatch q)
theorem key_rl (a : Str) (b : Int) : decide ((Sum.inr a : Key) = Sum.inl b) = false := decide_eq_false (fun q => nomatch q)
def mixKind (prog : Program) (w : World) : PySem.KeyKind prog w Key where
  is := keyIs
  hash := keyH w
  inj := fun v a b ha hb => by
    rcases keyIs_shape ha with ⟨i, t, rfl, rfl⟩ | ⟨x, t, rfl, rfl⟩
    · rcases keyIs_shape hb with ⟨j, u, rfl, e⟩ | ⟨y, u, rfl, e⟩
      · injection e with e1 _; rw [e1]
      · exact nomatch e
    · rcases keyIs_shape hb with ⟨j, u, rfl, e⟩ | ⟨y, u, rfl, e⟩
      · exact nomatch e
      · injection e with e1 _; rw [e1]
  byValue := fun k v h => by
    rcases keyIs_shape h with ⟨i, t, rfl, rfl⟩ | ⟨x, t, rfl, rfl⟩ <;> rfl
  pyHash := fun hv h => by
    rcases keyIs_shape hv with ⟨i, t, rfl, rfl⟩ | ⟨x, t, rfl, rfl⟩
    · exact wpAny_pyHash_int h
    · exact wpAny_pyHash_str h
  eqBool := fun hu hv h => by
    rcases keyIs_shape hu with ⟨i, t, rfl, rfl⟩ | ⟨x, t, rfl, rfl⟩
    · rcases keyIs_shape hv with ⟨j, u, rfl, rfl⟩ | ⟨y, u, rfl, rfl⟩
      · rw [key_ll] at h; exact wpAny_eqBool_int h
      · rw [key_lr] at h; exact SeqAt.EqAt.int_str i t y u _ _ _ _ h
    · rcases keyIs_shape hv with ⟨j, u, rfl, rfl⟩ | ⟨y, u, rfl, rfl⟩
      · rw [key_rl] at h; exact SeqAt.EqAt.str_int x t j u _ _ _ _ h
      · rw [key_rr] at h; exact wpAny_eqBool_str h
  «strs» := fun k x t v h => by
    rcases keyIs_shape h with ⟨i, u, rfl, e⟩ | ⟨y, u, rfl, e⟩
    · exact nomatch e
    · injection e with e1 _
      subst e1
      cases v <;> rfl
end L2
namespace L2
open PySem PySem.Spec PyProof.Rows
inductive V where
  | non | bl (b : Bool) | int (i : Int) | str (x : Str) | byt (b : Array UInt8) | flt (b : UInt64) | ref (a : Addr) | ty (n : String)
  deriving DecidableEq
def RelV : V → Value → Prop
  | .non, u => u = Value.none
  | .bl b, u => u = Value.bool b
  | .int i, u => ∃ t, u = Value.int i t
  | .str x, u => ∃ t, u = Value.str x t
  | .byt b, u => ∃ t, u = Value.bytes b t
  | .flt b, u => ∃ t, u = Value.float b t
  | .ref a, u => u = Value.ref a
  | .ty n, u => u = Value.type n
abbrev Vals : List V → List Value → Prop := Paired RelV
theorem Vals.length {xs : List V} {us : List Value} (r : Vals xs us) : xs.length = us.length := Paired.length r
theorem Vals.get : ∀ {xs : List V} {us : List Value} {i : Nat} {x : V}, Vals xs us → xs[i]? = some x → ∃ u, us[i]? = some u ∧ RelV x u
  | _, _, _, _, .nil, e => by simp at e
  | _, _, 0, _, .cons r _, e => by simp at e; subst e; exact ⟨_, rfl, r⟩
  | _, _, i + 1, x, .cons _ t, e => by
    obtain ⟨u, h1, h2⟩ := Vals.get (i := i) (x := x) t (by simpa using e)
    exact ⟨u, by simpa using h1, h2⟩
theorem Vals.set {x : V} {u : Value} (r : RelV x u) : ∀ {xs : List V} {us : List Value} (i : Nat), Vals xs us → Vals (xs.set i x) (us.set i u)
  | _, _, _, .nil => .nil
  | _, _, 0, .cons _ t => .cons r t
  | _, _, i + 1, .cons q t => .cons q (Vals.set r i t)
theorem Vals.append : ∀ {xs ys : List V} {us ws : List Value}, Vals xs us → Vals ys ws → Vals (xs ++ ys) (us ++ ws)
  | _, _, _, _, .nil, s => s
  | _, _, _, _, .cons r t, s => .cons r (Vals.append t s)
theorem Vals.take : ∀ {xs : List V} {us : List Value} (n : Nat), Vals xs us → Vals (xs.take n) (us.take n)
  | _, _, 0, _ => .nil
  | _, _, _ + 1, .nil => .nil
  | _, _, n + 1, .cons r t => .cons r (Vals.take n t)
theorem Vals.drop : ∀ {xs : List V} {us : List Value} (n : Nat), Vals xs us → Vals (xs.drop n) (us.drop n)
  | _, _, 0, r => r
  | _, _, _ + 1, .nil => .nil
  | _, _, n + 1, .cons _ t => Vals.drop n t
def RelO : Option V → Option Value → Prop
  | some v, some u => RelV v u
  | none, none => True
  | _, _ => False
def KV {κ : Type} : List (κ × V) → List (κ × Value) → Prop := Paired fun (p : κ × V) (q : κ × Value) => p.1 = q.1 ∧ RelV p.2 q.2
def kV : Key → V
  | .inl i => .int i
  | .inr x => .str x
inductive HO where
  /-- a list -/
  | lst (xs : List V)
  /-- a tuple (never changes) -/
  | tup (xs : List V)
  /-- a dict whose keys are ints and texts; one whose keys are tuples of ints and texts (the empty one is both) -/
  | dK (kvs : List (Key × V)) | dT (kvs : List (List Key × V))
  /-- a set of ints: its members, its size -/
  | set (S : Int → Bool) (n : Nat)
  /-- an instance of the class at C, its dict at dx, its attributes -/
  | ins (C dx : Addr) (fs : List (Str × V))
  /-- the dict of the instance at x -/
  | own (x : Addr)
  /-- the dict of an exception -/
  | xd (fs : List (Str × V))
  /-- a bound method, f of x -/
  | met (f x : Addr)
  /-- a range object lo, lo + 1, .. below hi -/
  | rng (lo hi : Int)
  /-- a thing that is known to the object (the script; a dict while a loop walks it): read, never written while it is so -/
  | frz (o : Obj) (u : HO)
  /-- a code object's table -/
  | tbl (ps : Array Value)
  /-- any other thing, by what is true of its one object (a def of one's own: SetO a S n := HO.ext fun h => ..) -/
  | ext (φ : Heap → Prop)
abbrev Hp := Addr → Option HO
def upd (H : Hp) (a : Addr) (o : HO) : Hp := fun b => if b = a then some o else H b
theorem upd_same {H : Hp} {a : Addr} {o : HO} : upd H a o a = some o := by unfold upd; rw [if_pos rfl]
theorem upd_ne {H : Hp} {a b : Addr} {o : HO} (h : b ≠ a) : upd H a o b = H b := by unfold upd; rw [if_neg h]
theorem ne_of {H : Hp} {a b : Addr} {o u : HO} (h : H a = some o) (h' : H b = some u) (d : o ≠ u) : a ≠ b := by
  intro e; subst e; rw [h] at h'; exact d (Option.some.inj h')
theorem ne_of_none {H : Hp} {a b : Addr} {o : HO} (h : H a = some o) (h' : H b = none) : a ≠ b := by
  intro e; subst e; rw [h] at h'; cases h'
section
variable (P : Program) (w : World)
def ObjOk (H : Hp) (h : Heap) (a : Addr) : HO → Prop
  | .lst xs => xs.length ≤ sizeLine ∧ ∃ (its : List Value) (n : Nat), Vals xs its ∧ h.get? a = some { cls := .type "list", data := .seq its.toArray n }
  | .tup xs => xs.length ≤ sizeLine ∧ ∃ its : List Value, Vals xs its ∧ IsTup h a its.toArray
  | .dK kvs => kvs.length ≤ sizeLine ∧ (a == sysModules) = false ∧ ∃ vs, KV kvs vs ∧ h.DictOf (mixKind P w) a vs
  | .dT kvs => kvs.length ≤ sizeLine ∧ (a == sysModules) = false ∧ ∃ xs : List (List Key × Addr × Value),
      Paired (fun (p : List Key × V) (q : List Key × Addr × Value) => p.1 = q.1 ∧ H q.2.1 = some (.tup (p.1.map kV)) ∧ RelV p.2 q.2.2) kvs xs ∧
      ∃ o es ep, h.get? a = some o ∧ o.ExactDict ∧ o.data = .dict es ep ∧ es.toList = xs.map (entryOfKey (tupleKind (mixKind P w))) ∧ (xs.map (·.1)).Nodup
  | .set S n => h.SetOf (intKind P w) a S n
  | .ins C dx fs => H dx = some (.own a) ∧ fs.length ≤ 1000 ∧ dx ≠ a ∧ h.get? a = some (PySem.W.instObj C dx) ∧
      ∃ mA, h.Ns1 dx mA ∧ (∀ f, RelO (fs.lookup f) (mA f)) ∧ PySem.Within mA (fs.map (·.1))
  | .own _ => ∃ o, h.get? a = some o
  | .xd fs => ∃ mA, h.Ns1 a mA ∧ ∀ f, RelO (fs.lookup f) (mA f)
  | .rng lo hi => ∃ t u v, h.get? a = some { cls := .type "range", data := .fields #[.int lo t, .int hi u, .int 1 v] }
  | .frz o u => h.get? a = some o ∧ ObjOk H h a u
  | .tbl ps => h.get? a = some { cls := .none, data := .fields ps }
  | .met f x => h.get? a = some (PySem.W.methodObj (.ref f) (.ref x))
  | .ext φ => φ h ∧ (∃ o, h.get? a = some o) ∧ ∀ h1 h2 : Heap, φ h1 → (∀ o, h1.get? a = some o → h2.get? a = some o) → φ h2
def HOk (H : Hp) (h : Heap) : Prop := ∀ a o, H a = some o → ObjOk P w H h a o
end
section
variable {P : Program} {w : World} {H H' : Hp} {h h' : Heap} {a : Addr} {o : HO}
theorem ObjOk.lt (x : ObjOk P w H h a o) : a < h.objs.size := by
  cases o with
  | lst xs => obtain ⟨_, _, _, _, e⟩ := x; exact Heap.lt_size e
  | tup xs => obtain ⟨_, _, _, p⟩ := x; exact p.lt
  | dK kvs => obtain ⟨_, _, _, _, o, _, _, e, _⟩ := x; exact Heap.lt_size e
  | dT kvs => obtain ⟨_, _, _, _, o, _, _, e, _⟩ := x; exact Heap.lt_size e
  | set S n => obtain ⟨o, _, _, _, e, _⟩ := x; exact Heap.lt_size e
  | ins C dx fs => obtain ⟨_, _, _, e, _⟩ := x; exact Heap.lt_size e
  | own y => obtain ⟨_, e⟩ := x; exact Heap.lt_size e
  | xd fs => obtain ⟨_, ⟨_, _, _, e, _⟩, _⟩ := x; exact Heap.lt_size e
  | rng lo hi => obtain ⟨_, _, _, e⟩ := x; exact Heap.lt_size e
  | frz ob u => obtain ⟨e, _⟩ := x; exact Heap.lt_size e
  | tbl ps => exact Heap.lt_size (show h.get? a = some _ from x)
  | met f y => exact Heap.lt_size (show h.get? a = some _ from x)
  | ext φ => obtain ⟨_, ⟨_, e⟩, _⟩ := x; exact Heap.lt_size e
theorem Paired.mapP {α β : Type} {F G : α → β → Prop} : ∀ {l₁ : List α} {l₂ : List β}, Paired F l₁ l₂ → (∀ a b, F a b → G a b) → Paired G l₁ l₂
  | _, _, .nil, _ => .nil
  | _, _, .cons r t, f => .cons (f _ _ r) (Paired.mapP t f)
theorem ObjOk.stay (x : ObjOk P w H h a o) (k : ∀ b u, (b = a ∨ H b = some (.own a)) → h.get? b = some u → h'.get? b = some u)
    (ho : ∀ b, H b = some (.own a) → H' b = some (.own a)) (ht : ∀ b xs, H b = some (.tup xs) → H' b = some (.tup xs)) : ObjOk P w H' h' a o := by
  induction o with
  | lst xs => obtain ⟨z, its, n, r, e⟩ := x; exact ⟨z, its, n, r, k _ _ (.inl rfl) e⟩
  | tup xs => obtain ⟨z, its, r, ob, e, c⟩ := x; exact ⟨z, its, r, ob, k _ _ (.inl rfl) e, c⟩
  | dK kvs => obtain ⟨z, y, vs, r, ob, es, ep, e, c⟩ := x; exact ⟨z, y, vs, r, ob, es, ep, k _ _ (.inl rfl) e, c⟩
  | dT kvs =>
    obtain ⟨z, y, xs, r, ob, es, ep, e, c⟩ := x
    exact ⟨z, y, xs, Paired.mapP r fun p q z => ⟨z.1, ht _ _ z.2.1, z.2.2⟩, ob, es, ep, k _ _ (.inl rfl) e, c⟩
  | set S n => obtain ⟨ob, es, ep, t, e, c⟩ := x; exact ⟨ob, es, ep, t, k _ _ (.inl rfl) e, c⟩
  | ins C dx fs =>
    obtain ⟨d, z, ne, e, mA, ⟨od, es, ep, e2, c⟩, r⟩ := x
    exact ⟨ho _ d, z, ne, k _ _ (.inl rfl) e, mA, ⟨od, es, ep, k _ _ (.inr d) e2, c⟩, r⟩
  | own y => obtain ⟨ob, e⟩ := x; exact ⟨ob, k _ _ (.inl rfl) e⟩
  | xd fs => obtain ⟨mA, ⟨od, es, ep, e, c⟩, r⟩ := x; exact ⟨mA, ⟨od, es, ep, k _ _ (.inl rfl) e, c⟩, r⟩
  | rng lo hi => obtain ⟨t, u, v, e⟩ := x; exact ⟨t, u, v, k _ _ (.inl rfl) e⟩
  | frz ob u ih => obtain ⟨e, q⟩ := x; exact ⟨k _ _ (.inl rfl) e, ih q⟩
  | tbl ps =>
    have e : h.get? a = some { cls := .none, data := .fields ps } := x
    show h'.get? a = some { cls := .none, data := .fields ps }
    exact k a _ (.inl rfl) e
  | met f y =>
    have e : h.get? a = some (PySem.W.methodObj (.ref f) (.ref y)) := x
    show h'.get? a = some (PySem.W.methodObj (.ref f) (.ref y))
    exact k a _ (.inl rfl) e
  | ext φ => obtain ⟨p, ⟨o, e⟩, st⟩ := x; exact ⟨st _ _ p fun o q => k _ _ (.inl rfl) q, ⟨o, k _ _ (.inl rfl) e⟩, st⟩
theorem HOk.lt (x : HOk P w H h) (e : H a = some o) : a < h.objs.size := (x a o e).lt
theorem HOk.fresh (x : HOk P w H h) (e : h.objs.size ≤ a) : H a = none := by
  cases q : H a with
  | none => rfl
  | some u => exact absurd (Nat.lt_of_lt_of_le (x.lt q) e) (Nat.lt_irrefl _)
theorem HOk.kept (x : HOk P w H h) (k : ∀ b u, h.get? b = some u → h'.get? b = some u) : HOk P w H h' := fun a o e =>
  (x a o e).stay (fun b u _ q => k b u q) (fun _ q => q) fun _ _ q => q
theorem HOk.laid (x : HOk P w H h) (k : ∀ b u, h.get? b = some u → h'.get? b = some u) (hp : h.objs.size ≤ a) (new : ObjOk P w (upd H a o) h' a o) : HOk P w (upd H a o) h' := fun b u e => by
  have hn := x.fresh hp
  by_cases hb : b = a
  · subst hb; rw [upd_same] at e; cases e; exact new
  · rw [upd_ne hb] at e
    exact (x b u e).stay (fun c v _ q => k c v q) (fun c q => by rw [upd_ne (ne_of_none q hn)]; exact q) fun c xs q => by rw [upd_ne (ne_of_none q hn)]; exact q
end
def Rd (H : Hp) (a : Addr) (u : HO) : Prop := H a = some u ∨ ∃ o, H a = some (.frz o u)
theorem Rd.of {H : Hp} {a : Addr} {u : HO} (h : H a = some u) : Rd H a u := .inl h
theorem Rd.ok {P : Program} {w : World} {H : Hp} {h : Heap} {a : Addr} {u : HO} (r : Rd H a u) (x : HOk P w H h) : ObjOk P w H h a u := by
  rcases r with r | ⟨o, r⟩
  · exact x a u r
  · obtain ⟨_, q⟩ := x a _ r
    exact q
def Mut : Option HO → Prop
  | some (.lst _) => True
  | some (.dK _) => True
  | some (.dT _) => True
  | some (.set _ _) => True
  | some (.ins _ _ _) => True
  | some (.ext _) => True
  | _ => False
section
variable {P : Program} {w : World} {H : Hp} {h h' : Heap} {x e : Addr} {o' : HO}
theorem HOk.write (ok : HOk P w H h) (mu : Mut (H x)) (he : e = x ∨ H e = some (.own x)) (k : ∀ b u, b ≠ e → h.get? b = some u → h'.get? b = some u) (heo : ∃ u, h'.get? e = some u)
    (new : ObjOk P w (upd H x o') h' x o') : HOk P w (upd H x o') h' := fun b u q => by
  have nown : ∀ c y, H c = some (.own y) → c ≠ x := fun c y r z => by subst z; rw [r] at mu; exact mu
  have ntup : ∀ c xs, H c = some (.tup xs) → c ≠ x := fun c xs r z => by subst z; rw [r] at mu; exact mu
  by_cases hb : b = x
  · subst hb; rw [upd_same] at q; cases q; exact new
  · rw [upd_ne hb] at q
    by_cases hbe : b = e
    · have q' : H b = some (.own x) := by
        rcases he with z | z
        · exact absurd (hbe.trans z) hb
        · rw [hbe]; exact z
      rw [q] at q'; cases q'
      obtain ⟨v, hv⟩ := heo
      exact ⟨v, by rw [hbe]; exact hv⟩
    · refine (ok b u q).stay (fun c v hc r => k c v ?_ r) (fun c r => by rw [upd_ne (nown c b r)]; exact r) fun c xs r => by rw [upd_ne (ntup c xs r)]; exact r
      rcases hc with rfl | hc
      · exact hbe
      · rintro rfl
        rcases he with z | z
        · exact nown c b hc z
        · rw [hc] at z; cases z; exact hb rfl
end
structure Un (fs ex : List Addr) (H H' : Hp) (h h' : Heap) : Prop where
  keep : ∀ b o, h.get? b = some o → H b = none → b ∉ fs → b ∉ ex → h'.get? b = some o
  slot : ∀ b o, h.get? b = some o → H b = none → b ∈ fs → b ∉ ex → ∃ sl, h'.get? b = some { o with slots := sl }
  free : ∀ b o, h.get? b = some o → H b = none → b ∉ ex → H' b = none
  there : ∀ b o, h.get? b = some o → b ∉ ex → ∃ o', h'.get? b = some o'
  tups : ∀ b xs, H b = some (.tup xs) → H' b = some (.tup xs)
  frzs : ∀ b o u, H b = some (.frz o u) → H' b = some (.frz o u)
  tbls : ∀ b ps, H b = some (.tbl ps) → ∃ more, H' b = some (.tbl (ps ++ more))
section
variable {fs fs' ex ex' : List Addr} {H H1 H2 : Hp} {h h1 h2 h' : Heap} {a x e : Addr} {o : HO}
theorem Un.any (u : Un fs ex H H1 h h1) {b : Addr} {ob : Obj} (q : h.get? b = some ob) (n : H b = none) (hx : b ∉ ex) : ∃ sl, h1.get? b = some { ob with slots := sl } := by
  by_cases hb : b ∈ fs
  · exact u.slot b ob q n hb hx
  · exact ⟨ob.slots, u.keep b ob q n hb hx⟩
theorem Un.trans (a : Un fs ex H H1 h h1) (b : Un fs ex H1 H2 h1 h2) : Un fs ex H H2 h h2 where
  keep := fun c ob q n hc hx => b.keep c ob (a.keep c ob q n hc hx) (a.free c ob q n hx) hc hx
  slot := fun c ob q n hc hx => by
    obtain ⟨sl, e1⟩ := a.slot c ob q n hc hx
    obtain ⟨sl', e2⟩ := b.slot c _ e1 (a.free c ob q n hx) hc hx
    exact ⟨sl', e2⟩
  free := fun c ob q n hx => by
    obtain ⟨o', e1⟩ := a.there c ob q hx
    exact b.free c o' e1 (a.free c ob q n hx) hx
  there := fun c ob q hx => by
    obtain ⟨o', e1⟩ := a.there c ob q hx
    exact b.there c o' e1 hx
  tups := fun c xs q => b.tups c xs (a.tups c xs q)
  frzs := fun c ob xs q => b.frzs c ob xs (a.frzs c ob xs q)
  tbls := fun c ps q => by
    obtain ⟨m1, e1⟩ := a.tbls c ps q
    obtain ⟨m2, e2⟩ := b.tbls c _ e1
    exact ⟨m1 ++ m2, by rw [e2, Array.append_assoc]⟩
theorem Un.kept (k : ∀ b u, h.get? b = some u → h'.get? b = some u) : Un fs ex H H h h' :=
  ⟨fun b ob q _ _ _ => k b ob q, fun b ob q _ _ _ => ⟨ob.slots, k b ob q⟩, fun _ _ _ n _ => n, fun b ob q _ => ⟨ob, k b ob q⟩, fun _ _ q => q, fun _ _ _ q => q, fun _ ps q => ⟨#[], by rw [q]; simp⟩⟩
theorem Un.refl : Un fs ex H H h h := Un.kept fun _ _ q => q
theorem Un.laid (k : ∀ b u, h.get? b = some u → h'.get? b = some u) (hp : h.objs.size ≤ a) (hn : H a = none) : Un fs ex H (upd H a o) h h' where
  keep := fun b u q _ _ _ => k b u q
  slot := fun b u q _ _ _ => ⟨u.slots, k b u q⟩
  free := fun b u q n _ => by rw [upd_ne (Nat.ne_of_lt (Nat.lt_of_lt_of_le (Heap.lt_size q) hp))]; exact n
  there := fun b u q _ => ⟨u, k b u q⟩
  tups := fun b xs q => by rw [upd_ne (ne_of_none q hn)]; exact q
  frzs := fun b u xs q => by rw [upd_ne (ne_of_none q hn)]; exact q
  tbls := fun b ps q => ⟨#[], by rw [upd_ne (ne_of_none q hn), q]; simp⟩
theorem Un.write (mu : Mut (H x)) (he : e = x ∨ H e = some (.own x)) (k : ∀ b u, b ≠ e → h.get? b = some u → h'.get? b = some u) (heo : ∃ u, h'.get? e = some u) : Un fs ex H (upd H x o) h h' := by
  have hx : ∀ b, H b = none → b ≠ x := fun b n z => by subst z; rw [n] at mu; exact mu
  have hb : ∀ b, H b = none → b ≠ e := fun b n z => by
    subst z
    rcases he with r | r
    · exact hx b n r
    · rw [n] at r; cases r
  have hm : ∀ b u, H b = some u → ¬ Mut (some u) → b ≠ x := fun b u q nm z => by subst z; rw [q] at mu; exact nm mu
  refine ⟨fun b u q n _ _ => k b u (hb b n) q, fun b u q n _ _ => ⟨u.slots, k b u (hb b n) q⟩, fun b u q n _ => by rw [upd_ne (hx b n)]; exact n, fun b u q _ => ?_,
    fun b xs q => by rw [upd_ne (hm b _ q fun z => z)]; exact q, fun b u xs q => by rw [upd_ne (hm b _ q fun z => z)]; exact q, fun b ps q => ⟨#[], by rw [upd_ne (hm b _ q fun z => z), q]; simp⟩⟩
  by_cases hbe : b = e
  · subst hbe; exact heo
  · exact ⟨u, k b u hbe q⟩
theorem Un.mono (u : Un fs ex H H1 h h1) (hs : ∀ b ∈ fs, b ∈ fs') (hx : ∀ b ∈ ex, b ∈ ex') : Un fs' ex' H H1 h h1 :=
  ⟨fun b ob q n hb he => u.keep b ob q n (fun z => hb (hs b z)) fun z => he (hx b z), fun _ _ q n _ he => u.any q n fun z => he (hx _ z), fun b ob q n he => u.free b ob q n fun z => he (hx b z), fun b ob q he => u.there b ob q fun z => he (hx b z), u.tups, u.frzs, u.tbls⟩
end
def trk (h : Heap) (H : Hp) : List Addr := (List.range h.objs.size).filter fun a => (H a).isSome
def hidT (h : Heap) (H : Hp) : Heap := PySem.W.hideAll h (trk h H)
theorem hidT_size (h : Heap) (H : Hp) : (hidT h H).objs.size = h.objs.size := PySem.W.hideAll_size _ _
theorem hidT_get {h : Heap} {H : Hp} {b : Addr} {o : Obj} (e : h.get? b = some o) (n : H b = none) : (hidT h H).get? b = some o :=
  PySem.W.hideAll_get _ e fun hm => by
    have q : (H b).isSome = true := (List.mem_filter.mp hm).2
    rw [n] at q; simp at q
theorem of_hidT {h : Heap} {H : Hp} {b : Addr} {o : Obj} (e : (hidT h H).get? b = some o) : h.get? b = some o ∧ H b = none := by
  have e' : h.get? b = some o := PySem.W.of_hideAll (trk h H) e
  refine ⟨e', ?_⟩
  cases q : H b with
  | none => rfl
  | some x =>
    have hm : b ∈ trk h H := List.mem_filter.mpr ⟨List.mem_range.mpr (Heap.lt_size e'), by simp [q]⟩
    have z : (hidT h H).get? b = none := PySem.W.hideAll_none (trk h H) hm
    rw [z] at e; cases e
def allNews (g h : Heap) (L : Addr) : List (Addr × Obj) := (List.range h.objs.size).filterMap fun a => if a = L ∨ (g.get? a).isSome = true then none else (h.get? a).map fun o => (a, o)
def rest (g h : Heap) (L d : Addr) : List (Addr × Obj) := (allNews g h L).filter fun p => decide (p.1 ≠ d)
end L2
namespace L2
open PySem PySem.Spec PyProof.Rows
structure Mod (K : PySem.W.Frag) (mg : Str → Option Value) (base : Heap) : Prop where
  kin : K.In base
  glob : base.Ns mainGlobals mg
  blt : ∃ mb, base.Ns builtinsNs mb ∧ ∀ x : Str, x ≠ "__name__" → mb x = bootBuiltins x
  nolimit : base.NoLimit
structure Cx where
  prog : Program
  w : World
  K : PySem.W.Frag
  mg : Str → Option Value
  base : Heap
  A : Around
  N : List Str
  s₀ : Shared
  H₀ : Hp
  env : Env
  outer : List Env
  stack : List Env
  ex : List Addr
  fn : Str → Bool
  calm : Bool
  pn : List (Addr × Obj)
  xe : Value → Shared → Prop
def frs (l : List Env) : List Addr := l.filterMap (·.frame)
abbrev Cx.fs (X : Cx) : List Addr := frs X.outer
def Vis (sc : Scope) (x : Str) : Prop := sc.names.lookup x = some .local ∨ sc.names.lookup x = some .cell ∨ sc.names.lookup x = some .free
def Loc (sc : Scope) (x : Str) : Prop := sc.names.lookup x = some .local ∨ sc.names.lookup x = some .cell
def Look (env : Env) (h : Heap) (m : Str → Option Value) (x : Str) (u : Value) : Prop :=
  (env.kindOf x = some .local ∧ m x = some u) ∨ ((env.kindOf x = some .cell ∨ env.kindOf x = some .free) ∧ ∃ c, env.cells.lookup x = some c ∧ h.IsCell c (some u))
structure Cx.Ok (X : Cx) : Prop where
  mod : Mod X.K X.mg X.base
  kind : X.env.scope.kind = .function
  glob : X.env.globals = mainGlobals
  blt : X.env.builtins = builtinsNs
  above : X.s₀.heap.objs.size ≤ X.env.locals
  inj : ∀ x y c, X.env.cells.lookup x = some c → X.env.cells.lookup y = some c → x = y
  has : ∀ x, (X.env.kindOf x = some .cell ∨ X.env.kindOf x = some .free) → ∃ c, X.env.cells.lookup x = some c
  cab : ∀ x c, X.fn x = true → X.env.cells.lookup x = some c → X.s₀.heap.objs.size ≤ c
  hd : X.calm = true → X.A.handled = none
  frames : X.A.frames = some X.stack
  stk : X.stack = X.outer ∨ (X.stack = X.env :: X.outer ∧ X.env.frame = some X.env.locals)
  exf : ∀ b ∈ X.ex, b ≠ X.env.locals ∧ ∀ x c, X.env.cells.lookup x = some c → c ≠ b
  bs : ∀ b o, X.base.get? b = some o → X.s₀.heap.get? b = some o ∧ X.H₀ b = none
  bsz : X.base.objs.size ≤ X.s₀.heap.objs.size
  noex : ∀ b o, X.base.get? b = some o → b ∉ X.ex
  exfs : ∀ b ∈ X.ex, b ∉ X.fs
  funs : X.s₀.heap.FunFrames X.base X.outer
  frf : ∀ b ∈ X.fs, X.H₀ b = none
structure Inv (X : Cx) (pins : List (Addr × Obj)) (σ : List (Option V)) (H : Hp) (s : Shared) : Prop where
  ok : X.Ok
  os : s.os = X.s₀.os
  bare : AllBare s.gens
  base : Un X.fs X.ex X.H₀ H X.s₀.heap s.heap
  loc : ∃ m, s.heap.Ns X.env.locals m ∧ ∀ (i : Nat) (x : Str) (v : V), X.N[i]? = some x → σ[i]? = some (some v) → Vis X.env.scope x → ∃ u, RelV v u ∧ Look X.env s.heap m x u
  cell : ∀ x c, X.env.cells.lookup x = some c → ∃ v, s.heap.IsCell c v
  free : H X.env.locals = none
  freeC : ∀ x c, X.env.cells.lookup x = some c → H c = none
  pin : ∀ p ∈ X.pn ++ pins, s.heap.get? p.1 = some p.2 ∧ H p.1 = none ∧ p.1 ≠ X.env.locals ∧ p.1 ∉ X.fs ∧ ∀ v, p.2.data ≠ .cell v
  hok : HOk X.prog X.w H s.heap
  len : σ.length = X.N.length
section
variable {X : Cx} {pins : List (Addr × Obj)} {σ : List (Option V)} {H H' : Hp} {s : Shared} {h' : Heap}
theorem Cx.Ok.nofr (ok : X.Ok) {b : Addr} {o : Obj} (e : X.base.get? b = some o) : b ∉ X.fs := fun hb => by
  have := (ok.funs.mem hb).1
  rw [e] at this; cases this
theorem Inv.bs (I : Inv X pins σ H s) : ∀ b o, X.base.get? b = some o → s.heap.get? b = some o ∧ H b = none := fun b o e =>
  ⟨I.base.keep b o (I.ok.bs b o e).1 (I.ok.bs b o e).2 (I.ok.nofr e) (I.ok.noex b o e), I.base.free b o (I.ok.bs b o e).1 (I.ok.bs b o e).2 (I.ok.noex b o e)⟩
theorem Inv.bk (I : Inv X pins σ H s) : ∀ b o, X.base.get? b = some o → s.heap.get? b = some o := fun b o e => (I.bs b o e).1
theorem Inv.mod (I : Inv X pins σ H s) : Mod X.K X.mg X.base := I.ok.mod
theorem Inv.kIn (I : Inv X pins σ H s) : X.K.In s.heap := I.ok.mod.kin.keeps I.bk
theorem Inv.nolimit (I : Inv X pins σ H s) : s.heap.NoLimit := I.ok.mod.nolimit.keeps I.bk
theorem Inv.fr (I : Inv X pins σ H s) : ∃ m, Fr X.base X.env.locals s.heap m :=
  let ⟨m, hn, _⟩ := I.loc
  ⟨m, hn, I.bk, Nat.le_trans I.ok.bsz I.ok.above⟩
theorem Inv.lt (I : Inv X pins σ H s) : X.env.locals < s.heap.objs.size := let ⟨_, hn, _⟩ := I.loc; hn.lt
theorem Inv.sz (I : Inv X pins σ H s) : X.s₀.heap.objs.size ≤ s.heap.objs.size := Nat.le_trans I.ok.above (Nat.le_of_lt I.lt)
theorem Inv.nofs (I : Inv X pins σ H s) {a : Addr} (h : s.heap.objs.size ≤ a) : a ∉ X.fs := fun hb => by
  obtain ⟨_, o, ho, _⟩ := I.ok.funs.mem hb
  exact absurd (Nat.lt_of_lt_of_le (Heap.lt_size ho) (Nat.le_trans I.sz h)) (Nat.lt_irrefl _)
theorem Inv.cne (I : Inv X pins σ H s) : ∀ x c, X.env.cells.lookup x = some c → c ≠ X.env.locals := fun x c e z => by
  obtain ⟨v, o, ho, hd⟩ := I.cell x c e
  obtain ⟨m, ⟨o', es, ep, ho', hd', _⟩, _⟩ := I.loc
  rw [z, ho'] at ho; cases ho; rw [hd'] at hd; cases hd
theorem Inv.funs (I : Inv X pins σ H s) : s.heap.FunFrames X.base X.outer := by
  have all : ∀ (l : List Env), (∀ b ∈ frs l, b ∈ X.fs) → X.s₀.heap.FunFrames X.base l → s.heap.FunFrames X.base l := by
    intro l
    induction l with
    | nil => intro _ _; trivial
    | cons env r ih =>
      intro hs hl
      obtain ⟨hk, ⟨L, o, hf, hn, ho, hd⟩, hr⟩ := hl
      have hL : L ∈ X.fs := hs L (by unfold frs; rw [List.filterMap_cons, hf]; exact List.mem_cons_self)
      obtain ⟨sl, e⟩ := I.base.slot L o ho (I.ok.frf L hL) hL fun z => I.ok.exfs L z hL
      exact ⟨hk, ⟨L, _, hf, hn, e, hd⟩, ih (fun b hb => hs b (by unfold frs; rw [List.filterMap_cons, hf]; exact List.mem_cons_of_mem _ hb)) hr⟩
  exact all X.outer (fun _ hb => hb) I.ok.funs
theorem Inv.stack (I : Inv X pins σ H s) : s.heap.FunFrames X.base X.stack := by
  rcases I.ok.stk with e | ⟨e, hf⟩
  · rw [e]; exact I.funs
  · rw [e]
    obtain ⟨m, hn, _⟩ := I.loc
    refine .cons (by rw [I.ok.kind]; decide) hf hn ?_ I.funs
    exact Heap.get?_none_of_le (Nat.le_trans I.ok.bsz I.ok.above)
theorem Inv.stkSub (I : Inv X pins σ H s) : ∀ b ∈ frs X.stack, b ∈ X.env.locals :: X.fs := fun b hb => by
  rcases I.ok.stk with e | ⟨e, hf⟩
  · rw [e] at hb; exact List.mem_cons_of_mem _ hb
  · rw [e] at hb
    unfold frs at hb
    rw [List.filterMap_cons, hf] at hb
    exact hb
theorem Inv.stkFree (I : Inv X pins σ H s) : ∀ b ∈ frs X.stack, H b = none := fun b hb => by
  rcases List.mem_cons.mp (I.stkSub b hb) with e | hb
  · rw [e]; exact I.free
  · obtain ⟨_, o, ho, _⟩ := I.ok.funs.mem hb
    exact I.base.free b o ho (I.ok.frf b hb) fun z => I.ok.exfs b z hb
theorem Inv.step {g' : Array GenState} {t' : Nat} {d' : Drawn} {ch : List Addr} (I : Inv X pins σ H s)
    (hch : ∀ b ∈ ch, (b ∈ X.ex ∨ X.s₀.heap.objs.size ≤ b) ∧ b ≠ X.env.locals ∧ (∀ x c, X.env.cells.lookup x = some c → c ≠ b) ∧ ∀ p ∈ X.pn ++ pins, p.1 ≠ b)
    (keep : ∀ b o, b ≠ X.env.locals → b ∉ X.fs → b ∉ ch → s.heap.get? b = some o → H b = none → h'.get? b = some o)
    (slot : ∀ b o, b ≠ X.env.locals → b ∈ X.fs → b ∉ ch → s.heap.get? b = some o → H b = none → ∃ sl, h'.get? b = some { o with slots := sl }) (free : ∀ b o, b ∉ ch → s.heap.get? b = some o → H b = none → H' b = none)
    (there : ∀ b o, b ∉ ch → s.heap.get? b = some o → ∃ o', h'.get? b = some o')
    (tups : ∀ b xs, H b = some (.tup xs) → H' b = some (.tup xs)) (frzs : ∀ b o u, H b = some (.frz o u) → H' b = some (.frz o u)) (tbls : ∀ b ps, H b = some (.tbl ps) → ∃ more, H' b = some (.tbl (ps ++ more)))
    (ns : ∀ m, s.heap.Ns X.env.locals m → h'.Ns X.env.locals m) (hok : HOk X.prog X.w H' h') (hg : AllBare g') :
    Inv X pins σ H' { s with heap := h', gens := g', drawn := d', toks := t' } := by
  have neL : ∀ b o, X.s₀.heap.get? b = some o → b ≠ X.env.locals := fun b o e => Nat.ne_of_lt (Nat.lt_of_lt_of_le (Heap.lt_size e) I.ok.above)
  have neC : ∀ b o, X.s₀.heap.get? b = some o → b ∉ X.ex → b ∉ ch := fun b o e hx hb => by
    rcases (hch b hb).1 with z | z
    · exact hx z
    · exact absurd (Nat.lt_of_lt_of_le (Heap.lt_size e) z) (Nat.lt_irrefl _)
  have cellK : ∀ x c, X.env.cells.lookup x = some c → ∀ v, s.heap.IsCell c v → h'.IsCell c v := fun x c e v ⟨o, ho, hd⟩ => by
    have nch : c ∉ ch := fun z => (hch c z).2.2.1 x c e rfl
    by_cases hc : c ∈ X.fs
    · obtain ⟨sl, q⟩ := slot c o (I.cne x c e) hc nch ho (I.freeC x c e)
      exact ⟨_, q, hd⟩
    · exact ⟨o, keep c o (I.cne x c e) hc nch ho (I.freeC x c e), hd⟩
  refine ⟨I.ok, I.os, hg, ⟨fun b o e n hb hx => ?_, fun b o e n hb hx => ?_, fun b o e n hx => ?_, fun b o e hx => ?_, fun b xs e => tups b xs (I.base.tups b xs e), fun b o xs e => frzs b o xs (I.base.frzs b o xs e), fun b ps e => ?_⟩, ?_, fun x c e => ?_, ?_, fun x c e => ?_, fun p hp => ?_, hok, I.len⟩
  · exact keep b o (neL b o e) hb (neC b o e hx) (I.base.keep b o e n hb hx) (I.base.free b o e n hx)
  · obtain ⟨sl, e1⟩ := I.base.slot b o e n hb hx
    obtain ⟨sl', e2⟩ := slot b _ (neL b o e) hb (neC b o e hx) e1 (I.base.free b o e n hx)
    exact ⟨sl', e2⟩
  · obtain ⟨o', e1⟩ := I.base.there b o e hx
    exact free b o' (neC b o e hx) e1 (I.base.free b o e n hx)
  · obtain ⟨o', e1⟩ := I.base.there b o e hx
    exact there b o' (neC b o e hx) e1
  · obtain ⟨m1, e1⟩ := I.base.tbls b ps e
    obtain ⟨m2, e2⟩ := tbls b _ e1
    exact ⟨m1 ++ m2, by rw [e2, Array.append_assoc]⟩
  · obtain ⟨m, hn, hl⟩ := I.loc
    refine ⟨m, ns m hn, fun i x v e1 e2 e3 => ?_⟩
    obtain ⟨u, r, l⟩ := hl i x v e1 e2 e3
    refine ⟨u, r, ?_⟩
    rcases l with l | ⟨k, c, e, z⟩
    · exact .inl l
    · exact .inr ⟨k, c, e, cellK x c e _ z⟩
  · obtain ⟨v, z⟩ := I.cell x c e
    exact ⟨v, cellK x c e v z⟩
  · obtain ⟨m, ⟨o, _, _, ho, _⟩, _⟩ := I.loc
    exact free _ o (fun z => (hch _ z).2.1 rfl) ho I.free
  · obtain ⟨v, o, ho, hd⟩ := I.cell x c e
    exact free c o (fun z => (hch c z).2.2.1 x c e rfl) ho (I.freeC x c e)
  · obtain ⟨e, n, ne, nf, d⟩ := I.pin p hp
    have nch : p.1 ∉ ch := fun z => (hch p.1 z).2.2.2 p hp rfl
    exact ⟨keep p.1 p.2 ne nf nch e n, free p.1 p.2 nch e n, ne, nf, d⟩
theorem Inv.un {t' : Nat} (I : Inv X pins σ H s) (u : Un X.fs [] H H' s.heap h') (hok : HOk X.prog X.w H' h') : Inv X pins σ H' { s with heap := h', toks := t' } := by
  obtain ⟨m, ⟨o, es, ep, ho, r⟩, _⟩ := id I.loc
  obtain ⟨sl, hL⟩ := u.any ho I.free (by simp)
  exact I.step (g' := s.gens) (d' := s.drawn) (ch := []) (fun _ z => nomatch z) (fun b o _ hb _ e n => u.keep b o e n hb (by simp)) (fun b o _ hb _ e n => u.slot b o e n hb (by simp)) (fun b o _ e n => u.free b o e n (by simp)) (fun b o _ e => u.there b o e (by simp)) u.tups u.frzs u.tbls (fun m' hm => by
    obtain ⟨o', es', ep', ho', r'⟩ := hm
    rw [ho] at ho'; cases ho'
    exact ⟨_, es', ep', hL, r'⟩) hok I.bare
theorem Inv.call {g' : Array GenState} {t' : Nat} {d' : Drawn} {ch : List Addr} (I : Inv X pins σ H s) (u : Un (frs X.stack) ch H H' s.heap h') (hok : HOk X.prog X.w H' h') (hg : AllBare g')
    (hch : ∀ b ∈ ch, (b ∈ X.ex ∨ X.s₀.heap.objs.size ≤ b) ∧ b ≠ X.env.locals ∧ (∀ x c, X.env.cells.lookup x = some c → c ≠ b) ∧ ∀ p ∈ X.pn ++ pins, p.1 ≠ b) :
    Inv X pins σ H' { s with heap := h', gens := g', drawn := d', toks := t' } := by
  obtain ⟨m, ⟨o, es, ep, ho, r⟩, _⟩ := id I.loc
  obtain ⟨sl, hL⟩ := u.any ho I.free fun z => (hch _ z).2.1 rfl
  exact I.step (ch := ch) hch (fun b o hL hb hc e n => u.keep b o e n (fun z => (List.mem_cons.mp (I.stkSub b z)).elim hL hb) hc) (fun b o _ _ hc e n => u.any e n hc) (fun b o hc e n => u.free b o e n hc) (fun b o hc e => u.there b o e hc) u.tups u.frzs u.tbls (fun m' hm => by
    obtain ⟨o', es', ep', ho', r'⟩ := hm
    rw [ho] at ho'; cases ho'
    exact ⟨_, es', ep', hL, r'⟩) hok hg
theorem Inv.turned {t' : Nat} {it : Addr} (I : Inv X pins σ H s) (k : ∀ b o, b ≠ it → s.heap.get? b = some o → h'.get? b = some o) (hn : H it = none) (hL : it ≠ X.env.locals)
    (h1 : it ∈ X.ex ∨ X.s₀.heap.objs.size ≤ it) (h2 : ∀ x c, X.env.cells.lookup x = some c → c ≠ it) (h3 : ∀ p ∈ X.pn ++ pins, p.1 ≠ it) : Inv X pins σ H { s with heap := h', toks := t' } := by
  have nit : ∀ b u, H b = some u → b ≠ it := fun b u e z => by rw [z, hn] at e; cases e
  refine I.step (g' := s.gens) (d' := s.drawn) (ch := [it]) (fun b hb => ?_) (fun b o _ _ hc e _ => k b o (fun z => hc (by simp [z])) e) (fun b o _ _ hc e _ => ⟨o.slots, k b o (fun z => hc (by simp [z])) e⟩) (fun _ _ _ _ n => n)
    (fun b o hc e => ⟨o, k b o (fun z => hc (by simp [z])) e⟩) (fun _ _ e => e) (fun _ _ _ e => e) (fun b ps e => ⟨#[], by rw [e]; simp⟩) (fun m hm => ?_) (fun b u e => ?_) I.bare
  · have e : b = it := by simpa using hb
    subst e
    exact ⟨h1, hL, h2, h3⟩
  · obtain ⟨o, es, ep, ho, r⟩ := hm
    exact ⟨o, es, ep, k _ o (Ne.symm hL) ho, r⟩
  · refine (I.hok b u e).stay (fun c v hc q => k c v ?_ q) (fun _ q => q) fun _ _ q => q
    rcases hc with z | z
    · rw [z]; exact nit b u e
    · exact nit c _ z
theorem Inv.tok (I : Inv X pins σ H s) (t : Nat) : Inv X pins σ H { s with toks := t } := I.un (h' := s.heap) (t' := t) Un.refl I.hok
theorem Inv.kept {t' : Nat} (I : Inv X pins σ H s) (k : ∀ b u, s.heap.get? b = some u → h'.get? b = some u) : Inv X pins σ H { s with heap := h', toks := t' } := I.un (Un.kept k) (I.hok.kept k)
theorem Inv.laid {a : Addr} {o : HO} {t' : Nat} (I : Inv X pins σ H s) (k : ∀ b u, s.heap.get? b = some u → h'.get? b = some u) (hp : s.heap.objs.size ≤ a) (new : ObjOk X.prog X.w (upd H a o) h' a o) :
    Inv X pins σ (upd H a o) { s with heap := h', toks := t' } := I.un (Un.laid k hp (I.hok.fresh hp)) (I.hok.laid k hp new)
theorem Inv.write {x e : Addr} {o : HO} {t' : Nat} (I : Inv X pins σ H s) (mu : Mut (H x)) (he : e = x ∨ H e = some (.own x)) (k : ∀ b u, b ≠ e → s.heap.get? b = some u → h'.get? b = some u) (heo : ∃ u, h'.get? e = some u)
    (new : ObjOk X.prog X.w (upd H x o) h' x o) : Inv X pins σ (upd H x o) { s with heap := h', toks := t' } := I.un (Un.write mu he k heo) (I.hok.write mu he k heo new)
theorem Inv.pins_of {pins' : List (Addr × Obj)} (I : Inv X pins σ H s) (h : ∀ p ∈ pins', s.heap.get? p.1 = some p.2 ∧ H p.1 = none ∧ p.1 ≠ X.env.locals ∧ p.1 ∉ X.fs ∧ ∀ v, p.2.data ≠ .cell v) : Inv X pins' σ H s :=
  ⟨I.ok, I.os, I.bare, I.base, I.loc, I.cell, I.free, I.freeC, fun p hp => (List.mem_append.mp hp).elim (fun z => I.pin p (List.mem_append_left _ z)) (h p), I.hok, I.len⟩
theorem nodup_ix {N : List Str} (hN : N.Nodup) {i j : Nat} {x : Str} (a : N[i]? = some x) (b : N[j]? = some x) : i = j := by
  obtain ⟨h1, e1⟩ := List.getElem?_eq_some_iff.mp a
  obtain ⟨h2, e2⟩ := List.getElem?_eq_some_iff.mp b
  exact (List.getElem_inj hN).mp (e1.trans e2.symm)
theorem store_ok2 {M : Model} {A : Around} {E : Value → Shared → Prop} {i : Nat} {x : Str} {v : V} {u : Value} {Q : Unit → Shared → Prop} (I : Inv X pins σ H s) (hN : X.N.Nodup) (hi : X.N[i]? = some x) (hx : Loc X.env.scope x) (r : RelV v u)
    (h : ∀ s', Inv X pins (σ.set i (some v)) H s' → (∃ a, Heap.SameBut a s.heap s'.heap ∧ (a = X.env.locals ∨ X.env.cells.lookup x = some a)) → Q () s') (hf : X.fn x = true ∨ X.env.scope.names.lookup x = some .local := by first | exact .inl rfl | exact .inr rfl | assumption) : wpAny M A (storeName X.env x u) Q E s := by
  obtain ⟨m, hn, hl⟩ := id I.loc
  have hcls : (X.env.scope.kind == .class || (X.env.scope.kind == .module && X.env.locals != X.env.globals)) = false := by rw [I.ok.kind]; rfl
  have hiσ : i < σ.length := by rw [I.len]; exact (List.getElem?_eq_some_iff.mp hi).1
  have cne := I.cne
  have tracked : ∀ {a : Addr} {h' : Heap}, (∃ o, s.heap.get? a = some o ∧ H a = none) → Heap.SameBut a s.heap h' → HOk X.prog X.w H h' := fun {a h'} ha hs b ob e => by
    obtain ⟨_, _, hfree⟩ := ha
    refine (I.hok b ob e).stay (fun c w' hc q => (hs.2 c ?_).trans q) (fun _ q => q) fun _ _ q => q
    rintro rfl
    rcases hc with rfl | hc
    · rw [hfree] at e; cases e
    · rw [hfree] at hc; cases hc
  rcases hx with hk | hk
  · refine wpAny_storeName_local hk hn (fun h' hn' hs => ?_) hcls
    obtain ⟨oL, _, _, hoL, _⟩ := id hn
    refine h _ ⟨I.ok, I.os, I.bare, ⟨fun b o e n hb hx => ?_, fun b o e n hb hx => ?_, I.base.free, fun b o e hx => ?_, I.base.tups, I.base.frzs, I.base.tbls⟩, ⟨_, hn', fun j y v' e1 e2 e3 => ?_⟩, fun y c e => ?_, I.free, I.freeC, fun p hp => ?_, tracked ⟨oL, hoL, I.free⟩ hs, by simpa using I.len⟩ ⟨_, hs, .inl rfl⟩
    · exact (hs.2 b (Nat.ne_of_lt (Nat.lt_of_lt_of_le (Heap.lt_size e) I.ok.above))).trans (I.base.keep b o e n hb hx)
    · obtain ⟨sl, e1⟩ := I.base.slot b o e n hb hx
      exact ⟨sl, (hs.2 b (Nat.ne_of_lt (Nat.lt_of_lt_of_le (Heap.lt_size e) I.ok.above))).trans e1⟩
    · obtain ⟨o', e1⟩ := I.base.there b o e hx
      exact ⟨o', (hs.2 b (Nat.ne_of_lt (Nat.lt_of_lt_of_le (Heap.lt_size e) I.ok.above))).trans e1⟩
    · by_cases hj : j = i
      · subst hj
        rw [hi] at e1; cases e1
        rw [List.getElem?_set_self hiσ] at e2
        cases e2
        exact ⟨u, r, .inl ⟨hk, by simp⟩⟩
      · rw [List.getElem?_set_ne (Ne.symm hj)] at e2
        obtain ⟨u', r', q⟩ := hl j y v' e1 e2 e3
        refine ⟨u', r', ?_⟩
        rcases q with ⟨k, e⟩ | ⟨k, c, e, z⟩
        · refine .inl ⟨k, ?_⟩
          have : y ≠ x := fun e => hj (nodup_ix hN e1 (e ▸ hi))
          simp [this, e]
        · exact .inr ⟨k, c, e, z.sameBut hs (cne y c e)⟩
    · obtain ⟨w', z⟩ := I.cell y c e
      exact ⟨w', z.sameBut hs (cne y c e)⟩
    · obtain ⟨e, n, ne, nf, d⟩ := I.pin p hp
      exact ⟨(hs.2 p.1 ne).trans e, n, ne, nf, d⟩
  · have hfn : X.fn x = true := by
      rcases hf with z | z
      · exact z
      · rw [z] at hk; cases hk
    obtain ⟨c, hc⟩ := I.ok.has x (.inl hk)
    obtain ⟨w', z⟩ := I.cell x c hc
    refine wpAny_storeName_cell I.ok.kind hk hc z (fun h' hc' hs => ?_)
    obtain ⟨oc, hoc, hocd⟩ := id z
    refine h { s with heap := h' } ⟨I.ok, I.os, I.bare, ⟨fun b o e n hb hx => ?_, fun b o e n hb hx => ?_, I.base.free, fun b o e hx => ?_, I.base.tups, I.base.frzs, I.base.tbls⟩, ⟨m, hn.sameBut hs (Ne.symm (cne x c hc)), fun j y v' e1 e2 e3 => ?_⟩, fun y c' e => ?_, I.free, I.freeC, fun p hp => ?_, tracked ⟨oc, hoc, I.freeC x c hc⟩ hs, by simpa using I.len⟩ ⟨c, hs, .inr hc⟩
    · exact (hs.2 b (Nat.ne_of_lt (Nat.lt_of_lt_of_le (Heap.lt_size e) (I.ok.cab x c hfn hc)))).trans (I.base.keep b o e n hb hx)
    · obtain ⟨sl, e1⟩ := I.base.slot b o e n hb hx
      exact ⟨sl, (hs.2 b (Nat.ne_of_lt (Nat.lt_of_lt_of_le (Heap.lt_size e) (I.ok.cab x c hfn hc)))).trans e1⟩
    · obtain ⟨o', e1⟩ := I.base.there b o e hx
      exact ⟨o', (hs.2 b (Nat.ne_of_lt (Nat.lt_of_lt_of_le (Heap.lt_size e) (I.ok.cab x c hfn hc)))).trans e1⟩
    · by_cases hj : j = i
      · subst hj
        rw [hi] at e1; cases e1
        rw [List.getElem?_set_self hiσ] at e2
        cases e2
        exact ⟨u, r, .inr ⟨.inl hk, c, hc, hc'⟩⟩
      · rw [List.getElem?_set_ne (Ne.symm hj)] at e2
        obtain ⟨u', r', q⟩ := hl j y v' e1 e2 e3
        refine ⟨u', r', ?_⟩
        rcases q with q | ⟨k, c', e, z'⟩
        · exact .inl q
        · refine .inr ⟨k, c', e, z'.sameBut hs ?_⟩
          rintro rfl
          exact hj (nodup_ix hN e1 (I.ok.inj _ _ _ e hc ▸ hi))
    · by_cases hcc : c' = c
      · subst hcc; exact ⟨_, hc'⟩
      · obtain ⟨w2, z2⟩ := I.cell y c' e
        exact ⟨w2, z2.sameBut hs hcc⟩
    · obtain ⟨e, n, ne, nf, d⟩ := I.pin p hp
      refine ⟨(hs.2 p.1 ?_).trans e, n, ne, nf, d⟩
      intro q
      rw [q, hoc] at e
      have q' : oc = p.2 := Option.some.inj e
      exact d w' (by rw [← q']; exact hocd)
theorem store_ok {M : Model} {A : Around} {E : Value → Shared → Prop} {i : Nat} {x : Str} {v : V} {u : Value} {Q : Unit → Shared → Prop} (I : Inv X pins σ H s) (hN : X.N.Nodup) (hi : X.N[i]? = some x) (hx : Loc X.env.scope x) (r : RelV v u)
    (h : ∀ s', Inv X pins (σ.set i (some v)) H s' → Q () s') (hf : X.fn x = true ∨ X.env.scope.names.lookup x = some .local := by first | exact .inl rfl | exact .inr rfl | assumption) : wpAny M A (storeName X.env x u) Q E s :=
  store_ok2 I hN hi hx r (fun s' I' _ => h s' I') hf
theorem Inv.call' {s' : Shared} {ch : List Addr} (I : Inv X pins σ H s) (ho : s'.os = s.os) (u : Un (frs X.stack) ch H H' s.heap s'.heap) (hok : HOk X.prog X.w H' s'.heap) (hg : AllBare s'.gens)
    (hch : ∀ b ∈ ch, (b ∈ X.ex ∨ X.s₀.heap.objs.size ≤ b) ∧ b ≠ X.env.locals ∧ (∀ x c, X.env.cells.lookup x = some c → c ≠ b) ∧ ∀ p ∈ X.pn ++ pins, p.1 ≠ b) : Inv X pins σ H' s' := by
  obtain ⟨h', g', d', t', o'⟩ := s'
  have e : o' = s.os := ho
  subst e
  exact I.call (g' := g') (t' := t') (d' := d') u hok hg hch
end
abbrev XK := Value → Option Addr → Hp → Prop
abbrev St := List (Option V)
abbrev VK := V → Hp → Prop
abbrev TE := St → Hp → VK → Prop
abbrev TT := St → Hp → (Bool → Hp → Prop) → Prop
abbrev TA := St → Hp → (List V → Hp → Prop) → Prop
structure Ends where
  nx : St → Hp → Prop
  rt : VK
  bk : St → Hp → Prop := fun _ _ => False
  ct : St → Hp → Prop := fun _ _ => False
abbrev TS := Ends → St → Hp → Prop
def EP (X : Cx) (pins : List (Addr × Obj)) (σ : St) (Q : VK) (u : Value) (s' : Shared) : Prop := ∃ v H', Inv X pins σ H' s' ∧ RelV v u ∧ Q v H'
def TP (X : Cx) (pins : List (Addr × Obj)) (σ : St) (Q : Bool → Hp → Prop) (b : Bool) (s' : Shared) : Prop := ∃ H', Inv X pins σ H' s' ∧ Q b H'
def AP (X : Cx) (pins : List (Addr × Obj)) (σ : St) (Q : List V → Hp → Prop) (us : List Value) (s' : Shared) : Prop := ∃ vs H', Inv X pins σ H' s' ∧ Vals vs us ∧ Q vs H'
def SP (X : Cx) (pins : List (Addr × Obj)) (D : Ends) (f : Flow) (s' : Shared) : Prop :=
  match f with
  | .next => ∃ σ' H', Inv X pins σ' H' s' ∧ D.nx σ' H'
  | .brk => ∃ σ' H', Inv X pins σ' H' s' ∧ D.bk σ' H'
  | .cont => ∃ σ' H', Inv X pins σ' H' s' ∧ D.ct σ' H'
  | .ret u => ∃ v σ' H', Inv X pins σ' H' s' ∧ RelV v u ∧ D.rt v H'
def PE (X : Cx) (e : Expr) (t : TE) : Prop :=
  ∀ (pins : List (Addr × Obj)) (s : Shared) (σ : St) (H : Hp) (Q : VK), Inv X pins σ H s → t σ H Q → wpAny (model X.prog X.w) X.A (eval e X.env) (EP X pins σ Q) X.xe s
def PT (X : Cx) (e : Expr) (t : TT) : Prop :=
  ∀ (pins : List (Addr × Obj)) (s : Shared) (σ : St) (H : Hp) (Q : Bool → Hp → Prop), Inv X pins σ H s → t σ H Q → wpAny (model X.prog X.w) X.A (isTrue e X.env (eval e X.env)) (TP X pins σ Q) X.xe s
def PW (X : Cx) (e : Expr) (t : TT) : Prop :=
  ∀ (whole : Sem Value) (pins : List (Addr × Obj)) (s : Shared) (σ : St) (H : Hp) (Q : Bool → Hp → Prop), Inv X pins σ H s → t σ H Q → wpAny (model X.prog X.w) X.A (isTrue e X.env whole) (TP X pins σ Q) X.xe s
theorem PW.pt {X : Cx} {e : Expr} {t : TT} (h : PW X e t) : PT X e t := h _
def PA (X : Cx) (es : List Expr) (t : TA) : Prop :=
  ∀ (pos : Pos) (pins : List (Addr × Obj)) (s : Shared) (σ : St) (H : Hp) (Q : List V → Hp → Prop), Inv X pins σ H s → t σ H Q → wpAny (model X.prog X.w) X.A (spliced (backTo pos (starEach es X.env))) (AP X pins σ Q) X.xe s
def PS (X : Cx) (st : Stmt) (t : TS) : Prop :=
  ∀ (pins : List (Addr × Obj)) (s : Shared) (σ : St) (H : Hp) (D : Ends), Inv X pins σ H s → t D σ H → wpAny (model X.prog X.w) X.A (exec st X.env) (SP X pins D) X.xe s
def PSs (X : Cx) (st : List Stmt) (t : TS) : Prop :=
  ∀ (pins : List (Addr × Obj)) (s : Shared) (σ : St) (H : Hp) (D : Ends), Inv X pins σ H s → t D σ H → wpAny (model X.prog X.w) X.A (execs st X.env) (SP X pins D) X.xe s
theorem thn {α : Type} {t : Sem α} {Q Q' : α → Shared → Prop} {M : Model} {A : Around} {E : Value → Shared → Prop} {s : Shared} (h : wpAny M A t Q E s) (hQ : ∀ a s, Q a s → Q' a s) : wpAny M A t Q' E s := wpAny_mono h hQ fun _ _ x => x
end L2
namespace L2
open PySem PySem.Spec PyProof.Rows
section
variable {X : Cx}
def tVar (i : Nat) : TE := fun σ H Q => ∃ v, σ[i]? = some (some v) ∧ Q v H
def tC (v : V) : TE := fun _ H Q => Q v H
theorem pe_var {i : Nat} {x : Str} {pos : Pos} (hN : X.N[i]? = some x) (hv : Vis X.env.scope x) (hd : (x == ("__debug__" : Str)) = false := by decide) (hcd : (x == ("__classdict__" : Str)) = false := by decide) : PE X (.Name x pos) (tVar i) := by
  intro pins s σ H Q I h
  obtain ⟨v, e, h⟩ := h
  obtain ⟨m, hn, hl⟩ := I.loc
  obtain ⟨u, r, l⟩ := hl i x v hN e hv
  have fin : EP X pins σ Q u s := ⟨v, H, I, r, h⟩
  rcases l with ⟨hk, hm⟩ | ⟨hk, c, hc, hcell⟩
  · exact wpAny_Name (wpAny_loadName_local I.ok.kind hk hn hm fin) hd
  · rcases hk with hk | hk
    · exact wpAny_Name (wpAny_loadName_cell I.ok.kind hk hc hcell fin) hd
    · exact wpAny_Name (wpAny_loadName_free I.ok.kind hk hc hcell fin hcd) hd
theorem pe_int {i j pos} : PE X (.Constant (.int i) j pos) (tC (.int i)) := fun _ _ _ H _ I h => wpAny_Constant_int ⟨.int i, H, I.tok _, ⟨_, rfl⟩, h⟩
theorem pe_bl {b j pos} : PE X (.Constant (.bool b) j pos) (tC (.bl b)) := fun _ _ _ H _ I h => Constant_bool ⟨.bl b, H, I, rfl, h⟩
def Gl (X : Cx) (x : Str) : Prop := X.env.kindOf x = some .globalImplicit
theorem ld_glob {E : Value → Shared → Prop} {pins : List (Addr × Obj)} {s : Shared} {σ : St} {H : Hp} {x : Str} {u : Value} {pos : Pos} {Q : Value → Shared → Prop} (I : Inv X pins σ H s) (hg : Gl X x) (hm : X.mg x = some u) (h : Q u s)
    (hd : (x == ("__debug__" : Str)) = false := by decide) : wpAny (model X.prog X.w) X.A (eval (.Name x pos) X.env) Q E s :=
  Calls.Name_function_global I.ok.kind hg (Calls.loadGlobal_global (by rw [I.ok.glob]; exact I.mod.glob.keeps I.bk) hm h) hd
theorem ld_blt {E : Value → Shared → Prop} {pins : List (Addr × Obj)} {s : Shared} {σ : St} {H : Hp} {x : Str} {u : Value} {pos : Pos} {Q : Value → Shared → Prop} (I : Inv X pins σ H s) (hg : Gl X x) (hm : X.mg x = none) (hv : bootBuiltins x = some u) (h : Q u s)
    (hn : x ≠ "__name__" := by decide) (hd : (x == ("__debug__" : Str)) = false := by decide) : wpAny (model X.prog X.w) X.A (eval (.Name x pos) X.env) Q E s := by
  obtain ⟨mb, h1, h2⟩ := I.mod.blt
  exact Calls.Name_function_global I.ok.kind hg (Calls.loadGlobal_builtin (by rw [I.ok.glob]; exact I.mod.glob.keeps I.bk) hm (by rw [I.ok.blt]; exact h1.keeps I.bk) ((h2 x hn).trans hv) h) hd
theorem pe_bltn {x : Str} {v : V} {u : Value} {pos : Pos} (hg : Gl X x) (hm : X.mg x = none) (hv : bootBuiltins x = some u) (r : RelV v u) (hn : x ≠ "__name__" := by decide) (hd : (x == ("__debug__" : Str)) = false := by decide) : PE X (.Name x pos) (tC v) :=
  fun _ _ _ H _ I h => ld_blt I hg hm hv ⟨v, H, I, r, h⟩ hn hd
variable {a b : Expr} {ta tb : TE} {pos : Pos}
def tB (t : TE) : TT := fun σ H Q => t σ H fun x H1 => ∃ c, x = .bl c ∧ Q c H1
theorem pt_val {e : Expr} {t : TE} (h : PE X e t) (he : ∀ whole, isTrue e X.env whole = (do let v ← whole; standAt e.pos; holding [v] (truthy v)) := by intro _; rfl) : PT X e (tB t) := by
  intro pins s σ H Q I hw
  refine isTrue_plain (thn (h pins s σ H _ I hw) fun v s1 ⟨x, H1, I1, r1, q1⟩ => ?_) (he _)
  obtain ⟨d, rfl, q⟩ := q1
  cases r1
  exact wpAny_truthy_bool ⟨H1, I1, q⟩
variable {tA tB' : TT} {rest : List Expr}
def tOr (t u : TT) : TT := fun σ H Q => t σ H fun c H1 => if c = true then Q true H1 else u σ H1 Q
def tNot (t : TT) : TT := fun σ H Q => t σ H fun c H1 => Q (!c) H1
theorem pw_or1 (ha : PT X a tA) : PW X (.BoolOp .Or [a] pos) tA := by
  intro wh pins s σ H Q I h
  refine isTrue_or (thn (ha pins s σ H Q I h) fun c s1 e => ?_)
  cases c with
  | false => exact isTrue_or_nil e
  | true => exact e
theorem pw_or (ha : PT X a tA) (hb : PW X (.BoolOp .Or (b :: rest) pos) tB') : PW X (.BoolOp .Or (a :: b :: rest) pos) (tOr tA tB') := by
  intro wh pins s σ H Q I h
  refine isTrue_or (thn (ha pins s σ H _ I h) fun c s1 ⟨H1, I1, q1⟩ => ?_)
  cases c with
  | true => exact ⟨H1, I1, q1⟩
  | false => exact hb wh pins s1 σ H1 Q I1 q1
theorem pt_not (ha : PT X a tA) : PT X (.UnaryOp .Not a pos) (tNot tA) := by
  intro pins s σ H Q I h
  exact isTrue_not (ha pins s σ H (fun c H1 => Q (!c) H1) I h)
def tAndV (ta tb : TE) : TE := fun σ H Q => ta σ H fun x H1 => ∃ c, x = .bl c ∧ if c = true then tb σ H1 Q else Q (.bl false) H1
theorem pe_one {op} {t : TE} (h : PE X a t) : PE X (.BoolOp op [a] pos) t := fun pins s σ H Q I hw => BoolOp_one (h pins s σ H Q I hw)
theorem pe_and (ha : PE X a ta) (hb : PE X (.BoolOp .And (b :: rest) pos) tb) : PE X (.BoolOp .And (a :: b :: rest) pos) (tAndV ta tb) := by
  intro pins s σ H Q I h
  refine BoolOp_and (thn (ha pins s σ H _ I h) fun v s1 ⟨x, H1, I1, r1, q1⟩ => ?_)
  obtain ⟨c, rfl, q1⟩ := q1
  cases r1
  refine wpAny_truthy_bool ?_
  cases c with
  | true => exact hb pins s1 σ H1 Q I1 q1
  | false => exact ⟨.bl false, H1, I1, rfl, q1⟩
def tIf (t : TT) (ta tb : TE) : TE := fun σ H Q => t σ H fun c H1 => if c = true then ta σ H1 Q else tb σ H1 Q
theorem pe_ifExp {c : Expr} (hc : PT X c tA) (ha : PE X a ta) (hb : PE X b tb) : PE X (.IfExp c a b pos) (tIf tA ta tb) := by
  intro pins s σ H Q I h
  refine wpAny_IfExp (thn (hc pins s σ H _ I h) fun d s1 ⟨H1, I1, q1⟩ => ?_)
  cases d with
  | true => exact ha pins s1 σ H1 Q I1 q1
  | false => exact hb pins s1 σ H1 Q I1 q1
end
end L2
namespace L2
open PySem PySem.Spec PyProof.Rows
def SqL (K : PySem.W.Frag) (H : Hp) (a : Addr) (xs : List V) : Prop :=
  Rd H a (.lst xs) ∨
    ∃ (o : Obj) (its : Array Value) (n : Nat), K.lookup a = some o ∧ o.cls = .type "list" ∧ o.dict = none ∧ o.data = .seq its n ∧ its.size ≤ sizeLine ∧ Vals xs its.toList
def SqT (K : PySem.W.Frag) (H : Hp) (a : Addr) (xs : List V) : Prop :=
  Rd H a (.tup xs) ∨
    ∃ (o : Obj) (its : Array Value) (n : Nat), K.lookup a = some o ∧ o.cls = .type "tuple" ∧ o.data = .seq its n ∧ its.size ≤ sizeLine ∧ Vals xs its.toList
def absV : Value → Option V
  | .none => some .non
  | .bool b => some (.bl b)
  | .int i _ => some (.int i)
  | .str x _ => some (.str x)
  | .bytes b _ => some (.byt b)
  | .float b _ => some (.flt b)
  | .ref a => some (.ref a)
  | .type n => some (.ty n)
  | _ => none
theorem RelV.abs {x : V} {u : Value} (r : RelV x u) : absV u = some x := by
  cases x with
  | non => cases r; rfl
  | bl _ => cases r; rfl
  | int _ => obtain ⟨t, rfl⟩ := r; rfl
  | str _ => obtain ⟨t, rfl⟩ := r; rfl
  | byt _ => obtain ⟨t, rfl⟩ := r; rfl
  | flt _ => obtain ⟨t, rfl⟩ := r; rfl
  | ref _ => cases r; rfl
  | ty _ => cases r; rfl
theorem RelV.inj {x y : V} {u : Value} (r : RelV x u) (q : RelV y u) : x = y := Option.some.inj (r.abs.symm.trans q.abs)
theorem Vals.inj : ∀ {xs ys : List V} {us : List Value}, Vals xs us → Vals ys us → xs = ys
  | _, _, _, .nil, .nil => rfl
  | _, _, _, .cons r t, .cons r' t' => by rw [r.inj r', Vals.inj t t']
section
variable {X : Cx} {pins : List (Addr × Obj)} {σ : St} {H : Hp} {s : Shared} {a : Addr} {xs ys : List V}
theorem SqL.of {K : PySem.W.Frag} (h : H a = some (.lst xs)) : SqL K H a xs := .inl (.inl h)
theorem SqT.of {K : PySem.W.Frag} (h : H a = some (.tup xs)) : SqT K H a xs := .inl (.inl h)
theorem Inv.list (I : Inv X pins σ H s) (h : SqL X.K H a xs) : ∃ its : List Value, Vals xs its ∧ PlainL s.heap a its.toArray ∧ xs.length ≤ sizeLine := by
  rcases h with h | ⟨o, its, n, hk, hc, hd, hs, hz, r⟩
  · obtain ⟨z, its, n, r, e⟩ := h.ok I.hok
    exact ⟨its, r, ⟨_, n, e, rfl, rfl, rfl⟩, z⟩
  · refine ⟨its.toList, r, ⟨o, n, I.kIn a o hk, hc, hd, by simpa using hs⟩, ?_⟩
    have e := r.length
    simp only [Array.length_toList] at e
    omega
theorem Inv.tuple (I : Inv X pins σ H s) (h : SqT X.K H a xs) : ∃ its : List Value, Vals xs its ∧ IsTup s.heap a its.toArray ∧ xs.length ≤ sizeLine := by
  rcases h with h | ⟨o, its, n, hk, hc, hs, hz, r⟩
  · obtain ⟨z, its, r, p⟩ := h.ok I.hok
    exact ⟨its, r, p, z⟩
  · refine ⟨its.toList, r, ⟨o, I.kIn a o hk, hc, n, by simpa using hs⟩, ?_⟩
    have e := r.length
    simp only [Array.length_toList] at e
    omega
theorem Inv.list_inj (I : Inv X pins σ H s) (h : SqL X.K H a xs) (h' : SqL X.K H a ys) : xs = ys := by
  obtain ⟨its, r, ⟨o, n, e, _, _, d⟩, _⟩ := I.list h
  obtain ⟨its', r', ⟨o', n', e', _, _, d'⟩, _⟩ := I.list h'
  rw [e] at e'; cases e'
  rw [d] at d'
  injection d' with d1 _
  have : its = its' := by simpa using congrArg Array.toList d1
  subst this
  exact r.inj r'
theorem Inv.tuple_inj (I : Inv X pins σ H s) (h : SqT X.K H a xs) (h' : SqT X.K H a ys) : xs = ys := by
  obtain ⟨its, r, ⟨o, e, _, n, d⟩, _⟩ := I.tuple h
  obtain ⟨its', r', ⟨o', e', _, n', d'⟩, _⟩ := I.tuple h'
  rw [e] at e'; cases e'
  rw [d] at d'
  injection d' with d1 _
  have : its = its' := by simpa using congrArg Array.toList d1
  subst this
  exact r.inj r'
end
abbrev Cx.wish (X : Cx) (E : Value → Shared → Prop) : Cx := { X with xe := E }
abbrev Cx.nox (X : Cx) : Cx := X.wish fun _ _ => False
theorem Cx.Ok.wish {X : Cx} (ok : X.Ok) (E : Value → Shared → Prop) : (X.wish E).Ok :=
  ⟨ok.mod, ok.kind, ok.glob, ok.blt, ok.above, ok.inj, ok.has, ok.cab, ok.hd, ok.frames, ok.stk, ok.exf, ok.bs, ok.bsz, ok.noex, ok.exfs, ok.funs, ok.frf⟩
theorem Cx.Ok.unwish {X : Cx} {E : Value → Shared → Prop} (ok : (X.wish E).Ok) : X.Ok :=
  ⟨ok.mod, ok.kind, ok.glob, ok.blt, ok.above, ok.inj, ok.has, ok.cab, ok.hd, ok.frames, ok.stk, ok.exf, ok.bs, ok.bsz, ok.noex, ok.exfs, ok.funs, ok.frf⟩
section
variable {X : Cx} {pins : List (Addr × Obj)} {σ : St} {H : Hp} {s : Shared} {E : Value → Shared → Prop}
theorem Inv.wish (I : Inv X pins σ H s) (E : Value → Shared → Prop) : Inv (X.wish E) pins σ H s := ⟨I.ok.wish E, I.os, I.bare, I.base, I.loc, I.cell, I.free, I.freeC, I.pin, I.hok, I.len⟩
theorem Inv.unwish (I : Inv (X.wish E) pins σ H s) : Inv X pins σ H s := ⟨I.ok.unwish, I.os, I.bare, I.base, I.loc, I.cell, I.free, I.freeC, I.pin, I.hok, I.len⟩
theorem SP.unwish {D : Ends} {f : Flow} {s' : Shared} (h : SP (X.wish E) pins D f s') : SP X pins D f s' := by
  cases f with
  | next => obtain ⟨σ', H', I, q⟩ := h; exact ⟨σ', H', I.unwish, q⟩
  | brk => obtain ⟨σ', H', I, q⟩ := h; exact ⟨σ', H', I.unwish, q⟩
  | cont => obtain ⟨σ', H', I, q⟩ := h; exact ⟨σ', H', I.unwish, q⟩
  | ret u => obtain ⟨v, σ', H', I, r, q⟩ := h; exact ⟨v, σ', H', I.unwish, r, q⟩
theorem PE.nox {e : Expr} {t : TE} (h : PE X.nox e t) : PE X e t := fun pins s σ H Q I hw =>
  wpAny_mono (h pins s σ H Q (I.wish _) hw) (fun _ _ ⟨v, H', I', r, q⟩ => ⟨v, H', I'.unwish, r, q⟩) fun _ _ z => False.elim z
theorem PT.nox {e : Expr} {t : TT} (h : PT X.nox e t) : PT X e t := fun pins s σ H Q I hw =>
  wpAny_mono (h pins s σ H Q (I.wish _) hw) (fun _ _ ⟨H', I', q⟩ => ⟨H', I'.unwish, q⟩) fun _ _ z => False.elim z
theorem PSs.nox {st : List Stmt} {t : TS} (h : PSs X.nox st t) : PSs X st t := fun pins s σ H D I hw =>
  wpAny_mono (h pins s σ H D (I.wish _) hw) (fun _ _ q => q.unwish) fun _ _ z => False.elim z
end
section
variable {X : Cx} {st : Stmt} {rest : List Stmt} {t u : TS} {e : Expr} {te : TE} {pos : Pos}
def tNext : TS := fun D σ H => D.nx σ H
def tSeq (t u : TS) : TS := fun D σ H => t { D with nx := u D } σ H
theorem pss_nil : PSs X [] tNext := fun _ _ σ H _ I h => wpAny_execs_nil ⟨σ, H, I, h⟩
theorem pss_cons (h1 : PS X st t) (h2 : PSs X rest u) : PSs X (st :: rest) (tSeq t u) := by
  intro pins s σ H D I h
  refine wpAny_execs_cons (thn (h1 pins s σ H { D with nx := u D } I h) fun f s1 q => ?_)
  cases f with
  | next =>
    obtain ⟨σ', H', I', q⟩ := q
    exact h2 pins s1 σ' H' D I' q
  | ret v => exact q
  | brk => exact q
  | cont => exact q
theorem pss_one (h1 : PS X st t) : PSs X [st] t := by
  intro pins s σ H D I h
  refine wpAny_execs_cons (thn (h1 pins s σ H D I h) fun f s1 q => ?_)
  cases f with
  | next => exact wpAny_execs_nil q
  | ret v => exact q
  | brk => exact q
  | cont => exact q
theorem Inv.quiet {pins : List (Addr × Obj)} {σ : St} {H : Hp} {s : Shared} (I : Inv X pins σ H s) : interactive X.env = false := by simp [interactive, I.ok.kind]
def tDrop (te : TE) : TS := fun D σ H => te σ H fun _ H1 => D.nx σ H1
theorem ps_expr (he : PE X e te) (hs : swapsWith e none pos.line X.env = pure false := by rfl) : PS X (.Expr e pos) (tDrop te) := by
  intro pins s σ H D I h
  exact wpAny_Expr_any (thn (he pins s σ H _ I h) fun v s1 ⟨x, H1, I1, r1, q1⟩ => ⟨σ, H1, I1, q1⟩) I.quiet hs
def tRet (te : TE) : TS := fun D σ H => te σ H D.rt
theorem ps_ret (he : PE X e te) : PS X (.Return (some e) pos) (tRet te) := by
  intro pins s σ H D I h
  exact wpAny_Return_some (thn (he pins s σ H _ I h) fun v s1 ⟨x, H1, I1, r1, q1⟩ => ⟨x, σ, H1, I1, r1, q1⟩)
def tIfS (c : TT) (t u : TS) : TS := fun D σ H => c σ H fun b H1 => if b = true then t D σ H1 else u D σ H1
theorem ps_if {c : Expr} {a b : List Stmt} {tc : TT} (hc : PT X c tc) (ha : PSs X a t) (hb : PSs X b u) : PS X (.If c a b pos) (tIfS tc t u) := by
  intro pins s σ H D I h
  refine wpAny_If (thn (hc pins s σ H _ I h) fun d s1 ⟨H1, I1, q1⟩ => ?_)
  cases d with
  | true => exact ha pins s1 σ H1 D I1 q1
  | false => exact hb pins s1 σ H1 D I1 q1
end
abbrev TG := V → St → Hp → (St → Hp → Prop) → Prop
def PG (X : Cx) (target : Expr) (t : TG) : Prop :=
  ∀ (pins : List (Addr × Obj)) (s : Shared) (σ : St) (H : Hp) (v : V) (u : Value) (Q : St → Hp → Prop), Inv X pins σ H s → RelV v u → t v σ H Q →
    wpAny (model X.prog X.w) X.A (assign target X.env u) (fun _ s' => ∃ σ' H', Inv X pins σ' H' s' ∧ Q σ' H') X.xe s
abbrev TSet := V → V → V → Hp → (Hp → Prop) → Prop
def PSet (X : Cx) (t : TSet) : Prop :=
  ∀ (pins : List (Addr × Obj)) (s : Shared) (σ : St) (H : Hp) (o i v : V) (ov iv u : Value) (Q : Hp → Prop), Inv X pins σ H s → RelV o ov → RelV i iv → RelV v u → t o i v H Q →
    wpAny (model X.prog X.w) X.A (setItem ov iv u) (fun _ s' => ∃ H', Inv X pins σ H' s' ∧ Q H') X.xe s
section
variable {X : Cx} {pos : Pos}
def gName (i : Nat) : TG := fun v σ H Q => Q (σ.set i (some v)) H
theorem pg_name {i : Nat} {x : Str} (hN : X.N.Nodup) (hi : X.N[i]? = some x) (hx : Loc X.env.scope x) (hf : X.fn x = true ∨ X.env.scope.names.lookup x = some .local := by first | exact .inl rfl | exact .inr rfl | assumption) : PG X (.Name x pos) (gName i) := by
  intro pins s σ H v u Q I r h
  exact wpAny_assign_Name (store_ok I hN hi hx r (fun s' I' => ⟨_, H, I', h⟩) hf)
def gSub (to ti : TE) (t : TSet) : TG := fun v σ H Q => to σ H fun o H1 => ti σ H1 fun i H2 => t o i v H2 fun H3 => Q σ H3
theorem pg_sub {o i : Expr} {to ti : TE} {t : TSet} (ho : PE X o to) (hi : PE X i ti) (hs : PSet X t)
    (ha : ∀ v, assign (.Subscript o i pos) X.env v = (do
      let ov ← holding [v] (eval o X.env)
      let iv ← holding [v, ov] (eval i X.env)
      standAt pos
      holding [v, ov, iv] (setItem ov iv v)
      release [v, ov, iv] []) := by intro _; rfl) : PG X (.Subscript o i pos) (gSub to ti t) := by
  intro pins s σ H v u Q I r h
  rw [ha]
  refine wpAny_bind (wpAny_holding (thn (ho pins s σ H _ I h) fun ov s1 ⟨x, H1, I1, r1, q1⟩ => ?_))
  refine wpAny_bind (wpAny_holding (thn (hi pins s1 σ H1 _ I1 q1) fun iv s2 ⟨y, H2, I2, r2, q2⟩ => ?_))
  refine wpAny_bind (wpAny_standAt (wpAny_bind (wpAny_holding (thn (hs pins s2 σ H2 x y v ov iv u _ I2 r1 r2 r q2) fun _ s3 ⟨H3, I3, q3⟩ => ?_))))
  exact wpAny_release ⟨σ, H3, I3, q3⟩
def tAsg (te : TE) (g : TG) : TS := fun D σ H => te σ H fun x H1 => g x σ H1 D.nx
theorem ps_asg {tg e : Expr} {te : TE} {g : TG} (he : PE X e te) (hg : PG X tg g) (hs : swapsWithSole [tg] e pos.line X.env = pure false := by rfl) (hw : swappedStores [tg] e X.env = pure none := by rfl)
    (h1 : (assignEach [tg] X.env).map (·.2) = [assign tg X.env] := by rfl) : PS X (.Assign [tg] e pos) (tAsg te g) := by
  intro pins s σ H D I h
  refine wpAny_Assign_stores (thn (he pins s σ H _ I h) fun v s1 ⟨x, H1, I1, r1, q1⟩ => ?_) hs hw
  rw [h1]
  exact thn (hg pins s1 σ H1 x v _ I1 r1 q1) fun _ s2 q => q
theorem ps_set {i : Nat} {x : Str} {e : Expr} {te : TE} {pos' : Pos} (hN : X.N.Nodup) (hi : X.N[i]? = some x) (hx : Loc X.env.scope x) (he : PE X e te) (hs : swapsWith e (some (.Name x pos')) pos.line X.env = pure false := by rfl) (hf : X.fn x = true ∨ X.env.scope.names.lookup x = some .local := by first | exact .inl rfl | exact .inr rfl | assumption) :
    PS X (.Assign [.Name x pos'] e pos) (tAsg te (gName i)) := by
  intro pins s σ H D I h
  refine wpAny_Assign_Name (thn (he pins s σ H _ I h) fun v s1 ⟨y, H1, I1, r1, q1⟩ => ?_) hs
  exact store_ok I1 hN hi hx r1 (fun s2 I2 => ⟨_, H1, I2, q1⟩) hf
end
section
variable {X : Cx} {pos : Pos}
def tWhile (c : TT) (tb : TS) : TS := fun D σ H => ∃ W : Nat → St → Hp → Prop, (∃ m, W m σ H) ∧ ∀ m σ H, W m σ H →
  c σ H fun b H1 => if b = true then ∃ N : St → Hp → Prop, (∀ σ' H', N σ' H' → ∃ m', m' < m ∧ W m' σ' H') ∧ tb { D with nx := N, ct := N, bk := D.nx } σ H1 else D.nx σ H1
theorem ps_while {c : Expr} {body : List Stmt} {tc : TT} {tb : TS} (hp : PassesOwn (model X.prog X.w) X.A X.env X.xe) (hc : PT X c tc) (hb : PSs X body tb) : PS X (.While c body [] pos) (tWhile tc tb) := by
  intro pins s σ H D I h
  obtain ⟨W, ⟨m0, w0⟩, turn⟩ := h
  refine wpAny_While (codeAny_whileLoop (fun n s' => ∃ σ' H', Inv X pins σ' H' s' ∧ W n σ' H') ?_ m0 ⟨σ, H, I, w0⟩)
  rintro n s1 ⟨σ1, H1, I1, w1⟩
  refine wpAny_passesOwn hp (thn (hc pins s1 σ1 H1 _ I1 (turn n σ1 H1 w1)) fun b s2 ⟨H2, I2, q2⟩ => ?_)
  cases b with
  | true =>
    obtain ⟨N, hN, q2⟩ := q2
    rw [if_pos rfl]
    refine wpAny_passesOwn hp (thn (hb pins s2 σ1 H2 _ I2 q2) fun f s3 q3 => ?_)
    cases f with
    | next =>
      obtain ⟨σ3, H3, I3, n3⟩ := q3
      obtain ⟨m', hm, w3⟩ := hN σ3 H3 n3
      exact ⟨m', hm, σ3, H3, I3, w3⟩
    | cont =>
      obtain ⟨σ3, H3, I3, n3⟩ := q3
      obtain ⟨m', hm, w3⟩ := hN σ3 H3 n3
      exact ⟨m', hm, σ3, H3, I3, w3⟩
    | brk => exact q3
    | ret v => exact q3
  | false =>
    rw [if_neg Bool.false_ne_true]
    exact wpAny_execs_nil ⟨σ1, H2, I2, q2⟩
end
structure It where
  go : Nat → Hp → Prop
  yld : Nat → Hp → V → Hp → Prop
  stop : Nat → Hp → Prop
def FpOk (X : Cx) (pins : List (Addr × Obj)) (H : Hp) (b : Addr) : Prop :=
  H b = none ∧ b ≠ X.env.locals ∧ b ∉ X.fs ∧ (b ∈ X.ex ∨ X.s₀.heap.objs.size ≤ b) ∧ (∀ x c, X.env.cells.lookup x = some c → c ≠ b) ∧ ∀ p ∈ X.pn ++ pins, p.1 ≠ b
theorem Inv.fpOk {X : Cx} {pins : List (Addr × Obj)} {σ : St} {H H' : Hp} {s : Shared} {b : Addr} (I : Inv X pins σ H s) (hb : s.heap.objs.size ≤ b) (hn : H' b = none) : FpOk X pins H' b := by
  refine ⟨hn, Nat.ne_of_gt (Nat.lt_of_lt_of_le I.lt hb), I.nofs hb, .inr (Nat.le_trans I.sz hb), fun x c e z => ?_, fun p hp z => ?_⟩
  · obtain ⟨v, q⟩ := I.cell x c e
    exact absurd (Nat.lt_of_lt_of_le q.lt (by rw [z]; exact hb)) (Nat.lt_irrefl _)
  · exact absurd (Nat.lt_of_lt_of_le (Heap.lt_size (I.pin p hp).1) (by rw [z]; exact hb)) (Nat.lt_irrefl _)
structure Turn (P : Program) (w : World) (K : PySem.W.Frag) (tg : Expr) (J : It) (fp : List Addr) (it : Addr) (tn : Nat → Heap → Prop) : Prop where
  mem : it ∈ fp
  obj : ∀ i h, tn i h → ∀ b ∈ fp, ∃ o, h.get? b = some o ∧ ∀ v, o.data ≠ .cell v
  keep : ∀ i h h', tn i h → (∀ b ∈ fp, ∀ o, h.get? b = some o → h'.get? b = some o) → tn i h'
  item : ∀ (X : Cx), X.prog = P → X.w = w → X.K = K → X.calm = true → ∀ (i : Nat) (pins : List (Addr × Obj)) (s : Shared) (σ : St) (H : Hp) (E : Value → Shared → Prop), Inv X pins σ H s → (∀ b ∈ fp, FpOk X pins H b) → tn i s.heap → J.go i H →
    wpAny (model P w) X.A (pyNext (.ref it)) (fun r s1 => ∃ u, r = some u ∧
      wpAny (model P w) X.A (letOwnedTupleGo tg (.ref it) u) (fun _ s2 => ∃ x H', Inv X pins σ H' s2 ∧ RelV x u ∧ J.yld i H x H' ∧ tn (i + 1) s2.heap ∧ ∀ b ∈ fp, H' b = none) E s1) E s
  done : ∀ (X : Cx), X.prog = P → X.w = w → X.K = K → X.calm = true → ∀ (i : Nat) (pins : List (Addr × Obj)) (s : Shared) (σ : St) (H : Hp) (E : Value → Shared → Prop), Inv X pins σ H s → (∀ b ∈ fp, FpOk X pins H b) → tn i s.heap → J.stop i H →
    wpAny (model P w) X.A (pyNext (.ref it)) (fun r s1 => r = none ∧ Inv X pins σ H s1) E s
  self : ∀ (A : Around) (i : Nat) (s : Shared) (Q : Value → Shared → Prop) (E : Value → Shared → Prop), tn i s.heap → Q (.ref it) s → wpAny (model P w) A (pyIter (.ref it)) Q E s
abbrev TI := St → Hp → (It → Hp → Prop) → Prop
def PIE (X : Cx) (pins : List (Addr × Obj)) (σ : St) (tg : Expr) (R : It → Hp → Prop) (itv : Value) (s2 : Shared) : Prop :=
  ∃ (it : Addr) (fp : List Addr) (tn : Nat → Heap → Prop) (J : It) (H' : Hp), itv = .ref it ∧ Inv X pins σ H' s2 ∧ Turn X.prog X.w X.K tg J fp it tn ∧ tn 0 s2.heap ∧ (∀ b ∈ fp, FpOk X pins H' b) ∧ R J H'
def PI (X : Cx) (tg iter : Expr) (wi : TI) : Prop :=
  ∀ (pins : List (Addr × Obj)) (s : Shared) (σ : St) (H : Hp) (R : It → Hp → Prop), Inv X pins σ H s → wi σ H R →
    wpAny (model X.prog X.w) X.A (eval iter X.env) (fun v s1 => wpAny (model X.prog X.w) X.A (pyIter v) (PIE X pins σ tg R) X.xe s1) X.xe s
theorem go_of {M : Model} {A : Around} {E : Value → Shared → Prop} {s : Shared} {tg : Expr} {it : Addr} {u : Value} {o : Obj} {n : String} {vs : Array Value} {Q : Unit → Shared → Prop} (ho : s.heap.get? it = some o) (hc : o.cls = .type n) (hd : o.data = .fields vs)
    (hn : ["enumerate", "zip", "dict_itemiterator", "dict_reverseitemiterator", "odict_iterator", "itertools.zip_longest", "itertools.pairwise"].contains n = false) (hQ : Q () s) : wpAny M A (letOwnedTupleGo tg (.ref it) u) Q E s := by
  unfold letOwnedTupleGo
  cases tg <;> first
    | exact wpAny_pure hQ
    | (cases u <;> first
        | exact wpAny_pure hQ
        | (refine wpAny_bind (wpAny_load ho ?_)
           rw [hc, hd]
           show wpAny M A (if (["enumerate", "zip", "dict_itemiterator", "dict_reverseitemiterator", "odict_iterator", "itertools.zip_longest", "itertools.pairwise"].contains n && vs[0]? == some (rawInt _)) = true then _ else _) Q E s
           rw [if_neg (by intro h; rw [hn, Bool.false_and] at h; cases h)]
           exact wpAny_pure hQ))
def Itl (K : PySem.W.Frag) (a : Addr) : It :=
  ⟨fun i H => ∃ xs x, SqL K H a xs ∧ xs[i]? = some x, fun i H x H' => H' = H ∧ ∀ xs, SqL K H a xs → xs[i]? = some x, fun i H => ∃ xs, SqL K H a xs ∧ xs.length ≤ i⟩
def Itt (K : PySem.W.Frag) (a : Addr) : It :=
  ⟨fun i H => ∃ xs x, SqT K H a xs ∧ xs[i]? = some x, fun i H x H' => H' = H ∧ ∀ xs, SqT K H a xs → xs[i]? = some x, fun i H => ∃ xs, SqT K H a xs ∧ xs.length ≤ i⟩
def Itr (lo : Int) (n : Nat) : It := ⟨fun i _ => i < n, fun i H x H' => H' = H ∧ x = .int (lo + i), fun i _ => n ≤ i⟩
theorem turn_list {P : Program} {w : World} {K : PySem.W.Frag} {tg : Expr} (a it : Addr) : Turn P w K tg (Itl K a) [it] it (fun i h => h.IsListIter it a i) where
  mem := by simp
  obj := fun i h st b hb => by
    have e : b = it := by simpa using hb
    subst e
    obtain ⟨o, e, c, d⟩ := st
    exact ⟨o, e, fun v z => by rw [d] at z; cases z⟩
  keep := fun i h h' st k => st.at fun o e => k it (by simp) o e
  item := by
    intro X hP hw hK hc i pins s σ H E I hf st hg
    subst hP hw hK
    obtain ⟨xs, x, hq, hx⟩ := hg
    obtain ⟨its, rv, p, hz⟩ := I.list hq
    obtain ⟨u, hu, ru⟩ := rv.get hx
    obtain ⟨f0, f1, f2, f3, f4, f5⟩ := hf it (by simp)
    refine wpAny_pyNext_list_item st p.isList (x := u) (by simpa using hu) fun h' st' sb => ?_
    have I1 : Inv X pins σ H { s with heap := h' } := I.turned (t' := s.toks) (fun b o hb e => (sb.2 b hb).trans e) f0 f1 f3 f4 f5
    obtain ⟨o, e, c, d⟩ := id st'
    exact ⟨u, rfl, go_of (s := { s with heap := h' }) e c d (by decide) ⟨x, H, I1, ru, ⟨rfl, fun ys hy => by rw [I.list_inj hy hq]; exact hx⟩, st', fun b hb => (hf b hb).1⟩⟩
  done := by
    intro X hP hw hK hc i pins s σ H E I hf st hg
    subst hP hw hK
    obtain ⟨xs, hq, hx⟩ := hg
    obtain ⟨its, rv, p, hz⟩ := I.list hq
    obtain ⟨f0, f1, f2, f3, f4, f5⟩ := hf it (by simp)
    have hl := rv.length
    exact wpAny_pyNext_list_end (I.ok.hd hc) st p.isList (by simp; omega) fun h' eb => ⟨rfl, I.turned (t' := s.toks) (fun b o hb e => eb b o hb e) f0 f1 f3 f4 f5⟩
  self := fun _ _ _ _ _ st h => wpAny_pyIter_listiter st h
theorem turn_tuple {P : Program} {w : World} {K : PySem.W.Frag} {tg : Expr} (a it : Addr) : Turn P w K tg (Itt K a) [it] it (fun i h => h.IsTupleIter it a i) where
  mem := by simp
  obj := fun i h st b hb => by
    have e : b = it := by simpa using hb
    subst e
    obtain ⟨o, e, c, d⟩ := st
    exact ⟨o, e, fun v z => by rw [d] at z; cases z⟩
  keep := fun i h h' st k => st.at fun o e => k it (by simp) o e
  item := by
    intro X hP hw hK hc i pins s σ H E I hf st hg
    subst hP hw hK
    obtain ⟨xs, x, hq, hx⟩ := hg
    obtain ⟨its, rv, p, hz⟩ := I.tuple hq
    obtain ⟨u, hu, ru⟩ := rv.get hx
    obtain ⟨f0, f1, f2, f3, f4, f5⟩ := hf it (by simp)
    refine wpAny_pyNext_tuple_item st (show s.heap.IsTuple a its.toArray from p) (x := u) (by simpa using hu) fun h' st' sb => ?_
    have I1 : Inv X pins σ H { s with heap := h' } := I.turned (t' := s.toks) (fun b o hb e => (sb.2 b hb).trans e) f0 f1 f3 f4 f5
    obtain ⟨o, e, c, d⟩ := id st'
    exact ⟨u, rfl, go_of (s := { s with heap := h' }) e c d (by decide) ⟨x, H, I1, ru, ⟨rfl, fun ys hy => by rw [I.tuple_inj hy hq]; exact hx⟩, st', fun b hb => (hf b hb).1⟩⟩
  done := by
    intro X hP hw hK hc i pins s σ H E I hf st hg
    subst hP hw hK
    obtain ⟨xs, hq, hx⟩ := hg
    obtain ⟨its, rv, p, hz⟩ := I.tuple hq
    obtain ⟨f0, f1, f2, f3, f4, f5⟩ := hf it (by simp)
    have hl := rv.length
    exact wpAny_pyNext_tuple_end (I.ok.hd hc) st (show s.heap.IsTuple a its.toArray from p) (by simp; omega) fun h' eb => ⟨rfl, I.turned (t' := s.toks) (fun b o hb e => eb b o hb e) f0 f1 f3 f4 f5⟩
  self := fun _ _ _ _ _ st h => wpAny_pyIter_tupleiter st h
theorem turn_range {P : Program} {w : World} {K : PySem.W.Frag} {tg : Expr} (it : Addr) (lo : Int) (n : Nat) : Turn P w K tg (Itr lo n) [it] it (fun i h => IsRangeIter h it (lo + (i : Nat) * 1) ((n : Int) - (i : Nat)) 1) where
  mem := by simp
  obj := fun i h st b hb => by
    have e : b = it := by simpa using hb
    subst e
    exact ⟨_, st, fun v z => by
      have z' : Data.fields _ = Data.cell v := z
      cases z'⟩
  keep := fun i h h' st k => k it (by simp) _ st
  item := by
    intro X hP hw hK hc i pins s σ H E I hf st hg
    subst hP hw hK
    obtain ⟨f0, f1, f2, f3, f4, f5⟩ := hf it (by simp)
    have W := Walks.range (prog := X.prog) (w := X.w) (I.ok.hd hc) it lo 1 n
    refine W.item i s _ _ hg st fun v h' tk hv st' kk => ?_
    obtain ⟨t, rfl⟩ := hv
    have I1 : Inv X pins σ H { s with heap := h', toks := tk } := I.turned (fun b o hb e => kk b o (by simpa using hb) e) f0 f1 f3 f4 f5
    refine ⟨_, rfl, go_of (s := { s with heap := h', toks := tk }) (n := "range_iterator") st' rfl rfl (by decide) ⟨.int (lo + i), H, I1, ⟨t, ?_⟩, ⟨rfl, rfl⟩, st', fun b hb => (hf b hb).1⟩⟩
    rw [Int.mul_one]
  done := by
    intro X hP hw hK hc i pins s σ H E I hf st hg
    subst hP hw hK
    obtain ⟨f0, f1, f2, f3, f4, f5⟩ := hf it (by simp)
    exact wpAny_pyNext_range_end (I.ok.hd hc) st (by have : n ≤ i := hg; omega) fun h' eb => ⟨rfl, I.turned (t' := s.toks) (fun b o hb e => eb b o hb e) f0 f1 f3 f4 f5⟩
  self := fun _ _ _ _ _ st h => wpAny_pyIter_rangeiter st h
end L2
namespace L2
open PySem PySem.Spec PyProof.Rows
section
variable {X : Cx} {tg : Expr}
def iList (K : PySem.W.Frag) (tl : TE) : TI := fun σ H R => tl σ H fun x H1 => ∃ a, x = .ref a ∧ (∃ xs, SqL K H1 a xs) ∧ R (Itl K a) H1
def iTup (K : PySem.W.Frag) (tl : TE) : TI := fun σ H R => tl σ H fun x H1 => ∃ a, x = .ref a ∧ (∃ xs, SqT K H1 a xs) ∧ R (Itt K a) H1
theorem pi_list {l : Expr} {tl : TE} (hl : PE X l tl) : PI X tg l (iList X.K tl) := by
  intro pins s σ H R I h
  refine thn (hl pins s σ H _ I h) fun v s1 ⟨x, H1, I1, r1, q1⟩ => ?_
  obtain ⟨a, e, ⟨xs, hq⟩, q⟩ := q1
  subst e
  cases r1
  obtain ⟨its, rv, p, hz⟩ := I1.list hq
  refine wpAny_pyIter_list p.isList ?_
  refine ⟨s1.heap.objs.size, [s1.heap.objs.size], _, _, H1, rfl, I1.kept (t' := s1.toks) fun b o e => Heap.get?_push_of_some _ e, turn_list a _, ⟨_, Heap.get?_push_size _ rfl, rfl, rfl⟩, fun b hb => ?_, q⟩
  have e : b = s1.heap.objs.size := by simpa using hb
  subst e
  exact I1.fpOk (Nat.le_refl _) (I1.hok.fresh (Nat.le_refl _))
theorem pi_tup {l : Expr} {tl : TE} (hl : PE X l tl) : PI X tg l (iTup X.K tl) := by
  intro pins s σ H R I h
  refine thn (hl pins s σ H _ I h) fun v s1 ⟨x, H1, I1, r1, q1⟩ => ?_
  obtain ⟨a, e, ⟨xs, hq⟩, q⟩ := q1
  subst e
  cases r1
  obtain ⟨its, rv, p, hz⟩ := I1.tuple hq
  refine wpAny_pyIter_tuple (show s1.heap.IsTuple a its.toArray from p) ?_
  refine ⟨s1.heap.objs.size, [s1.heap.objs.size], _, _, H1, rfl, I1.kept (t' := s1.toks) fun b o e => Heap.get?_push_of_some _ e, turn_tuple a _, ⟨_, Heap.get?_push_size _ rfl, rfl, rfl⟩, fun b hb => ?_, q⟩
  have e : b = s1.heap.objs.size := by simpa using hb
  subst e
  exact I1.fpOk (Nat.le_refl _) (I1.hok.fresh (Nat.le_refl _))
theorem range_it {pins : List (Addr × Obj)} {σ : St} {H : Hp} {s : Shared} {R : It → Hp → Prop} {E : Value → Shared → Prop} {lo hi : Int} {t u v : Tok} {tk : Nat} (I : Inv X pins σ H s) (h1 : -(2 ^ 62) ≤ lo) (h2 : lo < 2 ^ 62) (h3 : -(2 ^ 62) ≤ hi) (h4 : hi < 2 ^ 62)
    (q : R (Itr lo (hi - lo).toNat) H) : wpAny (model X.prog X.w) X.A (pyIter (.ref s.heap.objs.size)) (PIE X pins σ tg R) E { s with heap := s.heap.push { cls := .type "range", data := .fields #[.int lo t, .int hi u, .int 1 v] }, toks := tk } := by
  refine wpAny_pyIter_range (IsRange.new ..) (small_one h1 h2 h3 h4) ?_
  have I1 : Inv X pins σ H { s with heap := s.heap.push { cls := .type "range", data := .fields #[.int lo t, .int hi u, .int 1 v] }, toks := tk } := I.kept fun b o e => Heap.get?_push_of_some _ e
  refine ⟨(s.heap.push { cls := .type "range", data := .fields #[.int lo t, .int hi u, .int 1 v] }).objs.size, [(s.heap.push { cls := .type "range", data := .fields #[.int lo t, .int hi u, .int 1 v] }).objs.size], _, _, H, rfl,
    I1.kept (t' := tk) fun b o e => Heap.get?_push_of_some _ e, turn_range _ lo (hi - lo).toNat, ?_, fun b hb => ?_, q⟩
  · have e1 : lo + ((0 : Nat) : Int) * 1 = lo := by simp
    have e2 : (((hi - lo).toNat : Nat) : Int) - ((0 : Nat) : Int) = Builtin.Range.rangeSize lo hi 1 := by rw [rangeSize_one]; split <;> omega
    show IsRangeIter _ _ (lo + ((0 : Nat) : Int) * 1) ((((hi - lo).toNat : Nat) : Int) - ((0 : Nat) : Int)) 1
    rw [e1, e2]
    exact Heap.get?_push_size _ rfl
  · have e : b = (s.heap.push { cls := .type "range", data := .fields #[.int lo t, .int hi u, .int 1 v] }).objs.size := by simpa using hb
    subst e
    exact I1.fpOk (Nat.le_refl _) (I1.hok.fresh (Nat.le_refl _))
def iRng1 (ta : TA) : TI := fun σ H R => ta σ H fun vs H1 => ∃ j : Int, vs = [.int j] ∧ -(2 ^ 62) ≤ j ∧ j < 2 ^ 62 ∧ R (Itr 0 j.toNat) H1
theorem pi_range1 {a : Expr} {ta : TA} {p pos : Pos} (hg : Gl X "range") (hm : X.mg "range" = none) (ha : PA X [a] ta) (hs : starEach [a] X.env = [(false, eval a X.env)] := by rfl) : PI X tg (.Call (.Name "range" p) [a] [] pos) (iRng1 ta) := by
  intro pins s σ H R I h
  refine Call_ (ld_blt I hg hm boot_range (PyProof.Rows.callWith_type1 (thn (ha pos pins s σ H _ I h) fun us s1 ⟨vs, H1, I1, r1, q1⟩ => ?_) hs rfl))
  obtain ⟨j, e, q1, q2, q⟩ := q1
  subst e
  cases r1 with
  | cons r rr =>
    cases rr
    obtain ⟨t, rfl⟩ := r
    exact call_range_1 (range_it I1 (by omega) (by omega) q1 q2 (by simpa using q))
def tFor (wi : TI) (g : TG) (tb : TS) : TS := fun D σ H => wi σ H fun J H1 => ∃ W : Nat → Nat → St → Hp → Prop, (∃ m, W 0 m σ H1) ∧ ∀ i m σ H, W i m σ H →
  (J.stop i H ∧ D.nx σ H) ∨ (J.go i H ∧ ∃ N : St → Hp → Prop, (∀ σ' H', N σ' H' → ∃ m', m' < m ∧ W (i + 1) m' σ' H') ∧ ∀ x H', J.yld i H x H' → g x σ H' fun σ2 H2 => tb { D with nx := N, ct := N, bk := D.nx } σ2 H2)
def pinsAt (fp : List Addr) (h : Heap) : List (Addr × Obj) := fp.filterMap fun b => (h.get? b).map fun o => (b, o)
theorem mem_pinsAt {fp : List Addr} {h : Heap} {b : Addr} {o : Obj} (hb : b ∈ fp) (e : h.get? b = some o) : (b, o) ∈ pinsAt fp h := List.mem_filterMap.mpr ⟨b, hb, by rw [e]; rfl⟩
theorem of_pinsAt {fp : List Addr} {h : Heap} {p : Addr × Obj} (hp : p ∈ pinsAt fp h) : p.1 ∈ fp ∧ h.get? p.1 = some p.2 := by
  obtain ⟨b, hb, e⟩ := List.mem_filterMap.mp hp
  cases q : h.get? b with
  | none => rw [q] at e; cases e
  | some o =>
    rw [q] at e
    have e' : (b, o) = p := Option.some.inj e
    subst e'
    exact ⟨hb, q⟩
theorem Inv.pinned {pins : List (Addr × Obj)} {σ : St} {H : Hp} {s : Shared} {fp : List Addr} (I : Inv X pins σ H s) (hf : ∀ b ∈ fp, FpOk X pins H b) (ho : ∀ b ∈ fp, ∃ o, s.heap.get? b = some o ∧ ∀ v, o.data ≠ .cell v) : Inv X (pins ++ pinsAt fp s.heap) σ H s :=
  I.pins_of fun p hp => (List.mem_append.mp hp).elim (fun z => I.pin p (List.mem_append_right _ z)) fun z => by
    obtain ⟨hb, e⟩ := of_pinsAt z
    obtain ⟨f0, f1, f2, _⟩ := hf p.1 hb
    obtain ⟨o, e', d⟩ := ho p.1 hb
    rw [e] at e'; cases e'
    exact ⟨e, f0, f1, f2, d⟩
theorem Inv.unpinned {pins pl : List (Addr × Obj)} {σ : St} {H : Hp} {s : Shared} (I : Inv X (pins ++ pl) σ H s) : Inv X pins σ H s := I.pins_of fun p hp => I.pin p (List.mem_append_right _ (List.mem_append_left _ hp))
theorem ps_for {iter : Expr} {body : List Stmt} {wi : TI} {g : TG} {tb : TS} {pos : Pos} (hp : PassesOwn (model X.prog X.w) X.A X.env X.xe) (hc : X.calm = true) (hi : PI X tg iter wi) (hg : PG X tg g) (hb : PSs X body tb)
    (hs : ∀ x, foldedSetIterable iter X.env x = pure x := by intro _; rfl) : PS X (.For tg iter body [] pos) (tFor wi g tb) := by
  intro pins s σ H D I h
  refine wpAny_For (thn (hi pins s σ H _ I h) fun v s1 h1 => thn h1 fun itv s2 h2 => ?_) hs
  obtain ⟨it, fp, tn, J, H2, e, I2, T, st2, f2, W, ⟨m0, w0⟩, turn⟩ := h2
  subst e
  -- what stays true of the iterator's objects through the loop
  have stat : ∀ {H' : Hp}, (∀ b ∈ fp, H' b = none) → ∀ b ∈ fp, FpOk X pins H' b := fun hn b hb => ⟨hn b hb, (f2 b hb).2⟩
  refine codeAny_forLoop_any (fun n s' => ∃ i σ' H', Inv X pins σ' H' s' ∧ tn i s'.heap ∧ (∀ b ∈ fp, H' b = none) ∧ W i n σ' H') ?_ m0 ⟨0, σ, H2, I2, st2, fun b hb => (f2 b hb).1, w0⟩
  rintro n s3 ⟨i, σ3, H3, I3, st3, fr3, w3⟩
  rcases turn i n σ3 H3 w3 with ⟨stop, qn⟩ | ⟨go, N, hN, step⟩
  · refine wpAny_passesOwn hp (thn (T.done X rfl rfl rfl hc i pins s3 σ3 H3 X.xe I3 (stat fr3) st3 stop) fun r s4 ⟨hr, I4⟩ => ?_)
    subst hr
    exact wpAny_execs_nil ⟨σ3, H3, I4, qn⟩
  · refine wpAny_passesOwn hp (thn (T.item X rfl rfl rfl hc i pins s3 σ3 H3 X.xe I3 (stat fr3) st3 go) fun r s4 ⟨u, hr, h4⟩ => ?_)
    subst hr
    refine wpAny_passesOwn hp (thn h4 fun _ s5 ⟨x, H5, I5, r5, y5, st5, fr5⟩ => ?_)
    have I5' := I5.pinned (stat fr5) (T.obj _ _ st5)
    refine wpAny_passesOwn hp (thn (hg _ s5 σ3 H5 x u _ I5' r5 (step x H5 y5)) fun _ s6 ⟨σ6, H6, I6, q6⟩ => ?_)
    refine wpAny_passesOwn hp (thn (hb _ s6 σ6 H6 _ I6 q6) fun f s7 q7 => ?_)
    have again : ∀ {σ7 : St} {H7 : Hp}, Inv X (pins ++ pinsAt fp s5.heap) σ7 H7 s7 → N σ7 H7 → ∃ m, m < n ∧ ∃ i σ' H', Inv X pins σ' H' s7 ∧ tn i s7.heap ∧ (∀ b ∈ fp, H' b = none) ∧ W i m σ' H' := fun {σ7 H7} I7 n7 => by
      obtain ⟨m', hm, w7⟩ := hN σ7 H7 n7
      refine ⟨m', hm, i + 1, σ7, H7, I7.unpinned, T.keep _ _ _ st5 fun b hb o e => (I7.pin (b, o) (List.mem_append_right _ (List.mem_append_right _ (mem_pinsAt hb e)))).1, fun b hb => ?_, w7⟩
      obtain ⟨o, e, d⟩ := T.obj _ _ st5 b hb
      exact (I7.pin (b, o) (List.mem_append_right _ (List.mem_append_right _ (mem_pinsAt hb e)))).2.1
    cases f with
    | next => obtain ⟨σ7, H7, I7, n7⟩ := q7; exact again I7 n7
    | cont => obtain ⟨σ7, H7, I7, n7⟩ := q7; exact again I7 n7
    | brk => obtain ⟨σ7, H7, I7, q7⟩ := q7; exact ⟨σ7, H7, I7.unpinned, q7⟩
    | ret v => obtain ⟨x7, σ7, H7, I7, r7, q7⟩ := q7; exact ⟨x7, σ7, H7, I7.unpinned, r7, q7⟩
end
theorem for_list {K : PySem.W.Frag} {a : Addr} {xs : List V} {g : TG} {tb : TS} {D : Ends} {σ : St} {H : Hp} (Pv : Nat → St → Hp → Prop) (h0 : Pv 0 σ H) (hl : ∀ i σ H, i ≤ xs.length → Pv i σ H → SqL K H a xs)
    (hs : ∀ i x σ H, xs[i]? = some x → Pv i σ H → g x σ H fun σ2 H2 => tb { D with nx := Pv (i + 1), ct := Pv (i + 1), bk := D.nx } σ2 H2) (hd : ∀ σ H, Pv xs.length σ H → D.nx σ H) :
    ∃ W : Nat → Nat → St → Hp → Prop, (∃ m, W 0 m σ H) ∧ ∀ i m σ H, W i m σ H →
      ((Itl K a).stop i H ∧ D.nx σ H) ∨ ((Itl K a).go i H ∧ ∃ N : St → Hp → Prop, (∀ σ' H', N σ' H' → ∃ m', m' < m ∧ W (i + 1) m' σ' H') ∧ ∀ x H', (Itl K a).yld i H x H' → g x σ H' fun σ2 H2 => tb { D with nx := N, ct := N, bk := D.nx } σ2 H2) := by
  refine ⟨fun i m σ H => m = xs.length - i ∧ i ≤ xs.length ∧ Pv i σ H, ⟨xs.length, by simp, Nat.zero_le _, h0⟩, ?_⟩
  rintro i m σ H ⟨rfl, hi, p⟩
  have q := hl i σ H hi p
  by_cases hlt : i < xs.length
  · refine .inr ⟨⟨xs, xs[i], q, by simp [hlt]⟩, Pv (i + 1), fun σ' H' p' => ⟨xs.length - (i + 1), by omega, rfl, hlt, p'⟩, fun x H' y => ?_⟩
    obtain ⟨e, y⟩ := y
    subst e
    exact hs i x σ _ (y xs q) p
  · have e : i = xs.length := by omega
    subst e
    exact .inl ⟨⟨xs, q, Nat.le_refl _⟩, hd σ H p⟩
theorem for_tup {K : PySem.W.Frag} {a : Addr} {xs : List V} {g : TG} {tb : TS} {D : Ends} {σ : St} {H : Hp} (Pv : Nat → St → Hp → Prop) (h0 : Pv 0 σ H) (hl : ∀ i σ H, i ≤ xs.length → Pv i σ H → SqT K H a xs)
    (hs : ∀ i x σ H, xs[i]? = some x → Pv i σ H → g x σ H fun σ2 H2 => tb { D with nx := Pv (i + 1), ct := Pv (i + 1), bk := D.nx } σ2 H2) (hd : ∀ σ H, Pv xs.length σ H → D.nx σ H) :
    ∃ W : Nat → Nat → St → Hp → Prop, (∃ m, W 0 m σ H) ∧ ∀ i m σ H, W i m σ H →
      ((Itt K a).stop i H ∧ D.nx σ H) ∨ ((Itt K a).go i H ∧ ∃ N : St → Hp → Prop, (∀ σ' H', N σ' H' → ∃ m', m' < m ∧ W (i + 1) m' σ' H') ∧ ∀ x H', (Itt K a).yld i H x H' → g x σ H' fun σ2 H2 => tb { D with nx := N, ct := N, bk := D.nx } σ2 H2) := by
  refine ⟨fun i m σ H => m = xs.length - i ∧ i ≤ xs.length ∧ Pv i σ H, ⟨xs.length, by simp, Nat.zero_le _, h0⟩, ?_⟩
  rintro i m σ H ⟨rfl, hi, p⟩
  have q := hl i σ H hi p
  by_cases hlt : i < xs.length
  · refine .inr ⟨⟨xs, xs[i], q, by simp [hlt]⟩, Pv (i + 1), fun σ' H' p' => ⟨xs.length - (i + 1), by omega, rfl, hlt, p'⟩, fun x H' y => ?_⟩
    obtain ⟨e, y⟩ := y
    subst e
    exact hs i x σ _ (y xs q) p
  · have e : i = xs.length := by omega
    subst e
    exact .inl ⟨⟨xs, q, Nat.le_refl _⟩, hd σ H p⟩
theorem for_range {lo : Int} {n : Nat} {g : TG} {tb : TS} {D : Ends} {σ : St} {H : Hp} (Pv : Nat → St → Hp → Prop) (h0 : Pv 0 σ H)
    (hs : ∀ i σ H, i < n → Pv i σ H → g (.int (lo + i)) σ H fun σ2 H2 => tb { D with nx := Pv (i + 1), ct := Pv (i + 1), bk := D.nx } σ2 H2) (hd : ∀ σ H, Pv n σ H → D.nx σ H) :
    ∃ W : Nat → Nat → St → Hp → Prop, (∃ m, W 0 m σ H) ∧ ∀ i m σ H, W i m σ H →
      ((Itr lo n).stop i H ∧ D.nx σ H) ∨ ((Itr lo n).go i H ∧ ∃ N : St → Hp → Prop, (∀ σ' H', N σ' H' → ∃ m', m' < m ∧ W (i + 1) m' σ' H') ∧ ∀ x H', (Itr lo n).yld i H x H' → g x σ H' fun σ2 H2 => tb { D with nx := N, ct := N, bk := D.nx } σ2 H2) := by
  refine ⟨fun i m σ H => m = n - i ∧ i ≤ n ∧ Pv i σ H, ⟨n, by simp, Nat.zero_le _, h0⟩, ?_⟩
  rintro i m σ H ⟨rfl, hi, p⟩
  by_cases hlt : i < n
  · refine .inr ⟨hlt, Pv (i + 1), fun σ' H' p' => ⟨n - (i + 1), by omega, rfl, hlt, p'⟩, fun x H' y => ?_⟩
    obtain ⟨e, y⟩ := y
    subst e y
    exact hs i σ _ hlt p
  · have e : i = n := by omega
    subst e
    exact .inl ⟨Nat.le_refl _, hd σ H p⟩
end L2
namespace L2
open PySem PySem.Spec PyProof.Rows
abbrev R2 := V → V → Hp → VK → Prop
def OpR (X : Cx) (f : Value → Value → Sem Value) (r : R2) : Prop :=
  ∀ (pins : List (Addr × Obj)) (s : Shared) (σ : St) (H : Hp) (x y : V) (v u : Value) (Q : VK), Inv X pins σ H s → RelV x v → RelV y u → r x y H Q →
    wpAny (model X.prog X.w) X.A (f v u) (EP X pins σ Q) X.xe s
def UnR (X : Cx) (f : Value → Sem Value) (r : V → Hp → VK → Prop) : Prop :=
  ∀ (pins : List (Addr × Obj)) (s : Shared) (σ : St) (H : Hp) (x : V) (v : Value) (Q : VK), Inv X pins σ H s → RelV x v → r x H Q →
    wpAny (model X.prog X.w) X.A (f v) (EP X pins σ Q) X.xe s
def CallR (X : Cx) (f : Value) (r : List V → Hp → VK → Prop) : Prop :=
  ∀ (pins : List (Addr × Obj)) (s : Shared) (σ : St) (H : Hp) (xs : List V) (us : List Value) (Q : VK), Inv X pins σ H s → Vals xs us → r xs H Q →
    wpAny (model X.prog X.w) X.A (call f us) (EP X pins σ Q) X.xe s
def tOp (r : R2) (ta tb : TE) : TE := fun σ H Q => ta σ H fun x H1 => tb σ H1 fun y H2 => r x y H2 Q
def tUn (r : V → Hp → VK → Prop) (ta : TE) : TE := fun σ H Q => ta σ H fun x H1 => r x H1 Q
def rI (C : Int → Int → Prop) (g : Int → Int → V) : R2 := fun x y H Q => ∃ i j, x = .int i ∧ y = .int j ∧ C i j ∧ Q (g i j) H
def rI0 (g : Int → Int → V) : R2 := fun x y H Q => ∃ i j, x = .int i ∧ y = .int j ∧ Q (g i j) H
def rU (g : Int → V) : V → Hp → VK → Prop := fun x H Q => ∃ i, x = .int i ∧ Q (g i) H
section
variable {X : Cx} {a b c : Expr} {ta tb tc : TE} {pos : Pos}
theorem binT (ha : PE X a ta) (hb : PE X b tb) {pins : List (Addr × Obj)} {s : Shared} {σ : St} {H : Hp} {R : V → V → Hp → Prop} (I : Inv X pins σ H s)
    (h : ta σ H fun x H1 => tb σ H1 fun y H2 => R x y H2) {Q : Value → Shared → Prop} {f : Value → Value → Sem Value}
    (hf : ∀ v u s2 x y H2, Inv X pins σ H2 s2 → RelV x v → RelV y u → R x y H2 → wpAny (model X.prog X.w) X.A (f v u) Q X.xe s2) :
    wpAny (model X.prog X.w) X.A (eval a X.env) (fun v s₁ => wpAny (model X.prog X.w) X.A (eval b X.env) (fun u s₂ => wpAny (model X.prog X.w) X.A (f v u) Q X.xe s₂) X.xe s₁) X.xe s := by
  refine thn (ha pins s σ H _ I h) fun v s1 ⟨x, H1, I1, r1, q1⟩ => ?_
  refine thn (hb pins s1 σ H1 _ I1 q1) fun u s2 ⟨y, H2, I2, r2, q2⟩ => ?_
  exact hf v u s2 x y H2 I2 r1 r2 q2
theorem pe_op {op : Operator} {r : R2} (ho : OpR X (binaryOp op) r) (ha : PE X a ta) (hb : PE X b tb) : PE X (.BinOp a op b pos) (tOp r ta tb) := by
  intro pins s σ H Q I h
  exact wpAny_BinOp (binT ha hb I h fun v u s2 x y H2 I2 rx ry q => ho pins s2 σ H2 x y v u Q I2 rx ry q)
theorem pe_un {op : UnaryOp} {r : V → Hp → VK → Prop} (ho : UnR X (unaryOp op) r) (ha : PE X a ta) : PE X (.UnaryOp op a pos) (tUn r ta) := by
  intro pins s σ H Q I h
  exact UnaryOp_ (thn (ha pins s σ H _ I h) fun v s1 ⟨x, H1, I1, r1, q1⟩ => ho pins s1 σ H1 x v Q I1 r1 q1)
theorem opI {f : Value → Value → Sem Value} {C : Int → Int → Prop} {g : Int → Int → Int}
    (rule : ∀ (i j : Int) (t u : Tok) (s : Shared) (Q : Value → Shared → Prop) (E : Value → Shared → Prop), C i j → Q (.int (g i j) s.toks) { s with toks := s.toks + 1 } → wpAny (model X.prog X.w) X.A (f (.int i t) (.int j u)) Q E s) :
    OpR X f (rI C fun i j => .int (g i j)) := by
  intro pins s σ H x y v u Q I rx ry h
  obtain ⟨i, j, rfl, rfl, hc, q⟩ := h
  obtain ⟨t, rfl⟩ := rx
  obtain ⟨t', rfl⟩ := ry
  exact rule i j t t' s _ _ hc ⟨.int (g i j), H, I.tok _, ⟨_, rfl⟩, q⟩
theorem opI0 {f : Value → Value → Sem Value} {g : Int → Int → Int}
    (rule : ∀ (i j : Int) (t u : Tok) (s : Shared) (Q : Value → Shared → Prop) (E : Value → Shared → Prop), Q (.int (g i j) s.toks) { s with toks := s.toks + 1 } → wpAny (model X.prog X.w) X.A (f (.int i t) (.int j u)) Q E s) :
    OpR X f (rI0 fun i j => .int (g i j)) := by
  intro pins s σ H x y v u Q I rx ry h
  obtain ⟨i, j, rfl, rfl, q⟩ := h
  obtain ⟨t, rfl⟩ := rx
  obtain ⟨t', rfl⟩ := ry
  exact rule i j t t' s _ _ ⟨.int (g i j), H, I.tok _, ⟨_, rfl⟩, q⟩
theorem opB0 {f : Value → Value → Sem Value} {g : Int → Int → Bool}
    (rule : ∀ (i j : Int) (t u : Tok) (s : Shared) (Q : Value → Shared → Prop) (E : Value → Shared → Prop), Q (.bool (g i j)) s → wpAny (model X.prog X.w) X.A (f (.int i t) (.int j u)) Q E s) :
    OpR X f (rI0 fun i j => .bl (g i j)) := by
  intro pins s σ H x y v u Q I rx ry h
  obtain ⟨i, j, rfl, rfl, q⟩ := h
  obtain ⟨t, rfl⟩ := rx
  obtain ⟨t', rfl⟩ := ry
  exact rule i j t t' s _ _ ⟨.bl (g i j), H, I, rfl, q⟩
def CDiv (i j : Int) : Prop := 0 < j ∧ j < 1073741824
def CMul (i j : Int) : Prop := (-(2 ^ 64) < i ∧ i < 2 ^ 64) ∨ (-(2 ^ 64) < j ∧ j < 2 ^ 64)
theorem CMul.ok {i j : Int} (h : CMul i j) : IntMulOk i j := by
  rcases h with ⟨h1, h2⟩ | ⟨h1, h2⟩
  · exact .of_left (intBits_le_64 h1 h2)
  · exact .of_right (intBits_le_64 h1 h2)
theorem op_add : OpR X (binaryOp .Add) (rI0 fun i j => .int (i + j)) := opI0 fun _ _ _ _ _ _ _ q => add_int q
theorem op_sub : OpR X (binaryOp .Sub) (rI0 fun i j => .int (i - j)) := opI0 fun _ _ _ _ _ _ _ q => sub_int q
theorem op_mul : OpR X (binaryOp .Mult) (rI CMul fun i j => .int (i * j)) := opI fun _ _ _ _ _ _ _ hc q => mul_int q hc.ok
theorem op_fdiv : OpR X (binaryOp .FloorDiv) (rI CDiv fun i j => .int (i / j)) := opI fun i j _ _ _ _ _ hc q => by
  have h1 : (0 : Int) < j := hc.1
  have h2 : j < 1073741824 := hc.2
  exact floordiv_int (by omega) (by rw [Int.fdiv_eq_ediv_of_nonneg i (by omega)]; exact q) (.inl (PyProof.noPylong_small (by omega)))
theorem op_mod : OpR X (binaryOp .Mod) (rI (fun _ j => 0 < j) fun i j => .int (i % j)) := opI fun i j _ _ _ _ _ hc q => by
  have h1 : (0 : Int) < j := hc
  exact mod_int' (by omega) (by rw [Int.fmod_eq_emod_of_nonneg i (by omega)]; exact q)
theorem unI {f : Value → Sem Value} {g : Int → Int}
    (rule : ∀ (i : Int) (t : Tok) (s : Shared) (Q : Value → Shared → Prop) (E : Value → Shared → Prop), Q (.int (g i) s.toks) { s with toks := s.toks + 1 } → wpAny (model X.prog X.w) X.A (f (.int i t)) Q E s) :
    UnR X f (rU fun i => .int (g i)) := by
  intro pins s σ H x v Q I rx h
  obtain ⟨i, rfl, q⟩ := h
  obtain ⟨t, rfl⟩ := rx
  exact rule i t s _ _ ⟨.int (g i), H, I.tok _, ⟨_, rfl⟩, q⟩
theorem un_neg : UnR X (unaryOp .USub) (rU fun i => .int (-i)) := unI fun _ _ _ _ _ q => neg_int q
end
def scal : V → V → Bool
  | .non, .non => true | .non, .int _ => true | .int _, .non => true | .non, .bl _ => true | .bl _, .non => true | .non, .str _ => true | .str _, .non => true
  | .int _, .int _ => true | .bl _, .bl _ => true | .str _, .str _ => true | .byt _, .byt _ => true
  | .int _, .str _ => true | .str _, .int _ => true | .bl _, .str _ => true | .str _, .bl _ => true
  | _, _ => false
def rEq : R2 := fun x y H Q => scal x y = true ∧ Q (.bl (decide (x = y))) H
def rNe : R2 := fun x y H Q => scal x y = true ∧ Q (.bl (!decide (x = y))) H
theorem dec_int {i j : Int} : decide (V.int i = V.int j) = (i == j) := by
  rw [Bool.eq_iff_iff]
  simp
theorem dec_bl {i j : Bool} : decide (V.bl i = V.bl j) = (i == j) := by
  rw [Bool.eq_iff_iff]
  simp
theorem dec_str {i j : Str} : decide (V.str i = V.str j) = (i == j) := by
  rw [Bool.eq_iff_iff]
  simp
theorem dec_byt {i j : Array UInt8} : decide (V.byt i = V.byt j) = (i.toList == j.toList) := by
  rw [Bool.eq_iff_iff]
  cases i
  cases j
  simp
section
variable {X : Cx} {a b c : Expr} {ta tb tc : TE} {pos : Pos}
theorem fin_bl {pins : List (Addr × Obj)} {σ : St} {H : Hp} {s : Shared} {Q : VK} {k k' : Bool} (I : Inv X pins σ H s) (q : Q (.bl k) H) (e : k = k') : EP X pins σ Q (.bool k') s := by
  subst e
  exact ⟨.bl k, H, I, rfl, q⟩
theorem op_eq : OpR X (compareOp .Eq) rEq := by
  intro pins s σ H x y v u Q I rx ry h
  obtain ⟨hs, q⟩ := h
  cases x with
  | non =>
    cases rx
    cases y with
    | non => cases ry; exact PySem.EqNone.eq_none_none (fin_bl I q (by simp))
    | bl j => cases ry; exact PySem.EqNone.eq_none_bool (fin_bl I q (by simp))
    | int j => obtain ⟨t', rfl⟩ := ry; exact PySem.EqNone.eq_none_int (fin_bl I q (by simp))
    | str j => obtain ⟨t', rfl⟩ := ry; exact PySem.EqNone.eq_none_str (fin_bl I q (by simp))
    | _ => exact absurd (show false = true from hs) Bool.false_ne_true
  | bl i =>
    cases rx
    cases y with
    | non => cases ry; exact PySem.EqNone.eq_bool_none (fin_bl I q (by simp))
    | bl j => cases ry; exact eq_bool (fin_bl I q dec_bl)
    | str j => obtain ⟨t', rfl⟩ := ry; exact PySem.EqMixed.eq_bool_str (fin_bl I q (by simp))
    | _ => exact absurd (show false = true from hs) Bool.false_ne_true
  | int i =>
    obtain ⟨t, rfl⟩ := rx
    cases y with
    | non => cases ry; exact PySem.EqNone.eq_int_none (fin_bl I q (by simp))
    | int j => obtain ⟨t', rfl⟩ := ry; exact eq_int (fin_bl I q dec_int)
    | str j => obtain ⟨t', rfl⟩ := ry; exact PySem.EqMixed.eq_int_str (fin_bl I q (by simp))
    | _ => exact absurd (show false = true from hs) Bool.false_ne_true
  | str i =>
    obtain ⟨t, rfl⟩ := rx
    cases y with
    | non => cases ry; exact PySem.EqNone.eq_str_none (fin_bl I q (by simp))
    | bl j => cases ry; exact PySem.EqMixed.eq_str_bool (fin_bl I q (by simp))
    | int j => obtain ⟨t', rfl⟩ := ry; exact PySem.EqMixed.eq_str_int (fin_bl I q (by simp))
    | str j => obtain ⟨t', rfl⟩ := ry; exact eq_str (fin_bl I q dec_str)
    | _ => exact absurd (show false = true from hs) Bool.false_ne_true
  | byt i =>
    obtain ⟨t, rfl⟩ := rx
    cases y with
    | byt j => obtain ⟨t', rfl⟩ := ry; exact PySem.W.eq_bytes (fin_bl I q dec_byt)
    | _ => exact absurd (show false = true from hs) Bool.false_ne_true
  | _ => cases y <;> exact absurd (show false = true from hs) Bool.false_ne_true
theorem op_ne : OpR X (compareOp .NotEq) rNe := by
  intro pins s σ H x y v u Q I rx ry h
  obtain ⟨hs, q⟩ := h
  cases x with
  | non =>
    cases rx
    cases y with
    | non => cases ry; exact PySem.EqNone.ne_none_none (fin_bl I q (by simp))
    | bl j => cases ry; exact PySem.EqNone.ne_none_bool (fin_bl I q (by simp))
    | int j => obtain ⟨t', rfl⟩ := ry; exact PySem.EqNone.ne_none_int (fin_bl I q (by simp))
    | str j => obtain ⟨t', rfl⟩ := ry; exact PySem.EqNone.ne_none_str (fin_bl I q (by simp))
    | _ => exact absurd (show false = true from hs) Bool.false_ne_true
  | bl i =>
    cases rx
    cases y with
    | non => cases ry; exact PySem.EqNone.ne_bool_none (fin_bl I q (by simp))
    | bl j => cases ry; exact ne_bool (fin_bl I q (congrArg not dec_bl))
    | str j => obtain ⟨t', rfl⟩ := ry; exact PySem.EqMixed.ne_bool_str (fin_bl I q (by simp))
    | _ => exact absurd (show false = true from hs) Bool.false_ne_true
  | int i =>
    obtain ⟨t, rfl⟩ := rx
    cases y with
    | non => cases ry; exact PySem.EqNone.ne_int_none (fin_bl I q (by simp))
    | int j => obtain ⟨t', rfl⟩ := ry; exact ne_int (fin_bl I q (congrArg not dec_int))
    | str j => obtain ⟨t', rfl⟩ := ry; exact PySem.EqMixed.ne_int_str (fin_bl I q (by simp))
    | _ => exact absurd (show false = true from hs) Bool.false_ne_true
  | str i =>
    obtain ⟨t, rfl⟩ := rx
    cases y with
    | non => cases ry; exact PySem.EqNone.ne_str_none (fin_bl I q (by simp))
    | bl j => cases ry; exact PySem.EqMixed.ne_str_bool (fin_bl I q (by simp))
    | int j => obtain ⟨t', rfl⟩ := ry; exact PySem.EqMixed.ne_str_int (fin_bl I q (by simp))
    | str j => obtain ⟨t', rfl⟩ := ry; exact ne_str (fin_bl I q (congrArg not dec_str))
    | _ => exact absurd (show false = true from hs) Bool.false_ne_true
  | byt i =>
    obtain ⟨t, rfl⟩ := rx
    cases y with
    | byt j => obtain ⟨t', rfl⟩ := ry; exact PySem.W.ne_bytes (fin_bl I q (congrArg not dec_byt))
    | _ => exact absurd (show false = true from hs) Bool.false_ne_true
  | _ => cases y <;> exact absurd (show false = true from hs) Bool.false_ne_true
theorem op_lt : OpR X (compareOp .Lt) (rI0 fun i j => .bl (decide (i < j))) := opB0 fun _ _ _ _ _ _ _ q => lt_int q
theorem op_gt : OpR X (compareOp .Gt) (rI0 fun i j => .bl (decide (j < i))) := opB0 fun _ _ _ _ _ _ _ q => gt_int q
theorem nomark (b : Expr) {op : CmpOp} (h : op ≠ .In := by decide) (h2 : op ≠ .NotIn := by decide) : behindInMarks op b = false := by
  have e1 : (op == CmpOp.In) = false := by cases op <;> first | rfl | exact absurd rfl h
  have e2 : (op == CmpOp.NotIn) = false := by cases op <;> first | rfl | exact absurd rfl h2
  cases b <;> simp [behindInMarks, e1, e2]
theorem pe_cmpR {op : CmpOp} {r : R2} (ho : OpR X (compareOp op) r) (ha : PE X a ta) (hb : PE X b tb) (hm : behindInMarks op b = false) : PE X (.Compare a [op] [b] pos) (tOp r ta tb) := by
  intro pins s σ H Q I h
  exact wpAny_Compare1 (binT ha hb I h fun v u s2 x y H2 I2 rx ry q => ho pins s2 σ H2 x y v u Q I2 rx ry q) hm
def tTest (t : TE) : TT := fun σ H Q => t σ H fun x H' => ∃ k, x = .bl k ∧ Q k H'
theorem pt_cmpR {op : CmpOp} {r : R2} (ho : OpR X (compareOp op) r) (ha : PE X a ta) (hb : PE X b tb) (hm : behindInMarks op b = false) : PT X (.Compare a [op] [b] pos) (tTest (tOp r ta tb)) := by
  intro pins s σ H Q I h
  refine wpAny_isTrue_Compare1 (thn (ha pins s σ H _ I h) fun v s1 ⟨x, H1, I1, r1, q1⟩ => thn (hb pins s1 σ H1 _ I1 q1) fun u s2 ⟨y, H2, I2, r2, q2⟩ =>
    thn (ho pins s2 σ H2 x y v u _ I2 r1 r2 q2) fun c s3 ⟨z, H3, I3, r3, k, e, q3⟩ => ?_) hm
  subst e
  cases r3
  exact wpAny_truthy_bool ⟨H3, I3, q3⟩
theorem line63 : (sizeLine : Nat) < 2 ^ 63 := by rw [sizeLine_eq]; decide
theorem vals1 {x : V} {us : List Value} (r : Vals [x] us) : ∃ u, us = [u] ∧ RelV x u := by
  cases r with
  | cons r1 r2 => cases r2; exact ⟨_, rfl, r1⟩
theorem vals2 {x y : V} {us : List Value} (r : Vals [x, y] us) : ∃ u w', us = [u, w'] ∧ RelV x u ∧ RelV y w' := by
  cases r with
  | cons r1 r2 =>
    cases r2 with
    | cons r3 r4 => cases r4; exact ⟨_, _, rfl, r1, r3⟩
theorem call_abs : CallR X (.builtin "abs") (fun xs H Q => ∃ i, xs = [.int i] ∧ Q (.int (if i < 0 then -i else i)) H) := by
  intro pins s σ H xs us Q I r h
  obtain ⟨i, rfl, q⟩ := h
  obtain ⟨u, rfl, t, rfl⟩ := vals1 r
  exact call_abs_int fun u tk => ⟨.int (if i < 0 then -i else i), H, I.tok _, ⟨_, rfl⟩, q⟩
end
end L2
namespace L2
open PySem PySem.Spec PyProof.Rows
structure ObjM (h : Heap) (x dx C : Addr) (mA : Str → Option Value) : Prop where
  obj : h.get? x = some (PySem.W.instObj C dx)
  ns : h.Ns1 dx mA
  ne : dx ≠ x
theorem lookIn_ns {h : Heap} {dx : Addr} {mA : Str → Option Value} (n : h.Ns1 dx mA) : ∃ od, h.get? dx = some od ∧ ∀ name, PySem.W.lookIn name od = some (mA name) := by
  obtain ⟨o, es, ep, ho, hd, hk, _, hm⟩ := n
  refine ⟨o, ho, fun name => ?_⟩
  have e := hm name
  unfold nsFind findBy at e
  rw [← Array.find?_toList] at e
  unfold PySem.W.lookIn
  rw [hd]
  dsimp only
  split
  · rename_i y q
    rw [q] at e
    exact congrArg some e
  · rename_i q
    rw [q] at e
    have a : es.toList.any (·.refKey) = false := by
      rw [List.any_eq_false]
      intro y hy
      obtain ⟨z, t, hkey⟩ := hk y (Array.mem_toList_iff.mp hy)
      simp [DictEntry.refKey, hkey]
    have a' : ¬ es.toList.any (·.refKey) = true := by rw [a]; exact Bool.false_ne_true
    rw [if_neg a']
    exact congrArg some e
theorem ObjM.look {h : Heap} {x dx C : Addr} {mA : Str → Option Value} (I : ObjM h x dx C mA) : ∃ od, PySem.W.InstAt h x (PySem.W.instObj C dx) C (some od) ∧ ∀ name, PySem.W.lookIn name od = some (mA name) :=
  let ⟨od, ho, hl⟩ := lookIn_ns I.ns
  ⟨od, ⟨I.obj, rfl, rfl, ho⟩, hl⟩
section
variable {prog : Program} {w : World} {A : Around} {E : Value → Shared → Prop} {s : Shared} {K : PySem.W.Frag} {x dx C f : Addr} {mA : Str → Option Value} {name : Str} {v : Value}
end
section
variable {P : Program} {w : World} {H H' : Hp} {h h' : Heap} {a C dx : Addr} {fs fs' : List (Str × V)}
theorem ins_get (hok : HOk P w H h) (e : H a = some (.ins C dx fs)) : ∃ mA, ObjM h a dx C mA ∧ (∀ f, RelO (fs.lookup f) (mA f)) ∧ PySem.Within mA (fs.map (·.1)) ∧ fs.length ≤ 1000 ∧ H dx = some (.own a) := by
  obtain ⟨d, z, ne, ob, mA, n, r, q⟩ := (show ObjOk P w H h a (.ins C dx fs) from hok a _ e)
  exact ⟨mA, ⟨ob, n, ne⟩, r, q, z, d⟩
end
structure Cls (K : PySem.W.Frag) (C : Addr) : Prop where
  pg : PySem.W.plainGet K C Str.empty = true
  hd : PySem.W.hasDictIn K C = true
  po : PySem.W.plainOver K C = true
  sa : PySem.W.findIn K (.ref C) "__setattr__" = some (some (.builtin "object.__setattr__"))
theorem Cls.get {K : PySem.W.Frag} {C : Addr} (c : Cls K C) (f : Str) : PySem.W.plainGet K C f = true := c.pg
structure Con (K : PySem.W.Frag) (C : Addr) (f : Str) (v : V) (u : Value) : Prop where
  at_ : PySem.W.findIn K (.ref C) f = some (some u)
  rel : RelV v u
  get : PySem.W.specialIn K u "__get__" = some none
  cp : PySem.W.copiedNames.contains f = false
structure Meth (K : PySem.W.Frag) (C : Addr) (m : Str) (f : Addr) : Prop where
  at_ : PySem.W.findIn K (.ref C) m = some (some (.ref f))
  fn : PySem.W.isFn K (.ref f) = true
  kp : PySem.W.keepIn K (.ref f) = true
section
variable {X : Cx} {pins : List (Addr × Obj)} {σ : St} {H : Hp} {s : Shared} {a C dx : Addr} {fs : List (Str × V)} {f : Str} {v : V} {A : Around} {E : Value → Shared → Prop}
theorem Inv.made (I : Inv X pins σ H s) : Inv X pins σ (upd (upd H s.heap.objs.size (.own (s.heap.objs.size + 1))) (s.heap.objs.size + 1) (.ins C s.heap.objs.size []))
    { s with heap := (s.heap.push PySem.W.emptyDict).push (PySem.W.instObj C s.heap.objs.size) } := by
  have e1 : (s.heap.push PySem.W.emptyDict).get? s.heap.objs.size = some PySem.W.emptyDict := Heap.get?_push_size s.heap rfl
  have e2 : ((s.heap.push PySem.W.emptyDict).push (PySem.W.instObj C s.heap.objs.size)).get? (s.heap.objs.size + 1) = some (PySem.W.instObj C s.heap.objs.size) := by
    have := Heap.get?_push_size (s.heap.push PySem.W.emptyDict) (o := PySem.W.instObj C s.heap.objs.size) rfl
    rwa [Heap.size_push] at this
  have e3 : (s.heap.push PySem.W.emptyDict).Ns s.heap.objs.size (fun _ => none) := ⟨PySem.W.emptyDict, #[], _, e1, rfl, (fun e he => absurd he (by simp)), fun _ => rfl⟩
  have I1 := I.laid (a := s.heap.objs.size) (o := .own (s.heap.objs.size + 1)) (h' := s.heap.push PySem.W.emptyDict) (t' := s.toks) (fun b u q => Heap.get?_push_of_some _ q) (Nat.le_refl _) ⟨_, e1⟩
  refine I1.laid (a := s.heap.objs.size + 1) (o := .ins C s.heap.objs.size []) (t' := s.toks) (fun b u q => Heap.get?_push_of_some _ q) (Nat.le_of_eq (Heap.size_push _ _)) ?_
  have ne : s.heap.objs.size ≠ s.heap.objs.size + 1 := Nat.ne_of_lt (Nat.lt_succ_self _)
  refine ⟨by rw [upd_ne ne, upd_same], Nat.zero_le _, ne, e2, fun _ => none, (Heap.Ns1.of_empty e3).at fun o q => Heap.get?_push_of_some _ q, fun _ => True.intro, fun y hy => absurd rfl hy⟩
end
section
variable {X : Cx} {o e value : Expr} {f : Str} {pos pos' tpos : Pos} {ta tv : TE}
end
section
variable {X : Cx} {pins : List (Addr × Obj)} {σ : St} {H : Hp} {s : Shared} {A : Around} {E : Value → Shared → Prop} {Q : Value → Shared → Prop} {c : Value} {b : Bool}
inductive TyOf (K : PySem.W.Frag) (H : Hp) : V → Value → Prop where
  | non : TyOf K H .non (.type "NoneType")
  | bl (x : Bool) : TyOf K H (.bl x) (.type "bool")
  | int (i : Int) : TyOf K H (.int i) (.type "int")
  | str (x : Str) : TyOf K H (.str x) (.type "str")
  | flt (x : UInt64) : TyOf K H (.flt x) (.type "float")
  | lst {a : Addr} {xs : List V} (e : H a = some (.lst xs)) : TyOf K H (.ref a) (.type "list")
  | frz {a : Addr} {o : Obj} {xs : List V} (e : H a = some (.frz o (.lst xs))) : TyOf K H (.ref a) (.type "list")
  | tup {a : Addr} {xs : List V} (e : H a = some (.tup xs)) : TyOf K H (.ref a) (.type "tuple")
  | dK {a : Addr} {kvs : List (Key × V)} (e : H a = some (.dK kvs)) : TyOf K H (.ref a) (.type "dict")
  | dT {a : Addr} {kvs : List (List Key × V)} (e : H a = some (.dT kvs)) : TyOf K H (.ref a) (.type "dict")
  | ins {a C dx : Addr} {fs : List (Str × V)} (e : H a = some (.ins C dx fs)) (cl : Cls K C) (ha : PySem.W.findIn K (.ref C) "__class__" = some (some (.builtin "object.__class__")))
      (hn : PySem.W.specialIn K (.builtin "object.__class__") "__get__" = some (some (.builtin "getset_descriptor.__get__"))) (htk : PySem.W.takesIn K (.builtin "object.__class__") = some true)
      (hm : PySem.W.mroIn K C (.type "object") = some true) : TyOf K H (.ref a) (.ref C)
theorem isinst_ok {x : V} {u t : Value} (I : Inv X pins σ H s) (rx : RelV x u) (ty : TyOf X.K H x t) (e : PySem.W.kitOne X.K t c = some b) (h : ∀ tk, Q (.bool b) { s with toks := tk }) :
    wpAny (model X.prog X.w) A (call (.builtin "isinstance") [u, c]) Q E s := by
  cases ty with
  | non => cases (show u = Value.none from rx); exact PySem.W.kia_one PySem.W.kitx_none I.kIn True.intro e (fun z => nomatch z) h
  | bl y => cases (show u = Value.bool y from rx); exact PySem.W.kia_one PySem.W.kitx_bool I.kIn True.intro e (fun z => nomatch z) h
  | int i => obtain ⟨t, q⟩ := (show ∃ t, u = Value.int i t from rx); cases q; exact PySem.W.kia_one PySem.W.kitx_int I.kIn True.intro e (fun z => nomatch z) h
  | str y => obtain ⟨t, q⟩ := (show ∃ t, u = Value.str y t from rx); cases q; exact PySem.W.kia_one PySem.W.kitx_str I.kIn True.intro e (fun z => nomatch z) h
  | flt y => obtain ⟨t, q⟩ := (show ∃ t, u = Value.float y t from rx); cases q; exact PySem.W.kia_one PySem.W.kitx_float I.kIn True.intro e (fun z => nomatch z) h
  | @lst a xs ea =>
    cases (show u = Value.ref a from rx)
    obtain ⟨_, _, n, _, h1⟩ := (show ObjOk X.prog X.w H s.heap a (.lst xs) from I.hok a _ ea)
    exact PySem.W.kia_one PySem.W.kitx_list I.kIn ⟨_, h1, rfl⟩ e (fun z => nomatch z) h
  | @frz a ob xs ea =>
    cases (show u = Value.ref a from rx)
    obtain ⟨_, _, _, n, _, h1⟩ := (show ObjOk X.prog X.w H s.heap a (.frz ob (.lst xs)) from I.hok a _ ea)
    exact PySem.W.kia_one PySem.W.kitx_list I.kIn ⟨_, h1, rfl⟩ e (fun z => nomatch z) h
  | @tup a xs ea =>
    cases (show u = Value.ref a from rx)
    obtain ⟨_, _, _, p⟩ := (show ObjOk X.prog X.w H s.heap a (.tup xs) from I.hok a _ ea)
    obtain ⟨o, h1, h2, _⟩ := p
    exact PySem.W.kia_one PySem.W.kitx_tuple I.kIn ⟨o, h1, h2⟩ e (fun z => nomatch z) h
  | @dK a kvs ea =>
    cases (show u = Value.ref a from rx)
    obtain ⟨_, _, vs, _, p⟩ := (show ObjOk X.prog X.w H s.heap a (.dK kvs) from I.hok a _ ea)
    obtain ⟨o, es, ep, h1, h2, _⟩ := p
    exact PySem.W.kia_one PySem.W.kitx_dict I.kIn ⟨o, h1, h2.1⟩ e (fun z => nomatch z) h
  | @dT a kvs ea =>
    cases (show u = Value.ref a from rx)
    obtain ⟨_, _, xs, _, o, es, ep, h1, h2, _⟩ := (show ObjOk X.prog X.w H s.heap a (.dT kvs) from I.hok a _ ea)
    exact PySem.W.kia_one PySem.W.kitx_dict I.kIn ⟨o, h1, h2.1⟩ e (fun z => nomatch z) h
  | @ins a C dx fs ea cl ha hn htk hm =>
    cases (show u = Value.ref a from rx)
    obtain ⟨mA, O, _⟩ := ins_get I.hok ea
    obtain ⟨od, J, _⟩ := O.look
    exact PySem.W.kia_one (PySem.W.kitx_own (cl.get _) cl.hd ha hn htk hm) I.kIn J e (fun z => nomatch z) h
end
end L2
namespace L2
open PySem PySem.Spec PyProof.Rows
structure Room (k : Nat) (A : Around) : Prop where
  hd : A.handled = none
  dp : A.depth + 3 * k + 5 < recursionLimit
  un : A.units + 16 * k + 200 < cLine
theorem Room.mono {j k : Nat} {A : Around} (r : Room k A) (h : j ≤ k) : Room j A := ⟨r.hd, by have := r.dp; omega, by have := r.un; omega⟩
theorem Room.deeper {k : Nat} {A : Around} (r : Room (k + 1) A) (env : Env) : Room k (A.deeper env) :=
  ⟨r.hd, by have := r.dp; show A.depth + 1 + 3 * k + 5 < _; omega, by have := r.un; show A.units + 3 + 16 * k + 200 < _; omega⟩
theorem Room.in1 {k : Nat} {A : Around} (r : Room (k + 1) A) : Room k A.in1 :=
  ⟨r.hd, by have := r.dp; show A.depth + 3 * k + 5 < _; omega, by have := r.un; show A.units + 1 + 16 * k + 200 < _; omega⟩
theorem Room.depth {k : Nat} {A : Around} (r : Room k A) : A.depth < recursionLimit := by have := r.dp; omega
theorem Room.units {k : Nat} {A : Around} (r : Room k A) : A.units + 64 < cLine := by have := r.un; omega
def tNil : TA := fun _ H Q => Q [] H
def tCons (ta : TE) (tr : TA) : TA := fun σ H Q => ta σ H fun x H1 => tr σ H1 fun xs H2 => Q (x :: xs) H2
section
variable {X : Cx} {e : Expr} {es : List Expr} {te : TE} {t : TA} {pos : Pos}
theorem pa_nil : PA X [] tNil := fun _ _ _ _ H Q I h => Calls.spliced_nil ⟨[], H, I, .nil, h⟩
theorem pa_cons (ha : PE X e te) (hr : PA X es t) (hs : starEach (e :: es) X.env = (false, eval e X.env) :: starEach es X.env := by rfl) : PA X (e :: es) (tCons te t) := by
  intro pos pins s σ H Q I h
  rw [hs]
  show wpAny _ _ (spliced ((false, eval e X.env) :: backTo pos (starEach es X.env))) _ _ s
  refine Calls.spliced_cons (thn (ha pins s σ H _ I h) fun u s1 ⟨x, H1, I1, r1, q1⟩ => ?_)
  exact thn (hr pos pins s1 σ H1 _ I1 q1) fun us s2 ⟨xs, H2, I2, r2, q2⟩ => ⟨x :: xs, H2, I2, .cons r1 r2, q2⟩
def tTup (t : TA) : TE := fun σ H Q => t σ H fun xs H1 => xs.length ≤ sizeLine ∧ ∀ p, H1 p = none → Q (.ref p) (upd H1 p (.tup xs))
def tLst (t : TA) : TE := fun σ H Q => t σ H fun xs H1 => xs.length ≤ sizeLine ∧ ∀ p, H1 p = none → Q (.ref p) (upd H1 p (.lst xs))
theorem pe_tup {x1} (h : PA X es t) : PE X (.Tuple es x1 pos) (tTup t) := by
  intro pins s σ H Q I hq
  refine wpAny_Tuple_spliced (thn (h pos pins s σ H _ I hq) fun us s1 ⟨xs, H1, I1, r, z, q⟩ => ⟨by rw [← r.length]; exact z, ?_⟩)
  have hf : H1 s1.heap.objs.size = none := I1.hok.fresh (Nat.le_refl _)
  refine ⟨.ref s1.heap.objs.size, upd H1 s1.heap.objs.size (.tup xs), I1.laid (t' := s1.toks) (fun b u e => Heap.get?_push_of_some _ e) (Nat.le_refl _) ?_, rfl, q _ hf⟩
  exact ⟨z, us, r, ⟨_, Heap.get?_push_size _ rfl, rfl, _, rfl⟩⟩
theorem pe_lst (h : PA X es t) : PE X (.List es pos) (tLst t) := by
  intro pins s σ H Q I hq
  refine wpAny_List_spliced (thn (h pos pins s σ H _ I hq) fun us s1 ⟨xs, H1, I1, r, z, q⟩ => ⟨by rw [← r.length]; exact z, ?_⟩)
  have hf : H1 s1.heap.objs.size = none := I1.hok.fresh (Nat.le_refl _)
  refine ⟨.ref s1.heap.objs.size, upd H1 s1.heap.objs.size (.lst xs), I1.laid (t' := s1.toks) (fun b u e => Heap.get?_push_of_some _ e) (Nat.le_refl _) ?_, rfl, q _ hf⟩
  exact ⟨z, us, 0, r, Heap.get?_push_size _ rfl⟩
end
abbrev Sp := List V → Hp → VK → XK → Prop
abbrev CXT := List Env → Hp → Shared → XK → Value → Shared → Prop
structure Env0 (P : Program) (w : World) (K : PySem.W.Frag) (mg : Str → Option Value) (base : Heap) (A : Around) (outer : List Env) (s : Shared) (H : Hp) : Prop where
  frames : A.frames = some outer
  mod : Mod K mg base
  bs : ∀ b o, base.get? b = some o → s.heap.get? b = some o ∧ H b = none
  bsz : base.objs.size ≤ s.heap.objs.size
  funs : s.heap.FunFrames base outer
  frf : ∀ b ∈ frs outer, H b = none
  hok : HOk P w H s.heap
  bare : AllBare s.gens
def CE (outer : List Env) (P : Program) (w : World) (H : Hp) (s : Shared) (Q : VK) (u : Value) (s' : Shared) : Prop :=
  ∃ v H', s'.os = s.os ∧ AllBare s'.gens ∧ Un (frs outer) [] H H' s.heap s'.heap ∧ HOk P w H' s'.heap ∧ RelV v u ∧ Q v H'
def CR (CX : CXT) (outer : List Env) (P : Program) (w : World) (H : Hp) (s : Shared) (Q : VK) (E : XK) (r : Result) (s' : Shared) : Prop :=
  match r with
  | .ok (.ret u) => CE outer P w H s Q u s'
  | .ok _ => False
  | .error e => CX outer H s E e s'
structure FnOk (P : Program) (w : World) (K : PySem.W.Frag) (mg : Str → Option Value) (base : Heap) (CX : CXT) (k : Nat) (f : Addr) (fd : FuncData) (ps : List Str) (sp : Sp) : Prop where
  len : ∀ vs H Q E, sp vs H Q E → vs.length = ps.length
  run : ∀ (A : Around) (outer : List Env) (s : Shared) (H : Hp) (args : Args) (us : List Value) (vs : List V) (Q : VK) (E : XK), Room k A → Env0 P w K mg base A outer s H → BindsTo s fd args (ps.zip us) → Vals vs us → sp vs H Q E →
    codeAny (model P w) A (.call (.ref f) args) (CR CX outer P w H s Q E) s
theorem FnOk.mono {P : Program} {w : World} {K : PySem.W.Frag} {mg : Str → Option Value} {base : Heap} {CX : CXT} {j k : Nat} {f : Addr} {fd : FuncData} {ps : List Str} {sp : Sp} (F : FnOk P w K mg base CX j f fd ps sp) (h : j ≤ k) :
    FnOk P w K mg base CX k f fd ps sp := ⟨F.len, fun A outer s H args us vs Q E hr => F.run A outer s H args us vs Q E (hr.mono h)⟩
theorem Env0.in1 {P : Program} {w : World} {K : PySem.W.Frag} {mg : Str → Option Value} {base : Heap} {A : Around} {outer : List Env} {s : Shared} {H : Hp} (e : Env0 P w K mg base A outer s H) :
    Env0 P w K mg base A.in1 outer s H := ⟨e.frames, e.mod, e.bs, e.bsz, e.funs, e.frf, e.hok, e.bare⟩
section
variable {X : Cx} {pins : List (Addr × Obj)} {σ : St} {H : Hp} {s s' : Shared}
theorem Inv.env0 (I : Inv X pins σ H s) : Env0 X.prog X.w X.K X.mg X.base X.A X.stack s H :=
  ⟨I.ok.frames, I.ok.mod, I.bs, Nat.le_trans I.ok.bsz I.sz, I.stack, I.stkFree, I.hok, I.bare⟩
theorem Inv.after {Q : VK} {u : Value} (I : Inv X pins σ H s) (h : CE X.stack X.prog X.w H s Q u s') : EP X pins σ Q u s' := by
  obtain ⟨v, H', os, bare, un, hok, r, q⟩ := h
  obtain ⟨hh, g, d, t, os'⟩ := s'
  obtain rfl : os' = s.os := os
  exact ⟨v, H', I.call (h' := hh) (g' := g) (d' := d) (t' := t) (ch := []) un hok bare (fun b z => absurd z (by simp)), r, q⟩
end
def tCall (sp : Sp) (dvs : List V) (E : XK) (t : TA) : TE := fun σ H Q => t σ H fun vs H1 => sp (vs ++ dvs) H1 Q E
def Binds (K : PySem.W.Frag) (fd : FuncData) (ps : List Str) (ds : List Value) : Prop :=
  ∀ (s : Shared) (us : List Value), K.In s.heap → (us ++ ds).length = ps.length → BindsTo s fd ⟨us, []⟩ (ps.zip (us ++ ds))
theorem Binds.all {K : PySem.W.Frag} {fd : FuncData} {ps : List Str} (h : ∀ us : List Value, us.length = ps.length → bindArgs fd ⟨us, []⟩ = pure (ps.zip us)) : Binds K fd ps [] := fun s us _ hl => by
  rw [List.append_nil] at hl ⊢
  exact .of_eq (h us hl)
def Passes (CX : CXT) (X : Cx) (E : XK) : Prop := ∀ (pins : List (Addr × Obj)) (σ : St) (H : Hp) (s : Shared) (e : Value) (s' : Shared), Inv X pins σ H s → CX X.stack H s E e s' → X.xe e s'
section
variable {X : Cx} {CX : CXT} {k : Nat} {f C : Addr} {fd : FuncData} {ps : List Str} {sp : Sp} {dvs : List V} {ds : List Value} {E : XK} {x m : Str} {p pos apos : Pos} {e o : Expr} {es : List Expr} {ta : TE} {t : TA}
theorem run_fn {pins : List (Addr × Obj)} {σ : St} {H : Hp} {s : Shared} {Q : VK} {us : List Value} {vs : List V} (F : FnOk X.prog X.w X.K X.mg X.base CX k f fd ps sp) (hr : Room k X.A) (hb : Binds X.K fd ps ds) (hd : Vals dvs ds) (hx : Passes CX X E)
    (I : Inv X pins σ H s) (r : Vals vs us) (h : sp (vs ++ dvs) H Q E) : wpAny (model X.prog X.w) X.A (call (.ref f) us) (EP X pins σ Q) X.xe s := by
  have r2 : Vals (vs ++ dvs) (us ++ ds) := r.append hd
  have hl : (us ++ ds).length = ps.length := by rw [← r2.length]; exact F.len _ _ _ _ h
  refine wpAny_call (codeAny_mono (F.run X.A X.stack s H ⟨us, []⟩ (us ++ ds) (vs ++ dvs) Q E hr I.env0 (hb s us I.kIn hl) r2 h) fun r s' hq => ?_)
  cases r with
  | error e => exact hx pins σ H s e s' I hq
  | ok fl =>
    cases fl with
    | ret u => exact I.after hq
    | next => exact False.elim hq
    | brk => exact False.elim hq
    | cont => exact False.elim hq
theorem pe_call (F : FnOk X.prog X.w X.K X.mg X.base CX k f fd ps sp) (hr : Room k X.A) (hg : Gl X x) (hm : X.mg x = some (.ref f)) (hk : PySem.W.keepIn X.K (.ref f) = true) (hb : Binds X.K fd ps ds) (hd : Vals dvs ds) (hx : Passes CX X E)
    (ha : PA X (e :: es) t) (hdb : (x == ("__debug__" : Str)) = false := by decide) (he : starEach (e :: es) X.env = (false, eval e X.env) :: starEach es X.env := by rfl) (hpl : (backTo pos (starEach es X.env)).any (·.1) = false := by rfl) :
    PE X (.Call (.Name x p) (e :: es) [] pos) (tCall sp dvs E t) := by
  intro pins s σ H Q I h
  refine wpAny_Call_Name_kw (ld_glob I hg hm ?_ hdb)
  refine PySem.W.callWith_K (h₀ := X.base) I.ok.mod.kin hk (thn (ha pos pins s σ H _ I h) fun us s1 ⟨vs, H1, I1, r, q⟩ => ⟨I1.kIn, ?_⟩) he hpl
  exact run_fn F hr hb hd hx I1 r q
structure Mk (K : PySem.W.Frag) (C f : Addr) : Prop where
  makes : PySem.W.makesIn K C = true
  init : PySem.W.findIn K (.ref C) "__init__" = some (some (.ref f))
  fn : PySem.W.isFn K (.ref f) = true
  kp : PySem.W.keepIn K (.ref C) = true
end
section
variable {X : Cx} {CX : CXT} {k : Nat} {f C : Addr} {fd : FuncData} {ps ks : List Str} {sp : Sp} {E : XK} {x m : Str} {p pos apos kpos : Pos} {e o : Expr} {es : List Expr} {kws : List Keyword} {te ta : TE} {t tk : TA} {nm : Option Str}
structure KBinds (K : PySem.W.Frag) (fd : FuncData) (ps ks : List Str) (g : List Value → List Value → List Value) (gV : List V → List V → List V) : Prop where
  to : ∀ (s : Shared) (us ws : List Value), K.In s.heap → (g us ws).length = ps.length → BindsTo s fd ⟨us, ks.zip ws⟩ (ps.zip (g us ws))
  rel : ∀ {vs : List V} {us : List Value} {zs : List V} {ws : List Value}, Vals vs us → Vals zs ws → Vals (gV vs zs) (g us ws)
variable {g : List Value → List Value → List Value} {gV : List V → List V → List V}
end
structure FnScope (N P : List Str) (sc : Scope) : Prop where
  kind : sc.kind = .function
  co : sc.isCoroutine = false
  gen : sc.isGenerator = false
  nd : N.Nodup
  pre : N.take P.length = P
  par : ∀ x ∈ P, sc.names.lookup x = some .local ∨ sc.names.lookup x = some .cell
  nofree : ∀ y ∈ sc.names, y.2 ≠ .free
theorem bindL_out {kindOf : Str → Option NameKind} {x : Str} : ∀ {binds : List (Str × Value)} {m : Str → Option Value}, (∀ v, (x, v) ∉ binds) → bindL kindOf binds m x = m x
  | [], _, _ => rfl
  | (n, v) :: r, m, h => by
    unfold bindL
    rw [bindL_out fun w hw => h w (List.mem_cons_of_mem _ hw)]
    split
    · have : x ≠ n := by rintro rfl; exact h v List.mem_cons_self
      simp [this]
    · rfl
theorem bindC_out {kindOf : Str → Option NameKind} {x : Str} : ∀ {binds : List (Str × Value)} {m : Str → Option Value}, (∀ v, (x, v) ∉ binds) → bindC kindOf binds m x = m x
  | [], _, _ => rfl
  | (n, v) :: r, m, h => by
    unfold bindC
    rw [bindC_out fun w hw => h w (List.mem_cons_of_mem _ hw)]
    split
    · rfl
    · have : x ≠ n := by rintro rfl; exact h v List.mem_cons_self
      simp [this]
theorem bindL_get {kindOf : Str → Option NameKind} {x : Str} {v : Value} : ∀ {P : List Str} {vs : List Value} {i : Nat} {m : Str → Option Value}, P.Nodup → P[i]? = some x → vs[i]? = some v → kindOf x = some .local →
    bindL kindOf (P.zip vs) m x = some v
  | [], _, _, _, _, h, _, _ => by simp at h
  | _ :: _, [], _, _, _, _, h, _ => by simp at h
  | p :: P, w :: vs, 0, m, nd, h1, h2, hk => by
    simp at h1 h2; subst h1; subst h2
    show bindL kindOf ((p, w) :: P.zip vs) m p = _
    unfold bindL
    rw [bindL_out fun v hv => (List.nodup_cons.mp nd).1 (List.of_mem_zip hv).1, if_pos hk]
    simp
  | p :: P, w :: vs, i + 1, m, nd, h1, h2, hk => by
    show bindL kindOf ((p, w) :: P.zip vs) m x = _
    unfold bindL
    exact bindL_get (i := i) (List.nodup_cons.mp nd).2 (by simpa using h1) (by simpa using h2) hk
theorem bindC_get {kindOf : Str → Option NameKind} {x : Str} {v : Value} : ∀ {P : List Str} {vs : List Value} {i : Nat} {m : Str → Option Value}, P.Nodup → P[i]? = some x → vs[i]? = some v → kindOf x ≠ some .local →
    bindC kindOf (P.zip vs) m x = some v
  | [], _, _, _, _, h, _, _ => by simp at h
  | _ :: _, [], _, _, _, _, h, _ => by simp at h
  | p :: P, w :: vs, 0, m, nd, h1, h2, hk => by
    simp at h1 h2; subst h1; subst h2
    show bindC kindOf ((p, w) :: P.zip vs) m p = _
    unfold bindC
    rw [bindC_out fun v hv => (List.nodup_cons.mp nd).1 (List.of_mem_zip hv).1, if_neg hk]
    simp
  | p :: P, w :: vs, i + 1, m, nd, h1, h2, hk => by
    show bindC kindOf ((p, w) :: P.zip vs) m x = _
    unfold bindC
    exact bindC_get (i := i) (List.nodup_cons.mp nd).2 (by simpa using h1) (by simpa using h2) hk
def start (N : List Str) (vs : List V) : St := vs.map some ++ List.replicate (N.length - vs.length) none
def cxOf (CX : CXT) (P : Program) (w : World) (K : PySem.W.Frag) (mg : Str → Option Value) (base : Heap) (N : List Str) (qual : Str) (scope : Scope) (f : Addr) (cd : Value) (A : Around) (outer : List Env) (s : Shared) (H : Hp) (E : XK) : Cx where
  prog := P
  w := w
  K := K
  mg := mg
  base := base
  A := A.deeper (envOfC qual scope s.heap.objs.size f cd)
  N := N
  s₀ := s
  H₀ := H
  env := envOfC qual scope s.heap.objs.size f cd
  outer := outer
  stack := envOfC qual scope s.heap.objs.size f cd :: outer
  ex := []
  calm := true
  fn := fun _ => true
  pn := []
  xe := fun e s' => wpAny (model P w) (A.deeper (envOfC qual scope s.heap.objs.size f cd)) (leaving (envOfC qual scope s.heap.objs.size f cd) e) (fun _ s'' => CX outer H s E e s'') (fun e' s'' => CX outer H s E e' s'') s'
theorem cell_has {sc : Scope} {n : Nat} {x : Str} (h : sc.names.lookup x = some .cell) : ∃ c, (cellsFrom n sc.names []).lookup x = some c := by
  have q := PySem.W.cellsFrom_some sc.names n [] (.inl h)
  exact Option.isSome_iff_exists.mp q
theorem inv_start {CX : CXT} {P : Program} {w : World} {K : PySem.W.Frag} {mg : Str → Option Value} {base : Heap} {N ps : List Str} {qual : Str} {scope : Scope} {f : Addr} {cd : Value} {A : Around} {outer : List Env} {s s1 : Shared} {H : Hp} {E : XK} {us : List Value} {vs : List V}
    (S : FnScope N ps scope) (hd : A.handled = none) (e0 : Env0 P w K mg base A outer s H) (hl : vs.length = ps.length) (r : Vals vs us)
    (x : InCallC s s.heap.objs.size (bindL (envOfC qual scope s.heap.objs.size f cd).kindOf (ps.zip us) fun _ => none) (cellsFrom (s.heap.objs.size + 1) scope.names []) (bindC (envOfC qual scope s.heap.objs.size f cd).kindOf (ps.zip us) fun _ => none) s1) :
    Inv (cxOf CX P w K mg base N qual scope f cd A outer s H E) [] (start N vs) H s1 := by
  have hpl : ps.length ≤ N.length := by have := congrArg List.length S.pre; rw [List.length_take] at this; omega
  obtain ⟨h1, tk, rfl, hk⟩ := x.done
  have noA : ∀ b : Addr, b ∉ (cxOf CX P w K mg base N qual scope f cd A outer s H E).ex := fun b z => absurd (show b ∈ ([] : List Addr) from z) (by simp)
  refine ⟨⟨e0.mod, S.kind, rfl, rfl, Nat.le_refl _, fun y z c h1 h2 => ?_, fun y hy => ?_, fun y c _ h => ?_, fun _ => hd, Around.frames_deeper e0.frames, .inr ⟨rfl, rfl⟩, fun b z => absurd z (noA b), e0.bs, e0.bsz, fun b _ _ => noA b, fun b z => absurd z (noA b), e0.funs, e0.frf⟩,
    rfl, e0.bare, Un.kept hk, ⟨_, x.toInCall.ns, fun i y v h1 h2 h3 => ?_⟩, fun y c h => ⟨_, x.cell y c h⟩, e0.hok.fresh (Nat.le_refl _), fun y c h => ?_, fun p hp => absurd (show p ∈ ([] : List (Addr × Obj)) from hp) (by simp), e0.hok.kept hk, ?_⟩
  · exact name_of_addr x.apart (PySem.mem_of_lookup h1) (PySem.mem_of_lookup h2)
  · have hy : scope.names.lookup y = some .cell ∨ scope.names.lookup y = some .free := hy
    rcases hy with hy | hy
    · exact cell_has hy
    · exact absurd rfl (S.nofree _ (PySem.mem_of_lookup hy))
  · exact Nat.le_of_lt (x.above y c (PySem.mem_of_lookup h))
  · have hi : i < vs.length := by
      unfold start at h2
      by_cases hi : i < vs.length
      · exact hi
      · rw [List.getElem?_append_right (by simpa using hi)] at h2
        rw [List.getElem?_replicate] at h2
        split at h2 <;> cases h2
    have ha : vs[i]? = some v := by
      unfold start at h2
      rw [List.getElem?_append_left (by simpa using hi), List.getElem?_map] at h2
      cases e : vs[i]? with
      | none => rw [e] at h2; cases h2
      | some a => rw [e] at h2; cases h2; rfl
    obtain ⟨u, hu, rv⟩ := r.get ha
    have hp : ps[i]? = some y := by
      rw [← S.pre, List.getElem?_take_of_lt (by omega)]; exact h1
    have ndP : ps.Nodup := by rw [← S.pre]; exact S.nd.sublist (List.take_sublist _ _)
    refine ⟨u, rv, ?_⟩
    rcases S.par y (List.mem_of_getElem? hp) with k | k
    · exact .inl ⟨k, bindL_get ndP hp hu k⟩
    · obtain ⟨c, e⟩ := cell_has (n := s.heap.objs.size + 1) k
      refine .inr ⟨.inl k, c, e, ?_⟩
      have q := x.cell y c e
      rw [bindC_get ndP hp hu (by show scope.names.lookup y ≠ _; rw [k]; decide)] at q
      exact q
  · exact e0.hok.fresh (Nat.le_of_lt (x.above y c (PySem.mem_of_lookup h)))
  · unfold start
    show _ = N.length
    rw [List.length_append, List.length_map, List.length_replicate]
    omega
theorem fn_of {CX : CXT} {P : Program} {w : World} {K : PySem.W.Frag} {mg : Str → Option Value} {base : Heap} {k : Nat} {f : Addr} {name qual : Str} {params : Arguments} {body : List Stmt} {scope : Scope} {dV kV doc pm cdv ct oc : Value} {an od : Option Addr}
    {osl : Array (Option Value)} {N ps : List Str} {sp : Sp} (lk : K.lookup f = some ⟨oc, od, .func (PySem.W.fnOf name qual params body scope dV kV doc pm an cdv ct), osl⟩) (hcd : PySem.W.codeIn K cdv qual = true) (S : FnScope N ps scope)
    (len : ∀ vs H Q E, sp vs H Q E → vs.length = ps.length)
    (hbody : ∀ (A : Around) (outer : List Env) (s : Shared) (H : Hp) (vs : List V) (Q : VK) (E : XK), Room k (A.deeper (envOfC qual scope s.heap.objs.size f cdv)) → sp vs H Q E →
      ∃ t, PSs (cxOf CX P w K mg base N qual scope f cdv A outer s H E) body t ∧ t { nx := fun _ H' => Q .non H', rt := Q } (start N vs) H) :
    FnOk P w K mg base CX (k + 1) f (PySem.W.fnOf name qual params body scope dV kV doc pm an cdv ct) ps sp := by
  refine ⟨len, fun A outer s H args us vs Q E hr e0 hb r hsp => ?_⟩
  have hl := len _ _ _ _ hsp
  have KX : K.In s.heap := e0.mod.kin.keeps fun b o e => (e0.bs b o e).1
  have lim : s.heap.NoLimit := e0.mod.nolimit.keeps fun b o e => (e0.bs b o e).1
  have hkind : ∀ y ∈ ps.zip us, scope.names.lookup y.1 = some .local ∨ (scope.names.lookup y.1 = some .cell ∧ ((cellsFrom (s.heap.objs.size + 1) scope.names []).lookup y.1).isSome = true) := fun ⟨n, v⟩ hy => by
    rcases S.par n (List.of_mem_zip hy).1 with q | q
    · exact .inl q
    · exact .inr ⟨q, PySem.W.cellsFrom_some _ _ _ (.inl q)⟩
  refine codeAny_call_function hr.depth (KX _ _ lk) rfl S.co S.gen rfl (PySem.W.codeRec_of KX hcd) (hb _ _ _ _ ?_)
  refine wpAny_newFunctionEnv_cells S.kind hkind fun env he s1 x => ?_
  subst he
  refine ⟨lim.keeps x.toInCall.keep, codeAny_func ?_⟩
  obtain ⟨t, ht, hq⟩ := hbody A outer s H vs Q E (hr.deeper _) hsp
  have I : Inv (cxOf CX P w K mg base N qual scope f cdv A outer s H E) [] (start N vs) H s1 := inv_start S hr.hd e0 hl r x
  refine wpAny_mono (ht [] s1 (start N vs) H _ I hq) (fun fl s' hs => ?_) fun e s' hs => hs
  have fin : ∀ {σ' : St} {H' : Hp} {v : V} {u : Value}, Inv (cxOf CX P w K mg base N qual scope f cdv A outer s H E) [] σ' H' s' → RelV v u → Q v H' → CE outer P w H s Q u s' :=
    fun {σ' H' v u} J rv q => ⟨v, H', J.os, J.bare, J.base, J.hok, rv, q⟩
  cases fl with
  | ret u =>
    obtain ⟨v, σ', H', J, rv, q⟩ := hs
    exact fin J rv q
  | next =>
    obtain ⟨σ', H', J, q⟩ := hs
    exact fin (v := V.non) (u := Value.none) J rfl q
  | brk =>
    obtain ⟨_, _, _, q⟩ := hs
    exact False.elim q
  | cont =>
    obtain ⟨_, _, _, q⟩ := hs
    exact False.elim q
end L2
namespace L2
open PySem PySem.Spec PyProof.Rows
section
variable {X : Cx} {x : Str} {p pos : Pos} {e : Expr} {es : List Expr} {t : TA} {id T : String} {r : List V → Hp → VK → Prop}
def tCB (r : List V → Hp → VK → Prop) (t : TA) : TE := fun σ H Q => t σ H fun vs H1 => r vs H1 Q
theorem pe_callB (hc : CallR X (.builtin id) r) (hg : Gl X x) (hm : X.mg x = none) (hv : bootBuiltins x = some (.builtin id)) (ha : PA X (e :: es) t) (hn : x ≠ "__name__" := by decide) (hdb : (x == ("__debug__" : Str)) = false := by decide)
    (he : starEach (e :: es) X.env = (false, eval e X.env) :: starEach es X.env := by rfl) (hpl : (backTo pos (starEach es X.env)).any (·.1) = false := by rfl) : PE X (.Call (.Name x p) (e :: es) [] pos) (tCB r t) := by
  intro pins s σ H Q I h
  refine wpAny_Call_Name_kw (ld_blt I hg hm hv ?_ hn hdb)
  exact PyProof.Rows.callWith_builtin1 (thn (ha pos pins s σ H _ I h) fun us s1 ⟨vs, H1, I1, r1, q1⟩ => hc pins s1 σ H1 vs us Q I1 r1 q1) he hpl
theorem pe_callTy (hc : CallR X (.type T) r) (hg : Gl X x) (hm : X.mg x = none) (hv : bootBuiltins x = some (.type T)) (ha : PA X (e :: es) t) (hn : x ≠ "__name__" := by decide) (hdb : (x == ("__debug__" : Str)) = false := by decide)
    (he : starEach (e :: es) X.env = (false, eval e X.env) :: starEach es X.env := by rfl) (hpl : (backTo pos (starEach es X.env)).any (·.1) = false := by rfl) : PE X (.Call (.Name x p) (e :: es) [] pos) (tCB r t) := by
  intro pins s σ H Q I h
  refine wpAny_Call_Name_kw (ld_blt I hg hm hv ?_ hn hdb)
  exact PyProof.Rows.callWith_type1 (thn (ha pos pins s σ H _ I h) fun us s1 ⟨vs, H1, I1, r1, q1⟩ => hc pins s1 σ H1 vs us Q I1 r1 q1) he hpl
end
end L2
namespace HT
open PySem PyProof.Rows
section
open PySem.SeqAt
open PySem.AutoSeq1 (wpAny_loadPart')
open PySem.MeetsSeq PySem.MeetsSeq2 PySem.MeetsSeq3
end
section
variable {prog : Program} {w : World} {A : Around} {E : Value → Shared → Prop} {s : Shared}
def sIx (n d : Nat) : Option Int → Nat
  | none => d
  | some v => if v < 0 then (v + (n : Int)).toNat else min v.toNat n
end
end HT
namespace L2
open PySem PySem.Spec PyProof.Rows
abbrev TO := St → Hp → (Option Int → Hp → Prop) → Prop
def PO (X : Cx) (e : Option Expr) (t : TO) : Prop :=
  ∀ (pins : List (Addr × Obj)) (s : Shared) (σ : St) (H : Hp) (Q : Option Int → Hp → Prop), Inv X pins σ H s → t σ H Q →
    wpAny (model X.prog X.w) X.A (evalPart e X.env) (fun u s' => ∃ o H', Inv X pins σ H' s' ∧ IsPart u o ∧ Q o H') X.xe s
def tPart (t : TE) : TO := fun σ H Q => t σ H fun x H1 => ∃ i, x = .int i ∧ Q (some i) H1
section
variable {X : Cx} {e : Expr} {te : TE} {lo hi : Option Expr} {tl th : TO} {pos p2 : Pos}
theorem po_some (h : PE X e te) : PO X (some e) (tPart te) := by
  intro pins s σ H Q I hw
  rw [evalPart_some]
  refine thn (h pins s σ H _ I hw) fun u s1 ⟨x, H1, I1, r1, q1⟩ => ?_
  obtain ⟨i, rfl, q⟩ := q1
  obtain ⟨t, rfl⟩ := r1
  exact ⟨some i, H1, I1, .int i t, q⟩
def SlR (X : Cx) (r : V → Option Int → Option Int → Hp → VK → Prop) : Prop :=
  ∀ (pins : List (Addr × Obj)) (s : Shared) (σ : St) (H : Hp) (x : V) (v vl vu : Value) (lo hi : Option Int) (sl : Addr) (Q : VK), Inv X pins σ H s → RelV x v → s.heap.IsSliceOf sl vl vu .none → IsPart vl lo → IsPart vu hi → r x lo hi H Q →
    ∃ T id, typeLookup (.type T) "__getitem__" = pure (some (.builtin id)) ∧ s.TypeIs v T ∧ wpAny (model X.prog X.w) X.A (getItem v (.ref sl)) (EP X pins σ Q) X.xe s
def tSl (r : V → Option Int → Option Int → Hp → VK → Prop) (te : TE) (tl th : TO) : TE := fun σ H Q => te σ H fun x H1 => tl σ H1 fun l H2 => th σ H2 fun u H3 => r x l u H3 Q
theorem pe_slice {r : V → Option Int → Option Int → Hp → VK → Prop} (hr : SlR X r) (he : PE X e te) (hl : PO X lo tl) (hu : PO X hi th) : PE X (.Subscript e (.Slice lo hi none p2) pos) (tSl r te tl th) := by
  intro pins s σ H Q I h
  refine Subscript_ (thn (he pins s σ H _ I h) fun v s1 ⟨x, H1, I1, r1, q1⟩ => ?_)
  refine wpAny_Slice (thn (hl pins s1 σ H1 _ I1 q1) fun vl s2 ⟨l, H2, I2, pl, q2⟩ => thn (hu pins s2 σ H2 _ I2 q2) fun vu s3 ⟨u, H3, I3, pu, q3⟩ => ?_)
  rw [evalPart_none]
  refine wpAny_pure ?_
  have I4 : Inv X pins σ H3 { s3 with heap := s3.heap.push { cls := .type "slice", data := .fields #[vl, vu, .none] } } := I3.kept (t' := s3.toks) fun b ob q => Heap.get?_push_of_some _ q
  obtain ⟨T, id, hT, ht, hg⟩ := hr pins { s3 with heap := s3.heap.push { cls := .type "slice", data := .fields #[vl, vu, .none] } } σ H3 x v vl vu l u s3.heap.objs.size Q I4 r1 (Heap.IsSliceOf.new ..) pl pu q3
  show wpAny (model X.prog X.w) X.A (subscriptTail e (.Slice lo hi none p2) v (.ref s3.heap.objs.size)) (EP X pins σ Q) X.xe { s3 with heap := s3.heap.push { cls := .type "slice", data := .fields #[vl, vu, .none] } }
  exact tail_any (ops := [.ref s3.heap.objs.size, v]) ht hT hg (by with_unfolding_all rfl)
def cutV (xs : List V) (lo hi : Option Int) : List V := (xs.drop (HT.sIx xs.length 0 lo)).take (HT.sIx xs.length xs.length hi - HT.sIx xs.length 0 lo)
theorem cutV_length (xs : List V) (lo hi : Option Int) : (cutV xs lo hi).length ≤ xs.length := by
  unfold cutV
  rw [List.length_take, List.length_drop]
  omega
end
end L2
namespace L2
open PySem PySem.Spec PyProof.Rows
def ixN (n : Nat) (i : Int) : Option Nat := if 0 ≤ i then (if i < n then some i.toNat else none) else if -(n : Int) ≤ i then some (i + n).toNat else none
def atI {α : Type} (xs : List α) (i : Int) : Option α := (ixN xs.length i).bind fun j => xs[j]?
theorem ixN_seq {n : Nat} {i : Int} {j : Nat} (h : ixN n i = some j) : seqIndex? i n = some j ∧ j < n ∧ -(n : Int) ≤ i ∧ i < n := by
  unfold ixN at h
  by_cases h0 : 0 ≤ i
  · rw [if_pos h0] at h
    by_cases h1 : i < n
    · rw [if_pos h1] at h
      have e : i.toNat = j := Option.some.inj h
      exact ⟨by rw [seqIndex_of h0 h1, e], by omega, by omega, h1⟩
    · rw [if_neg h1] at h; cases h
  · rw [if_neg h0] at h
    by_cases h1 : -(n : Int) ≤ i
    · rw [if_pos h1] at h
      have e : (i + n).toNat = j := Option.some.inj h
      exact ⟨by rw [seqIndex_neg (by omega) h1, e], by omega, h1, by omega⟩
    · rw [if_neg h1] at h; cases h
theorem atI_get {α : Type} {xs : List α} {i : Int} {v : α} (h : atI xs i = some v) : ∃ j, seqIndex? i xs.length = some j ∧ xs[j]? = some v ∧ j < xs.length ∧ -(xs.length : Int) ≤ i ∧ i < xs.length := by
  unfold atI at h
  cases e : ixN xs.length i with
  | none => rw [e] at h; cases h
  | some j =>
    rw [e] at h
    obtain ⟨h1, h2, h3, h4⟩ := ixN_seq e
    exact ⟨j, h1, h, h2, h3, h4⟩
theorem atI_nat {α : Type} {xs : List α} {j : Nat} {v : α} (h : xs[j]? = some v) : atI xs (j : Int) = some v := by
  have hj : j < xs.length := (List.getElem?_eq_some_iff.mp h).1
  have e : ixN xs.length (j : Int) = some j := by
    unfold ixN
    rw [if_pos (by omega), if_pos (by omega)]; simp
  unfold atI; rw [e]; exact h
def PlainIx (b : Expr) : Prop := ∀ o i, subscripted b false o i = operate [o, i] (getItem o i)
def IxR (X : Cx) (r : R2) : Prop :=
  ∀ (value slice : Expr) (pins : List (Addr × Obj)) (s : Shared) (σ : St) (H : Hp) (x y : V) (v u : Value) (Q : VK), Inv X pins σ H s → RelV x v → RelV y u → r x y H Q →
    subscripted slice false v u = operate [v, u] (getItem v u) → wpAny (model X.prog X.w) X.A (subscriptTail value slice v u) (EP X pins σ Q) X.xe s
def MtR (X : Cx) (id : String) (r : V → List V → Hp → VK → Prop) : Prop :=
  ∀ (pins : List (Addr × Obj)) (s : Shared) (σ : St) (H : Hp) (x : V) (xs : List V) (v : Value) (us : List Value) (Q : VK), Inv X pins σ H s → RelV x v → Vals xs us → r x xs H Q →
    wpAny (model X.prog X.w) X.A (call (.builtin id) (v :: us)) (EP X pins σ Q) X.xe s
section
variable {X : Cx} {a b : Expr} {ta tb : TE} {pos : Pos}
theorem pe_ix {r : R2} (hr : IxR X r) (ha : PE X a ta) (hb : PE X b tb) (hs : PlainIx b) : PE X (.Subscript a b pos) (tOp r ta tb) := by
  intro pins s σ H Q I h
  exact Subscript_ (binT ha hb I h fun v u s2 x y H2 I2 rx ry q => hr a b pins s2 σ H2 x y v u Q I2 rx ry q (hs _ _))
def rIxL (K : PySem.W.Frag) : R2 := fun x y H Q => ∃ p xs i v, x = .ref p ∧ y = .int i ∧ SqL K H p xs ∧ atI xs i = some v ∧ Q v H
def rIxT (K : PySem.W.Frag) : R2 := fun x y H Q => ∃ p xs i v, x = .ref p ∧ y = .int i ∧ SqT K H p xs ∧ atI xs i = some v ∧ Q v H
theorem ix_list : IxR X (rIxL X.K) := by
  intro value slice pins s σ H x y v u Q I rx ry h hs
  obtain ⟨p, xs, i, z, rfl, rfl, hq, he, q⟩ := h
  cases rx
  obtain ⟨t, rfl⟩ := ry
  obtain ⟨its, r, pl, hz⟩ := I.list hq
  obtain ⟨j, h1, h2, h3, h4, h5⟩ := atI_get he
  obtain ⟨w, ew, rw'⟩ := r.get h2
  have hl := r.length
  have hn := line63
  have fin : EP X pins σ Q w s := ⟨z, H, I, rw', q⟩
  by_cases h0 : 0 ≤ i
  · have hj : i.toNat = j := by
      rw [seqIndex_of h0 h5] at h1
      exact Option.some.inj h1
    exact item_listR pl.isList h0 (by omega) (by rw [hj]; simpa using ew) fin hs
  · have hj : (i + (its.toArray.size : Int)).toNat = j := by
      rw [seqIndex_neg (by omega) h4] at h1
      rw [List.size_toArray, ← hl]
      exact Option.some.inj h1
    exact subscriptTail_builtinR (x := w) pl.isList.typeIs slot_list_getitem.lookup
      (wpAny_getItem_list_neg (Q := fun r s' => r = w ∧ EP X pins σ Q r s') pl.isList (by omega) (by rw [List.size_toArray] <;> omega) (by omega) (by rw [hj]; simpa using ew) ⟨rfl, fin⟩) hs
theorem ix_tup : IxR X (rIxT X.K) := by
  intro value slice pins s σ H x y v u Q I rx ry h hs
  obtain ⟨p, xs, i, z, rfl, rfl, hq, he, q⟩ := h
  cases rx
  obtain ⟨t, rfl⟩ := ry
  obtain ⟨its, r, pl, hz⟩ := I.tuple hq
  obtain ⟨j, h1, h2, h3, h4, h5⟩ := atI_get he
  obtain ⟨w, ew, rw'⟩ := r.get h2
  have hl := r.length
  have hn := line63
  have fin : EP X pins σ Q w s := ⟨z, H, I, rw', q⟩
  exact subscriptTail_builtinR (x := w) pl.typeIs slot_tuple_getitem.lookup
    (getItem_tuple (j := j) (Q := fun r s' => r = w ∧ EP X pins σ Q r s') pl (by omega) (by omega) (by rw [List.size_toArray, ← hl]; exact h1) (by simpa using ew) ⟨rfl, fin⟩) hs
theorem mapSeq_set (its : List Value) (n j : Nat) (u : Value) : Obj.mapSeq (·.setIfInBounds j u) { cls := .type "list", data := .seq its.toArray n } = { cls := .type "list", data := .seq (its.set j u).toArray n } := by
  simp [Obj.mapSeq]
theorem Inv.lst {pins : List (Addr × Obj)} {σ : St} {H : Hp} {s : Shared} {p : Addr} {xs : List V} (I : Inv X pins σ H s) (h : H p = some (.lst xs)) :
    ∃ (its : List Value) (n : Nat), Vals xs its ∧ s.heap.get? p = some { cls := .type "list", data := .seq its.toArray n } ∧ xs.length ≤ sizeLine := by
  obtain ⟨z, its, n, r, e⟩ := I.hok p _ h
  exact ⟨its, n, r, e, z⟩
theorem Inv.lstUpd {pins : List (Addr × Obj)} {σ : St} {H : Hp} {s : Shared} {p : Addr} {xs ys : List V} {its its' : List Value} {n n' : Nat} {f : Obj → Obj} (I : Inv X pins σ H s) (h : H p = some (.lst xs))
    (ho : s.heap.get? p = some { cls := .type "list", data := .seq its.toArray n }) (hf : f { cls := .type "list", data := .seq its.toArray n } = { cls := .type "list", data := .seq its'.toArray n' }) (r : Vals ys its') (hz : ys.length ≤ sizeLine) (t : Nat) :
    Inv X pins σ (upd H p (.lst ys)) { s with heap := s.heap.update p f, toks := t } := by
  have e : (s.heap.update p f).get? p = some { cls := .type "list", data := .seq its'.toArray n' } := by
    rw [Heap.get?_update_self f ho (by rw [hf] <;> rfl), hf]
  refine I.write (x := p) (e := p) (by rw [h]; trivial) (.inl rfl) (fun b u hb q => (Heap.get?_update_other _ _ (Ne.symm hb)).trans q) ⟨_, e⟩ ?_
  exact ⟨hz, its', n', r, e⟩
def rSetL : V → V → V → Hp → (Hp → Prop) → Prop := fun o i v H Q => ∃ p xs k j, o = .ref p ∧ i = .int k ∧ H p = some (.lst xs) ∧ ixN xs.length k = some j ∧ Q (upd H p (.lst (xs.set j v)))
theorem set_list : PSet X rSetL := by
  intro pins s σ H o i v ov iv u Q I ro ri rv h
  obtain ⟨p, xs, k, j, rfl, rfl, hp, hj, q⟩ := h
  cases ro
  obtain ⟨t, rfl⟩ := ri
  obtain ⟨its, n, r, ho, hz⟩ := I.lst hp
  obtain ⟨h1, h2, h3, h4⟩ := ixN_seq hj
  have hl := r.length
  have hn := line63
  have I' : Inv X pins σ (upd H p (.lst (xs.set j v))) { s with heap := s.heap.update p (Obj.mapSeq (·.setIfInBounds j u)) } :=
    I.lstUpd hp ho (mapSeq_set its n j u) (r.set rv j) (by rw [List.length_set]; exact hz) s.toks
  by_cases h0 : 0 ≤ k
  · have hk : k.toNat = j := by
      rw [seqIndex_of h0 h4] at h1
      exact Option.some.inj h1
    exact PySem.W.ki_setAt ho h0 (by omega) (by rw [List.size_toArray, ← hl]; exact h4) (by rw [hk]; exact ⟨_, I', q⟩)
  · have hk : (k + (its.toArray.size : Int)).toNat = j := by
      rw [seqIndex_neg (by omega) h3] at h1
      rw [List.size_toArray, ← hl]
      exact Option.some.inj h1
    exact PySem.W.ki_setBack ho (by omega) (by rw [List.size_toArray, ← hl]; exact h3) (by omega) (by rw [hk]; exact ⟨_, I', q⟩)
theorem slice_bounds (lo hi : Option Int) (n : Nat) : (sliceBounds lo hi none n).1 = ((HT.sIx n 0 lo : Nat) : Int) ∧ (sliceBounds lo hi none n).2.1 = ((HT.sIx n n hi : Nat) : Int) ∧ (sliceBounds lo hi none n).2.2 = 1 := by
  refine ⟨?_, ?_, rfl⟩
  · cases lo with
    | none => simp [sliceBounds, HT.sIx]
    | some i =>
      simp only [sliceBounds, HT.sIx, Option.getD_none, show (1 : Int) > 0 by decide, if_true]
      by_cases h : i < 0
      · simp only [h, if_true] <;> omega
      · simp only [h, if_false] <;> omega
  · cases hi with
    | none => simp [sliceBounds, HT.sIx]
    | some i =>
      simp only [sliceBounds, HT.sIx, Option.getD_none, show (1 : Int) > 0 by decide, if_true]
      by_cases h : i < 0
      · simp only [h, if_true] <;> omega
      · simp only [h, if_false] <;> omega
theorem slicePick_cut (its : List Value) (lo hi : Option Int) : slicePick its.toArray lo hi none = ((its.drop (HT.sIx its.length 0 lo)).take (HT.sIx its.length its.length hi - HT.sIx its.length 0 lo)).toArray := by
  obtain ⟨h1, h2, h3⟩ := slice_bounds lo hi its.toArray.size
  unfold slicePick
  rw [h1, h2, h3]
  simp only [sliceRange_one, pick_run, List.size_toArray] <;> rfl
def rSlL (K : PySem.W.Frag) : V → Option Int → Option Int → Hp → VK → Prop := fun x lo hi H Q => ∃ a xs, x = .ref a ∧ SqL K H a xs ∧ ∀ p, H p = none → Q (.ref p) (upd H p (.lst (cutV xs lo hi)))
theorem sl_list : SlR X (rSlL X.K) := by
  intro pins s σ H x v vl vu lo hi sl Q I rx hs pl pu h
  obtain ⟨a, xs, rfl, hx, q⟩ := h
  cases rx
  obtain ⟨its, r, ht, hz⟩ := I.list hx
  have hlen := r.length
  refine ⟨"list", _, slot_list_getitem.lookup, ht.isList.typeIs, ?_⟩
  refine wpAny_getItem_list_slice ht.isList hs pl pu .none (by simp) ?_ (by rw [List.size_toArray] <;> omega)
  rw [slicePick_cut, ← hlen]
  refine ⟨.ref s.heap.objs.size, _, I.laid (t' := s.toks) (o := .lst (cutV xs lo hi)) (fun b ob q => Heap.get?_push_of_some _ q) (Nat.le_refl _) ?_, rfl, q _ (I.hok.fresh (Nat.le_refl _))⟩
  exact ⟨Nat.le_trans (cutV_length xs lo hi) hz, _, 0, (r.drop (HT.sIx xs.length 0 lo)).take (HT.sIx xs.length xs.length hi - HT.sIx xs.length 0 lo), Heap.get?_push_size _ rfl⟩
theorem call_len_seq : CallR X (.builtin "len") (fun xs H Q => ∃ p ys, xs = [.ref p] ∧ (SqL X.K H p ys ∨ SqT X.K H p ys) ∧ Q (.int ys.length) H) := by
  intro pins s σ H xs us Q I r h
  obtain ⟨p, ys, rfl, hq, q⟩ := h
  obtain ⟨u, rfl, rx⟩ := vals1 r
  cases rx
  have hn := line63
  rcases hq with hq | hq
  · obtain ⟨its, r', pl, hz⟩ := I.list hq
    have hlen := r'.length
    exact Calls.call_len_list pl.isList (by simp only [List.size_toArray] <;> omega) ⟨.int ys.length, H, I.tok _, ⟨s.toks + 1, by rw [List.size_toArray, hlen]⟩, q⟩
  · obtain ⟨its, r', pl, hz⟩ := I.tuple hq
    have hlen := r'.length
    exact len_tuple pl (by simp only [List.size_toArray] <;> omega) ⟨.int ys.length, H, I.tok _, ⟨s.toks + 1, by rw [List.size_toArray, hlen]⟩, q⟩
theorem call_list_of : CallR X (.type "list") (fun xs H Q => ∃ p ys, xs = [.ref p] ∧ (SqL X.K H p ys ∨ SqT X.K H p ys) ∧ ∀ l, H l = none → Q (.ref l) (upd H l (.lst ys))) := by
  intro pins s σ H xs us Q I r h
  obtain ⟨p, ys, rfl, hq, q⟩ := h
  obtain ⟨u, rfl, rx⟩ := vals1 r
  cases rx
  have fin : ∀ (its : List Value), Vals ys its → ys.length ≤ sizeLine → ∀ (h' : Heap) (c' : Nat), (∀ b o', s.heap.get? b = some o' → h'.get? b = some o') →
      h'.get? s.heap.objs.size = some { cls := .type "list", dict := none, data := .seq its.toArray c', slots := #[] } → EP X pins σ Q (.ref s.heap.objs.size) { s with heap := h' } := fun its r' hz h' c' kp e =>
    ⟨.ref s.heap.objs.size, _, I.laid (t' := s.toks) kp (Nat.le_refl _) (show ObjOk X.prog X.w _ h' _ (.lst ys) from ⟨hz, its, c', r', e⟩), rfl, q _ (I.hok.fresh (Nat.le_refl _))⟩
  rcases hq with hq | hq
  · obtain ⟨its, r', pl, hz⟩ := I.list hq
    have hlen := r'.length
    obtain ⟨o, ho, hc, n, hd⟩ := pl.isList
    exact call_list_seq p (.inl rfl) ho hc hd (fun h' c' kp e => fin its r' hz h' c' kp e) (by simp only [List.size_toArray] <;> omega)
  · obtain ⟨its, r', pl, hz⟩ := I.tuple hq
    have hlen := r'.length
    obtain ⟨o, ho, hc, n, hd⟩ := pl
    exact call_list_seq p (.inr rfl) ho hc hd (fun h' c' kp e => fin its r' hz h' c' kp e) (by simp only [List.size_toArray] <;> omega)
theorem call_tuple_of : CallR X (.type "tuple") (fun xs H Q => ∃ p ys, xs = [.ref p] ∧ ((SqL X.K H p ys ∧ ∀ l, H l = none → Q (.ref l) (upd H l (.tup ys))) ∨ (SqT X.K H p ys ∧ Q (.ref p) H))) := by
  intro pins s σ H xs us Q I r h
  obtain ⟨p, ys, rfl, h⟩ := h
  obtain ⟨u, rfl, rx⟩ := vals1 r
  cases rx
  rcases h with ⟨hq, q⟩ | ⟨hq, q⟩
  · obtain ⟨its, r', pl, hz⟩ := I.list hq
    have hlen := r'.length
    refine call_tuple_list pl.isList (fun h' kp => ?_) (by simp only [List.size_toArray] <;> omega)
    have I1 : Inv X pins σ H { s with heap := h' } := I.kept (t' := s.toks) kp
    have I2 : Inv X pins σ (upd H h'.objs.size (.tup ys)) { s with heap := h'.push { cls := .type "tuple", data := .seq its.toArray } } :=
      I1.laid (t' := s.toks) (fun b o e => Heap.get?_push_of_some _ e) (Nat.le_refl _) (show ObjOk X.prog X.w _ _ _ (.tup ys) from ⟨hz, its, r', IsTup.new _ _⟩)
    exact ⟨.ref h'.objs.size, _, I2, rfl, q _ (I1.hok.fresh (Nat.le_refl _))⟩
  · obtain ⟨its, r', pl, hz⟩ := I.tuple hq
    exact call_tuple_same pl ⟨.ref p, H, I, rfl, q⟩
def tyV (K : PySem.W.Frag) (T : String) (x : V) (H : Hp) : Prop := match x with
  | .str _ => T = "str"
  | .int _ => T = "int"
  | .ref p => (T = "list" ∧ ∃ xs, SqL K H p xs) ∨ (T = "tuple" ∧ ∃ o, K.lookup p = some o ∧ o.cls = .type "tuple" ∧ o.dict = none) ∨
      (T = "dict" ∧ ((∃ kvs, H p = some (.dK kvs)) ∨ ∃ kvs, H p = some (.dT kvs))) ∨ (T = "set" ∧ ∃ S n, H p = some (.set S n))
  | _ => False
theorem tyV_is {pins : List (Addr × Obj)} {σ : St} {H : Hp} {s : Shared} {T : String} {x : V} {v : Value} (I : Inv X pins σ H s) (r : RelV x v) (ty : tyV X.K T x H) :
    s.TypeIs v T ∧ ∀ a, v = .ref a → ∃ ob, s.heap.get? a = some ob ∧ ob.dict = none := by
  cases x with
  | str z =>
    obtain ⟨t, rfl⟩ := r
    cases (show T = "str" from ty)
    exact ⟨typeIs_str s z t, fun _ e => nomatch e⟩
  | int i =>
    obtain ⟨t, rfl⟩ := r
    cases (show T = "int" from ty)
    exact ⟨typeIs_int s i t, fun _ e => nomatch e⟩
  | ref p =>
    cases r
    rcases ty with ⟨rfl, xs, hq⟩ | ⟨rfl, o, hk, hc, hd⟩ | ⟨rfl, hk⟩ | ⟨rfl, S, n, hk⟩
    · obtain ⟨its, _, pl, _⟩ := I.list hq
      refine ⟨pl.isList.typeIs, fun a e => ?_⟩
      cases e
      obtain ⟨o, n, e, c, hd, _⟩ := pl
      exact ⟨o, e, hd⟩
    · refine ⟨⟨o, I.kIn p o hk, hc⟩, fun a e => ?_⟩
      cases e
      exact ⟨o, I.kIn _ o hk, hd⟩
    · have z : ∃ o, s.heap.get? p = some o ∧ o.ExactDict := by
        rcases hk with ⟨kvs, hk⟩ | ⟨kvs, hk⟩
        · obtain ⟨_, _, _, _, o, _, _, e, ex, _⟩ := I.hok p _ hk
          exact ⟨o, e, ex⟩
        · obtain ⟨_, _, _, _, o, _, _, e, ex, _⟩ := I.hok p _ hk
          exact ⟨o, e, ex⟩
      obtain ⟨o, e, ex⟩ := z
      refine ⟨⟨o, e, ex.1⟩, fun a e2 => ?_⟩
      cases e2
      exact ⟨o, e, ex.2.1⟩
    · obtain ⟨o, _, _, _, e, ex, _⟩ := I.hok p _ hk
      refine ⟨⟨o, e, ex.1⟩, fun a e2 => ?_⟩
      cases e2
      exact ⟨o, e, ex.2.1⟩
  | _ => exact False.elim ty
def tBM (K : PySem.W.Frag) (T : String) (r : V → List V → Hp → VK → Prop) (to : TE) (t : TA) : TE := fun σ H Q => to σ H fun x H1 => tyV K T x H1 ∧ t σ H1 fun xs H2 => r x xs H2 Q
variable {o e : Expr} {es : List Expr} {to : TE} {t : TA} {name : Str} {apos cpos : Pos} {T id : String} {r : V → List V → Hp → VK → Prop}
theorem pe_bm (pa : PlainAttrs T) (slot : Slot T name id) (hty : typeOf (.builtin id) = pure (.type "method_descriptor")) (hm : MtR X id r) (ho : PE X o to) (ha : PA X (e :: es) t)
    (hbase : attributeBase o name X.env (eval o X.env) = eval o X.env := by rfl)
    (hfew : ((backTo cpos (starEach (e :: es) X.env)).all (fun x => !x.1) && (backToKw cpos (keywordEach [] X.env)).all (fun x => x.1.isSome)
      && decide ((e :: es).length + ([] : List Keyword).length + (if ([] : List Keyword).isEmpty then 0 else 1) < 30)) = true := by rfl)
    (hline : (apos.endLine == cpos.line) = true := by rfl) (hs : starEach (e :: es) X.env = (false, eval e X.env) :: starEach es X.env := by rfl) (hplain : (backTo cpos (starEach es X.env)).any (·.1) = false := by rfl) :
    PE X (.Call (.Attribute o name apos) (e :: es) [] cpos) (tBM X.K T r to t) := by
  intro pins s σ H Q I h
  refine wpAny_Call_method_late hbase hfew hline rfl (thn (ho pins s σ H _ I h) fun v s1 ⟨x, H1, I1, r1, ty, q1⟩ => ?_)
  obtain ⟨h1, h2⟩ := tyV_is I1 r1 ty
  refine ⟨T, id, pa, slot, hty, h1, h2, ?_⟩
  have hA := ha cpos pins s1 σ H1 _ I1 q1
  rw [hs] at hA ⊢
  refine Calls.callWith_builtin (by show (false || (backTo cpos (starEach es X.env)).any (·.1)) = false; rw [hplain] <;> rfl) (Calls.evalArgs_plain ?_)
  exact thn hA fun us s2 ⟨vs, H2, I2, r2, q2⟩ => hm pins s2 σ H2 x vs v us Q I2 r1 r2 q2
/- xs.append(e), list.index on a module's tuple .. are MtR facts of 06m -/
end
end L2
namespace L2
open PySem PySem.Spec PyProof.Rows
def MtM (X : Cx) (id : String) (r : V → List V → Hp → VK → Prop) : Prop :=
  ∀ (pins : List (Addr × Obj)) (s : Shared) (σ : St) (H : Hp) (x : V) (xs : List V) (v : Value) (us : List Value) (Q : VK), Inv X pins σ H s → RelV x v → Vals xs us → r x xs H Q →
    wpAny (model X.prog X.w) X.A (call (.builtin id) (v :: us)) (EP X pins σ Q) X.xe s
theorem Vals.one : ∀ {x : V} {us : List Value}, Vals [x] us → ∃ u, us = [u] ∧ RelV x u
  | _, _, .cons r .nil => ⟨_, rfl, r⟩
theorem Vals.zero : ∀ {us : List Value}, Vals [] us → us = []
  | _, .nil => rfl
theorem Vals.reverse {xs : List V} {us : List Value} (h : Vals xs us) : Vals xs.reverse us.reverse := by
  induction h with
  | nil => exact .nil
  | cons r t ih => rw [List.reverse_cons, List.reverse_cons]; exact Vals.append ih (.cons r .nil)
theorem Vals.rep {xs : List V} {us : List Value} (h : Vals xs us) : ∀ k : Nat, Vals (List.replicate k xs).flatten (List.replicate k us).flatten
  | 0 => .nil
  | k + 1 => by
    rw [List.replicate_succ, List.replicate_succ, List.flatten_cons, List.flatten_cons]
    exact Vals.append h (Vals.rep h k)
theorem foldl_rep (its : List Value) : ∀ (k : Nat) (acc : List Value),
    List.foldl (fun x1 x2 => x1 ++ x2) acc.toArray (List.replicate k its.toArray) = (acc ++ (List.replicate k its).flatten).toArray
  | 0, acc => by simp
  | k + 1, acc => by
    have e : acc.toArray ++ its.toArray = (acc ++ its).toArray := by simp
    have e2 : (acc ++ its) ++ (List.replicate k its).flatten = acc ++ (List.replicate (k + 1) its).flatten := by
      rw [List.replicate_succ, List.flatten_cons, List.append_assoc]
    rw [← e2, ← foldl_rep its k (acc ++ its), ← e, List.replicate_succ, List.foldl_cons]
section
variable {X : Cx} {pins : List (Addr × Obj)} {σ : St} {H : Hp} {s : Shared} {l b : Addr} {xs ys zs : List V}
theorem Inv.lset {its its' : List Value} {n : Nat} {f : Array Value → Array Value} {t' : Nat} (I : Inv X pins σ H s) (hH : H l = some (.lst xs))
    (e : s.heap.get? l = some { cls := .type "list", data := .seq its.toArray n }) (hf : f its.toArray = its'.toArray) (hv : Vals ys its') (hz : ys.length ≤ sizeLine) :
    Inv X pins σ (upd H l (.lst ys)) { s with heap := s.heap.update l (Obj.mapSeq f), toks := t' } := by
  have q := PySem.IsL.update e f
  rw [hf] at q
  refine I.write (x := l) (e := l) (by rw [hH]; exact trivial) (.inl rfl) (fun b' u hb hu => (Heap.get?_update_other s.heap (Obj.mapSeq f) (Ne.symm hb)).trans hu) ⟨_, q⟩ ?_
  exact ⟨hz, its', _, hv, q⟩
theorem Inv.lnew {its : List Value} {t' : Nat} (I : Inv X pins σ H s) (hv : Vals ys its) (hz : ys.length ≤ sizeLine) :
    Inv X pins σ (upd H s.heap.objs.size (.lst ys)) { s with heap := s.heap.push { cls := .type "list", data := .seq its.toArray }, toks := t' } :=
  I.laid (fun _ _ q => Heap.get?_push_of_some _ q) (Nat.le_refl _) ⟨hz, its, 0, hv, Heap.get?_push_size _ rfl⟩
theorem Inv.fresh (I : Inv X pins σ H s) : H s.heap.objs.size = none := I.hok.fresh (Nat.le_refl _)
theorem Inv.lstM (I : Inv X pins σ H s) (hH : H l = some (.lst xs)) : xs.length ≤ sizeLine ∧ ∃ (its : List Value) (n : Nat), Vals xs its ∧ xs.length = its.length ∧ s.heap.get? l = some { cls := .type "list", data := .seq its.toArray n } := by
  obtain ⟨z, its, n, r, e⟩ := I.hok l _ hH
  exact ⟨z, its, n, r, r.length, e⟩
theorem notLongL {n : Nat} (h : n ≤ sizeLine) : Builtin.List.listTooLong n = false := by
  unfold Builtin.List.listTooLong
  exact decide_eq_false (by omega)
end
section
variable {X : Cx}
def rAppend : V → List V → Hp → VK → Prop := fun x vs H Q => ∃ l xs y, x = .ref l ∧ vs = [y] ∧ H l = some (.lst xs) ∧ xs.length < sizeLine ∧ Q .non (upd H l (.lst (xs ++ [y])))
theorem mt_append : MtM X "list.append" rAppend := by
  intro pins s σ H x vs v us Q I rx rv h
  obtain ⟨l, xs, y, rfl, rfl, hH, hz, q⟩ := h
  cases rx
  obtain ⟨u, rfl, ru⟩ := rv.one
  obtain ⟨z, its, n, r, hl, e⟩ := I.lstM hH
  refine call_meets F.slot_list_append ⟨_, e, rfl⟩ F.entry_list_append (F.args_list_append_2 _ _) (PySem.list_append l its.toArray n u (by rw [List.size_toArray]; omega)) ⟨e, ?_⟩
  refine ⟨.non, _, I.lset (its' := its ++ [u]) hH e (by simp) (r.append (.cons ru .nil)) ?_, rfl, q⟩
  rw [List.length_append, List.length_singleton]
  omega
def rRep : R2 := fun x y H Q => ∃ l k xs, x = .ref l ∧ y = .int k ∧ H l = some (.lst xs) ∧ -(2 ^ 63) ≤ k ∧ k < 2 ^ 63 ∧ xs.length * k.toNat ≤ sizeLine ∧
  ∀ p, H p = none → Q (.ref p) (upd H p (.lst (List.replicate k.toNat xs).flatten))
theorem len_rep {α : Type} (xs : List α) (k : Nat) : (List.replicate k xs).flatten.length = k * xs.length := by
  induction k with
  | zero => simp
  | succ k ih => rw [List.replicate_succ, List.flatten_cons, List.length_append, ih, Nat.succ_mul, Nat.add_comm]
theorem op_rep : OpR X (binaryOp .Mult) rRep := by
  intro pins s σ H x y v u Q I rx ry h
  obtain ⟨l, k, xs, rfl, rfl, hH, h1, h2, hz, q⟩ := h
  cases rx
  obtain ⟨t, rfl⟩ := ry
  obtain ⟨z, its, n, r, hl, e⟩ := I.lstM hH
  have hlen : its.toArray.size * k.toNat ≤ sizeLine := by rw [List.size_toArray, ← hl]; exact hz
  have hcap : ¬ its.toArray.size * k.toNat > (2 ^ 63 - 1) / 8 := by
    have : (sizeLine : Nat) ≤ (2 ^ 63 - 1) / 8 := by decide
    omega
  have hfit : ¬ (!Builtin.List.listFitsIndex k) = true := by
    rw [fitsIndex_both h1 h2]
    exact Bool.false_ne_true
  have hlong : ¬ Builtin.List.listTooLong (its.toArray.size * k.toNat) = true := by
    rw [notLongL hlen]
    exact Bool.false_ne_true
  have hnew : List.foldl (fun x1 x2 => x1 ++ x2) #[] (List.replicate (if its.toArray.isEmpty = true then 0 else k.toNat) its.toArray) = (List.replicate k.toNat its).flatten.toArray := by
    have f0 : ∀ m : Nat, List.foldl (fun x1 x2 => x1 ++ x2) #[] (List.replicate m its.toArray) = (List.replicate m its).flatten.toArray := fun m => by
      have := foldl_rep its m []
      rw [List.nil_append] at this
      exact this
    rw [f0]
    cases its with
    | nil => simp
    | cons a r' => rw [if_neg (by simp)]
  refine wpAny_binaryOp_repeat_ref (T := "list") (U := "int") (by decide) ⟨_, e, rfl⟩ (fun s' => typeIs_int s' k t) noFill_list_mul F.fills_int_mul F.slot_int_rmul repeat_list F.slot_int_index.lookup
    (call_meets F.slot_int_rmul (typeIs_int s k t) F.entry_int_rmul (F.args_int_rmul_2 _ _) (int___rmul___int_list k t l its.toArray n)
      ⟨e, rfl, ⟨_, e, rfl⟩, call_meets F.slot_list_mul ⟨_, e, rfl⟩ F.entry_list_mul (F.args_list_mul_2 _ _) (AutoListH.list___mul___list_int_3 l its.toArray n k t hfit hcap hlong) ⟨e, ?_⟩⟩)
  rw [hnew]
  exact ⟨.ref _, _, I.lnew (t' := s.toks) (r.rep k.toNat) (by rw [len_rep, Nat.mul_comm]; exact hz), rfl, q _ I.fresh⟩
end
section
variable {prog : Program} {w : World} {A : Around} {E : Value → Shared → Prop} {s : Shared}
end
section
variable {X : Cx}
end
end L2
namespace Att
open PySem PySem.W PySem.Calls PyProof.Rows
theorem ints_of_wellAll {P : Params} {h : Heap} : ∀ (ns : List Int) (vs : List Value), WellAll P h vs (ns.map WData.int) → IntsAre vs ns := by
  intro ns
  induction ns with
  | nil =>
    intro vs w
    rw [List.map_nil] at w
    cases w
    exact .nil
  | cons n ns ih =>
    intro vs w
    rw [List.map_cons] at w
    cases w with
    | cons a b =>
      cases a
      exact .cons _ _ (ih _ b)
theorem script_of {l : OpenLaw} {n : Nat} (hn : l.most = some n) {P : Params} {h : Heap} {args : List WData} {vals : List Value}
    (hpre : l.row.toRowW.claim.pre args = true) (hwl : WellAll P h vals args) :
    ∃ a vs ns, vals = [Value.ref a] ∧ args = [WData.list (ns.map WData.int)] ∧ h.get? a = some { cls := .type "list", data := .seq vs.toArray } ∧ IntsAre vs ns ∧ ns.length ≤ n := by
  have hsh : WShape.hasAll [] args [.list .int] = true := (pre_splitW hpre).1
  have hc : l.pre.holds [] { args := args } = true := (pre_splitW hpre).2
  obtain ⟨d, r, rfl, h1, h2⟩ := hasAllW_cons hsh
  obtain rfl := hasAllW_nil h2
  obtain ⟨xs, rfl, h3⟩ := hasW_list h1
  obtain ⟨ns, rfl⟩ := items_int h3
  have hlen : ns.length ≤ n := by
    unfold OpenLaw.pre at hc
    have h4 : (WTm.not (.lt (.lit (.int (n : Int))) (.len (.arg 0)))).holds [] { args := [.list (ns.map .int)] } = true := by
      have h4 := (holds_andW hc).1
      rw [hn] at h4
      exact h4
    have h5 := condW_of h4 (w_not (w_lt w_lit (w_len_list (w_arg rfl))))
    rw [List.length_map] at h5
    refine Nat.le_of_not_lt fun q => ?_
    have q' : (n : Int) < ((ns.length : Nat) : Int) := by omega
    first
      | (rw [decide_eq_true q'] at h5; exact absurd h5 (by decide))
      | (simp at h5; omega)
  cases hwl with
  | cons w1 w2 =>
    cases w2
    cases w1 with
    | list ho hall => exact ⟨_, _, ns, rfl, rfl, ho, ints_of_wellAll ns _ hall, hlen⟩
theorem post_true (l : OpenLaw) (args : List WData) : l.row.toRowW.claim.post args (.bool true) args = true :=
  postW_of (r := l.row.toRowW) (X := (true == true))
    (show WShape.has [] (.bool true) .bool = true by first | rfl | decide | simp [WShape.has, WShape.arms, WShape.armsAll])
    (show (WTm.eq .res (.lit (.bool true))).value [] { args := args, res := some (.bool true), after := args } = some (.bool (true == true)) from w_eq_bool (w_res rfl) w_lit) rfl
theorem attach_call {l : OpenLaw} {n : Nat} {q : Program} {loose : List Str} {XP : (Str → Option Value) → Heap → Prop} {YP : World → Heap → Prop} {d : DefRec}
    (hn : l.most = some n) (hdf : d.params.defaults = [])
    (call : ∀ (w : World) (s₀ s₁ : Shared) (mg mb : Str → Option Value) (fa : Addr) (o : Obj) (pm cd doc : Value) (a : Addr) (vs : List Value) (ns : List Int),
      Ground q loose [] XP w s₀ mg mb s₁.heap → YP w s₁.heap →
      s₁.heap.get? fa = some o → o.data = .func (docDef d.name d.params d.body d.scope pm cd doc) → s₁.heap.CodeRec cd d.name → mg d.name = some (.ref fa) →
      s₁.heap.get? a = some { cls := .type "list", data := .seq vs.toArray } → IntsAre vs ns → ns.length ≤ n → s₁.gens = #[] →
      codeAny (model l.prog w) callerA (.call (.ref fa) ⟨[.ref a], []⟩) (fun r s' => r = .ok (.ret (.bool true)) ∧ OldK s₁.heap s'.heap ∧ s'.os = s₁.os ∧ AllBare s'.gens) s₁) :
    WalkO q loose XP YP l.row.toRowW d [] (fun f vs => PySem.call f vs) := by
  intro w s₀ s₁ mg mb G Y fa o pm cd doc dV kV ho hd hcd hD hmg hg args vals as hpre hlay hrd hwl hlo
  obtain rfl : dV = .none := Dflts.none hD hdf
  obtain rfl : kV = .none := Dflts.noKw hD
  obtain ⟨a, vs, ns, rfl, rfl, hobj, hints, hlen⟩ := script_of hn hpre hwl
  refine enter_call (codeAny_mono (call w s₀ s₁ mg mb fa o pm cd doc a vs ns G Y ho (fd_plain hd) hcd hmg hobj hints hlen hg) fun r s' hq => ?_)
  obtain ⟨rfl, h2, h3, h4⟩ := hq
  exact ⟨.inl ⟨.bool true, .bool true, [], rfl, fun _ => rfl, .bool true, post_true l _, fun _ => ⟨List.Pairwise.nil, fun _ hm => (nomatch hm)⟩⟩, h2, h3, h4⟩
section
variable {prog : Program} {w : World} {A : Around} {E : Value → Shared → Prop} {s : Shared} {K : Frag}
end
end Att
namespace L2
open PySem PySem.Spec PyProof.Rows
theorem vals_ints : ∀ {vs : List Value} {ns : List Int}, IntsAre vs ns → Vals (ns.map V.int) vs
  | _, _, .nil => .nil
  | _, _, .cons n t h => .cons ⟨t, rfl⟩ (vals_ints h)
def Only (H : Hp) : Prop := ∀ b, H b = none ∨ ∃ o xs, H b = some (.frz o (.lst xs))
theorem law_call {P : Program} {w : World} {K : PySem.W.Frag} {mg mb : Str → Option Value} {CX : CXT} {k : Nat} {fa a : Addr} {fd : FuncData} {x : Str} {sp : Sp} {s₁ : Shared} {vs : List Value} {ns : List Int}
    (KX : K.In s₁.heap) (hns : s₁.heap.Ns mainGlobals mg) (hb : s₁.heap.Ns builtinsNs mb) (hbb : ∀ x : Str, x ≠ "__name__" → mb x = bootBuiltins x) (hlim : s₁.heap.NoLimit) (hg : s₁.gens = #[])
    (ha : s₁.heap.get? a = some { cls := .type "list", data := .seq vs.toArray }) (hi : IntsAre vs ns) (hl : ns.length ≤ sizeLine) (hr : Room k callerA)
    (F : ∀ base : Heap, K.In base → base.Ns mainGlobals mg → FnOk P w K mg base CX k fa fd [x] sp) (hbind : ∀ (s : Shared) (u : Value), BindsTo s fd ⟨[u], []⟩ [(x, u)])
    (hsp : ∀ H : Hp, Only H → SqL K H a (ns.map V.int) → sp [.ref a] H (fun v _ => v = .bl true) fun _ _ _ => False)
    (hCX : ∀ H e s', CX [] H s₁ (fun _ _ _ => False) e s' → False) :
    codeAny (model P w) callerA (.call (.ref fa) ⟨[.ref a], []⟩) (fun r s' => r = .ok (.ret (.bool true)) ∧ OldK s₁.heap s'.heap ∧ s'.os = s₁.os ∧ AllBare s'.gens) s₁ := by
  have rv := vals_ints hi
  have lenV := hi.length
  -- from an abstract heap in which nothing but the script may be tracked
  have core : ∀ H : Hp, Only H → SqL K H a (ns.map V.int) → HOk P w H s₁.heap → (∀ b, H b ≠ none → b = a) → (H a ≠ none → K.lookup a = none) →
      codeAny (model P w) callerA (.call (.ref fa) ⟨[.ref a], []⟩) (fun r s' => r = .ok (.ret (.bool true)) ∧ OldK s₁.heap s'.heap ∧ s'.os = s₁.os ∧ AllBare s'.gens) s₁ := by
    intro H hO hS hok hA hK
    have base_of : ∀ {b : Addr} {o : Obj}, s₁.heap.get? b = some o → H b = none → (hidT s₁.heap H).get? b = some o := fun e n => hidT_get e n
    have noA : ∀ {b : Addr} {o : Obj} {es : Array DictEntry} {ep : Nat}, s₁.heap.get? b = some o → o.data = .dict es ep → H b = none := fun {b o es ep} e d => by
      cases q : H b with
      | none => rfl
      | some u =>
        have e' : b = a := hA b (by rw [q]; simp)
        subst e'
        rw [ha] at e; cases e
        have d' : Data.seq vs.toArray _ = Data.dict es ep := d
        cases d'
    have nsK : ∀ {b : Addr} {m : Str → Option Value}, s₁.heap.Ns b m → (hidT s₁.heap H).Ns b m := fun {b m} ⟨o, es, ep, e, d, r⟩ => ⟨o, es, ep, base_of e (noA e d), d, r⟩
    have hKb : K.In (hidT s₁.heap H) := fun b o e => base_of (KX b o e) (by
      cases q : H b with
      | none => rfl
      | some u =>
        have e' : b = a := hA b (by rw [q]; simp)
        subst e'
        rw [hK (by rw [q]; simp)] at e; cases e)
    have hM : Mod K mg (hidT s₁.heap H) := ⟨hKb, nsK hns, ⟨mb, nsK hb, hbb⟩, let ⟨mc, h1, h2⟩ := hlim; ⟨mc, nsK h1, h2⟩⟩
    have e0 : Env0 P w K mg (hidT s₁.heap H) callerA [] s₁ H := ⟨rfl, hM, fun b o e => of_hidT e, Nat.le_of_eq (hidT_size _ _), trivial, fun b hb => absurd (show b ∈ ([] : List Addr) from hb) (by simp), hok, .of_eq hg⟩
    refine codeAny_mono ((F _ hKb (nsK hns)).run callerA [] s₁ H ⟨[.ref a], []⟩ [.ref a] [.ref a] _ _ hr e0 (hbind s₁ (.ref a)) (.cons rfl .nil) (hsp H hO hS)) fun r s' h => ?_
    cases r with
    | error e => exact (hCX H e s' h).elim
    | ok fl =>
      cases fl with
      | next => exact False.elim h
      | brk => exact False.elim h
      | cont => exact False.elim h
      | ret u =>
        obtain ⟨v, H', os, bare, un, hok', r', q⟩ := h
        have q' : v = .bl true := q
        subst q'
        obtain rfl : u = Value.bool true := r'
        refine ⟨rfl, OldK.of_keep fun b o e => ?_, os, bare⟩
        cases q : H b with
        | none => exact un.keep b o e q (by intro z; exact absurd (show b ∈ ([] : List Addr) from z) (by simp)) (by simp)
        | some u =>
          rcases hO b with z | ⟨ob, xs, z⟩
          · rw [q] at z; cases z
          · have z2 := un.frzs b ob _ z
            obtain ⟨e1, _⟩ := hok b _ z
            obtain ⟨e2, _⟩ := hok' b _ z2
            rw [e] at e1; cases e1
            exact e2
  cases hk : K.lookup a with
  | some o =>
    -- the script is one of the module's own objects
    have e := KX a o hk
    rw [ha] at e
    cases e
    refine core (fun _ => none) (fun _ => .inl rfl) (.inr ⟨_, vs.toArray, _, hk, rfl, rfl, rfl, by rw [List.size_toArray, lenV]; exact hl, by simpa using rv⟩) (fun b u z => by have z' : (none : Option HO) = some u := z; cases z') (fun b z => absurd rfl z) fun z => absurd rfl z
  | none =>
    refine core (fun b => if b = a then some (.frz { cls := .type "list", data := .seq vs.toArray } (.lst (ns.map V.int))) else none) (fun b => ?_) (.inl (.inr ⟨{ cls := .type "list", data := .seq vs.toArray }, if_pos rfl⟩)) (fun b u z => ?_) (fun b z => ?_) fun _ => hk
    · by_cases hb : b = a
      · exact .inr ⟨_, _, if_pos hb⟩
      · exact .inl (if_neg hb)
    · by_cases hb : b = a
      · have z' := (if_pos hb).symm.trans z
        cases z'
        subst hb
        exact ⟨ha, by rw [List.length_map]; exact hl, vs, _, rv, ha⟩
      · have z' := (if_neg hb).symm.trans z
        cases z'
    · by_cases hb : b = a
      · exact hb
      · exact absurd (if_neg hb) z
end L2
namespace L2
open PySem PySem.Spec PyProof.Rows
theorem walk_of {l : PySem.W.OpenLaw} {n k : Nat} {q : Program} {loose : List Str} {XP : (Str → Option Value) → Heap → Prop} {YP : World → Heap → Prop} {d : DefRec} {K : Params → PySem.W.Frag} {CX : World → CXT} {sp : World → Sp} {x : Str}
    (hn : l.most = some n) (hn2 : n ≤ sizeLine) (hdf : d.params.defaults = []) (hr : Room k callerA)
    (hY : ∀ (w : World) (h : Heap), YP w h → (K w.params).In h)
    (F : ∀ (w : World) (mg : Str → Option Value) (fa : Addr) (h : Heap), (K w.params).In h → h.Ns mainGlobals mg → mg d.name = some (.ref fa) →
      ∃ fd : FuncData, (∀ (s : Shared) (u : Value), BindsTo s fd ⟨[u], []⟩ [(x, u)]) ∧
        ∀ base : Heap, (K w.params).In base → base.Ns mainGlobals mg → FnOk l.prog w (K w.params) mg base (CX w) k fa fd [x] (sp w))
    (hsp : ∀ (w : World) (H : Hp) (a : Addr) (ns : List Int), ns.length ≤ n → Only H → SqL (K w.params) H a (ns.map V.int) → sp w [.ref a] H (fun v _ => v = .bl true) fun _ _ _ => False)
    (hCX : ∀ (w : World) (H : Hp) (s : Shared) (e : Value) (s' : Shared), CX w [] H s (fun _ _ _ => False) e s' → False) :
    PySem.W.WalkO q loose XP YP l.row.toRowW d [] (fun f vs => PySem.call f vs) := by
  refine Att.attach_call hn hdf fun w s₀ s₁ mg mb fa o pm cd doc a vs ns G Y ho hd hcd hmg hobj hints hlen hg => ?_
  have KX := hY w _ Y
  obtain ⟨fd, hb, hF⟩ := F w mg fa _ KX G.T.g hmg
  exact law_call KX G.T.g G.T.b G.T.builtins G.T.nolimit hg hobj hints (Nat.le_trans hlen hn2) hr hF hb (fun H hO hS => hsp w H a ns hlen hO hS) fun H e s' => hCX w H s₁ e s'
end L2
namespace L2
open PySem PySem.Spec PyProof.Rows
def defArgs (s : Stmt) : Arguments := match s with
  | .FunctionDef _ a _ _ _ _ _ _ _ _ => a
  | _ => { posonlyargs := [], args := [], vararg := none, kwonlyargs := [], kw_defaults := [], kwarg := none, defaults := [] }
def defBody (s : Stmt) : List Stmt := match s with
  | .FunctionDef _ _ b _ _ _ _ _ _ _ => b
  | _ => []
def defScope (s : Stmt) : Scope := match s with
  | .FunctionDef _ _ _ _ _ _ sc _ _ _ => sc
  | _ => { kind := .function, names := [], isGenerator := false, isCoroutine := false }
abbrev CX0 : CXT := fun _ _ _ _ _ _ => False
abbrev E0 : XK := fun _ _ _ => False
theorem pass0 {X : Cx} : Passes CX0 X E0 := fun _ _ _ _ _ _ _ h => h.elim
structure Fun (K : PySem.W.Frag) (x qual : Str) (st : Stmt) (f : Addr) (fd : FuncData) : Prop where
  ex : ∃ (oc : Value) (od : Option Addr) (kV doc pm : Value) (an : Option Addr) (cdv ct : Value) (osl : Array (Option Value)),
    fd = PySem.W.fnOf x qual (defArgs st) (defBody st) (defScope st) .none kV doc pm an cdv ct ∧ K.lookup f = some ⟨oc, od, .func fd, osl⟩ ∧ PySem.W.codeIn K cdv qual = true
  kp : PySem.W.keepIn K (.ref f) = true
section
variable {P : Program} {w : World} {K : PySem.W.Frag} {mg : Str → Option Value} {base : Heap}
theorem Fun.ok {x qual : Str} {st : Stmt} {f : Addr} {fd : FuncData} {N ps : List Str} {k : Nat} {sp : Sp} (F : Fun K x qual st f fd) (S : FnScope N ps (defScope st)) (len : ∀ vs H Q E, sp vs H Q E → vs.length = ps.length)
    (hbody : ∀ (cdv : Value) (A : Around) (outer : List Env) (s : Shared) (H : Hp) (vs : List V) (Q : VK) (E : XK), Room k (A.deeper (envOfC qual (defScope st) s.heap.objs.size f cdv)) → sp vs H Q E →
      ∃ t, PSs (cxOf CX0 P w K mg base N qual (defScope st) f cdv A outer s H E).nox (defBody st) t ∧ t { nx := fun _ H' => Q .non H', rt := Q } (start N vs) H) : FnOk P w K mg base CX0 (k + 1) f fd ps sp := by
  obtain ⟨oc, od, kV, doc, pm, an, cdv, ct, osl, rfl, lk, hcd⟩ := F.ex
  refine fn_of lk hcd S len fun A outer s H vs Q E hr hsp => ?_
  obtain ⟨t, h, q⟩ := hbody cdv A outer s H vs Q E hr hsp
  exact ⟨t, h.nox, q⟩
theorem Fun.binds {x qual : Str} {st : Stmt} {f : Addr} {fd : FuncData} {ps : List Str} (F : Fun K x qual st f fd)
    (h : ∀ (kV doc pm : Value) (an : Option Addr) (cdv ct : Value) (us : List Value), us.length = ps.length → bindArgs (PySem.W.fnOf x qual (defArgs st) (defBody st) (defScope st) .none kV doc pm an cdv ct) ⟨us, []⟩ = pure (ps.zip us)) : Binds K fd ps [] := by
  obtain ⟨oc, od, kV, doc, pm, an, cdv, ct, osl, rfl, lk, hcd⟩ := F.ex
  exact .all (h kV doc pm an cdv ct)
theorem fun_mk {x qual : Str} {st : Stmt} {f : Addr} {oc : Value} {od an : Option Addr} {osl : Array (Option Value)} {kV doc pm cdv ct : Value} (l : K.lookup f = some ⟨oc, od, .func (PySem.W.fnOf x qual (defArgs st) (defBody st) (defScope st) .none kV doc pm an cdv ct), osl⟩)
    (c : PySem.W.codeIn K cdv qual = true) (k : PySem.W.keepIn K (.ref f) = true) : Fun K x qual st f (PySem.W.fnOf x qual (defArgs st) (defBody st) (defScope st) .none kV doc pm an cdv ct) := ⟨⟨oc, od, kV, doc, pm, an, cdv, ct, osl, rfl, l, c⟩, k⟩
end
theorem hu_of {A : Around} {k : Nat} (hr : Room k A) : A.units + 1 < cLine := Nat.lt_of_le_of_lt (Nat.add_le_add_left (by decide : 1 ≤ 64) _) hr.units
section
variable {X : Cx}
theorem pv (i : Nat) {x : Str} {pos : Pos} (hN : X.N[i]? = some x := by rfl) (hv : Vis X.env.scope x := by first | exact Or.inl rfl | exact Or.inr (Or.inl rfl) | exact Or.inr (Or.inr rfl)) (hd : (x == ("__debug__" : Str)) = false := by decide)
    (hcd : (x == ("__classdict__" : Str)) = false := by decide) : PE X (.Name x pos) (tVar i) := pe_var hN hv hd hcd
end
theorem iteF {A B : Prop} (h : B) : if false = true then A else B := by
  rw [if_neg Bool.false_ne_true]
  exact h
theorem iteT {A B : Prop} (h : A) : if true = true then A else B := by
  rw [if_pos rfl]
  exact h
theorem ite2 {c A B : Prop} [Decidable c] (h1 : c → A) (h2 : ¬ c → B) : if c then A else B := by
  by_cases h : c
  · rw [if_pos h]
    exact h1 h
  · rw [if_neg h]
    exact h2 h
theorem iteNS {c A B : Prop} [Decidable c] (hc : c) (h : B) : if (!decide c) = true then A else B := by
  rw [decide_eq_true hc]
  exact iteF h
def Same (H H' : Hp) : Prop := ∀ b o, H b = some o → H' b = some o
theorem Same.refl (H : Hp) : Same H H := fun _ _ h => h
theorem Same.trans {H H1 H2 : Hp} (a : Same H H1) (b : Same H1 H2) : Same H H2 := fun c o h => b c o (a c o h)
theorem Same.free {H H' : Hp} (e : Same H H') {l : Addr} (h : H' l = Option.none) : H l = Option.none := by
  cases q : H l with
  | none => rfl
  | some o =>
    rw [e l o q] at h
    cases h
theorem Same.seq {K : PySem.W.Frag} {H H' : Hp} {a : Addr} {xs : List V} (e : Same H H') (h : SqL K H a xs) : SqL K H' a xs := by
  rcases h with (h | ⟨o, h⟩) | h
  · exact .inl (.inl (e _ _ h))
  · exact .inl (.inr ⟨o, e _ _ h⟩)
  · exact .inr h
end L2
set_option Elab.async false
set_option linter.all false
set_option maxRecDepth 100000
set_option maxHeartbeats 4000000
namespace L2
open PySem PySem.Spec PyProof.Rows
section
variable {prog : Program} {w : World} {A : Around} {R : Result → Shared → Prop} {s : Shared}
theorem compLoop_go {elt target iter : Expr} {scope : Scope} {pos : Pos} {it acc : Value} {env : Env} (I : Nat → Shared → Prop)
    (turn : ∀ n s, I n s → wpAny (model prog w) A (pyNext it) (fun r s₁ => match r with
      | none => R (.ok .next) s₁
      | some v => wpAny (model prog w) A (letOwnedTupleGo target it v) (fun _ s₀ => wpAny (model prog w) A (assign target env v) (fun _ s₂ => wpAny (model prog w) A (eval elt env) (fun x s₃ =>
          wpAny (model prog w) A (call (.builtin "list.append") [acc, x]) (fun _ s₄ => ∃ m, m < n ∧ I m s₄) (fun _ _ => False) s₃) (fun _ _ => False) s₂) (fun _ _ => False) s₀) (fun _ _ => False) s₁) (fun _ _ => False) s)
    (n : Nat) (h : I n s) : codeAny (model prog w) A (.compLoop (.ListComp elt [⟨target, iter, [], 0⟩] scope pos) 0 it acc env) R s := by
  refine codeAny_loop rfl I (fun n s hI => ?_) n h
  show wpAny _ _ ((compTurn (.ListComp elt [⟨target, iter, [], 0⟩] scope pos) 0 it acc env).onRaise (fun x => do noteFrame x env; theTreesLotGoes x)) _ _ s
  refine wpAny_noted ?_
  rw [compTurn_list1]
  refine wpAny_bind (wpAny_standAt (wpAny_bind (wpAny_mono (turn n s hI) (fun r s₁ h₁ => ?_) fun _ _ h' => h'.elim)))
  cases r with
  | none => exact wpAny_pure h₁
  | some v =>
    refine wpAny_bind (wpAny_mono h₁ (fun _ s₀ h₀ => ?_) fun _ _ h' => h'.elim)
    exact wpAny_bind (wpAny_mono h₀ (fun _ s₂ h₂ => wpAny_bind (wpAny_bind (wpAny_mono h₂ (fun x s₃ h₃ => wpAny_bind (wpAny_mono h₃
      (fun _ s₄ h₄ => wpAny_pure (wpAny_pure ⟨rfl, h₄⟩)) fun _ _ h' => h'.elim)) fun _ _ h' => h'.elim))) fun _ _ h' => h'.elim)
end
def cxComp (X : Cx) (Nc : List Str) (scope : Scope) (cl : List (Str × Addr)) (C : Addr) (s : Shared) (H : Hp) (ex : List Addr) : Cx where
  prog := X.prog
  w := X.w
  K := X.K
  mg := X.mg
  base := X.base
  A := X.A
  N := Nc
  s₀ := s
  H₀ := H
  env := compEnvC scope cl C X.env
  outer := X.stack
  stack := X.stack
  ex := ex
  fn := fun _ => false
  calm := X.calm
  pn := []
  xe := fun _ _ => False
def CompGo (te : TE) (fv : St) (Q : VK) (J : It) (H1 : Hp) : Prop := ∃ W : Nat → Nat → List V → Hp → Prop, (∃ m, W 0 m [] H1) ∧ ∀ i m ys H2, W i m ys H2 →
  (J.stop i H2 ∧ ys.length ≤ sizeLine ∧ ∀ D, H2 D = none → Q (.ref D) (upd H2 D (.lst ys))) ∨
  (J.go i H2 ∧ ys.length < sizeLine ∧ ∀ x H3, J.yld i H2 x H3 → te (some x :: fv) H3 fun y H4 => ∃ m', m' < m ∧ W (i + 1) m' (ys ++ [y]) H4)
def tComp (wi : TI) (fv : St → St) (te : TE) : TE := fun σ H Q => wi σ H (CompGo te (fv σ) Q)
structure CompScope (X : Cx) (x : Str) (fns : List Str) (ixs : List Nat) (scope : Scope) (cl : List (Str × Addr)) : Prop where
  clos : closureFor scope X.env = pure cl
  sub : ∀ y c, cl.lookup y = some c → X.env.cells.lookup y = some c
  cell : ∀ y ∈ scope.names, y.2 ≠ .cell
  kind : scope.kind = .function
  names : ∀ y ∈ scope.names, y.2 = .local → scope.names.lookup y.1 = some .local
  own : scope.names.lookup x = some .local
  has : ∀ y, ((relabel scope X.env).names.lookup y = some .cell ∨ (relabel scope X.env).names.lookup y = some .free) → ∃ c, cl.lookup y = some c
  nd : (x :: fns).Nodup
  len : ixs.length = fns.length
  at_ : ∀ (j : Nat) (y : Str), fns[j]? = some y → ∃ i : Nat, ixs[j]? = some i ∧ X.N[i]? = some y ∧ (X.env.kindOf y = some .cell ∨ X.env.kindOf y = some .free) ∧ ∃ c, cl.lookup y = some c ∧ ((relabel scope X.env).names.lookup y = some .cell ∨ (relabel scope X.env).names.lookup y = some .free)
def fvOf (ixs : List Nat) : St → St := fun σ => ixs.map fun i => (σ[i]?).join
section
variable {X : Cx} {elt iter : Expr} {x : Str} {px pos : Pos} {scope : Scope} {cl : List (Str × Addr)} {fns : List Str} {ixs : List Nat} {wi : TI} {te : TE}
theorem relabel_own (hx : scope.names.lookup x = some .local) : (relabel scope X.env).names.lookup x = some .local := lookup_relabel_local hx
theorem pe_comp (hc : X.calm = true) (hi : PI X (.Name x px) iter wi) (S : CompScope X x fns ixs scope cl)
    (he : ∀ (C : Addr) (s : Shared) (H : Hp) (ex : List Addr), PE (cxComp X (x :: fns) scope cl C s H ex) elt te)
    (hs : ∀ x, foldedSetIterable iter X.env x = pure x := by intro _; rfl) :
    PE X (.ListComp elt [⟨.Name x px, iter, [], 0⟩] scope pos) (tComp wi (fvOf ixs) te) := by
  intro pins s σ H Q I h
  rw [eval_ListComp]
  refine wpAny_comprehension_free (use := none) rfl hs S.clos S.kind S.names (thn (hi pins s σ H _ I h) fun v s1 h1 => thn h1 fun itv s2 h2 => ?_)
  obtain ⟨it, fp, tn, J, H2, e, I2, T, st2, f2, W, ⟨m0, w0⟩, turn⟩ := h2
  subst e
  have hfpLt : ∀ b ∈ fp, b < s2.heap.objs.size := fun b hb => by
    obtain ⟨o, ho, _⟩ := T.obj _ _ st2 b hb
    exact Heap.lt_size ho
  refine wpAny_newObj_type (wpAny_newFunctionEnv S.cell (by intro y hy; simp at hy) (fun h₁ hns₁ hsb₁ => ?_) S.kind)
  dsimp only at hns₁ hsb₁ ⊢
  generalize hH3 : s2.heap.push { cls := .type "list", dict := none, data := .seq ([] : List Value).toArray } = hp3 at hns₁ hsb₁ ⊢
  generalize hD : s2.heap.objs.size = D at hfpLt ⊢
  have hC : hp3.objs.size = D + 1 := by rw [← hH3, Heap.size_push, hD]
  generalize hCe : hp3.objs.size = C at hC hns₁ hsb₁ ⊢
  have hDltC : D < C := by omega
  have hDC : D ≠ C := Nat.ne_of_lt hDltC
  have k23 : ∀ b u, s2.heap.get? b = some u → hp3.get? b = some u := fun b u q => by rw [← hH3]; exact Heap.get?_push_of_some _ q
  have ltD : ∀ {b u}, s2.heap.get? b = some u → b < D := fun q => by rw [← hD]; exact Heap.lt_size q
  have k34 : ∀ b u, hp3.get? b = some u → h₁.get? b = some u := fun b u q =>
    hsb₁.extBut b u (Nat.ne_of_lt (Nat.lt_of_lt_of_le (Heap.lt_size q) (Nat.le_of_eq hCe))) (Heap.get?_push_of_some _ q)
  have hDo : hp3.get? D = some { cls := .type "list", dict := none, data := .seq ([] : List Value).toArray } := by rw [← hH3, ← hD]; exact Heap.get?_push_size _ rfl
  have I3 : Inv X pins σ H2 { s2 with heap := hp3 } := I2.kept (t' := s2.toks) k23
  have hnD : H2 D = none := I2.hok.fresh (by omega)
  have hnC : H2 C = none := I2.hok.fresh (by omega)
  have nstk : ∀ b ∈ D :: fp, b ∉ frs X.stack := fun b hb z => by
    rcases List.mem_cons.mp (I2.stkSub b z) with e | z
    · rcases List.mem_cons.mp hb with e2 | hb
      · exact absurd I2.lt (by rw [← e, e2, ← hD]; exact Nat.lt_irrefl _)
      · exact (f2 b hb).2.1 e
    · rcases List.mem_cons.mp hb with e2 | hb
      · exact I2.nofs (by rw [e2, ← hD]; exact Nat.le_refl _) z
      · exact (f2 b hb).2.2.1 z
  have cne : ∀ y c, cl.lookup y = some c → ∀ b ∈ D :: fp, c ≠ b := fun y c q b hb z => by
    obtain ⟨v, hv⟩ := I2.cell y c (S.sub y c q)
    rcases List.mem_cons.mp hb with e2 | hb
    · exact absurd hv.lt (by rw [z, e2, ← hD]; exact Nat.lt_irrefl _)
    · exact (f2 b hb).2.2.2.2.1 y c (S.sub y c q) z
  -- the block's context
  let Xc : Cx := cxComp X (x :: fns) scope cl C { s2 with heap := hp3 } H2 (D :: fp)
  have ok : Xc.Ok := {
    mod := I2.ok.mod
    kind := S.kind
    glob := I2.ok.glob
    blt := I2.ok.blt
    above := by show hp3.objs.size ≤ C; omega
    inj := fun y z c q1 q2 => I2.ok.inj y z c (S.sub _ _ q1) (S.sub _ _ q2)
    has := S.has
    cab := fun y c q => nomatch q
    hd := I2.ok.hd
    frames := I2.ok.frames
    stk := .inl rfl
    exf := fun b hb => ⟨by
      rcases List.mem_cons.mp hb with e2 | hb
      · rw [e2]; exact hDC
      · exact Nat.ne_of_lt (Nat.lt_trans (hfpLt b hb) hDltC), fun y c q => cne y c q b hb⟩
    bs := I3.bs
    bsz := Nat.le_trans I3.ok.bsz I3.sz
    noex := fun b o q hb => by
      rcases List.mem_cons.mp hb with e2 | hb
      · exact absurd (ltD (I2.bs b o q).1) (by rw [e2]; exact Nat.lt_irrefl _)
      · rcases (f2 b hb).2.2.2.1 with z | z
        · exact I2.ok.noex b o q z
        · exact absurd (Heap.lt_size (I2.ok.bs b o q).1) (Nat.not_lt.mpr z)
    exfs := nstk
    funs := I3.stack
    frf := I3.stkFree }
  have start : ∀ (v0 : Option V) , v0 = none → Inv Xc [(D, { cls := .type "list", dict := none, data := .seq ([] : List Value).toArray })] (v0 :: fvOf ixs σ) H2 { s2 with heap := h₁, toks := s2.toks + ([] : List (Str × Value)).length } := fun v0 hv0 => {
    ok := ok
    os := rfl
    bare := I2.bare
    base := Un.kept k34
    loc := ⟨_, hns₁, fun i y v e1 e2 e3 => by
      cases i with
      | zero => rw [hv0] at e2; cases e2
      | succ j =>
        have e1' : fns[j]? = some y := e1
        have e2' : (fvOf ixs σ)[j]? = some (some v) := e2
        obtain ⟨i, hi1, hi2, hk, c, hc1, hc2⟩ := S.at_ j y e1'
        unfold fvOf at e2'
        rw [List.getElem?_map, hi1] at e2'
        have e3' : σ[i]? = some (some v) := by
          have z : (σ[i]?).join = some v := Option.some.inj e2'
          cases q : σ[i]? with
          | none => rw [q] at z; cases z
          | some o => rw [q] at z; rw [show o = some v from z]
        obtain ⟨m, _, hl⟩ := I2.loc
        obtain ⟨u, r, l⟩ := hl i y v hi2 e3' (hk.elim (fun z => .inr (.inl z)) fun z => .inr (.inr z))
        refine ⟨u, r, .inr ⟨hc2, c, hc1, ?_⟩⟩
        rcases l with ⟨z, _⟩ | ⟨_, c', hc', hcell⟩
        · rcases hk with hk | hk <;> (rw [hk] at z; cases z)
        · have : c' = c := Option.some.inj (hc'.symm.trans (S.sub _ _ hc1))
          subst this
          obtain ⟨o, ho, hd⟩ := hcell
          exact ⟨o, k34 _ _ (k23 _ _ ho), hd⟩⟩
    cell := fun y c q => by
      obtain ⟨v, o, ho, hd⟩ := I2.cell y c (S.sub y c q)
      exact ⟨v, o, k34 _ _ (k23 _ _ ho), hd⟩
    free := hnC
    freeC := fun y c q => I2.freeC y c (S.sub y c q)
    pin := fun p hp => by
      have hp' : p = (D, { cls := .type "list", dict := none, data := .seq ([] : List Value).toArray }) := by simpa [Xc, cxComp] using hp
      subst hp'
      exact ⟨k34 _ _ hDo, hnD, hDC, nstk D (List.mem_cons_self ..), fun v z => nomatch z⟩
    hok := (I2.hok.kept k23).kept k34
    len := by show (v0 :: fvOf ixs σ).length = (x :: fns).length; simp [fvOf, S.len] }
  -- what stays true of the iterator's objects
  have fpc : ∀ {H' : Hp} {pins' : List (Addr × Obj)}, (∀ b ∈ fp, H' b = none) → (∀ p ∈ pins', p.1 = D) → ∀ b ∈ fp, FpOk Xc pins' H' b := fun {H' pins'} hn hp b hb =>
    ⟨hn b hb, Nat.ne_of_lt (Nat.lt_trans (hfpLt b hb) hDltC), nstk b (List.mem_cons_of_mem _ hb), .inl (List.mem_cons_of_mem _ hb), fun y c q => cne y c q b (List.mem_cons_of_mem _ hb), fun p q => by
      have q' : p ∈ pins' := by simpa [Xc, cxComp] using q
      rw [hp p q']
      exact Nat.ne_of_gt (hfpLt b hb)⟩
  have loop : codeAny (model X.prog X.w) X.A (.compLoop (.ListComp elt [⟨.Name x px, iter, [], 0⟩] scope pos) 0 (.ref it) (.ref D) (compEnvC scope cl C X.env))
      (compPost (model X.prog X.w) X.A X.xe none (EP X pins σ Q) (.ref D) C) { s2 with heap := h₁, toks := s2.toks + ([] : List (Str × Value)).length } := by
    refine compLoop_go (fun n s' => ∃ (i : Nat) (ys : List V) (its : List Value) (nn : Nat) (v0 : Option V) (H' : Hp), Inv Xc [(D, { cls := .type "list", dict := none, data := .seq its.toArray nn })] (v0 :: fvOf ixs σ) H' s' ∧ tn i s'.heap ∧ (∀ b ∈ fp, H' b = none) ∧ Vals ys its ∧ W i n ys H') ?_ m0
      ⟨0, [], [], 0, none, H2, start none rfl, T.keep _ _ _ st2 fun b _ o q => k34 _ _ (k23 _ _ q), fun b hb => (f2 b hb).1, .nil, w0⟩
    rintro n s3 ⟨i, ys, its, nn, v0, H3, J3, tn3, fr3, vv, w3⟩
    have pinD : ∀ p ∈ ([(D, ({ cls := .type "list", dict := none, data := .seq its.toArray nn } : Obj))] : List (Addr × Obj)), p.1 = D := fun p hp => by
      have : p = (D, { cls := .type "list", dict := none, data := .seq its.toArray nn }) := by simpa using hp
      rw [this]
    rcases turn i n ys H3 w3 with ⟨stop, hlen, q⟩ | ⟨go, hlen, step⟩
    · -- the end
      refine thn (T.done Xc rfl rfl rfl hc i _ s3 _ H3 _ J3 (fpc fr3 pinD) tn3 stop) fun r s4 ⟨hr, J4⟩ => ?_
      subst hr
      obtain ⟨m, hn, _⟩ := J4.loc
      refine ⟨m, hn, fun h'' hsb => ?_⟩
      obtain ⟨gD, nD, _, _, _⟩ := J4.pin (D, { cls := .type "list", dict := none, data := .seq its.toArray nn }) (by simp [Xc, cxComp])
      have B := J4.base
      have kC : ∀ b u, b ≠ C → s4.heap.get? b = some u → h''.get? b = some u := fun b u hb q => (hsb.2 b hb).trans q
      have ne : ∀ {b o}, s2.heap.get? b = some o → b ≠ C ∧ b ≠ D := fun q => ⟨Nat.ne_of_lt (Nat.lt_trans (ltD q) hDltC), Nat.ne_of_lt (ltD q)⟩
      have nex : ∀ {b o}, s2.heap.get? b = some o → b ∉ fp → b ∉ D :: fp := fun q hx z => (List.mem_cons.mp z).elim (ne q).2 hx
      have uu : Un (frs X.stack) fp H2 (upd H3 D (.lst ys)) s2.heap h'' := {
        keep := fun b o q n hb hx => kC b o (ne q).1 (B.keep b o (k23 b o q) n hb (nex q hx))
        slot := fun b o q n hb hx => by
          obtain ⟨sl, e⟩ := B.slot b o (k23 b o q) n hb (nex q hx)
          exact ⟨sl, kC b _ (ne q).1 e⟩
        free := fun b o q n hx => by rw [upd_ne (ne q).2]; exact B.free b o (k23 b o q) n (nex q hx)
        there := fun b o q hx => by
          obtain ⟨o', e⟩ := B.there b o (k23 b o q) (nex q hx)
          exact ⟨o', kC b _ (ne q).1 e⟩
        tups := fun b xs q => by rw [upd_ne (ne_of_none q hnD)]; exact B.tups b xs q
        frzs := fun b o xs q => by rw [upd_ne (ne_of_none q hnD)]; exact B.frzs b o xs q
        tbls := fun b ps q => by
          obtain ⟨more, e⟩ := B.tbls b ps q
          exact ⟨more, by rw [upd_ne (ne_of_none q hnD)]; exact e⟩ }
      have hok : HOk X.prog X.w (upd H3 D (.lst ys)) h'' := fun b u e => by
        by_cases hb : b = D
        · subst hb
          rw [upd_same] at e
          cases e
          exact ⟨hlen, its, nn, vv, kC _ _ hDC gD⟩
        · rw [upd_ne hb] at e
          refine (J4.hok b u e).stay (fun c v hc q => kC c v ?_ q) (fun c q => by rw [upd_ne (ne_of_none q nD)]; exact q) fun c xs q => by rw [upd_ne (ne_of_none q nD)]; exact q
          have fC : H3 C = none := J4.free
          rcases hc with rfl | hc
          · exact ne_of_none e fC
          · exact ne_of_none hc fC
      exact ⟨.ref D, _, I2.call' (s' := { s4 with heap := h'' }) J4.os uu hok J4.bare (fun b hb => ⟨(f2 b hb).2.2.2.1, (f2 b hb).2.1, (f2 b hb).2.2.2.2.1, (f2 b hb).2.2.2.2.2⟩), rfl, q D nD⟩
    · -- a turn
      refine thn (T.item Xc rfl rfl rfl hc i _ s3 _ H3 _ J3 (fpc fr3 pinD) tn3 go) fun r s4 ⟨u, hr, h4⟩ => ?_
      subst hr
      refine thn h4 fun _ s5 ⟨xv, H5, J5, r5, y5, tn5, fr5⟩ => ?_
      have J5' := J5.pinned (fpc fr5 pinD) (T.obj _ _ tn5)
      have hg : PG Xc (.Name x px) (gName 0) := pg_name (X := Xc) (i := 0) S.nd rfl (.inl (relabel_own S.own)) (.inr (relabel_own S.own))
      refine thn (hg _ s5 _ H5 xv u (fun σ' H' => σ' = some xv :: fvOf ixs σ ∧ H' = H5) J5' r5 ⟨rfl, rfl⟩) fun _ s6 ⟨σ6, H6, J6, e6, e6'⟩ => ?_
      subst e6 e6'
      refine thn (he C { s2 with heap := hp3 } H2 (D :: fp) _ s6 _ H6 _ J6 (step xv H6 y5)) fun yv s7 ⟨y, H7, J7, r7, m', hm', w7⟩ => ?_
      obtain ⟨gD, nD, _, _, _⟩ := J7.pin (D, { cls := .type "list", dict := none, data := .seq its.toArray nn }) (by simp [Xc, cxComp])
      have tn7 : tn (i + 1) s7.heap := T.keep _ _ _ tn5 fun b hb o e => (J7.pin (b, o) (List.mem_append_right _ (List.mem_append_right _ (mem_pinsAt hb e)))).1
      have fr7 : ∀ b ∈ fp, H7 b = none := fun b hb => by
        obtain ⟨o, e, d⟩ := T.obj _ _ tn5 b hb
        exact (J7.pin (b, o) (List.mem_append_right _ (List.mem_append_right _ (mem_pinsAt hb e)))).2.1
      have J7' : Inv Xc [] (some xv :: fvOf ixs σ) H7 s7 := J7.pins_of fun p hp => nomatch hp
      refine wpAny_list_append_plain (hsz := by rw [List.size_toArray, ← vv.length]; omega) ⟨nn, gD⟩ fun h8 pl8 sb8 => ?_
      obtain ⟨n8, g8⟩ := pl8
      have J8 : Inv Xc [] (some xv :: fvOf ixs σ) H7 { s7 with heap := h8 } := J7'.turned (t' := s7.toks) (it := D) (fun b o hb e => (sb8.2 b hb).trans e) nD (hDC) (.inl (List.mem_cons_self ..))
        (fun y c q => cne y c q D (List.mem_cons_self ..)) (fun p hp => by simp [Xc, cxComp] at hp)
      refine ⟨m', hm', i + 1, ys ++ [y], its ++ [yv], n8, some xv, H7, J8.pins_of fun p hp => ?_, ?_, fr7, vv.append (.cons r7 .nil), w7⟩
      · have : p = (D, { cls := .type "list", dict := none, data := .seq (its ++ [yv]).toArray n8 }) := by simpa using hp
        subst this
        refine ⟨?_, nD, hDC, nstk D (List.mem_cons_self ..), fun v z => nomatch z⟩
        have : its.toArray.push yv = (its ++ [yv]).toArray := by simp
        rw [this] at g8
        exact g8
      · exact T.keep _ _ _ tn7 fun b hb o e => (sb8.2 b (Nat.ne_of_lt (hfpLt b hb))).trans e
  exact codeAny_compStart_list loop (T.self _ 0 _ _ _ (T.keep _ _ _ st2 fun b _ o q => k34 _ _ (k23 _ _ q)) loop)
end
theorem compScope0 {X : Cx} {x : Str} {scope : Scope} (hf : ∀ y ∈ scope.names, y.2 ≠ .free) (hc : ∀ y ∈ scope.names, y.2 ≠ .cell) (hk : scope.kind = .function)
    (hn : ∀ y ∈ scope.names, y.2 = .local → scope.names.lookup y.1 = some .local) (hx : scope.names.lookup x = some .local) : CompScope X x [] [] scope [] where
  clos := closureFor_none hf
  sub := fun y c h => nomatch h
  cell := hc
  kind := hk
  names := hn
  own := hx
  has := fun y h => by
    have e : (relabel scope X.env).names = scope.names := by
      unfold relabel
      refine map_eq_self fun z hz => ?_
      obtain ⟨n, k⟩ := z
      have : (k == NameKind.free) = false := by simpa using hf _ hz
      simp [this]
    rw [e] at h
    rcases h with h | h
    · exact absurd rfl (hc _ (PySem.mem_of_lookup h))
    · exact absurd rfl (hf _ (PySem.mem_of_lookup h))
  nd := by simp
  len := rfl
  at_ := fun j y h => by simp at h
theorem comp_pure {J : It} {H1 : Hp} {fv : St} {te : TE} {Q : VK} (xs : List V) (g : V → V) (hgo : ∀ i : Nat, i < xs.length → J.go i H1) (hy : ∀ (i : Nat) (x : V) (H3 : Hp), i < xs.length → J.yld i H1 x H3 → H3 = H1 ∧ xs[i]? = some x)
    (hst : J.stop xs.length H1) (hfit : xs.length ≤ sizeLine) (he : ∀ (i : Nat) (x : V), xs[i]? = some x → ∀ R : VK, R (g x) H1 → te (some x :: fv) H1 R) (hQ : ∀ D, H1 D = none → Q (.ref D) (upd H1 D (.lst (xs.map g)))) :
    CompGo te fv Q J H1 := by
  refine ⟨fun i m ys H2 => m = xs.length - i ∧ i ≤ xs.length ∧ ys = (xs.take i).map g ∧ H2 = H1, ⟨xs.length, by simp, Nat.zero_le _, by simp, rfl⟩, ?_⟩
  rintro i m ys H2 ⟨rfl, hi, rfl, rfl⟩
  by_cases hlt : i < xs.length
  · refine .inr ⟨hgo i hlt, by rw [List.length_map, List.length_take]; omega, fun x H3 hyl => ?_⟩
    obtain ⟨e3, hx⟩ := hy i x H3 hlt hyl
    subst e3
    refine he i x hx _ ⟨xs.length - (i + 1), by omega, rfl, hlt, ?_, rfl⟩
    rw [List.take_succ, hx]
    simp
  · have e : i = xs.length := by omega
    subst e
    refine .inl ⟨hst, by rw [List.length_map, List.length_take]; omega, fun D hD => ?_⟩
    rw [List.take_length]
    exact hQ D hD
def negV : V → V
  | .int z => .int (-z)
  | v => v
theorem itt_go {K : PySem.W.Frag} {H : Hp} {a : Addr} {xs : List V} (h : SqT K H a xs) : ∀ i, i < xs.length → (Itt K a).go i H := fun i hi => ⟨xs, xs[i], h, List.getElem?_eq_getElem hi⟩
theorem itt_yld {K : PySem.W.Frag} {H : Hp} {a : Addr} {xs : List V} (h : SqT K H a xs) : ∀ i x H3, i < xs.length → (Itt K a).yld i H x H3 → H3 = H ∧ xs[i]? = some x := fun i x H3 _ y => ⟨y.1, y.2 xs h⟩
theorem itt_stop {K : PySem.W.Frag} {H : Hp} {a : Addr} {xs : List V} (h : SqT K H a xs) : (Itt K a).stop xs.length H := ⟨xs, h, Nat.le_refl _⟩
theorem itl_go {K : PySem.W.Frag} {H : Hp} {a : Addr} {xs : List V} (h : SqL K H a xs) : ∀ i, i < xs.length → (Itl K a).go i H := fun i hi => ⟨xs, xs[i], h, List.getElem?_eq_getElem hi⟩
theorem itl_yld {K : PySem.W.Frag} {H : Hp} {a : Addr} {xs : List V} (h : SqL K H a xs) : ∀ i x H3, i < xs.length → (Itl K a).yld i H x H3 → H3 = H ∧ xs[i]? = some x := fun i x H3 _ y => ⟨y.1, y.2 xs h⟩
theorem itl_stop {K : PySem.W.Frag} {H : Hp} {a : Addr} {xs : List V} (h : SqL K H a xs) : (Itl K a).stop xs.length H := ⟨xs, h, Nat.le_refl _⟩
def tCut (t : TS) : TS := fun D σ H => ∃ G : St → Hp → Prop, t { D with nx := G } σ H ∧ ∀ σ' H', G σ' H' → D.nx σ' H'
theorem ps_cut {X : Cx} {st : Stmt} {t : TS} (h : PS X st t) : PS X st (tCut t) := by
  intro pins s σ H D I ⟨G, h1, h2⟩
  refine thn (h pins s σ H { D with nx := G } I h1) fun f s' q => ?_
  cases f with
  | next => obtain ⟨σ', H', I', g⟩ := q; exact ⟨σ', H', I', h2 σ' H' g⟩
  | _ => exact q
theorem relabel_mem {scope : Scope} {env : Env} {y : Str} {k : NameKind} (h : (relabel scope env).names.lookup y = some k) (hk : k = .cell ∨ k = .free) (hc : ∀ z ∈ scope.names, z.2 ≠ .cell) : (y, NameKind.free) ∈ scope.names := by
  have hm := PySem.mem_of_lookup h
  unfold relabel at hm
  obtain ⟨⟨n, k'⟩, hz, e⟩ := List.mem_map.mp hm
  dsimp only at e
  by_cases hf : (k' == NameKind.free && env.scope.kind == .function && env.kindOf n == some .cell) = true
  · rw [if_pos hf] at e
    have e1 : n = y := congrArg Prod.fst e
    rw [Bool.and_eq_true, Bool.and_eq_true] at hf
    have e2 : k' = .free := eq_of_beq hf.1.1
    rw [← e1, ← e2]
    exact hz
  · rw [if_neg hf] at e
    have e1 : n = y := congrArg Prod.fst e
    have e2 : k' = k := congrArg Prod.snd e
    subst e1 e2
    rcases hk with rfl | rfl
    · exact absurd rfl (hc _ hz)
    · exact hz
theorem lookup_relabel_free {env : Env} (hf : env.scope.kind = .function) {y : Str} (hy : env.kindOf y = some .cell) : ∀ {names : List (Str × NameKind)}, names.lookup y = some .free →
    (names.map fun (n, k) => if (k == NameKind.free && env.scope.kind == .function && env.kindOf n == some .cell) then (n, NameKind.cell) else (n, k)).lookup y = some .cell
  | [], h => by simp at h
  | (n, k) :: r, h => by
    have ih := @lookup_relabel_free env hf y hy r
    show List.lookup y ((if (k == NameKind.free && env.scope.kind == .function && env.kindOf n == some .cell) = true then (n, NameKind.cell) else (n, k)) :: _) = _
    cases hx : y == n with
    | true =>
      simp only [List.lookup_cons, hx] at h
      have e : y = n := eq_of_beq hx
      subst e
      cases h
      have hc : (NameKind.free == NameKind.free && env.scope.kind == .function && env.kindOf y == some .cell) = true := by rw [hf, hy]; rfl
      rw [if_pos hc]
      simp only [List.lookup_cons, hx]
    | false =>
      simp only [List.lookup_cons, hx] at h
      by_cases hc : (k == NameKind.free && env.scope.kind == .function && env.kindOf n == some .cell) = true
      · rw [if_pos hc]; simp only [List.lookup_cons, hx]; exact ih h
      · rw [if_neg hc]; simp only [List.lookup_cons, hx]; exact ih h
theorem compScope1 {X : Cx} {x y : Str} {scope : Scope} {c : Addr} {i : Nat} (hclos : closureFor scope X.env = pure [(y, c)]) (hy : X.env.cells.lookup y = some c) (hc : ∀ z ∈ scope.names, z.2 ≠ .cell) (hk : scope.kind = .function)
    (hn : ∀ z ∈ scope.names, z.2 = .local → scope.names.lookup z.1 = some .local) (hx : scope.names.lookup x = some .local) (hfree : ∀ z ∈ scope.names, z.2 = .free → z.1 = y) (hxy : x ≠ y) (hi : X.N[i]? = some y)
    (hky : X.env.kindOf y = some .cell) (hkf : X.env.scope.kind = .function) (hys : scope.names.lookup y = some .free) : CompScope X x [y] [i] scope [(y, c)] where
  clos := hclos
  sub := fun z d h => by
    by_cases e : z = y
    · subst e
      have : c = d := by simpa [List.lookup_cons] using h
      rw [← this]
      exact hy
    · have hb : (z == y) = false := beq_eq_false_iff_ne.mpr e
      simp [List.lookup_cons, hb] at h
  cell := hc
  kind := hk
  names := hn
  own := hx
  has := fun z h => by
    have e : z = y := by
      rcases h with h | h
      · exact hfree _ (relabel_mem h (.inl rfl) hc) rfl
      · exact hfree _ (relabel_mem h (.inr rfl) hc) rfl
    subst e
    exact ⟨c, by simp [List.lookup_cons]⟩
  nd := by simp [hxy]
  len := rfl
  at_ := fun j z h => by
    cases j with
    | zero =>
      have e : y = z := by simpa using h
      subst e
      exact ⟨i, rfl, hi, .inl hky, c, by simp [List.lookup_cons], .inl (lookup_relabel_free hkf hky hys)⟩
    | succ j => simp at h
end L2
set_option Elab.async false
set_option linter.all false
set_option maxRecDepth 100000
set_option maxHeartbeats 4000000
namespace L2
open PySem PySem.Spec PyProof.Rows
namespace Rv
theorem owner_rv : Manifest.owners.lookup (String.ofList ['d', 'e', 's', 'r', 'e', 'v', 'e', 'r'].reverse) = some Manifest.sig_reversed := by kernel_rfl
theorem slot_next : Slot "reversed" "__next__" "reversed.__next__" :=
  .of (owner := "reversed") (n := "__next__") (by rw [typeLookup_type, builtinLookup_eq_fast]; kernel_rfl) (by decide +kernel) (by decide +kernel) (by decide +kernel)
    (by first | exact .inl (by decide +kernel) | exact .inr (by decide +kernel)) (by rw [isSubtype_type]; kernel_rfl)
theorem entry_next : entryFor table "reversed.__next__" = some Builtin.«reversed.__next__» := entryFor_of_tree (by kernel_rfl)
theorem args_next (a : Value) : argsOk "reversed.__next__" ⟨[a], []⟩ := by
  unfold argsOk; rw [signature?_of (id := "reversed.__next__") (n := ['_', '_', 't', 'x', 'e', 'n', '_', '_']) (o := ['d', 'e', 's', 'r', 'e', 'v', 'e', 'r']) (by kernel_rfl) owner_rv]; kernel_rfl
theorem slot_iter : Slot "reversed" "__iter__" "reversed.__iter__" :=
  .of (owner := "reversed") (n := "__iter__") (by rw [typeLookup_type, builtinLookup_eq_fast]; kernel_rfl) (by decide +kernel) (by decide +kernel) (by decide +kernel)
    (by first | exact .inl (by decide +kernel) | exact .inr (by decide +kernel)) (by rw [isSubtype_type]; kernel_rfl)
theorem args_iter (a : Value) : argsOk "reversed.__iter__" ⟨[a], []⟩ := by
  unfold argsOk; rw [signature?_of (id := "reversed.__iter__") (n := ['_', '_', 'r', 'e', 't', 'i', '_', '_']) (o := ['d', 'e', 's', 'r', 'e', 'v', 'e', 'r']) (by kernel_rfl) owner_rv]; kernel_rfl
theorem entry_iter : entryFor table "reversed.__iter__" = some Builtin.«dict_keyiterator.__iter__» :=
  entryFor_alias (id' := "dict_keyiterator.__iter__") (by kernel_rfl) (by first | rfl | decide +kernel | (unfold String.splitOn; simp +decide [String.splitOnAux])) (by decide +kernel) (by kernel_rfl)
theorem slot_init : Slot "reversed" "__init__" "object.__init__" :=
  .of (owner := "object") (n := "__init__") (by rw [typeLookup_type, builtinLookup_eq_fast]; kernel_rfl) (by decide +kernel) (by decide +kernel) (by decide +kernel)
    (by first | exact .inl (by decide +kernel) | exact .inr (by decide +kernel)) (by rw [isSubtype_type]; kernel_rfl)
theorem called : TypeCalled "reversed" "reversed.__new__" "object.__init__" :=
  ⟨by decide +kernel, by decide +kernel, ⟨_, _, PySem.F.mro_reversed⟩, PySem.F.made_reversed, by decide +kernel, by rw [isSubtype_type]; kernel_rfl, slot_init⟩
theorem lk_rev_tuple : typeLookup (.type "tuple") "__reversed__" = pure none := by rw [typeLookup_type, builtinLookup_eq_fast]; kernel_rfl
theorem sub_td : isSubtype (.type "tuple") (.type "dict") = pure false := by rw [isSubtype_type]; kernel_rfl
def IsRv (h : Heap) (it t : Addr) (i : Int) : Prop := ∃ o, h.get? it = some o ∧ o.cls = .type "reversed" ∧ o.data = .fields #[.ref t, rawInt i]
theorem IsRv.typeIs {s : Shared} {it t : Addr} {i : Int} (x : IsRv s.heap it t i) : s.TypeIs (.ref it) "reversed" := let ⟨o, ho, hc, _⟩ := x; ⟨o, ho, hc⟩
theorem IsRv.at {h h' : Heap} {it t : Addr} {i : Int} (x : IsRv h it t i) (e : ∀ o, h.get? it = some o → h'.get? it = some o) : IsRv h' it t i := let ⟨o, ho, r⟩ := x; ⟨o, e _ ho, r⟩
section
variable {prog : Program} {w : World} {A : Around} {E : Value → Shared → Prop} {s : Shared}
theorem new_rv {t : Addr} {items : Array Value} (hfit : (items.size : Int) < 2 ^ 63) : Meets (Builtin.«reversed.__new__» ⟨[.type "reversed", .ref t], []⟩) (fun _ R s => IsTup s.heap t items ∧
    ∀ tk, R (.ok (.ret (.ref s.heap.objs.size))) { s with heap := s.heap.push { cls := .type "reversed", data := .fields #[.ref t, rawInt ((items.size : Int) - 1)] }, toks := tk }) :=
  .of_wp fun prog w A R s h => by
    obtain ⟨ht, h⟩ := h
    obtain ⟨hp, g, d, tk, os⟩ := s
    have hT := ht.typeIs
    have h1 := lk_rev_tuple
    have h2 := PyProof.Rows.slot_tuple_getitem.lookup
    have h3 := sub_td
    have h4 := PySem.F.sub_reversed_self
    wp_walk using PyProof.Rows.len_tuple ht hfit
    exact ⟨_, rfl, h _⟩
theorem call_rv {t : Addr} {items : Array Value} {Q : Value → Shared → Prop} (hfit : (items.size : Int) < 2 ^ 63) (ht : IsTup s.heap t items)
    (h : ∀ tk, Q (.ref s.heap.objs.size) { s with heap := s.heap.push { cls := .type "reversed", data := .fields #[.ref t, rawInt ((items.size : Int) - 1)] }, toks := tk }) : wpAny (model prog w) A (call (.type "reversed") [.ref t]) Q E s := by
  refine callType_new called (by decide) (PySem.F.typeCall_reversed_1 _) (PySem.F.newCall_reversed_1 _) (fun obj => PySem.F.args_object_init_2 obj _) PySem.F.entry_reversed_new (new_rv hfit) ⟨ht, fun tk => ?_⟩
  exact ⟨⟨_, Heap.get?_push_size _ rfl, rfl⟩, h tk⟩
theorem next_item {it t : Addr} {i : Nat} {items : Array Value} {x : Value} {Q : Option Value → Shared → Prop} (hit : IsRv s.heap it t (i : Int)) (ht : IsTup s.heap t items) (hx : items[i]? = some x) (hsz : items.size ≤ sizeLine)
    (hQ : ∀ h' tk, IsRv h' it t ((i : Int) - 1) → Heap.SameBut it s.heap h' → Q (some x) { s with heap := h', toks := tk }) : wpAny (model prog w) A (pyNext (.ref it)) Q E s := by
  obtain ⟨o, ho, hc, hd⟩ := id hit
  have hT := hit.typeIs
  have hi : i < items.size := (Array.getElem?_eq_some_iff.mp hx).1
  have hn := line63
  unfold pyNext
  refine wpAny_bind (wpAny_attempt (wpAny_callSpecial?_slot (name := Str.ofString "__next__") hit.typeIs slot_next
    (wpAny_call_entry slot_next hit.typeIs entry_next ?_ (args_next _))))
  unfold Builtin.«reversed.__next__»
  refine wpAny_bind (wpAny_of_eq (a := (Value.ref it, [])) rfl ?_)
  try dsimp only
  refine wpAny_bind (wpAny_field ho hd (x := .ref t) rfl ?_)
  refine wpAny_bind (wpAny_field ho hd (x := rawInt (i : Int)) rfl ?_)
  show wpAny _ _ (if (i : Int) < 0 then _ else _) _ _ s
  rw [if_neg (by omega)]
  refine wpAny_bind (wpAny_specialOf ht.typeIs PyProof.Rows.slot_tuple_getitem.lookup ?_)
  rw [if_neg (by decide)]
  refine wpAny_bind (wpAny_mkInt ?_)
  refine wpAny_bind (wpAny_attempt (PyProof.Rows.getItem_tuple (j := i) ht (by omega) (by omega) ?_ hx ?_))
  · unfold seqIndex?
    simp
    omega
  dsimp only
  refine wpAny_bind (wpAny_field ho hd (x := rawInt (i : Int)) rfl ?_)
  refine wpAny_bind (wpAny_setField ho hd (by simp) ?_)
  refine wpAny_pure ⟨x, rfl, wpAny_pure (hQ _ _ ?_ (Heap.SameBut.update ..))⟩
  exact ⟨_, Heap.get?_update_self _ ho (Obj.isFreed_of_fields (Obj.data_mapFields hd _)), (Obj.cls_mapFields ..).trans hc, by
    rw [Obj.data_mapFields hd]; simp⟩
theorem next_end {it t : Addr} {i : Int} {Q : Option Value → Shared → Prop} (hh : A.handled = none) (hit : IsRv s.heap it t i) (hi : i < 0)
    (hQ : ∀ h', Heap.ExtBut it s.heap h' → Q none { s with heap := h' }) : wpAny (model prog w) A (pyNext (.ref it)) Q E s := by
  obtain ⟨o, ho, hc, hd⟩ := id hit
  unfold pyNext
  refine wpAny_bind (wpAny_attempt (wpAny_callSpecial?_slot (name := Str.ofString "__next__") hit.typeIs slot_next
    (wpAny_call_entry slot_next hit.typeIs entry_next ?_ (args_next _))))
  unfold Builtin.«reversed.__next__»
  refine wpAny_bind (wpAny_of_eq (a := (Value.ref it, [])) rfl ?_)
  try dsimp only
  refine wpAny_bind (wpAny_field ho hd (x := .ref t) rfl ?_)
  refine wpAny_bind (wpAny_field ho hd (x := rawInt i) rfl ?_)
  show wpAny _ _ (if i < 0 then _ else _) _ _ s
  rw [if_pos hi]
  refine wpAny_bind (wpAny_rule ?_)
  refine wpAny_bind (wpAny_bind (wpAny_setField ho hd (by simp) ?_))
  have g1 := Heap.get?_update_self (Obj.mapFields (·.setIfInBounds 1 (rawInt (-1)))) ho (Obj.isFreed_of_fields (Obj.data_mapFields hd _))
  refine wpAny_setField g1 (Obj.data_mapFields hd _) (by simp) ?_
  refine wpAny_bind ?_
  show wpAny _ _ (newExc (.type "StopIteration") [] >>= _) _ _ _
  refine wpAny_bind ?_
  simp only [newExc, newTuple]
  refine wpAny_bind (wpAny_newObj_type ?_ (by size_fits))
  refine wpAny_bind (m := firstArgMember _ _) (wpAny_of_eq (a := Value.none) (by first | rfl | (simp only [firstArgMember]; rfl)) ?_)
  refine wpAny_newObj_type ?_ (by size_fits)
  simp only [raiseNew]
  refine wpAny_bind (wpAny_handled ?_)
  first | rw [show A.in1.handled = none from hh] | rw [hh]
  refine wpAny_bind (wpAny_pure (wpAny_throw ?_))
  refine wpAny_bind (wpAny_isInstance (T := "StopIteration") (b := true) ⟨_, Heap.get?_push_size _ rfl, rfl⟩ isSubtype_stop ?_)
  exact wpAny_pure (hQ _ (((((Heap.SameBut.update ..).trans (Heap.SameBut.update ..)).extBut).push _).push _))
theorem iter_self {it t : Addr} {i : Int} {Q : Value → Shared → Prop} (hit : IsRv s.heap it t i) (h : Q (.ref it) s) : wpAny (model prog w) A (pyIter (.ref it)) Q E s := by
  refine wpAny_pyIter_slot hit.typeIs slot_iter (wpAny_call_entry slot_iter hit.typeIs entry_iter ?_ (args_iter _))
  show wpAny _ _ (ret (.ref it)) _ _ s
  exact wpAny_pure ⟨_, rfl, "reversed", _, hit.typeIs, slot_next.lookup, h⟩
end
end Rv
def Itv (K : PySem.W.Frag) (a : Addr) (n : Nat) : It :=
  ⟨fun i H => i < n ∧ ∃ xs, SqT K H a xs ∧ xs.length = n, fun i H x H' => H' = H ∧ ∀ xs, SqT K H a xs → xs.reverse[i]? = some x, fun i _ => n ≤ i⟩
theorem turn_rev {P : Program} {w : World} {K : PySem.W.Frag} {tg : Expr} (a it : Addr) (n : Nat) : Turn P w K tg (Itv K a n) [it] it (fun i h => Rv.IsRv h it a ((n : Int) - 1 - (i : Int))) where
  mem := by simp
  obj := fun i h st b hb => by
    have e : b = it := by simpa using hb
    subst e
    obtain ⟨o, e, c, d⟩ := st
    exact ⟨o, e, fun v z => by rw [d] at z; cases z⟩
  keep := fun i h h' st k => st.at fun o e => k it (by simp) o e
  item := by
    intro X hP hw hK hc i pins s σ H E I hf st hg
    subst hP hw hK
    obtain ⟨hi, xs, hq, hx⟩ := hg
    subst hx
    generalize hn : xs.length = n at hi st ⊢
    obtain ⟨its, rv, p, hz⟩ := I.tuple hq
    have hl := rv.length
    obtain ⟨x, hat⟩ : ∃ x, xs[n - 1 - i]? = some x := ⟨_, List.getElem?_eq_getElem (by omega)⟩
    have hrev : xs.reverse[i]? = some x := by
      rw [List.getElem?_reverse (by omega), hn]
      exact hat
    obtain ⟨u, hu, ru⟩ := rv.get hat
    obtain ⟨f0, f1, f2, f3, f4, f5⟩ := hf it (by simp)
    have e : (n : Int) - 1 - (i : Int) = ((n - 1 - i : Nat) : Int) := by omega
    have st' := st
    rw [e] at st'
    refine Rv.next_item st' p (x := u) (by simpa using hu) (by rw [List.size_toArray]; omega) fun h' tk st2 sb => ?_
    have I1 : Inv X pins σ H { s with heap := h', toks := tk } := I.turned (t' := tk) (fun b o hb e => (sb.2 b hb).trans e) f0 f1 f3 f4 f5
    have e2 : ((n - 1 - i : Nat) : Int) - 1 = (n : Int) - 1 - ((i + 1 : Nat) : Int) := by omega
    rw [e2] at st2
    obtain ⟨o, e, c, d⟩ := id st2
    exact ⟨u, rfl, go_of (s := { s with heap := h', toks := tk }) e c d (by decide) ⟨x, H, I1, ru, ⟨rfl, fun ys hy => by rw [I.tuple_inj hy hq]; exact hrev⟩, st2, fun b hb => (hf b hb).1⟩⟩
  done := by
    intro X hP hw hK hc i pins s σ H E I hf st hg
    subst hP hw hK
    have hg' : n ≤ i := hg
    obtain ⟨f0, f1, f2, f3, f4, f5⟩ := hf it (by simp)
    exact Rv.next_end (I.ok.hd hc) st (by omega) fun h' eb => ⟨rfl, I.turned (t' := s.toks) (fun b o hb e => eb b o hb e) f0 f1 f3 f4 f5⟩
  self := fun _ _ _ _ _ st h => Rv.iter_self st h
section
variable {X : Cx} {tg : Expr}
def iRev (K : PySem.W.Frag) (ta : TA) : TI := fun σ H R => ta σ H fun vs H1 => ∃ a xs, vs = [.ref a] ∧ SqT K H1 a xs ∧ R (Itv K a xs.length) H1
theorem pi_rev {a : Expr} {ta : TA} {p pos : Pos} (hg : Gl X "reversed") (hm : X.mg "reversed" = none) (ha : PA X [a] ta) (hs : starEach [a] X.env = [(false, eval a X.env)] := by rfl) : PI X tg (.Call (.Name "reversed" p) [a] [] pos) (iRev X.K ta) := by
  intro pins s σ H R I h
  refine Call_ (ld_blt I hg hm boot_reversed (PyProof.Rows.callWith_type1 (thn (ha pos pins s σ H _ I h) fun us s1 ⟨vs, H1, I1, r1, q1⟩ => ?_) hs rfl))
  obtain ⟨t, xs, e, hq, q⟩ := q1
  subst e
  obtain ⟨u, rfl, ru⟩ := vals1 r1
  cases ru
  obtain ⟨its, rv, p1, hz⟩ := I1.tuple hq
  have hl := rv.length
  have hn := line63
  refine Rv.call_rv (by rw [List.size_toArray]; omega) p1 fun tk => ?_
  have I2 : Inv X pins σ H1 { s1 with heap := s1.heap.push { cls := .type "reversed", data := .fields #[.ref t, rawInt ((its.toArray.size : Int) - 1)] }, toks := tk } := I1.kept (t' := tk) fun b o e => Heap.get?_push_of_some _ e
  have hst : Rv.IsRv (s1.heap.push { cls := .type "reversed", data := .fields #[.ref t, rawInt ((its.toArray.size : Int) - 1)] }) s1.heap.objs.size t ((xs.length : Int) - 1 - ((0 : Nat) : Int)) :=
    ⟨_, Heap.get?_push_size _ rfl, rfl, by rw [List.size_toArray, ← hl]; simp⟩
  refine Rv.iter_self hst ⟨s1.heap.objs.size, [s1.heap.objs.size], _, _, H1, rfl, I2, turn_rev t _ xs.length, hst, fun b hb => ?_, q⟩
  have e : b = s1.heap.objs.size := by simpa using hb
  subst e
  exact I1.fpOk (Nat.le_refl _) (I1.hok.fresh (Nat.le_refl _))
end
theorem itv_go {K : PySem.W.Frag} {H : Hp} {a : Addr} {xs : List V} (h : SqT K H a xs) : ∀ i, i < xs.reverse.length → (Itv K a xs.length).go i H := fun i hi => ⟨by rwa [List.length_reverse] at hi, xs, h, rfl⟩
theorem itv_yld {K : PySem.W.Frag} {H : Hp} {a : Addr} {xs : List V} (h : SqT K H a xs) : ∀ i x H3, i < xs.reverse.length → (Itv K a xs.length).yld i H x H3 → H3 = H ∧ xs.reverse[i]? = some x := fun i x H3 _ y => ⟨y.1, y.2 xs h⟩
theorem itv_stop {K : PySem.W.Frag} {H : Hp} {a : Addr} {xs : List V} (h : SqT K H a xs) : (Itv K a xs.length).stop xs.reverse.length H := by
  rw [List.length_reverse]
  exact Nat.le_refl xs.length
end L2
set_option Elab.async false
set_option linter.all false
set_option maxRecDepth 100000
set_option maxHeartbeats 4000000
namespace L2
open PySem PySem.Spec PyProof.Rows
def intV (ns : List Int) : List V := ns.map V.int
theorem ints_at {ns : List Int} {i : Nat} {z : Int} (h : ns[i]? = some z) : (intV ns)[i]? = some (V.int z) := by
  unfold intV; rw [List.getElem?_map, h]; rfl
theorem ints_len (ns : List Int) : (intV ns).length = ns.length := List.length_map ..
theorem ints_of_at {ns : List Int} {i : Nat} {v : V} (h : (intV ns)[i]? = some v) : ∃ z, v = V.int z ∧ ns[i]? = some z := by
  unfold intV at h
  rw [List.getElem?_map] at h
  cases e : ns[i]? with
  | none => rw [e] at h; cases h
  | some z => rw [e] at h; exact ⟨z, (Option.some.inj h).symm, rfl⟩
theorem ints_app (a b : List Int) : intV (a ++ b) = intV a ++ intV b := List.map_append ..
theorem all_eq (ns ms : List Int) : ((List.range (min ns.length ms.length)).all (fun j => decide (ns[j]? = ms[j]?)) && ns.length == ms.length) = decide (ns = ms) := by
  rw [Bool.eq_iff_iff, Bool.and_eq_true, List.all_eq_true, decide_eq_true_iff, beq_iff_eq]
  constructor
  · rintro ⟨h1, h2⟩
    refine List.ext_getElem? fun i => ?_
    by_cases hi : i < ns.length
    · exact of_decide_eq_true (h1 i (List.mem_range.mpr (by omega)))
    · rw [List.getElem?_eq_none (by omega), List.getElem?_eq_none (by omega)]
  · rintro rfl
    exact ⟨fun j _ => decide_eq_true rfl, rfl⟩
section
variable {X : Cx}
def rNeTI (K : PySem.W.Frag) : R2 := fun x y H Q => ∃ a b ns ms, x = .ref a ∧ y = .ref b ∧ SqT K H a (intV ns) ∧ SqT K H b (intV ms) ∧ Q (.bl (!decide (ns = ms))) H
theorem eqItems {A : Around} {s : Shared} {ns ms : List Int} {its its2 : List Value} (r1 : Vals (intV ns) its) (r2 : Vals (intV ms) its2) (j : Nat) (h1 : j < its.toArray.size) (h2 : j < its2.toArray.size) :
    SeqAt.EqAt A s its.toArray[j] its2.toArray[j] (decide (ns[j]? = ms[j]?)) := by
  have l1 := r1.length
  have l2 := r2.length
  rw [ints_len] at l1 l2
  have g1 : j < its.length := by simpa using h1
  have g2 : j < its2.length := by simpa using h2
  have e1 : ns[j]? = some ns[j] := List.getElem?_eq_getElem (by omega)
  have e2 : ms[j]? = some ms[j] := List.getElem?_eq_getElem (by omega)
  obtain ⟨u, hu, t, rfl⟩ := r1.get (ints_at e1)
  obtain ⟨v, hv, t', rfl⟩ := r2.get (ints_at e2)
  have f1 : its.toArray[j] = Value.int ns[j] t := by
    rw [List.getElem_toArray]
    exact Option.some.inj ((List.getElem?_eq_getElem g1).symm.trans hu)
  have f2 : its2.toArray[j] = Value.int ms[j] t' := by
    rw [List.getElem_toArray]
    exact Option.some.inj ((List.getElem?_eq_getElem g2).symm.trans hv)
  rw [f1, f2, e1, e2]
  have := SeqAt.EqAt.int_int (A := A) (s := s) ns[j] t ms[j] t'
  have e : decide (some ns[j] = some ms[j]) = (ns[j] == ms[j]) := by
    rw [Bool.eq_iff_iff, decide_eq_true_iff, beq_iff_eq]
    exact ⟨Option.some.inj, congrArg some⟩
  rw [e]
  exact this
theorem op_neTI (hu : X.A.units < cLine) : OpR X (compareOp .NotEq) (rNeTI X.K) := by
  intro pins s σ H x y v u Q I rx ry h
  obtain ⟨a, b, ns, ms, rfl, rfl, ha, hb, q⟩ := h
  cases rx
  cases ry
  obtain ⟨its, r1, p1, _⟩ := I.tuple ha
  obtain ⟨its2, r2, p2, _⟩ := I.tuple hb
  refine SeqAt.RcNeAt.tuples (e := fun j => decide (ns[j]? = ms[j]?)) (show s.heap.IsTuple a its.toArray from p1) (show s.heap.IsTuple b its2.toArray from p2) hu (fun j h1 h2 => eqItems r1 r2 j h1 h2) X.prog X.w X.xe _ ⟨.bl (!decide (ns = ms)), H, I, ?_, q⟩
  have l1 := r1.length
  have l2 := r2.length
  rw [ints_len] at l1 l2
  show _ = Value.bool (!decide (ns = ms))
  rw [← all_eq, List.size_toArray, List.size_toArray, ← l1, ← l2]
def rIsi (K : PySem.W.Frag) : List V → Hp → VK → Prop := fun xs H Q => ∃ x T t b, xs = [x, .ty T] ∧ TyOf K H x t ∧ PySem.W.kitOne K t (.type T) = some b ∧ Q (.bl b) H
theorem call_isi : CallR X (.builtin "isinstance") (rIsi X.K) := by
  intro pins s σ H xs us Q I r h
  obtain ⟨x, T, t, b, rfl, ty, e, q⟩ := h
  obtain ⟨u, w', rfl, rx, ry⟩ := vals2 r
  cases ry
  exact isinst_ok I rx ty e fun tk => ⟨.bl b, H, I.tok tk, rfl, q⟩
theorem kit_self (K : PySem.W.Frag) (T : String) : PySem.W.kitOne K (.type T) (.type T) = some true := by
  unfold PySem.W.kitOne
  rw [if_pos (beq_self_eq_true _)]
end
end L2
set_option Elab.async false
set_option linter.all false
set_option maxRecDepth 100000
set_option maxHeartbeats 4000000
namespace L2
open PySem PySem.Spec PyProof.Rows
theorem Same.upd {H : Hp} {a : Addr} {o : HO} (h : H a = Option.none) : Same H (upd H a o) := fun b u e => by
  rw [upd_ne (ne_of_none e h)]
  exact e
section
variable {X : Cx}
end
end L2
namespace HT
open PySem PyProof.Rows
section
variable {prog : Program} {w : World} {A : Around} {E : Value → Shared → Prop} {s : Shared}
end
theorem noFill_tuple_mul : fillsNumberSlot (.type "tuple") "mul" = pure false :=
  PySem.fillsNumberSlot_seq (id := "tuple.__mul__") (r := some (.builtin "tuple.__rmul__")) PySem.F.slot_tuple_mul.lookup (by decide +kernel) PySem.F.slot_tuple_rmul.lookup (by decide +kernel)
theorem repeat_tuple : seqRepeat? (.type "tuple") = pure (some (.builtin "tuple.__mul__")) := by
  unfold seqRepeat?
  rw [PySem.seqSlot_of (T := "tuple") (name := "__mul__") (id := "tuple.__mul__") PySem.F.slot_tuple_mul.lookup (by decide +kernel), PySem.seqSlot_of (T := "tuple") (name := "__rmul__") (id := "tuple.__rmul__") PySem.F.slot_tuple_rmul.lookup (by decide +kernel)]
  rfl
theorem int_rmul_tuple (a : Int) (t : Tok) (l : Addr) (items : Array Value) (n : Nat) (dd : Option Addr) (sl : Array (Option Value)) :
    Meets (Builtin.«int.__rmul__» ⟨[.int a t, .ref l], []⟩) (fun _ R s => s.heap.get? l = some { cls := .type "tuple", dict := dd, data := .seq items n, slots := sl } ∧ R (.ok (.ret Value.notImplemented)) s) :=
  .of_wp fun prog w A R s h => by obtain ⟨hp, g, d, tk, os⟩ := s; obtain ⟨hl, h⟩ := h; wp_walk; exact ⟨_, rfl, h⟩
theorem tuple_mul_same (l : Addr) (items : Array Value) (n : Nat) (dd : Option Addr) (sl : Array (Option Value)) (x : Int) (u : Tok) (h0 : ¬ (decide (x < -(2 ^ 63)) || decide (x ≥ 2 ^ 63)) = true) (hc : (items.isEmpty || x == 1) = true) :
    Meets (Builtin.«tuple.__mul__» ⟨[.ref l, .int x u], []⟩) (fun _ R s => s.heap.get? l = some { cls := .type "tuple", dict := dd, data := .seq items n, slots := sl } ∧ R (.ok (.ret (.ref l))) s) :=
  .of_wp fun prog w A R s h => by
    obtain ⟨hp, g, d, tk, os⟩ := s; obtain ⟨hl, h⟩ := h
    have hT : (⟨hp, g, d, tk, os⟩ : Shared).TypeIs (.ref l) "tuple" := ⟨_, hl, rfl⟩
    wp_walk
    refine wpAny_ite_false (decide_eq_false h0) ?_
    wp_walk
    exact ⟨_, rfl, h⟩
theorem tuple_mul_none (l : Addr) (items : Array Value) (n : Nat) (dd : Option Addr) (sl : Array (Option Value)) (x : Int) (u : Tok) (h0 : ¬ (decide (x < -(2 ^ 63)) || decide (x ≥ 2 ^ 63)) = true) (hc : ¬ (items.isEmpty || x == 1) = true) (hx : (decide (x ≤ 0) || items.isEmpty) = true) :
    Meets (Builtin.«tuple.__mul__» ⟨[.ref l, .int x u], []⟩) (fun _ R s => s.heap.get? l = some { cls := .type "tuple", dict := dd, data := .seq items n, slots := sl } ∧ R (.ok (.ret (.ref s.heap.objs.size))) { s with heap := s.heap.push { cls := .type "tuple", data := .seq #[] } }) :=
  .of_wp fun prog w A R s h => by
    obtain ⟨hp, g, d, tk, os⟩ := s; obtain ⟨hl, h⟩ := h
    have hT : (⟨hp, g, d, tk, os⟩ : Shared).TypeIs (.ref l) "tuple" := ⟨_, hl, rfl⟩
    wp_walk
    refine wpAny_ite_false (decide_eq_false h0) ?_
    wp_walk
    exact ⟨_, rfl, h⟩
theorem tuple_mul_many (l : Addr) (items : Array Value) (n : Nat) (dd : Option Addr) (sl : Array (Option Value)) (x : Int) (u : Tok) (h0 : ¬ (decide (x < -(2 ^ 63)) || decide (x ≥ 2 ^ 63)) = true) (hc : ¬ (items.isEmpty || x == 1) = true) (hx : ¬ (decide (x ≤ 0) || items.isEmpty) = true)
    (h1 : ¬ ((items.size : Int) * x > (2 ^ 63 - 1) / 8)) (h2 : ¬ (Builtin.Tuple.tupleTooMany ((items.size : Int) * x)) = true) (hz : (List.foldl (fun x1 x2 => x1 ++ x2) #[] (List.replicate x.toNat items)).size ≤ sizeLine) :
    Meets (Builtin.«tuple.__mul__» ⟨[.ref l, .int x u], []⟩) (fun _ R s => s.heap.get? l = some { cls := .type "tuple", dict := dd, data := .seq items n, slots := sl } ∧ R (.ok (.ret (.ref s.heap.objs.size))) { s with heap := s.heap.push { cls := .type "tuple", data := .seq (List.foldl (fun x1 x2 => x1 ++ x2) #[] (List.replicate x.toNat items)) } }) :=
  .of_wp fun prog w A R s h => by
    obtain ⟨hp, g, d, tk, os⟩ := s; obtain ⟨hl, h⟩ := h
    have hT : (⟨hp, g, d, tk, os⟩ : Shared).TypeIs (.ref l) "tuple" := ⟨_, hl, rfl⟩
    wp_walk
    refine wpAny_ite_false (decide_eq_false h0) ?_
    wp_walk
    refine wpAny_ite_false (decide_eq_false h1) ?_
    wp_walk
    exact ⟨_, rfl, h⟩
open AutoSeq1 in
theorem list_extend_tup (l : Addr) (items : Array Value) (n : Nat) (b : Addr) (items2 : Array Value) (n2 : Nat) (dd : Option Addr) (sl : Array (Option Value)) (hs0 : ¬(!items.isEmpty && Builtin.List.listTooLong (items.size + items2.size)) = true) (hs1 : items.size ≤ sizeLine) (hs2 : items.size + items2.size ≤ sizeLine + 1) :
    Meets (Builtin.«list.extend» ⟨[.ref l, .ref b], []⟩) (fun _ R s => s.heap.get? l = some { cls := .type "list", dict := none, data := .seq items n, slots := #[] } ∧ s.heap.get? b = some { cls := .type "tuple", dict := dd, data := .seq items2 n2, slots := sl } ∧ R (.ok (.ret Value.none)) { s with heap := s.heap.update l (Obj.mapSeq fun x => x ++ items2), toks := s.toks }) :=
  .of_wp fun prog w A R s h => by
    obtain ⟨hp, g, d, tk, os⟩ := s; obtain ⟨hl, hb, h⟩ := h; have f1 := AutoSeq1.idx_int; have f2 := AutoSeq1.sub_tuple_tuple; have f3 := AutoSeq1.sub_list_list; have f4 := AutoSeq1.sub_tuple_list; have f5 := AutoSeq1.sub_list_tuple;
    have hz' : (items ++ items2).size ≤ sizeLine + 1 := by rw [Array.size_append]; exact hs2
    wp_walk using (wpAny_updateSeq hl rfl (hz := hs1) (_hz' := hz')), wpAny_loadPart' hl, wpAny_loadPart' hb; exact ⟨_, rfl, h⟩
end HT
namespace L2
open PySem PySem.Spec PyProof.Rows
section
variable {X : Cx} {e : Expr} {te : TE} {lo hi : Option Expr} {st : Expr} {tl th ts : TO} {pos p2 : Pos}
def rRepT : R2 := fun x y H Q => ∃ a k xs, x = .ref a ∧ y = .int k ∧ H a = some (.tup xs) ∧ -(2 ^ 63) ≤ k ∧ k < 2 ^ 63 ∧ xs.length * k.toNat ≤ sizeLine ∧
  ∀ p H', Same H H' → H' p = some (.tup (List.replicate k.toNat xs).flatten) → Q (.ref p) H'
theorem op_repT : OpR X (binaryOp .Mult) rRepT := by
  intro pins s σ H x y v u Q I rx ry h
  obtain ⟨l, k, xs, rfl, rfl, hH, h1, h2, hz, q⟩ := h
  cases rx
  obtain ⟨t, rfl⟩ := ry
  obtain ⟨its, r, p1, hzx⟩ := I.tuple (SqT.of hH)
  have hl := r.length
  obtain ⟨⟨cls, dd, data, sl⟩, ho, hc, n, hd⟩ := id p1
  simp only at hc hd
  subst hc hd
  have h0 : ¬ (decide (k < -(2 ^ 63)) || decide (k ≥ 2 ^ 63)) = true := by
    rw [Bool.or_eq_true, decide_eq_true_iff, decide_eq_true_iff]
    omega
  have go : ∀ {S : PySem.Spec}, Meets (Builtin.«tuple.__mul__» ⟨[.ref l, .int k t], []⟩) (fun A' R s' => s'.heap.get? l = some { cls := .type "tuple", dict := dd, data := .seq its.toArray n, slots := sl } ∧ S A' R s') →
      S X.A (wants (EP X pins σ Q) X.xe) s → wpAny (model X.prog X.w) X.A (binaryOp .Mult (.ref l) (.int k t)) (EP X pins σ Q) X.xe s := fun {S} m hS =>
    wpAny_binaryOp_repeat_ref (T := "tuple") (U := "int") (by decide) ⟨_, ho, rfl⟩ (fun s' => typeIs_int s' k t) HT.noFill_tuple_mul F.fills_int_mul F.slot_int_rmul HT.repeat_tuple F.slot_int_index.lookup
      (call_meets F.slot_int_rmul (typeIs_int s k t) F.entry_int_rmul (F.args_int_rmul_2 _ _) (HT.int_rmul_tuple k t l its.toArray n dd sl)
        ⟨ho, rfl, ⟨_, ho, rfl⟩, call_meets F.slot_tuple_mul ⟨_, ho, rfl⟩ F.entry_tuple_mul (F.args_tuple_mul_2 _ _) m ⟨ho, hS⟩⟩)
  by_cases hc : (its.toArray.isEmpty || k == 1) = true
  · refine go (S := fun _ R s' => R (.ok (.ret (.ref l))) s') (HT.tuple_mul_same l its.toArray n dd sl k t h0 hc) ⟨.ref l, H, I, rfl, q l H (Same.refl H) ?_⟩
    have e : (List.replicate k.toNat xs).flatten = xs := by
      rw [Bool.or_eq_true] at hc
      rcases hc with hc | hc
      · have : its = [] := by simpa using hc
        have : xs = [] := by
          have hl' := hl
          rw [this] at hl'
          exact List.eq_nil_of_length_eq_zero hl'
        subst this
        simp
      · have : k = 1 := by simpa using hc
        subst this
        simp
    rw [e]
    exact hH
  · by_cases hx : (decide (k ≤ 0) || its.toArray.isEmpty) = true
    · refine go (S := fun _ R s' => R (.ok (.ret (.ref s'.heap.objs.size))) { s' with heap := s'.heap.push { cls := .type "tuple", data := .seq #[] } }) (HT.tuple_mul_none l its.toArray n dd sl k t h0 hc hx) ?_
      refine ⟨.ref s.heap.objs.size, _, I.laid (t' := s.toks) (o := .tup []) (fun b ob q => Heap.get?_push_of_some _ q) (Nat.le_refl _) ?_, rfl, q _ _ (Same.upd (I.hok.fresh (Nat.le_refl _))) ?_⟩
      · exact ⟨Nat.zero_le _, [], .nil, IsTup.new _ _⟩
      · have e : k.toNat = 0 := by
          rw [Bool.or_eq_true, decide_eq_true_iff] at hx
          rcases hx with hx | hx
          · omega
          · exact absurd (by rw [Bool.or_eq_true]; exact .inl hx) hc
        rw [e, upd_same]
        rfl
    · have hk : 0 < k := by
        rw [Bool.or_eq_true, decide_eq_true_iff] at hx
        omega
      have hfl : List.foldl (fun x1 x2 => x1 ++ x2) #[] (List.replicate k.toNat its.toArray) = (List.replicate k.toNat its).flatten.toArray := by
        have := foldl_rep its k.toNat []
        rw [List.nil_append] at this
        exact this
      have hlen : (List.replicate k.toNat its).flatten.length ≤ sizeLine := by rw [len_rep, Nat.mul_comm, ← hl]; exact hz
      have hsz : ((its.toArray.size : Int) * k) = ((xs.length * k.toNat : Nat) : Int) := by
        rw [List.size_toArray, ← hl, Int.natCast_mul, Int.toNat_of_nonneg (by omega)]
      have hline : (sizeLine : Nat) ≤ (2 ^ 63 - 1) / 8 := by decide
      refine go (S := fun _ R s' => R (.ok (.ret (.ref s'.heap.objs.size))) { s' with heap := s'.heap.push { cls := .type "tuple", data := .seq (List.foldl (fun x1 x2 => x1 ++ x2) #[] (List.replicate k.toNat its.toArray)) } })
        (HT.tuple_mul_many l its.toArray n dd sl k t h0 hc hx (by rw [hsz]; omega) (by unfold Builtin.Tuple.tupleTooMany; rw [decide_eq_true_iff, hsz]; omega) (by rw [hfl, List.size_toArray]; exact hlen)) ?_
      rw [hfl]
      refine ⟨.ref s.heap.objs.size, _, I.laid (t' := s.toks) (o := .tup (List.replicate k.toNat xs).flatten) (fun b ob q => Heap.get?_push_of_some _ q) (Nat.le_refl _) ?_, rfl, q _ _ (Same.upd (I.hok.fresh (Nat.le_refl _))) upd_same⟩
      exact ⟨by rw [len_rep, Nat.mul_comm]; exact hz, _, r.rep k.toNat, IsTup.new _ _⟩
def rExtendT : V → List V → Hp → VK → Prop := fun x vs H Q => ∃ l b xs zs, x = .ref l ∧ vs = [.ref b] ∧ H l = some (.lst xs) ∧ H b = some (.tup zs) ∧ xs.length + zs.length ≤ sizeLine ∧ Q .non (upd H l (.lst (xs ++ zs)))
theorem mt_extendT : MtM X "list.extend" rExtendT := by
  intro pins s σ H x vs v us Q I rx rv h
  obtain ⟨l, b, xs, zs, rfl, rfl, hH, hB, hz, q⟩ := h
  cases rx
  obtain ⟨u, rfl, ru⟩ := rv.one
  cases ru
  obtain ⟨z, its, n, r, hl, e⟩ := I.lstM hH
  obtain ⟨its2, r2, p2, _⟩ := I.tuple (SqT.of hB)
  have hl2 := r2.length
  obtain ⟨⟨cls, dd, data, sl⟩, ho, hc, n2, hd⟩ := id p2
  simp only at hc hd
  subst hc hd
  have hsz : its.toArray.size + its2.toArray.size ≤ sizeLine := by rw [List.size_toArray, List.size_toArray]; omega
  have hlong : ¬ (!its.toArray.isEmpty && Builtin.List.listTooLong (its.toArray.size + its2.toArray.size)) = true := by
    rw [notLongL hsz, Bool.and_false]
    exact Bool.false_ne_true
  refine call_meets F.slot_list_extend ⟨_, e, rfl⟩ F.entry_list_extend (F.args_list_extend_2 _ _)
    (HT.list_extend_tup l its.toArray n b its2.toArray n2 dd sl hlong (by rw [List.size_toArray]; omega) (by omega)) ⟨e, ho, ?_⟩
  refine ⟨.non, _, I.lset (its' := its ++ its2) hH e (by simp) (r.append r2) ?_, rfl, q⟩
  rw [List.length_append]
  omega
end
end L2
set_option Elab.async false
set_option linter.all false
set_option maxRecDepth 100000
set_option maxHeartbeats 4000000
namespace L2
open PySem PySem.Spec PyProof.Rows
def tx (l : List Nat) : Str := ⟨l.toArray⟩
section
variable {X : Cx} {pos : Pos}
end
end L2
set_option Elab.async false
set_option linter.all false
set_option maxRecDepth 100000
set_option maxHeartbeats 4000000
namespace L2
open PySem PySem.Spec PyProof.Rows
structure Def (K : PySem.W.Frag) (mg : Str → Option Value) (x : Str) (st : Stmt) (ps : List Str) (f : Addr) (fd : FuncData) : Prop where
  F : Fun K x x st f fd
  m : mg x = some (.ref f)
  b : Binds K fd ps []
section
variable {X : Cx}
def tCutE (t : TE) : TE := fun σ H Q => ∃ G : V → Hp → Prop, t σ H G ∧ ∀ v H', G v H' → Q v H'
theorem pe_cut {e : Expr} {t : TE} (h : PE X e t) : PE X e (tCutE t) := by
  intro pins s σ H Q I ⟨G, h1, h2⟩
  refine thn (h pins s σ H G I h1) fun v s' ⟨x, H', I', r, g⟩ => ?_
  exact ⟨x, H', I', r, h2 x H' g⟩
end
theorem cut_ints (ns : List Int) (lo hi : Option Int) : cutV (intV ns) lo hi = intV ((ns.drop (HT.sIx ns.length 0 lo)).take (HT.sIx ns.length ns.length hi - HT.sIx ns.length 0 lo)) := by
  unfold cutV intV
  rw [List.length_map, List.map_take, List.map_drop]
theorem emod_nat (r : Int) {n : Nat} (h : 0 < n) : ∃ j : Nat, r % (n : Int) = (j : Int) ∧ j < n := by
  have h1 := Int.emod_nonneg r (show (n : Int) ≠ 0 by omega)
  have h2 := Int.emod_lt_of_pos r (show (0 : Int) < (n : Int) by omega)
  exact ⟨(r % (n : Int)).toNat, by omega, by omega⟩
end L2
set_option Elab.async false
set_option linter.all false
set_option maxRecDepth 100000
namespace L2
open PySem PySem.Spec PyProof.Rows
section
variable {κ : Type} [DecidableEq κ]
def valV (kvs : List (κ × V)) (k : κ) : Option V := (kvs.find? fun kv => decide (kv.1 = k)).map (·.2)
def putK (kvs : List (κ × V)) (k : κ) (v : V) : List (κ × V) :=
  if (kvs.any fun kv => decide (kv.1 = k)) = true then kvs.map (fun kv => if kv.1 = k then (kv.1, v) else kv) else kvs ++ [(k, v)]
def dropK (kvs : List (κ × V)) (k : κ) : List (κ × V) := kvs.filter fun kv => decide (kv.1 ≠ k)
theorem valV_pos {p : κ × V} {r : List (κ × V)} {k : κ} (e : p.1 = k) : valV (p :: r) k = some p.2 := by simp [valV, List.find?_cons, e]
theorem valV_neg {p : κ × V} {r : List (κ × V)} {k : κ} (e : ¬ p.1 = k) : valV (p :: r) k = valV r k := by simp [valV, List.find?_cons, e]
theorem valV_any (k : κ) : ∀ kvs : List (κ × V), (kvs.any fun kv => decide (kv.1 = k)) = (valV kvs k).isSome
  | [] => rfl
  | p :: r => by
    rw [List.any_cons]
    by_cases e : p.1 = k
    · simp only [valV_pos e, decide_eq_true e, Bool.true_or, Option.isSome_some]
    · rw [valV_neg e, decide_eq_false e, Bool.false_or]; exact valV_any k r
theorem RelO.isSome_eq {o : Option V} {u : Option Value} (r : RelO o u) : o.isSome = u.isSome := by
  cases o with
  | none => cases u with
    | none => rfl
    | some _ => exact (show False from r).elim
  | some _ => cases u with
    | none => exact (show False from r).elim
    | some _ => rfl
theorem RelO.getD {o : Option V} {u : Option Value} {d : V} {d' : Value} (r : RelO o u) (rd : RelV d d') : RelV (o.getD d) (u.getD d') := by
  cases o with
  | none => cases u with
    | none => exact rd
    | some _ => exact (show False from r).elim
  | some _ => cases u with
    | none => exact (show False from r).elim
    | some _ => exact r
theorem KV.val {kvs : List (κ × V)} {vs : List (κ × Value)} (r : KV kvs vs) (k : κ) : RelO (valV kvs k) (valueAt vs k) := by
  unfold KV at r
  induction r with
  | nil => exact True.intro
  | @cons p q ps qs h t ih =>
    obtain ⟨h1, h2⟩ := h
    by_cases e : p.1 = k
    · have e' : q.1 = k := h1.symm.trans e
      have b : valueAt (q :: qs) k = some q.2 := by simp [valueAt, List.find?_cons, e']
      rw [valV_pos e, b]; exact h2
    · have e' : ¬ q.1 = k := fun z => e (h1.trans z)
      have b : valueAt (q :: qs) k = valueAt qs k := by simp [valueAt, List.find?_cons, e']
      rw [valV_neg e, b]; exact ih
theorem KV.any {kvs : List (κ × V)} {vs : List (κ × Value)} (r : KV kvs vs) (k : κ) : (kvs.any fun kv => decide (kv.1 = k)) = vs.any fun kv => decide (kv.1 = k) := by
  unfold KV at r
  induction r with
  | nil => rfl
  | cons h t ih => rw [List.any_cons, List.any_cons, ih, h.1]
theorem KV.repl {kvs : List (κ × V)} {vs : List (κ × Value)} (r : KV kvs vs) (k : κ) {y : V} {u : Value} (ry : RelV y u) :
    KV (kvs.map fun kv => if kv.1 = k then (kv.1, y) else kv) (vs.map fun kv => if kv.1 = k then (kv.1, u) else kv) := by
  unfold KV at r ⊢
  induction r with
  | nil => exact .nil
  | @cons p q ps qs h t ih =>
    rw [List.map_cons, List.map_cons]
    refine .cons ?_ ih
    obtain ⟨h1, h2⟩ := h
    by_cases e : p.1 = k
    · rw [if_pos e, if_pos (h1.symm.trans e)]; exact ⟨h1, ry⟩
    · rw [if_neg e, if_neg (fun z => e (h1.trans z))]; exact ⟨h1, h2⟩
theorem KV.put {kvs : List (κ × V)} {vs : List (κ × Value)} (r : KV kvs vs) (k : κ) {y : V} {u : Value} (ry : RelV y u) : KV (putK kvs k y) (stored vs k u) := by
  unfold putK stored
  rw [r.any k]
  by_cases e : (vs.any fun kv => decide (kv.1 = k)) = true
  · rw [if_pos e, if_pos e]; exact r.repl k ry
  · rw [if_neg e, if_neg e]; exact Paired.snoc r ⟨rfl, ry⟩
theorem KV.drop {kvs : List (κ × V)} {vs : List (κ × Value)} (r : KV kvs vs) (k : κ) : KV (dropK kvs k) (without vs k) := by
  unfold KV at r ⊢
  unfold dropK without
  induction r with
  | nil => exact .nil
  | @cons p q ps qs h t ih =>
    obtain ⟨h1, h2⟩ := h
    rw [List.filter_cons, List.filter_cons]
    by_cases e : p.1 = k
    · have a : ¬ decide (p.1 ≠ k) = true := by simp [e]
      have b : ¬ decide (q.1 ≠ k) = true := by simp [h1.symm.trans e]
      rw [if_neg a, if_neg b]; exact ih
    · have e' : ¬ q.1 = k := fun z => e (h1.trans z)
      have a : decide (p.1 ≠ k) = true := by simp [e]
      have b : decide (q.1 ≠ k) = true := by simp [e']
      rw [if_pos a, if_pos b]; exact .cons ⟨h1, h2⟩ ih
theorem KV.keys {kvs : List (κ × V)} {vs : List (κ × Value)} (r : KV kvs vs) : kvs.map (·.1) = vs.map (·.1) := by
  unfold KV at r
  induction r with
  | nil => rfl
  | cons h t ih => rw [List.map_cons, List.map_cons, ih, h.1]
theorem KV.length {kvs : List (κ × V)} {vs : List (κ × Value)} (r : KV kvs vs) : kvs.length = vs.length := Paired.length r
end
abbrev KT (H : Hp) : List (List Key × V) → List (List Key × Addr × Value) → Prop := Paired fun p q => p.1 = q.1 ∧ H q.2.1 = some (.tup (p.1.map kV)) ∧ RelV p.2 q.2.2
theorem KT.val {H : Hp} {kvs : List (List Key × V)} {xs : List (List Key × Addr × Value)} (r : KT H kvs xs) (k : List Key) : RelO (valV kvs k) ((atKey xs k).map (·.2)) := by
  induction r with
  | nil => exact True.intro
  | @cons p q ps qs h t ih =>
    obtain ⟨h1, _, h2⟩ := h
    by_cases e : p.1 = k
    · have e' : q.1 = k := h1.symm.trans e
      have b : atKey (q :: qs) k = some q.2 := by simp [atKey, List.find?_cons, e']
      rw [valV_pos e, b]; exact h2
    · have e' : ¬ q.1 = k := fun z => e (h1.trans z)
      have b : atKey (q :: qs) k = atKey qs k := by simp [atKey, List.find?_cons, e']
      rw [valV_neg e, b]; exact ih
theorem KT.repl {H : Hp} {kvs : List (List Key × V)} {xs : List (List Key × Addr × Value)} (r : KT H kvs xs) (k : List Key) {y : V} {u : Value} (ry : RelV y u) :
    KT H (kvs.map fun kv => if kv.1 = k then (kv.1, y) else kv) (xs.map (putAt k u)) := by
  induction r with
  | nil => exact .nil
  | @cons p q ps qs h t ih =>
    rw [List.map_cons, List.map_cons]
    refine .cons ?_ ih
    obtain ⟨h1, h2, h3⟩ := h
    unfold putAt
    by_cases e : p.1 = k
    · rw [if_pos e, if_pos (h1.symm.trans e)]; exact ⟨h1, h2, ry⟩
    · rw [if_neg e, if_neg (fun z => e (h1.trans z))]; exact ⟨h1, h2, h3⟩
theorem KT.put {H : Hp} {kvs : List (List Key × V)} {xs : List (List Key × Addr × Value)} (r : KT H kvs xs) (k : List Key) {b : Addr} {y : V} {u : Value} (hb : H b = some (.tup (k.map kV))) (ry : RelV y u) :
    KT H (putK kvs k y) (storedH xs k b u) := by
  have e : (kvs.any fun kv => decide (kv.1 = k)) = (atKey xs k).isSome := by
    rw [valV_any, (r.val k).isSome_eq, Option.isSome_map]
  unfold putK storedH
  rw [e]
  by_cases q : (atKey xs k).isSome = true
  · rw [if_pos q, if_pos q]; exact r.repl k ry
  · rw [if_neg q, if_neg q]; exact Paired.snoc r ⟨rfl, hb, ry⟩
theorem KT.keeps {H H' : Hp} {kvs : List (List Key × V)} {xs : List (List Key × Addr × Value)} (r : KT H kvs xs) (ht : ∀ b ys, H b = some (.tup ys) → H' b = some (.tup ys)) : KT H' kvs xs :=
  Paired.mapP r fun _ _ z => ⟨z.1, ht _ _ z.2.1, z.2.2⟩
section
variable {P : Program} {w : World} {H : Hp} {h : Heap} {a : Addr}
end
def DGet (H : Hp) (a : Addr) (y : V) (r : Option V) : Prop :=
  (∃ kvs k, Rd H a (.dK kvs) ∧ y = kV k ∧ r = valV kvs k) ∨ ∃ kvs k b, Rd H a (.dT kvs) ∧ y = .ref b ∧ H b = some (.tup (k.map kV)) ∧ r = valV kvs k
def DPut (H : Hp) (a : Addr) (y v : V) (H' : Hp) : Prop :=
  (∃ kvs k, H a = some (.dK kvs) ∧ y = kV k ∧ kvs.length < sizeLine ∧ H' = upd H a (.dK (putK kvs k v))) ∨
  ∃ kvs k b, H a = some (.dT kvs) ∧ y = .ref b ∧ H b = some (.tup (k.map kV)) ∧ kvs.length < sizeLine ∧ H' = upd H a (.dT (putK kvs k v))
theorem DGet.k {H : Hp} {a : Addr} {kvs : List (Key × V)} {k : Key} (e : H a = some (.dK kvs)) : DGet H a (kV k) (valV kvs k) := .inl ⟨kvs, k, .inl e, rfl, rfl⟩
theorem DGet.t {H : Hp} {a b : Addr} {kvs : List (List Key × V)} {k : List Key} (e : H a = some (.dT kvs)) (eb : H b = some (.tup (k.map kV))) : DGet H a (.ref b) (valV kvs k) := .inr ⟨kvs, k, b, .inl e, rfl, eb, rfl⟩
theorem DPut.k {H : Hp} {a : Addr} {kvs : List (Key × V)} {k : Key} {v : V} (e : H a = some (.dK kvs)) (hl : kvs.length < sizeLine) : DPut H a (kV k) v (upd H a (.dK (putK kvs k v))) := .inl ⟨kvs, k, e, rfl, hl, rfl⟩
theorem DPut.t {H : Hp} {a b : Addr} {kvs : List (List Key × V)} {k : List Key} {v : V} (e : H a = some (.dT kvs)) (eb : H b = some (.tup (k.map kV))) (hl : kvs.length < sizeLine) :
    DPut H a (.ref b) v (upd H a (.dT (putK kvs k v))) := .inr ⟨kvs, k, b, e, rfl, eb, hl, rfl⟩
section
variable {X : Cx} {pins : List (Addr × Obj)} {σ : St} {H : Hp} {s : Shared} {a : Addr} {y v : V} {u r : Value} {o : Option V} {A : Around} {E : Value → Shared → Prop}
end
section
variable {X : Cx} {pins : List (Addr × Obj)} {σ : St} {H : Hp} {s : Shared} {a : Addr} {kvs : List (Key × V)} {k : Key} {u : Value} {A : Around} {E : Value → Shared → Prop}
end
section
variable {X : Cx} {o i e value : Expr} {pos pos' tpos : Pos} {td ty tv : TE}
end
section
variable {X : Cx} {pos : Pos}
end
structure M1 (X : Cx) (o : Expr) (m : Str) (apos : Pos) (e : Expr) (cpos : Pos) : Prop where
  base : attributeBase o m X.env (eval o X.env) = eval o X.env
  few : ((backTo cpos (starEach [e] X.env)).all (fun x => !x.1) && (backToKw cpos (keywordEach [] X.env)).all (fun x => x.1.isSome)
    && decide (([e] : List Expr).length + ([] : List Keyword).length + (if ([] : List Keyword).isEmpty then 0 else 1) < 30)) = true
  line : (apos.endLine == cpos.line) = true
  trees : backTo cpos (starEach [e] X.env) = [(false, eval e X.env)]
structure M2 (X : Cx) (o : Expr) (m : Str) (apos : Pos) (e f : Expr) (cpos : Pos) : Prop where
  base : attributeBase o m X.env (eval o X.env) = eval o X.env
  few : ((backTo cpos (starEach [e, f] X.env)).all (fun x => !x.1) && (backToKw cpos (keywordEach [] X.env)).all (fun x => x.1.isSome)
    && decide (([e, f] : List Expr).length + ([] : List Keyword).length + (if ([] : List Keyword).isEmpty then 0 else 1) < 30)) = true
  line : (apos.endLine == cpos.line) = true
  trees : backTo cpos (starEach [e, f] X.env) = [(false, eval e X.env), (false, eval f X.env)]
section
variable {X : Cx} {pins : List (Addr × Obj)} {σ : St} {H : Hp} {s : Shared} {a : Addr} {y d : V} {u r : Value} {o : Option V} {A : Around} {E : Value → Shared → Prop}
end
section
variable {X : Cx} {o e f : Expr} {apos cpos : Pos} {td ty tx : TE}
end
section
variable {X : Cx} {pins : List (Addr × Obj)} {σ : St} {H : Hp} {s : Shared} {a : Addr} {kvs : List (Key × V)} {A : Around} {E : Value → Shared → Prop}
end
section
variable {X : Cx} {pins : List (Addr × Obj)} {σ : St} {H : Hp} {s : Shared} {a : Addr} {y : V} {u : Value} {A : Around} {E : Value → Shared → Prop}
end
end L2
set_option Elab.async false
set_option linter.all false
set_option maxRecDepth 100000
set_option maxHeartbeats 4000000
namespace L2
open PySem PySem.Spec PyProof.Rows
section
variable {X : Cx} {pos : Pos}
end
end L2
set_option Elab.async false
set_option linter.all false
set_option maxRecDepth 100000
set_option maxHeartbeats 4000000
namespace L2
open PySem PySem.Spec PyProof.Rows
section
variable {X : Cx} {pins : List (Addr × Obj)} {σ : St} {H : Hp} {s : Shared} {h' : Heap}
end
namespace En
section
variable {prog : Program} {w : World} {A : Around} {E : Value → Shared → Prop} {s : Shared}
end
end En
end L2
set_option Elab.async false
set_option linter.all false
set_option maxRecDepth 100000
set_option maxHeartbeats 4000000
namespace L2
open PySem PySem.Spec PyProof.Rows
section
variable {X : Cx}
end
end L2
set_option Elab.async false
set_option linter.all false
set_option maxRecDepth 100000
set_option maxHeartbeats 4000000
namespace L2
open PySem PySem.Spec PyProof.Rows
section
variable {X : Cx}
end
end L2
set_option Elab.async false
set_option linter.all false
set_option maxRecDepth 100000
set_option maxHeartbeats 4000000
namespace L2
open PySem PySem.Spec PyProof.Rows
def CXw (P : Program) (w : World) : CXT := fun outer H s E e s' => ∃ (x C : Addr) (B : Heap) (H' : Hp) (a0 : Value), e = .ref x ∧ s'.os = s.os ∧ AllBare s'.gens ∧ Heap.FlyingW B outer x (.ref C) a0 s'.heap ∧
  Un (frs outer) [] H H' s.heap s'.heap ∧ HOk P w H' B ∧ (∀ b o, s.heap.get? b = some o → H b = none → b ∉ frs outer → B.get? b = some o) ∧ (∀ b o, s.heap.get? b = some o → b ∉ frs outer → ∃ o', B.get? b = some o') ∧ E (.ref C) none H'
section
variable {P : Program} {w : World} {K : PySem.W.Frag} {mg : Str → Option Value} {base : Heap} {N : List Str} {qual : Str} {scope : Scope} {f : Addr} {cd : Value} {A : Around} {outer : List Env} {s : Shared} {H : Hp} {E : XK}
  {pins : List (Addr × Obj)} {σ : St} {H1 : Hp} {s1 : Shared}
end
end L2
set_option Elab.async false
set_option linter.all false
set_option maxRecDepth 100000
set_option maxHeartbeats 4000000
namespace L2
open PySem PySem.Spec PyProof.Rows
section
variable {X : Cx} {pos : Pos}
end
section
variable {P : Program} {w : World} {K : PySem.W.Frag} {mg : Str → Option Value} {base : Heap}
end
end L2
set_option Elab.async false
set_option linter.all false
set_option maxRecDepth 100000
set_option maxHeartbeats 4000000
namespace L2
open PySem PySem.Spec PyProof.Rows
theorem ObjOk.get {P : Program} {w : World} {H : Hp} {h : Heap} {a : Addr} {o : HO} (x : ObjOk P w H h a o) : ∃ u, h.get? a = some u := by
  cases o with
  | lst xs => obtain ⟨_, _, _, _, e⟩ := x; exact ⟨_, e⟩
  | tup xs => obtain ⟨_, _, _, ob, e, _⟩ := x; exact ⟨_, e⟩
  | dK kvs => obtain ⟨_, _, _, _, o, _, _, e, _⟩ := x; exact ⟨_, e⟩
  | dT kvs => obtain ⟨_, _, _, _, o, _, _, e, _⟩ := x; exact ⟨_, e⟩
  | set S n => obtain ⟨o, _, _, _, e, _⟩ := x; exact ⟨_, e⟩
  | ins C dx fs => obtain ⟨_, _, _, e, _⟩ := x; exact ⟨_, e⟩
  | own y => exact x
  | xd fs => obtain ⟨_, ⟨_, _, _, e, _⟩, _⟩ := x; exact ⟨_, e⟩
  | rng lo hi => obtain ⟨_, _, _, e⟩ := x; exact ⟨_, e⟩
  | frz ob u => obtain ⟨e, _⟩ := x; exact ⟨_, e⟩
  | tbl ps => exact ⟨_, show h.get? a = some _ from x⟩
  | met f y => exact ⟨_, show h.get? a = some _ from x⟩
  | ext φ => obtain ⟨_, e, _⟩ := x; exact e
def ExAt (x C : Addr) (h : Heap) : Prop := ∃ ob vs, h.get? x = some ob ∧ ob.cls = .ref C ∧ ob.data = .fields vs
theorem ExAt.stay {x C : Addr} {h1 h2 : Heap} (p : ExAt x C h1) (k : ∀ o, h1.get? x = some o → h2.get? x = some o) : ExAt x C h2 := by
  obtain ⟨ob, vs, e, r⟩ := p
  exact ⟨ob, vs, k _ e, r⟩
def Thr (X : Cx) (pins : List (Addr × Obj)) (σ : St) (H' : Hp) (x C : Addr) (s : Shared) : Prop :=
  ∃ (B : Heap) (H1 : Hp) (s1 : Shared) (a0 : Value), Inv X pins σ H1 s1 ∧ s.os = s1.os ∧ AllBare s.gens ∧ Heap.FlyingW B X.stack x (.ref C) a0 s.heap ∧ Un (frs X.stack) [] H1 H' s1.heap s.heap ∧ HOk X.prog X.w H' B ∧
    (∀ b o, s1.heap.get? b = some o → H1 b = none → b ∉ frs X.stack → B.get? b = some o) ∧ (∀ b o, s1.heap.get? b = some o → b ∉ frs X.stack → ∃ o', B.get? b = some o')
section
variable {X : Cx} {pins : List (Addr × Obj)} {σ : St} {H' : Hp} {x C : Addr} {s : Shared}
theorem Thr.of {E : XK} {H : Hp} {s1 : Shared} {e : Value} (I : Inv X pins σ H s1) (cx : CXw X.prog X.w X.stack H s1 E e s) : ∃ x C H', e = .ref x ∧ Thr X pins σ H' x C s ∧ E (.ref C) none H' := by
  obtain ⟨x, C, B, H', a0, rfl, os, bare, fl, un, hokB, kb, tb, q⟩ := cx
  exact ⟨x, C, H', rfl, ⟨B, H, s1, a0, I, os, bare, fl, un, hokB, kb, tb⟩, q⟩
theorem Inv.noRec {H : Hp} {s1 : Shared} (I : Inv X pins σ H s1) {b : Addr} (hb : b ∈ frs X.stack) : ∃ o, s1.heap.get? b = some o ∧ ∀ vs, o.data ≠ .fields vs := by
  obtain ⟨_, o, e, n⟩ := I.stack.mem hb
  exact ⟨o, e, n⟩
theorem Thr.look {Q : Unit → Shared → Prop} {E : Value → Shared → Prop} {A : Around} (t : Thr X pins σ H' x C s) (hst : X.stack = X.env :: X.outer) (hf : X.env.frame = some X.env.locals) (hA : A.frames = some X.stack)
    (h : ∀ h', Thr X pins σ H' x C { s with heap := h' } → Q () { s with heap := h' }) :
    wpAny (model X.prog X.w) A (noteFrame (.ref x) X.env) (fun _ s2 => wpAny (model X.prog X.w) A (setFlight (.ref x) none) Q E s2) E s := by
  obtain ⟨B, H1, s1, a0, I, os, bare, fl, un, hok, kb, tb⟩ := t
  have fl' := fl
  rw [hst] at fl'
  refine wpAny_looks_onW (base := B) (hA.trans (by rw [hst])) hf fl' fun h2 hh u1 => ?_
  refine wpAny_landsW hh fun h3 fl3 u2 => h h3 ?_
  have u := u1.trans u2
  have fr : ∀ b o, s1.heap.get? b = some o → b ∈ frs X.stack → ∃ sl, h3.get? b = some { o with slots := sl } := fun b o e hb => by
    obtain ⟨o2, e2, nr⟩ := I.noRec hb
    rw [e] at e2
    cases e2
    obtain ⟨sl, e4⟩ := un.slot b o e (I.stkFree b hb) hb (by simp)
    obtain ⟨sl2, e5⟩ := u b _ e4 nr
    exact ⟨sl2, e5⟩
  refine ⟨B, H1, s1, a0, I, os, bare, by rw [hst]; exact fl3, ⟨fun b o e1 e2 e3 _ => fl3.1 b o (kb b o e1 e2 e3), fun b o e1 _ e3 _ => fr b o e1 e3, un.free, fun b o e1 _ => ?_, un.tups, un.frzs, un.tbls⟩, hok, kb, tb⟩
  by_cases hb : b ∈ frs X.stack
  · obtain ⟨sl, e5⟩ := fr b o e1 hb
    exact ⟨_, e5⟩
  · obtain ⟨o', e4⟩ := tb b o e1 hb
    exact ⟨o', fl3.1 b o' e4⟩
theorem Thr.again {Q : Unit → Shared → Prop} {E : Value → Shared → Prop} {A : Around} (t : Thr X pins σ H' x C s) (h : ∀ h', Thr X pins σ H' x C { s with heap := h' } → Q () { s with heap := h' }) :
    wpAny (model X.prog X.w) A (setFlight (.ref x) none) Q E s := by
  obtain ⟨B, H1, s1, a0, I, os, bare, fl, un, hok, kb, tb⟩ := t
  refine lands_againW fl fun h3 fl3 u => h h3 ?_
  have fr : ∀ b o, s1.heap.get? b = some o → b ∈ frs X.stack → ∃ sl, h3.get? b = some { o with slots := sl } := fun b o e hb => by
    obtain ⟨o2, e2, nr⟩ := I.noRec hb
    rw [e] at e2
    cases e2
    obtain ⟨sl, e4⟩ := un.slot b o e (I.stkFree b hb) hb (by simp)
    obtain ⟨sl2, e5⟩ := u b _ e4 nr
    exact ⟨sl2, e5⟩
  refine ⟨B, H1, s1, a0, I, os, bare, fl3, ⟨fun b o e1 e2 e3 _ => fl3.1 b o (kb b o e1 e2 e3), fun b o e1 _ e3 _ => fr b o e1 e3, un.free, fun b o e1 _ => ?_, un.tups, un.frzs, un.tbls⟩, hok, kb, tb⟩
  by_cases hb : b ∈ frs X.stack
  · obtain ⟨sl, e5⟩ := fr b o e1 hb
    exact ⟨_, e5⟩
  · obtain ⟨o', e4⟩ := tb b o e1 hb
    exact ⟨o', fl3.1 b o' e4⟩
theorem Thr.none (t : Thr X pins σ H' x C s) : H' x = none := by
  obtain ⟨B, H1, s1, a0, I, os, bare, fl, un, hok, kb, tb⟩ := t
  cases e : H' x with
  | none => rfl
  | some u =>
    obtain ⟨o, e1⟩ := (hok x u e).get
    rw [fl.2.1] at e1
    cases e1
theorem Thr.at (t : Thr X pins σ H' x C s) : ExAt x C s.heap := by
  obtain ⟨B, H1, s1, a0, I, os, bare, fl, un, hok, kb, tb⟩ := t
  obtain ⟨oe, vs, he, hc, hd, _⟩ := fl.first
  exact ⟨oe, vs, he, hc, hd⟩
end
abbrev XR := Addr → St → Hp → Prop
def XP (X : Cx) (pins : List (Addr × Obj)) (R : XR) (e : Value) (s : Shared) : Prop := ∃ x C σ H, e = .ref x ∧ Thr X pins σ H x C s ∧ R C σ H
section
variable {X : Cx} {k : Nat} {f : Addr} {fd : FuncData} {ps : List Str} {sp : Sp} {x : Str} {p pos : Pos} {e : Expr} {es : List Expr} {t : TA}
end
abbrev TH := Ends → Addr → St → Hp → Prop
section
variable {X : Cx} {y n : Str} {Y : Addr} {np pos : Pos} {b₀ : Stmt} {suite : List Stmt} {rest : List ExceptHandler} {tb : TS} {tr : TH} {i : Nat}
end
end L2
set_option Elab.async false
set_option linter.all false
set_option maxRecDepth 100000
set_option maxHeartbeats 4000000
namespace L2
open PySem PySem.Spec PyProof.Rows PySem.Calls PySem.W Builtin Builtin.ObjectAttr Builtin.Getset_descriptor
structure ExcI (K : PySem.W.Frag) (C : Addr) : Prop where
  ga : findIn K (.ref C) "__getattribute__" = some (some (.builtin "BaseException.__getattribute__"))
  gt : findIn K (.ref C) "__getattr__" = some none
  cl : isClsIn K C = true
  at_ : findIn K (.ref C) "__class__" = some (some (.builtin "object.__class__"))
  gs : specialIn K (.builtin "object.__class__") "__get__" = some (some (.builtin "getset_descriptor.__get__"))
  tk : takesIn K (.builtin "object.__class__") = some true
  mo : mroIn K C (.type "object") = some true
  be : subIn K (.ref C) (.type "BaseException") = some true
section
variable {prog : Program} {w : World} {A : Around} {E : Value → Shared → Prop} {s : Shared} {K : PySem.W.Frag} {x C : Addr}
end
section
variable {X : Cx}
end
end L2
set_option Elab.async false
set_option linter.all false
set_option maxRecDepth 100000
set_option maxHeartbeats 4000000
namespace L2
open PySem PySem.Spec PyProof.Rows
section
variable {P : Program} {w : World} {K : PySem.W.Frag} {mg : Str → Option Value} {base : Heap}
end
end L2
set_option Elab.async false
set_option linter.all false
set_option maxRecDepth 100000
set_option maxHeartbeats 4000000
namespace L2
open PySem PySem.Spec PyProof.Rows
section
variable {X : Cx}
theorem mul_one : ∀ n : Nat, n ≤ 64 → ∀ c ∈ [40, 41], Txt.mul (tx [c]) (n : Int) = tx (List.replicate n c) := by decide +kernel
end
end L2
set_option Elab.async false
set_option linter.all false
set_option maxRecDepth 100000
set_option maxHeartbeats 4000000
namespace L2
open PySem PySem.Spec PyProof.Rows
section
variable {prog : Program} {w : World} {A : Around} {R : Result → Shared → Prop} {s : Shared}
end
section
variable {X : Cx} {elt iter cnd : Expr} {x : Str} {px pos : Pos} {scope : Scope} {cl : List (Str × Addr)} {fns : List Str} {ixs : List Nat} {wi : TI} {tt : TT} {te : TE}
end
end L2
set_option Elab.async false
set_option linter.all false
set_option maxRecDepth 10000
set_option maxHeartbeats 400000
namespace L2
open PySem PySem.Spec PyProof.Rows
section
variable {X : Cx}
end
end L2
set_option Elab.async false
set_option linter.all false
set_option maxRecDepth 100000
set_option maxHeartbeats 4000000
namespace L2
open PySem PySem.Spec PyProof.Rows
section
variable {X : Cx}
end
end L2
set_option Elab.async false
set_option linter.all false
set_option maxRecDepth 100000
set_option maxHeartbeats 4000000
namespace L2
open PySem PySem.Spec PyProof.Rows
section
variable {X : Cx} {tg : Expr}
end
end L2
set_option Elab.async false
set_option linter.all false
set_option maxRecDepth 100000
set_option maxHeartbeats 4000000
namespace L2
open PySem PySem.Spec PyProof.Rows
section
variable {X : Cx} {elt iter cnd : Expr} {x : Str} {px pos : Pos} {scope : Scope} {cl : List (Str × Addr)} {fns : List Str} {ixs : List Nat} {wi : TI} {tt : TT} {te : TE}
theorem ps_setComp {iy : Nat} {y : Str} {py spos : Pos} (hN : X.N.Nodup) (hiy : X.N[iy]? = some y) (hy : Loc X.env.scope y) (hc : X.calm = true) (hi : PI X (.Name x px) iter wi) (S : CompScope X x fns ixs scope cl)
    (he : ∀ (C : Addr) (s : Shared) (H : Hp) (ex : List Addr), PE (cxComp X (x :: fns) scope cl C s H ex) elt te)
    (hs : ∀ x, foldedSetIterable iter X.env x = pure x := by intro _; rfl) (hsw : swapsWith (.ListComp elt [⟨.Name x px, iter, [], 0⟩] scope pos) (some (.Name y py)) spos.line X.env = pure true := by rfl)
    (hfy : X.fn y = true ∨ X.env.scope.names.lookup y = some .local := by first | exact .inl rfl | exact .inr rfl | assumption) :
    PS X (.Assign [.Name y py] (.ListComp elt [⟨.Name x px, iter, [], 0⟩] scope pos) spos) (tAsg (tComp wi (fvOf ixs) te) (gName iy)) := by
  intro pins s σ H DD I h
  rw [exec_Assign_Name_used _ _ _ _ hsw]
  refine wpAny_bind (wpAny_standAt (wpAny_bind ?_))
  show wpAny _ X.A (do let _ ← comprehension (.ListComp elt [⟨.Name x px, iter, [], 0⟩] scope pos) scope X.env _ (newList []) false (eval iter X.env) (some (assign (.Name y py) X.env))) _ _ s
  refine wpAny_bind (wpAny_mono (wpAny_comprehension_free (use := some (assign (.Name y py) X.env)) (Q := fun _ s' => SP X pins DD .next s') rfl hs S.clos S.kind S.names (thn (hi pins s σ H _ I h) fun v s1 h1 => thn h1 fun itv s2 h2 => ?_)) (fun _ s' hq => wpAny_pure (wpAny_pure hq)) fun _ _ e => e)
  obtain ⟨it, fp, tn, J, H2, e, I2, T, st2, f2, W, ⟨m0, w0⟩, turn⟩ := h2
  subst e
  have hfpLt : ∀ b ∈ fp, b < s2.heap.objs.size := fun b hb => by
    obtain ⟨o, ho, _⟩ := T.obj _ _ st2 b hb
    exact Heap.lt_size ho
  refine wpAny_newObj_type (wpAny_newFunctionEnv S.cell (by intro y hy; simp at hy) (fun h₁ hns₁ hsb₁ => ?_) S.kind)
  dsimp only at hns₁ hsb₁ ⊢
  generalize hH3 : s2.heap.push { cls := .type "list", dict := none, data := .seq ([] : List Value).toArray } = hp3 at hns₁ hsb₁ ⊢
  generalize hD : s2.heap.objs.size = D at hfpLt ⊢
  have hC : hp3.objs.size = D + 1 := by rw [← hH3, Heap.size_push, hD]
  generalize hCe : hp3.objs.size = C at hC hns₁ hsb₁ ⊢
  have hDltC : D < C := by omega
  have hDC : D ≠ C := Nat.ne_of_lt hDltC
  have k23 : ∀ b u, s2.heap.get? b = some u → hp3.get? b = some u := fun b u q => by rw [← hH3]; exact Heap.get?_push_of_some _ q
  have ltD : ∀ {b u}, s2.heap.get? b = some u → b < D := fun q => by rw [← hD]; exact Heap.lt_size q
  have k34 : ∀ b u, hp3.get? b = some u → h₁.get? b = some u := fun b u q =>
    hsb₁.extBut b u (Nat.ne_of_lt (Nat.lt_of_lt_of_le (Heap.lt_size q) (Nat.le_of_eq hCe))) (Heap.get?_push_of_some _ q)
  have hDo : hp3.get? D = some { cls := .type "list", dict := none, data := .seq ([] : List Value).toArray } := by rw [← hH3, ← hD]; exact Heap.get?_push_size _ rfl
  have I3 : Inv X pins σ H2 { s2 with heap := hp3 } := I2.kept (t' := s2.toks) k23
  have hnD : H2 D = none := I2.hok.fresh (by omega)
  have hnC : H2 C = none := I2.hok.fresh (by omega)
  have nstk : ∀ b ∈ D :: fp, b ∉ frs X.stack := fun b hb z => by
    rcases List.mem_cons.mp (I2.stkSub b z) with e | z
    · rcases List.mem_cons.mp hb with e2 | hb
      · exact absurd I2.lt (by rw [← e, e2, ← hD]; exact Nat.lt_irrefl _)
      · exact (f2 b hb).2.1 e
    · rcases List.mem_cons.mp hb with e2 | hb
      · exact I2.nofs (by rw [e2, ← hD]; exact Nat.le_refl _) z
      · exact (f2 b hb).2.2.1 z
  have cne : ∀ y c, cl.lookup y = some c → ∀ b ∈ D :: fp, c ≠ b := fun y c q b hb z => by
    obtain ⟨v, hv⟩ := I2.cell y c (S.sub y c q)
    rcases List.mem_cons.mp hb with e2 | hb
    · exact absurd hv.lt (by rw [z, e2, ← hD]; exact Nat.lt_irrefl _)
    · exact (f2 b hb).2.2.2.2.1 y c (S.sub y c q) z
  -- the block's context
  let Xc : Cx := cxComp X (x :: fns) scope cl C { s2 with heap := hp3 } H2 (D :: fp)
  have ok : Xc.Ok := {
    mod := I2.ok.mod
    kind := S.kind
    glob := I2.ok.glob
    blt := I2.ok.blt
    above := by show hp3.objs.size ≤ C; omega
    inj := fun y z c q1 q2 => I2.ok.inj y z c (S.sub _ _ q1) (S.sub _ _ q2)
    has := S.has
    cab := fun y c q => nomatch q
    hd := I2.ok.hd
    frames := I2.ok.frames
    stk := .inl rfl
    exf := fun b hb => ⟨by
      rcases List.mem_cons.mp hb with e2 | hb
      · rw [e2]; exact hDC
      · exact Nat.ne_of_lt (Nat.lt_trans (hfpLt b hb) hDltC), fun y c q => cne y c q b hb⟩
    bs := I3.bs
    bsz := Nat.le_trans I3.ok.bsz I3.sz
    noex := fun b o q hb => by
      rcases List.mem_cons.mp hb with e2 | hb
      · exact absurd (ltD (I2.bs b o q).1) (by rw [e2]; exact Nat.lt_irrefl _)
      · rcases (f2 b hb).2.2.2.1 with z | z
        · exact I2.ok.noex b o q z
        · exact absurd (Heap.lt_size (I2.ok.bs b o q).1) (Nat.not_lt.mpr z)
    exfs := nstk
    funs := I3.stack
    frf := I3.stkFree }
  have start : ∀ (v0 : Option V) , v0 = none → Inv Xc [(D, { cls := .type "list", dict := none, data := .seq ([] : List Value).toArray })] (v0 :: fvOf ixs σ) H2 { s2 with heap := h₁, toks := s2.toks + ([] : List (Str × Value)).length } := fun v0 hv0 => {
    ok := ok
    os := rfl
    bare := I2.bare
    base := Un.kept k34
    loc := ⟨_, hns₁, fun i y v e1 e2 e3 => by
      cases i with
      | zero => rw [hv0] at e2; cases e2
      | succ j =>
        have e1' : fns[j]? = some y := e1
        have e2' : (fvOf ixs σ)[j]? = some (some v) := e2
        obtain ⟨i, hi1, hi2, hk, c, hc1, hc2⟩ := S.at_ j y e1'
        unfold fvOf at e2'
        rw [List.getElem?_map, hi1] at e2'
        have e3' : σ[i]? = some (some v) := by
          have z : (σ[i]?).join = some v := Option.some.inj e2'
          cases q : σ[i]? with
          | none => rw [q] at z; cases z
          | some o => rw [q] at z; rw [show o = some v from z]
        obtain ⟨m, _, hl⟩ := I2.loc
        obtain ⟨u, r, l⟩ := hl i y v hi2 e3' (hk.elim (fun z => .inr (.inl z)) fun z => .inr (.inr z))
        refine ⟨u, r, .inr ⟨hc2, c, hc1, ?_⟩⟩
        rcases l with ⟨z, _⟩ | ⟨_, c', hc', hcell⟩
        · rcases hk with hk | hk <;> (rw [hk] at z; cases z)
        · have : c' = c := Option.some.inj (hc'.symm.trans (S.sub _ _ hc1))
          subst this
          obtain ⟨o, ho, hd⟩ := hcell
          exact ⟨o, k34 _ _ (k23 _ _ ho), hd⟩⟩
    cell := fun y c q => by
      obtain ⟨v, o, ho, hd⟩ := I2.cell y c (S.sub y c q)
      exact ⟨v, o, k34 _ _ (k23 _ _ ho), hd⟩
    free := hnC
    freeC := fun y c q => I2.freeC y c (S.sub y c q)
    pin := fun p hp => by
      have hp' : p = (D, { cls := .type "list", dict := none, data := .seq ([] : List Value).toArray }) := by simpa [Xc, cxComp] using hp
      subst hp'
      exact ⟨k34 _ _ hDo, hnD, hDC, nstk D (List.mem_cons_self ..), fun v z => nomatch z⟩
    hok := (I2.hok.kept k23).kept k34
    len := by show (v0 :: fvOf ixs σ).length = (x :: fns).length; simp [fvOf, S.len] }
  -- what stays true of the iterator's objects
  have fpc : ∀ {H' : Hp} {pins' : List (Addr × Obj)}, (∀ b ∈ fp, H' b = none) → (∀ p ∈ pins', p.1 = D) → ∀ b ∈ fp, FpOk Xc pins' H' b := fun {H' pins'} hn hp b hb =>
    ⟨hn b hb, Nat.ne_of_lt (Nat.lt_trans (hfpLt b hb) hDltC), nstk b (List.mem_cons_of_mem _ hb), .inl (List.mem_cons_of_mem _ hb), fun y c q => cne y c q b (List.mem_cons_of_mem _ hb), fun p q => by
      have q' : p ∈ pins' := by simpa [Xc, cxComp] using q
      rw [hp p q']
      exact Nat.ne_of_gt (hfpLt b hb)⟩
  have loop : codeAny (model X.prog X.w) X.A (.compLoop (.ListComp elt [⟨.Name x px, iter, [], 0⟩] scope pos) 0 (.ref it) (.ref D) (compEnvC scope cl C X.env))
      (compPost (model X.prog X.w) X.A X.xe (some (assign (.Name y py) X.env)) (fun _ s' => SP X pins DD .next s') (.ref D) C) { s2 with heap := h₁, toks := s2.toks + ([] : List (Str × Value)).length } := by
    refine compLoop_go (fun n s' => ∃ (i : Nat) (ys : List V) (its : List Value) (nn : Nat) (v0 : Option V) (H' : Hp), Inv Xc [(D, { cls := .type "list", dict := none, data := .seq its.toArray nn })] (v0 :: fvOf ixs σ) H' s' ∧ tn i s'.heap ∧ (∀ b ∈ fp, H' b = none) ∧ Vals ys its ∧ W i n ys H') ?_ m0
      ⟨0, [], [], 0, none, H2, start none rfl, T.keep _ _ _ st2 fun b _ o q => k34 _ _ (k23 _ _ q), fun b hb => (f2 b hb).1, .nil, w0⟩
    rintro n s3 ⟨i, ys, its, nn, v0, H3, J3, tn3, fr3, vv, w3⟩
    have pinD : ∀ p ∈ ([(D, ({ cls := .type "list", dict := none, data := .seq its.toArray nn } : Obj))] : List (Addr × Obj)), p.1 = D := fun p hp => by
      have : p = (D, { cls := .type "list", dict := none, data := .seq its.toArray nn }) := by simpa using hp
      rw [this]
    rcases turn i n ys H3 w3 with ⟨stop, hlen, q⟩ | ⟨go, hlen, step⟩
    · -- the end
      refine thn (T.done Xc rfl rfl rfl hc i _ s3 _ H3 _ J3 (fpc fr3 pinD) tn3 stop) fun r s4 ⟨hr, J4⟩ => ?_
      subst hr
      obtain ⟨m, hn, _⟩ := J4.loc
      generalize hh4 : s4.heap = h''
      have hsb : Heap.SameBut C s4.heap h'' := by rw [← hh4]; exact ⟨rfl, fun _ _ => rfl⟩
      obtain ⟨gD, nD, _, _, _⟩ := J4.pin (D, { cls := .type "list", dict := none, data := .seq its.toArray nn }) (by simp [Xc, cxComp])
      have B := J4.base
      have kC : ∀ b u, b ≠ C → s4.heap.get? b = some u → h''.get? b = some u := fun b u hb q => (hsb.2 b hb).trans q
      have ne : ∀ {b o}, s2.heap.get? b = some o → b ≠ C ∧ b ≠ D := fun q => ⟨Nat.ne_of_lt (Nat.lt_trans (ltD q) hDltC), Nat.ne_of_lt (ltD q)⟩
      have nex : ∀ {b o}, s2.heap.get? b = some o → b ∉ fp → b ∉ D :: fp := fun q hx z => (List.mem_cons.mp z).elim (ne q).2 hx
      have uu : Un (frs X.stack) fp H2 (upd H3 D (.lst ys)) s2.heap h'' := {
        keep := fun b o q n hb hx => kC b o (ne q).1 (B.keep b o (k23 b o q) n hb (nex q hx))
        slot := fun b o q n hb hx => by
          obtain ⟨sl, e⟩ := B.slot b o (k23 b o q) n hb (nex q hx)
          exact ⟨sl, kC b _ (ne q).1 e⟩
        free := fun b o q n hx => by rw [upd_ne (ne q).2]; exact B.free b o (k23 b o q) n (nex q hx)
        there := fun b o q hx => by
          obtain ⟨o', e⟩ := B.there b o (k23 b o q) (nex q hx)
          exact ⟨o', kC b _ (ne q).1 e⟩
        tups := fun b xs q => by rw [upd_ne (ne_of_none q hnD)]; exact B.tups b xs q
        frzs := fun b o xs q => by rw [upd_ne (ne_of_none q hnD)]; exact B.frzs b o xs q
        tbls := fun b ps q => by
          obtain ⟨more, e⟩ := B.tbls b ps q
          exact ⟨more, by rw [upd_ne (ne_of_none q hnD)]; exact e⟩ }
      have hok : HOk X.prog X.w (upd H3 D (.lst ys)) h'' := fun b u e => by
        by_cases hb : b = D
        · subst hb
          rw [upd_same] at e
          cases e
          exact ⟨hlen, its, nn, vv, kC _ _ hDC gD⟩
        · rw [upd_ne hb] at e
          refine (J4.hok b u e).stay (fun c v hc q => kC c v ?_ q) (fun c q => by rw [upd_ne (ne_of_none q nD)]; exact q) fun c xs q => by rw [upd_ne (ne_of_none q nD)]; exact q
          have fC : H3 C = none := J4.free
          rcases hc with rfl | hc
          · exact ne_of_none e fC
          · exact ne_of_none hc fC
      have I5 : Inv X pins σ (upd H3 D (.lst ys)) s4 := I2.call' (s' := s4) J4.os (by rw [hh4]; exact uu) (by rw [hh4]; exact hok) J4.bare (fun b hb => ⟨(f2 b hb).2.2.2.1, (f2 b hb).2.1, (f2 b hb).2.2.2.2.1, (f2 b hb).2.2.2.2.2⟩)
      show wpAny _ X.A (assign (.Name y py) X.env (.ref D)) _ _ _
      have cL : X.env.locals ≠ C := fun z => by
        have h1 := I2.lt
        rw [hD, z] at h1
        exact absurd (Nat.lt_trans h1 hDltC) (Nat.lt_irrefl _)
      have cC : ∀ z c, X.env.cells.lookup z = some c → c ≠ C := fun z c hz e => by
        obtain ⟨v, hv⟩ := I2.cell z c hz
        have h1 := hv.lt
        rw [hD, e] at h1
        exact absurd (Nat.lt_trans h1 hDltC) (Nat.lt_irrefl _)
      have hCn : upd H3 D (.lst ys) C = none := by
        rw [upd_ne (Ne.symm hDC)]
        exact J4.free
      refine wpAny_assign_Name (store_ok2 I5 hN hiy hy (v := .ref D) rfl (fun s5 I6 hsame => ?_) hfy)
      obtain ⟨a5, sb5, ha5⟩ := hsame
      have neC : C ≠ a5 := by
        rcases ha5 with e | e
        · rw [e]; exact Ne.symm cL
        · exact Ne.symm (cC y a5 e)
      refine ⟨m, hn.sameBut sb5 neC, fun h6 sb6 => ?_⟩
      refine ⟨_, _, I6.turned (t' := s5.toks) (it := C) (fun b o hb e => (sb6.2 b hb).trans e) hCn (Ne.symm cL) (.inr (by
        have := I2.sz
        rw [hD] at this
        exact Nat.le_trans this (Nat.le_of_lt hDltC))) cC (fun p hp z => ?_), q D nD⟩
      have hlt := Heap.lt_size (I2.pin p hp).1
      rw [hD, z] at hlt
      exact absurd (Nat.lt_trans hlt hDltC) (Nat.lt_irrefl _)
    · -- a turn
      refine thn (T.item Xc rfl rfl rfl hc i _ s3 _ H3 _ J3 (fpc fr3 pinD) tn3 go) fun r s4 ⟨u, hr, h4⟩ => ?_
      subst hr
      refine thn h4 fun _ s5 ⟨xv, H5, J5, r5, y5, tn5, fr5⟩ => ?_
      have J5' := J5.pinned (fpc fr5 pinD) (T.obj _ _ tn5)
      have hg : PG Xc (.Name x px) (gName 0) := pg_name (X := Xc) (i := 0) S.nd rfl (.inl (relabel_own S.own)) (.inr (relabel_own S.own))
      refine thn (hg _ s5 _ H5 xv u (fun σ' H' => σ' = some xv :: fvOf ixs σ ∧ H' = H5) J5' r5 ⟨rfl, rfl⟩) fun _ s6 ⟨σ6, H6, J6, e6, e6'⟩ => ?_
      subst e6 e6'
      refine thn (he C { s2 with heap := hp3 } H2 (D :: fp) _ s6 _ H6 _ J6 (step xv H6 y5)) fun yv s7 ⟨y, H7, J7, r7, m', hm', w7⟩ => ?_
      obtain ⟨gD, nD, _, _, _⟩ := J7.pin (D, { cls := .type "list", dict := none, data := .seq its.toArray nn }) (by simp [Xc, cxComp])
      have tn7 : tn (i + 1) s7.heap := T.keep _ _ _ tn5 fun b hb o e => (J7.pin (b, o) (List.mem_append_right _ (List.mem_append_right _ (mem_pinsAt hb e)))).1
      have fr7 : ∀ b ∈ fp, H7 b = none := fun b hb => by
        obtain ⟨o, e, d⟩ := T.obj _ _ tn5 b hb
        exact (J7.pin (b, o) (List.mem_append_right _ (List.mem_append_right _ (mem_pinsAt hb e)))).2.1
      have J7' : Inv Xc [] (some xv :: fvOf ixs σ) H7 s7 := J7.pins_of fun p hp => nomatch hp
      refine wpAny_list_append_plain (hsz := by rw [List.size_toArray, ← vv.length]; omega) ⟨nn, gD⟩ fun h8 pl8 sb8 => ?_
      obtain ⟨n8, g8⟩ := pl8
      have J8 : Inv Xc [] (some xv :: fvOf ixs σ) H7 { s7 with heap := h8 } := J7'.turned (t' := s7.toks) (it := D) (fun b o hb e => (sb8.2 b hb).trans e) nD (hDC) (.inl (List.mem_cons_self ..))
        (fun y c q => cne y c q D (List.mem_cons_self ..)) (fun p hp => by simp [Xc, cxComp] at hp)
      refine ⟨m', hm', i + 1, ys ++ [y], its ++ [yv], n8, some xv, H7, J8.pins_of fun p hp => ?_, ?_, fr7, vv.append (.cons r7 .nil), w7⟩
      · have : p = (D, { cls := .type "list", dict := none, data := .seq (its ++ [yv]).toArray n8 }) := by simpa using hp
        subst this
        refine ⟨?_, nD, hDC, nstk D (List.mem_cons_self ..), fun v z => nomatch z⟩
        have : its.toArray.push yv = (its ++ [yv]).toArray := by simp
        rw [this] at g8
        exact g8
      · exact T.keep _ _ _ tn7 fun b hb o e => (sb8.2 b (Nat.ne_of_lt (hfpLt b hb))).trans e
  exact codeAny_compStart_list loop (T.self _ 0 _ _ _ (T.keep _ _ _ st2 fun b _ o q => k34 _ _ (k23 _ _ q)) loop)
end
end L2
set_option Elab.async false
set_option linter.all false
set_option maxRecDepth 100000
set_option maxHeartbeats 4000000
namespace L2
open PySem PySem.Spec PyProof.Rows
section
variable {X : Cx}
end
end L2
set_option Elab.async false
set_option linter.all false
set_option maxRecDepth 100000
set_option maxHeartbeats 4000000
namespace L2
open PySem PySem.Spec PyProof.Rows
def rng (lo : Int) (n : Nat) : List Int := (List.range n).map fun i : Nat => lo + (i : Int)
theorem rng_len (lo : Int) (n : Nat) : (rng lo n).length = n := by unfold rng; rw [List.length_map, List.length_range]
theorem rng_at {lo : Int} {n i : Nat} (h : i < n) : (rng lo n)[i]? = some (lo + (i : Int)) := by
  unfold rng
  rw [List.getElem?_map, List.getElem?_range h]
  rfl
theorem vals_get : ∀ (zs : List Int) (us : List Value), us.length = zs.length → (∀ (i : Nat) (z : Int) (u : Value), zs[i]? = some z → us[i]? = some u → ∃ t, u = .int z t) → Vals (intV zs) us
  | [], [], _, _ => .nil
  | z :: zs, u :: us, hl, h => .cons (h 0 z u rfl rfl) (vals_get zs us (by simpa using hl) fun i z u h1 h2 => h (i + 1) z u h1 h2)
  | [], _ :: _, hl, _ => by simp at hl
  | _ :: _, [], hl, _ => by simp at hl
theorem items_vals {lo : Int} {n : Nat} {acc : Array Value} (h : ItemsOf (fun i v => ∃ t, v = Value.int (lo + ↑i * 1) t) acc n) : Vals (intV (rng lo n)) acc.toList := by
  refine vals_get _ _ ?_ fun i z u h1 h2 => ?_
  · rw [rng_len, Array.length_toList]
    exact h.1
  · have hi : i < n := by
      have := (List.getElem?_eq_some_iff.mp h1).1
      rw [rng_len] at this
      exact this
    rw [rng_at hi] at h1
    obtain ⟨t, e⟩ := h.2 i u (by rw [← Array.getElem?_toList]; exact h2)
    exact ⟨t, by rw [e, ← Option.some.inj h1, Int.mul_one]⟩
section
variable {X : Cx} {a b : Expr} {ta : TA} {p p2 pos pos2 : Pos}
def tLR1 (ta : TA) : TE := fun σ H Q => ta σ H fun vs H1 => ∃ j : Nat, vs = [.int j] ∧ j ≤ 10000 ∧ ∀ l, H1 l = none → Q (.ref l) (upd H1 l (.lst (intV (rng 0 j))))
theorem list_range {pins : List (Addr × Obj)} {σ : St} {H : Hp} {s : Shared} {Q : VK} {lo hi : Int} {t u v : Tok} {tk : Nat} (hc : X.calm = true) (I : Inv X pins σ H s) (h1 : 0 ≤ lo) (h2 : lo ≤ 10000) (h3 : 0 ≤ hi) (h4 : hi ≤ 10000)
    (q : ∀ l, H l = none → Q (.ref l) (upd H l (.lst (intV (rng lo (hi - lo).toNat))))) : wpAny (model X.prog X.w) X.A (call (.type "list") [.ref s.heap.objs.size]) (EP X pins σ Q) X.xe { s with heap := s.heap.push { cls := .type "range", data := .fields #[.int lo t, .int hi u, .int 1 v] }, toks := tk } := by
  have I1 : Inv X pins σ H { s with heap := s.heap.push { cls := .type "range", data := .fields #[.int lo t, .int hi u, .int 1 v] }, toks := tk } := I.kept fun b o e => Heap.get?_push_of_some _ e
  have hsz : Builtin.Range.rangeSize lo hi 1 = (((hi - lo).toNat : Nat) : Int) := by rw [rangeSize_one]; split <;> omega
  refine call_list_range (n := (hi - lo).toNat) (I.ok.hd hc) (IsRange.new ..) (small_one (by omega) (by omega) (by omega) (by omega)) hsz (by omega) fun h' tk' acc' c' kp hg hit => ?_
  refine ⟨.ref _, _, I1.laid (t' := tk') (o := .lst (intV (rng lo (hi - lo).toNat))) kp (Nat.le_refl _) ⟨?_, acc'.toList, c', items_vals hit, ?_⟩, rfl, q _ (I1.hok.fresh (Nat.le_refl _))⟩
  · rw [ints_len, rng_len]
    exact Nat.le_trans (show (hi - lo).toNat ≤ 10000 by omega) (by decide)
  · rw [Array.toArray_toList]
    exact hg
theorem pe_listRange1 (hc : X.calm = true) (hgl : Gl X "list") (hml : X.mg "list" = none) (hg : Gl X "range") (hm : X.mg "range" = none) (ha : PA X [a] ta) (hs : starEach [a] X.env = [(false, eval a X.env)] := by rfl)
    (hs2 : starEach [.Call (.Name "range" p) [a] [] pos] X.env = [(false, eval (.Call (.Name "range" p) [a] [] pos) X.env)] := by rfl) : PE X (.Call (.Name "list" p2) [.Call (.Name "range" p) [a] [] pos] [] pos2) (tLR1 ta) := by
  intro pins s σ H Q I h
  refine wpAny_Call_Name_kw (ld_blt I hgl hml boot_list ?_)
  refine PyProof.Rows.callWith_type1 ?_ hs2 rfl
  rw [hs2]
  show wpAny _ _ (spliced ((false, eval (.Call (.Name "range" p) [a] [] pos) X.env) :: backTo pos2 [])) _ _ s
  refine Calls.spliced_cons ?_
  refine Call_ (ld_blt I hg hm boot_range (PyProof.Rows.callWith_type1 (thn (ha pos pins s σ H _ I h) fun us s1 ⟨vs, H1, I1, r1, q1⟩ => ?_) hs rfl))
  obtain ⟨j, e, hj, q⟩ := q1
  subst e
  cases r1 with
  | cons r rr =>
    cases rr
    obtain ⟨t, rfl⟩ := r
    refine call_range_1 (Calls.spliced_nil ?_)
    exact list_range hc I1 (by omega) (by omega) (by omega) (by omega) (by simpa using q)
end
end L2
set_option Elab.async false
set_option linter.all false
set_option maxRecDepth 100000
set_option maxHeartbeats 4000000
namespace L2
open PySem PySem.Spec PyProof.Rows
def RowsAt (H : Hp) (rs : List Addr) (rows : List (List Int)) : Prop := rs.length = rows.length ∧ ∀ (i : Nat) (r : Addr) (ns : List Int), rs[i]? = some r → rows[i]? = some ns → H r = some (.lst (intV ns))
def TabAt (H : Hp) (a : Addr) (rows : List (List Int)) : Prop := ∃ rs : List Addr, H a = some (.lst (rs.map V.ref)) ∧ RowsAt H rs rows
theorem RowsAt.same {H H' : Hp} {rs : List Addr} {rows : List (List Int)} (h : RowsAt H rs rows) (s : Same H H') : RowsAt H' rs rows := ⟨h.1, fun i r ns h1 h2 => s _ _ (h.2 i r ns h1 h2)⟩
theorem TabAt.same {H H' : Hp} {a : Addr} {rows : List (List Int)} (h : TabAt H a rows) (s : Same H H') : TabAt H' a rows := by
  obtain ⟨rs, h1, h2⟩ := h
  exact ⟨rs, s _ _ h1, h2.same s⟩
theorem vals_refs {rs : List Addr} : ∀ {us : List Value}, Vals (rs.map V.ref) us → us = rs.map Value.ref := by
  induction rs with
  | nil => intro us r; cases r; rfl
  | cons c rs ih =>
    intro us r
    cases r with
    | cons r0 r1 => cases r0; rw [ih r1]; rfl
theorem all_eqG {α : Type} [DecidableEq α] {ns ms : List α} (h : ns.length = ms.length) : (List.range ns.length).all (fun j => decide (ns[j]? = ms[j]?)) = decide (ns = ms) := by
  rw [Bool.eq_iff_iff, List.all_eq_true, decide_eq_true_iff]
  constructor
  · intro h1
    refine List.ext_getElem? fun i => ?_
    by_cases hi : i < ns.length
    · exact of_decide_eq_true (h1 i (List.mem_range.mpr hi))
    · rw [List.getElem?_eq_none (by omega), List.getElem?_eq_none (by omega)]
  · rintro rfl j _
    exact decide_eq_true rfl
section
variable {X : Cx} {pins : List (Addr × Obj)} {σ : St} {H : Hp} {s : Shared} {A : Around}
theorem rc_ints (I : Inv X pins σ H s) {r q : Addr} {ns ms : List Int} (hr : H r = some (.lst (intV ns))) (hq : H q = some (.lst (intV ms))) (hu : A.units < cLine) : SeqAt.RcAt A s (.ref r) (.ref q) (decide (ns = ms)) := by
  obtain ⟨its, r1, p1, _⟩ := I.list (SqL.of hr)
  obtain ⟨its2, r2, p2, _⟩ := I.list (SqL.of hq)
  have l1 := r1.length
  have l2 := r2.length
  rw [ints_len] at l1 l2
  by_cases hl : ns.length = ms.length
  · have := SeqAt.RcAt.lists (A := A) (e := fun j => decide (ns[j]? = ms[j]?)) p1.isList p2.isList (by rw [List.size_toArray, List.size_toArray]; omega) hu (fun j h1 h2 => eqItems r1 r2 j h1 h2)
    rw [List.size_toArray, ← l1, all_eqG hl] at this
    exact this
  · have e : decide (ns = ms) = false := decide_eq_false (fun z => hl (by rw [z]))
    rw [e]
    refine SeqAt.RcAt.lists_lengths p1.isList p2.isList ?_ hu
    rw [List.size_toArray, List.size_toArray]
    simp
    omega
theorem eq_ints (I : Inv X pins σ H s) {r q : Addr} {ns ms : List Int} (hr : H r = some (.lst (intV ns))) (hq : H q = some (.lst (intV ms))) (hu : A.units < cLine) : SeqAt.EqAt A s (.ref r) (.ref q) (decide (ns = ms)) := by
  by_cases e : r = q
  · subst e
    have : ns = ms := by
      rw [hr] at hq
      injection hq with hq
      injection hq with hq
      unfold intV at hq
      exact (List.map_inj_right (fun a b z => V.int.inj z)).mp hq
    rw [decide_eq_true this]
    exact SeqAt.EqAt.same _
  · exact SeqAt.EqAt.of_refs e (rc_ints I hr hq hu)
theorem rows_items (I : Inv X pins σ H s) {rs qs : List Addr} {ns ms : List (List Int)} (hr : RowsAt H rs ns) (hq : RowsAt H qs ms) (hu : A.units < cLine) (j : Nat) (h1 : j < (rs.map Value.ref).toArray.size) (h2 : j < (qs.map Value.ref).toArray.size) :
    SeqAt.EqAt A s (rs.map Value.ref).toArray[j] (qs.map Value.ref).toArray[j] (decide (ns[j]? = ms[j]?)) := by
  have g1 : j < rs.length := by simpa using h1
  have g2 : j < qs.length := by simpa using h2
  have k1 : j < ns.length := by rw [← hr.1]; exact g1
  have k2 : j < ms.length := by rw [← hq.1]; exact g2
  have e1 : (rs.map Value.ref).toArray[j] = .ref rs[j] := by simp
  have e2 : (qs.map Value.ref).toArray[j] = .ref qs[j] := by simp
  rw [e1, e2]
  have a1 := hr.2 j rs[j] ns[j] (List.getElem?_eq_getElem g1) (List.getElem?_eq_getElem k1)
  have a2 := hq.2 j qs[j] ms[j] (List.getElem?_eq_getElem g2) (List.getElem?_eq_getElem k2)
  have := eq_ints (A := A) I a1 a2 hu
  rw [List.getElem?_eq_getElem k1, List.getElem?_eq_getElem k2]
  have ed : decide (some ns[j] = some ms[j]) = decide (ns[j] = ms[j]) := by
    rw [Bool.eq_iff_iff, decide_eq_true_iff, decide_eq_true_iff]
    exact ⟨Option.some.inj, congrArg some⟩
  rw [ed]
  exact this
end
section
variable {X : Cx}
theorem ix_tupK {K : PySem.W.Frag} (h : X.K = K) : IxR X (rIxT K) := by subst h; exact ix_tup
theorem call_list_ofK {K : PySem.W.Frag} (h : X.K = K) : CallR X (.type "list") (fun xs H Q => ∃ p ys, xs = [.ref p] ∧ (SqL K H p ys ∨ SqT K H p ys) ∧ ∀ l, H l = none → Q (.ref l) (upd H l (.lst ys))) := by subst h; exact call_list_of
theorem compScope2 {x y z : Str} {scope : Scope} {c d : Addr} {i j : Nat} (hclos : closureFor scope X.env = pure [(y, c), (z, d)]) (hy : X.env.cells.lookup y = some c) (hz : X.env.cells.lookup z = some d) (hc : ∀ q ∈ scope.names, q.2 ≠ .cell) (hk : scope.kind = .function)
    (hn : ∀ q ∈ scope.names, q.2 = .local → scope.names.lookup q.1 = some .local) (hx : scope.names.lookup x = some .local) (hfree : ∀ q ∈ scope.names, q.2 = .free → q.1 = y ∨ q.1 = z) (hxy : x ≠ y ∧ x ≠ z ∧ y ≠ z) (hi : X.N[i]? = some y) (hj : X.N[j]? = some z)
    (hky : X.env.kindOf y = some .cell) (hkz : X.env.kindOf z = some .cell) (hkf : X.env.scope.kind = .function) (hys : scope.names.lookup y = some .free) (hzs : scope.names.lookup z = some .free) : CompScope X x [y, z] [i, j] scope [(y, c), (z, d)] where
  clos := hclos
  sub := fun w e h => by
    by_cases e1 : w = y
    · subst e1
      have : c = e := by simpa [List.lookup_cons] using h
      rw [← this]
      exact hy
    · have hb : (w == y) = false := beq_eq_false_iff_ne.mpr e1
      by_cases e2 : w = z
      · subst e2
        have : d = e := by simpa [List.lookup_cons, hb] using h
        rw [← this]
        exact hz
      · have hb2 : (w == z) = false := beq_eq_false_iff_ne.mpr e2
        simp [List.lookup_cons, hb, hb2] at h
  cell := hc
  kind := hk
  names := hn
  own := hx
  has := fun w h => by
    have e : w = y ∨ w = z := by
      rcases h with h | h
      · exact hfree _ (relabel_mem h (.inl rfl) hc) rfl
      · exact hfree _ (relabel_mem h (.inr rfl) hc) rfl
    rcases e with rfl | rfl
    · exact ⟨c, by simp [List.lookup_cons]⟩
    · have hb : (w == y) = false := beq_eq_false_iff_ne.mpr (fun q => hxy.2.2 q.symm)
      exact ⟨d, by simp [List.lookup_cons, hb]⟩
  nd := by simp [hxy.1, hxy.2.1, hxy.2.2]
  len := rfl
  at_ := fun k w h => by
    match k, h with
    | 0, h =>
      have e : y = w := by simpa using h
      subst e
      exact ⟨i, rfl, hi, .inl hky, c, by simp [List.lookup_cons], .inl (lookup_relabel_free hkf hky hys)⟩
    | 1, h =>
      have e : z = w := by simpa using h
      subst e
      have hb : (z == y) = false := beq_eq_false_iff_ne.mpr (fun q => hxy.2.2 q.symm)
      exact ⟨j, rfl, hj, .inl hkz, d, by simp [List.lookup_cons, hb], .inl (lookup_relabel_free hkf hkz hzs)⟩
    | k + 2, h => simp at h
end
end L2
set_option Elab.async false
set_option linter.all false
set_option maxRecDepth 100000
set_option maxHeartbeats 4000000
namespace L2
open PySem PySem.Spec PyProof.Rows
def TupsAt (H : Hp) (ps : List Addr) (ws : List (List Int)) : Prop := ps.length = ws.length ∧ ∀ (i : Nat) (p : Addr) (w : List Int), ps[i]? = some p → ws[i]? = some w → H p = some (.tup (intV w))
def WordsAt (H : Hp) (a : Addr) (ws : List (List Int)) : Prop := ∃ ps : List Addr, H a = some (.lst (ps.map V.ref)) ∧ TupsAt H ps ws
theorem TupsAt.keep {H H' : Hp} {ps : List Addr} {ws : List (List Int)} (h : TupsAt H ps ws) (s : ∀ p xs, H p = some (.tup xs) → H' p = some (.tup xs)) : TupsAt H' ps ws := ⟨h.1, fun i p w h1 h2 => s _ _ (h.2 i p w h1 h2)⟩
theorem TupsAt.same {H H' : Hp} {ps : List Addr} {ws : List (List Int)} (h : TupsAt H ps ws) (s : Same H H') : TupsAt H' ps ws := h.keep fun p xs e => s _ _ e
theorem WordsAt.same {H H' : Hp} {a : Addr} {ws : List (List Int)} (h : WordsAt H a ws) (s : Same H H') : WordsAt H' a ws := by
  obtain ⟨ps, h1, h2⟩ := h
  exact ⟨ps, s _ _ h1, h2.same s⟩
theorem TupsAt.snoc {H : Hp} {ps : List Addr} {ws : List (List Int)} {p : Addr} {w : List Int} (h : TupsAt H ps ws) (hp : H p = some (.tup (intV w))) : TupsAt H (ps ++ [p]) (ws ++ [w]) := by
  refine ⟨by rw [List.length_append, List.length_append, h.1]; rfl, fun i q u h1 h2 => ?_⟩
  by_cases hi : i < ps.length
  · rw [List.getElem?_append_left hi] at h1
    rw [List.getElem?_append_left (by rw [← h.1]; exact hi)] at h2
    exact h.2 i q u h1 h2
  · rw [List.getElem?_append_right (by omega)] at h1
    rw [List.getElem?_append_right (by rw [← h.1]; omega)] at h2
    rw [List.mem_singleton.mp (List.mem_of_getElem? h1), List.mem_singleton.mp (List.mem_of_getElem? h2)]
    exact hp
section
variable {X : Cx} {pins : List (Addr × Obj)} {σ : St} {H : Hp} {s : Shared} {A : Around}
theorem eq_tups (I : Inv X pins σ H s) {r q : Addr} {ns ms : List Int} (hr : H r = some (.tup (intV ns))) (hq : H q = some (.tup (intV ms))) (hu : A.units < cLine) : SeqAt.EqAt A s (.ref r) (.ref q) (decide (ns = ms)) := by
  by_cases e : r = q
  · subst e
    have : ns = ms := by
      rw [hr] at hq
      injection hq with hq
      injection hq with hq
      unfold intV at hq
      exact (List.map_inj_right (fun a b z => V.int.inj z)).mp hq
    rw [decide_eq_true this]
    exact SeqAt.EqAt.same _
  · refine SeqAt.EqAt.of_refs e ?_
    obtain ⟨its, r1, p1, _⟩ := I.tuple (SqT.of hr)
    obtain ⟨its2, r2, p2, _⟩ := I.tuple (SqT.of hq)
    have l1 := r1.length
    have l2 := r2.length
    rw [ints_len] at l1 l2
    have := SeqAt.RcAt.tuples (A := A) (e := fun j => decide (ns[j]? = ms[j]?)) (show s.heap.IsTuple r its.toArray from p1) (show s.heap.IsTuple q its2.toArray from p2) hu (fun j h1 h2 => eqItems r1 r2 j h1 h2)
    rw [List.size_toArray, List.size_toArray, ← l1, ← l2, all_eq] at this
    exact this
theorem tups_items (I : Inv X pins σ H s) {rs qs : List Addr} {ns ms : List (List Int)} (hr : TupsAt H rs ns) (hq : TupsAt H qs ms) (hu : A.units < cLine) (j : Nat) (h1 : j < (rs.map Value.ref).toArray.size) (h2 : j < (qs.map Value.ref).toArray.size) :
    SeqAt.EqAt A s (rs.map Value.ref).toArray[j] (qs.map Value.ref).toArray[j] (decide (ns[j]? = ms[j]?)) := by
  have g1 : j < rs.length := by simpa using h1
  have g2 : j < qs.length := by simpa using h2
  have k1 : j < ns.length := by rw [← hr.1]; exact g1
  have k2 : j < ms.length := by rw [← hq.1]; exact g2
  have e1 : (rs.map Value.ref).toArray[j] = .ref rs[j] := by simp
  have e2 : (qs.map Value.ref).toArray[j] = .ref qs[j] := by simp
  rw [e1, e2]
  have a1 := hr.2 j rs[j] ns[j] (List.getElem?_eq_getElem g1) (List.getElem?_eq_getElem k1)
  have a2 := hq.2 j qs[j] ms[j] (List.getElem?_eq_getElem g2) (List.getElem?_eq_getElem k2)
  have := eq_tups (A := A) I a1 a2 hu
  rw [List.getElem?_eq_getElem k1, List.getElem?_eq_getElem k2]
  have ed : decide (some ns[j] = some ms[j]) = decide (ns[j] = ms[j]) := by
    rw [Bool.eq_iff_iff, decide_eq_true_iff, decide_eq_true_iff]
    exact ⟨Option.some.inj, congrArg some⟩
  rw [ed]
  exact this
end
section
variable {X : Cx}
end
end L2
set_option Elab.async false
set_option linter.all false
set_option maxRecDepth 100000
set_option maxHeartbeats 4000000
namespace L2
open PySem PySem.Spec PyProof.Rows
section
variable {X : Cx}
def isInt (k : Int) : Value → Bool
  | .int z _ => z == k
  | _ => false
end
end L2
set_option Elab.async false
set_option linter.all false
set_option maxRecDepth 100000
set_option maxHeartbeats 4000000
namespace L2
open PySem PySem.Spec PyProof.Rows
section
variable {X : Cx} {tg : Expr}
end
end L2
set_option Elab.async false
set_option linter.all false
set_option maxRecDepth 100000
set_option maxHeartbeats 4000000
namespace L2
open PySem PySem.Spec PyProof.Rows
section
variable {X : Cx}
end
end L2
set_option Elab.async false
set_option linter.all false
set_option maxRecDepth 100000
set_option maxHeartbeats 4000000
namespace L2
open PySem PySem.Spec PyProof.Rows
section
variable {X : Cx}
end
end L2
set_option Elab.async false
set_option linter.all false
set_option maxRecDepth 100000
set_option maxHeartbeats 4000000
namespace L2
open PySem PySem.Spec PyProof.Rows
namespace En
section
variable {prog : Program} {w : World} {A : Around} {E : Value → Shared → Prop} {s : Shared}
end
end En
end L2
set_option Elab.async false
set_option linter.all false
set_option maxRecDepth 100000
set_option maxHeartbeats 4000000
namespace L2
open PySem PySem.Spec PyProof.Rows
namespace En
open AutoSeq1 (wpAny_loadPart')
section
variable {prog : Program} {w : World} {A : Around} {E : Value → Shared → Prop} {s : Shared}
end
end En
section
variable {X : Cx}
end
end L2
set_option Elab.async false
set_option linter.all false
set_option maxRecDepth 100000
set_option maxHeartbeats 4000000
namespace L2
open PySem PySem.Spec PyProof.Rows
namespace En
open AutoSeq1 (wpAny_loadPart')
section
variable {prog : Program} {w : World} {A : Around} {E : Value → Shared → Prop} {s : Shared}
end
end En
section
variable {X : Cx}
end
end L2
set_option Elab.async false
set_option linter.all false
set_option maxRecDepth 100000
set_option maxHeartbeats 4000000
namespace L2
open PySem PySem.Spec PyProof.Rows
def isTup (H : Hp) (ns : List Int) : Value → Bool
  | .ref p => match H p with
    | some (.tup xs) => decide (xs = intV ns)
    | _ => false
  | _ => false
theorem ints_inj {ns ms : List Int} (h : intV ns = intV ms) : ns = ms := by
  unfold intV at h
  exact (List.map_inj_right (fun a b z => V.int.inj z)).mp h
theorem isTup_ref {H : Hp} {p : Addr} {ns ms : List Int} (h : H p = some (.tup (intV ms))) : isTup H ns (.ref p) = decide (ms = ns) := by
  unfold isTup
  simp only [h]
  rw [Bool.eq_iff_iff, decide_eq_true_iff, decide_eq_true_iff]
  exact ⟨ints_inj, fun z => by rw [z]⟩
theorem words_eqAt {X : Cx} {pins : List (Addr × Obj)} {σ : St} {H : Hp} {s : Shared} {A : Around} (I : Inv X pins σ H s) {ps : List Addr} {ms : List (List Int)} {t : Addr} {ns : List Int} (hp : TupsAt H ps ms) (ht : H t = some (.tup (intV ns))) (hu : A.units < cLine) : ∀ y, y ∈ (ps.map Value.ref).toArray → SeqAt.EqAt A s y (.ref t) (isTup H ns y) := fun y hy => by
  obtain ⟨p, hpm, rfl⟩ := List.mem_map.mp (List.mem_toArray.mp hy)
  obtain ⟨i, hi⟩ := List.getElem?_of_mem hpm
  have hil := (List.getElem?_eq_some_iff.mp hi).1
  have hm : ms[i]? = some (ms[i]'(by rw [← hp.1]; exact hil)) := List.getElem?_eq_getElem (by rw [← hp.1]; exact hil)
  have h1 := hp.2 i p _ hi hm
  rw [isTup_ref h1]
  exact eq_tups I h1 ht hu
theorem words_any {H : Hp} {ps : List Addr} {ms : List (List Int)} {ns : List Int} (hp : TupsAt H ps ms) : (ps.map Value.ref).toArray.any (isTup H ns) = decide (ns ∈ ms) := by
  rw [List.any_toArray, Bool.eq_iff_iff, List.any_eq_true, decide_eq_true_iff]
  constructor
  · rintro ⟨y, hy, e⟩
    obtain ⟨p, hpm, rfl⟩ := List.mem_map.mp hy
    obtain ⟨i, hi⟩ := List.getElem?_of_mem hpm
    have hil := (List.getElem?_eq_some_iff.mp hi).1
    have hm : ms[i]? = some (ms[i]'(by rw [← hp.1]; exact hil)) := List.getElem?_eq_getElem (by rw [← hp.1]; exact hil)
    rw [isTup_ref (hp.2 i p _ hi hm), decide_eq_true_iff] at e
    rw [← e]
    exact List.mem_of_getElem? hm
  · intro h
    obtain ⟨i, hi⟩ := List.getElem?_of_mem h
    have hil := (List.getElem?_eq_some_iff.mp hi).1
    have hq : ps[i]? = some (ps[i]'(by rw [hp.1]; exact hil)) := List.getElem?_eq_getElem (by rw [hp.1]; exact hil)
    refine ⟨.ref _, List.mem_map.mpr ⟨_, List.mem_of_getElem? hq, rfl⟩, ?_⟩
    rw [isTup_ref (hp.2 i _ _ hq hi)]
    exact decide_eq_true rfl
section
variable {X : Cx}
def rNotInLT : R2 := fun x y H Q => ∃ t a ns ms, x = .ref t ∧ y = .ref a ∧ H t = some (.tup (intV ns)) ∧ WordsAt H a ms ∧ Q (.bl (!decide (ns ∈ ms))) H
theorem op_NOTIN_lt (hu : X.A.units + 1 < cLine) : OpR X (compareOp .NotIn) rNotInLT := by
  intro pins s σ H x y v u Q I rx ry h
  obtain ⟨t, a, ns, ms, rfl, rfl, ht, ⟨ps, ha, hp⟩, q⟩ := h
  cases rx
  cases ry
  obtain ⟨its, r, p, _⟩ := I.list (SqL.of ha)
  have e1 := vals_refs r
  subst e1
  refine SeqAt.notIn_listAt (isTup H ns) p.isList (words_eqAt I hp ht hu) ?_
  rw [words_any hp]
  exact ⟨.bl _, H, I, rfl, q⟩
theorem first_ofT {l : List (List Int)} {c : List Int} (h : c ∈ l) : ∃ i : Nat, l[i]? = some c ∧ ∀ j, j < i → l[j]? ≠ some c := by
  induction l with
  | nil => cases h
  | cons a l ih =>
    by_cases e : a = c
    · exact ⟨0, by rw [e]; rfl, fun j hj => by omega⟩
    · obtain ⟨i, h1, h2⟩ := ih ((List.mem_cons.mp h).resolve_left (Ne.symm e))
      refine ⟨i + 1, h1, fun j hj => ?_⟩
      cases j with
      | zero => exact fun z => e (Option.some.inj z)
      | succ j => exact h2 j (by omega)
def rIndexLT : V → List V → Hp → VK → Prop := fun x vs H Q => ∃ (a t : Addr) (ms : List (List Int)) (ns : List Int), x = .ref a ∧ vs = [.ref t] ∧ H t = some (.tup (intV ns)) ∧ WordsAt H a ms ∧ ns ∈ ms ∧ ∀ i : Nat, ms[i]? = some ns → (∀ j, j < i → ms[j]? ≠ some ns) → Q (.int i) H
theorem mt_index_lt (hu : X.A.units + 1 < cLine) : MtM X "list.index" rIndexLT := by
  intro pins s σ H x vs v us Q I rx rv h
  obtain ⟨a, t, ms, ns, rfl, rfl, ht, ⟨ps, ha, hp⟩, hm, q⟩ := h
  cases rx
  obtain ⟨u, rfl, ru⟩ := rv.one
  cases ru
  obtain ⟨z, its, n, r, hl, e⟩ := I.lstM ha
  have e1 := vals_refs r
  subst e1
  rw [List.length_map] at z
  obtain ⟨i, h1, h2⟩ := first_ofT hm
  have hi : i < ms.length := (List.getElem?_eq_some_iff.mp h1).1
  have hpl := hp.1
  have at_ : ∀ (m : Nat) (hm : m < (ps.map Value.ref).toArray.size), isTup H ns (ps.map Value.ref).toArray[m] = decide (ms[m]? = some ns) := fun m hm => by
    have hm' : m < ps.length := by simpa using hm
    have g1 : ps[m]? = some ps[m] := List.getElem?_eq_getElem hm'
    have g2 : ms[m]? = some (ms[m]'(by omega)) := List.getElem?_eq_getElem (by omega)
    have f1 : (ps.map Value.ref).toArray[m] = Value.ref ps[m] := by simp
    rw [f1, isTup_ref (hp.2 m _ _ g1 g2), g2, Bool.eq_iff_iff, decide_eq_true_iff, decide_eq_true_iff]
    exact ⟨fun z => by rw [z], fun z => Option.some.inj z⟩
  have hsz : (sizeLine : Nat) < 2 ^ 62 := by decide
  refine call_meets F.slot_list_index ⟨_, e, rfl⟩ F.entry_list_index (F.args_list_index_2 _ _)
    (SeqAt.list_indexAt a (ps.map Value.ref).toArray n none #[] (.ref t) (isTup H ns) i (by simp; omega) (by omega) (by rw [at_]; exact decide_eq_true h1) (fun m hm hlt => by rw [at_]; exact decide_eq_false (h2 m hlt))) ⟨e, words_eqAt I hp ht ?_, ?_⟩
  · exact hu
  · exact ⟨.int i, H, I.tok _, ⟨_, rfl⟩, q i h1 h2⟩
end
section
variable {X : Cx} {tg : Expr}
end
section
variable {X : Cx} {pins : List (Addr × Obj)} {σ : St} {H : Hp} {s : Shared} {A : Around}
theorem all_true (n : Nat) (f : Nat → Bool) (h : ∀ j, f j = true) : (List.range n).all f = true := List.all_eq_true.mpr fun j _ => h j
theorem eq_tabs (I : Inv X pins σ H s) {r q : Addr} {ns : List (List Int)} (hr : TabAt H r ns) (hq : TabAt H q ns) (hu : A.units + 1 < cLine) : SeqAt.EqAt A s (.ref r) (.ref q) true := by
  by_cases e : r = q
  · subst e
    exact SeqAt.EqAt.same _
  · refine SeqAt.EqAt.of_refs e ?_
    obtain ⟨rs, ha, hra⟩ := hr
    obtain ⟨qs, hb, hrb⟩ := hq
    obtain ⟨its, r1, p1, _⟩ := I.list (SqL.of ha)
    obtain ⟨its2, r2, p2, _⟩ := I.list (SqL.of hb)
    have e1 := vals_refs r1
    have e2 := vals_refs r2
    subst e1 e2
    have := SeqAt.RcAt.lists (A := A) (e := fun j => decide (ns[j]? = ns[j]?)) p1.isList p2.isList (by simp [hra.1, hrb.1]) (by omega) (fun j h1 h2 => rows_items I hra hrb hu j h1 h2)
    rw [all_true _ _ fun j => decide_eq_true rfl] at this
    exact this
theorem eq_words (I : Inv X pins σ H s) {r q : Addr} {ns : List (List Int)} (hr : WordsAt H r ns) (hq : WordsAt H q ns) (hu : A.units + 1 < cLine) : SeqAt.EqAt A s (.ref r) (.ref q) true := by
  by_cases e : r = q
  · subst e
    exact SeqAt.EqAt.same _
  · refine SeqAt.EqAt.of_refs e ?_
    obtain ⟨rs, ha, hra⟩ := hr
    obtain ⟨qs, hb, hrb⟩ := hq
    obtain ⟨its, r1, p1, _⟩ := I.list (SqL.of ha)
    obtain ⟨its2, r2, p2, _⟩ := I.list (SqL.of hb)
    have e1 := vals_refs r1
    have e2 := vals_refs r2
    subst e1 e2
    have := SeqAt.RcAt.lists (A := A) (e := fun j => decide (ns[j]? = ns[j]?)) p1.isList p2.isList (by simp [hra.1, hrb.1]) (by omega) (fun j h1 h2 => tups_items I hra hrb hu j h1 h2)
    rw [all_true _ _ fun j => decide_eq_true rfl] at this
    exact this
end
section
variable {X : Cx}
end
end L2
set_option Elab.async false
set_option linter.all false
set_option maxRecDepth 100000
set_option maxHeartbeats 4000000
namespace L2
open PySem PySem.Spec PyProof.Rows
def RawD (h : Heap) (d : Addr) (es : Array DictEntry) (ep : Nat) : Prop := ∃ o, h.get? d = some o ∧ o.ExactDict ∧ o.data = .dict es ep
namespace Dk
section
variable {prog : Program} {w : World} {A : Around} {E : Value → Shared → Prop} {s : Shared} {d : Addr} {es : Array DictEntry} {ep : Nat}
theorem typ (hm : RawD s.heap d es ep) : s.TypeIs (.ref d) "dict" := let ⟨o, ho, hc, _⟩ := hm; ⟨o, ho, hc.1⟩
theorem iter {Q : Value → Shared → Prop} (hd : (d == sysModules) = false) (hm : RawD s.heap d es ep)
    (hQ : Q (.ref s.heap.objs.size) { s with heap := s.heap.push { cls := .type "dict_keyiterator", data := .fields #[.ref d, .int 0 0, .int es.size 0, .int ep 0] } }) : wpAny (model prog w) A (pyIter (.ref d)) Q E s := by
  have hT := typ hm
  obtain ⟨o, ho, hc, hdat⟩ := hm
  refine wpAny_pyIter_slot hT F.slot_dict_iter (wpAny_call_entry F.slot_dict_iter hT F.entry_dict_iter ?_ (F.args_dict_iter_1 _))
  unfold Builtin.«dict.__iter__»
  refine wpAny_bind ?_
  unfold Builtin.Dict.dictSlotNone
  refine wpAny_bind (wpAny_notOrdered_dict hT ?_)
  show wpAny _ _ (pure (Value.ref d)) _ _ s
  refine wpAny_pure ?_
  show wpAny _ _ (Builtin.Dict.showsAll d >>= _) _ _ s
  unfold Builtin.Dict.showsAll
  rw [if_neg (by rw [hd]; exact Bool.false_ne_true)]
  refine wpAny_bind (wpAny_pure (wpAny_bind (wpAny_dictEntries ho hdat (wpAny_bind (wpAny_dictEpoch ho hdat ?_)))))
  exact wpAny_bind (wpAny_newObj_type (wpAny_pure ⟨_, rfl, "dict_keyiterator", _, ⟨_, Heap.get?_push_size _ rfl, rfl⟩, F.slot_dict_keyiterator_next.lookup, by simpa [rawInt] using hQ⟩))
theorem item {it : Addr} {i : Nat} {en : DictEntry} {Q : Option Value → Shared → Prop} (hit : s.heap.IsKeyIter it d i es.size ep) (hm : RawD s.heap d es ep) (hx : es[i]? = some en)
    (hQ : ∀ g1, g1.IsKeyIter it d (i + 1) es.size ep → Heap.SameBut it s.heap g1 → Q (some en.key) { s with heap := g1 }) : wpAny (model prog w) A (pyNext (.ref it)) Q E s := by
  obtain ⟨o, ho, hc, hd⟩ := id hit
  obtain ⟨od, hod, hcd, hdd⟩ := id hm
  unfold pyNext
  refine wpAny_bind (wpAny_attempt (wpAny_callSpecial?_slot (name := Str.ofString "__next__") hit.typeIs F.slot_dict_keyiterator_next (wpAny_call_entry F.slot_dict_keyiterator_next hit.typeIs F.entry_dict_keyiterator_next ?_ (F.args_dict_keyiterator_next_1 _))))
  refine wpAny_bind (wpAny_pure (wpAny_bind (wpAny_bind ?_)))
  first | refine wpAny_bind (wpAny_typeNameOfWhole_keyiter hit.typeIs (wpAny_pure ?_)) | refine wpAny_bind (wpAny_typeNameOf_keyiter hit.typeIs (wpAny_pure ?_))
  refine wpAny_bind (wpAny_fieldsOf ho hd ?_)
  have own : Builtin.Dict_items.ownsTuple "dict_keyiterator" = false := by decide
  simp only [own, Bool.false_eq_true, if_false]
  show wpAny _ _ (if (Value.ref d == Value.none) = true then _ else _) _ _ s
  rw [if_neg (show ¬ ((Value.ref d == Value.none) = true) from Bool.false_ne_true)]
  refine wpAny_bind (wpAny_pure (wpAny_bind (wpAny_dictEntries hod hdd ?_)))
  rw [if_neg (by simp)]
  refine wpAny_bind (wpAny_pure (wpAny_bind (wpAny_dictEpoch hod hdd ?_)))
  rw [if_neg (by simp)]
  refine wpAny_pure ?_
  simp only [show ¬ ((i : Int) < 0) from by omega, if_false, Int.toNat_natCast, hx]
  refine wpAny_bind ?_
  first | refine wpAny_bind (wpAny_typeNameOfWhole_keyiter hit.typeIs (wpAny_pure ?_)) | refine wpAny_bind (wpAny_typeNameOf_keyiter hit.typeIs (wpAny_pure ?_))
  refine wpAny_bind (wpAny_isOneOf_keyiter hit.typeIs ?_)
  show wpAny _ _ (setField (.ref it) 1 (rawInt ((i : Int) + 1)) >>= _) _ _ s
  refine wpAny_bind (wpAny_setField ho hd (by simp) ?_)
  have j1 : (s.heap.update it (Obj.mapFields (·.setIfInBounds 1 (rawInt ((i : Int) + 1))))).IsKeyIter it d (i + 1) es.size ep :=
    ⟨_, Heap.get?_update_self _ ho (Obj.isFreed_of_fields (Obj.data_mapFields hd _)), (Obj.cls_mapFields ..).trans hc, by rw [Obj.data_mapFields hd]; simp [rawInt]⟩
  refine wpAny_bind (wpAny_holding ?_)
  refine wpAny_bind (wpAny_isOneOf_keyiter (s := { s with heap := s.heap.update it (Obj.mapFields (·.setIfInBounds 1 (rawInt ((i : Int) + 1)))) }) j1.typeIs ?_)
  show wpAny _ _ (pure en.key) _ _ _
  exact wpAny_pure (wpAny_pure ⟨_, rfl, wpAny_pure (hQ _ j1 (Heap.SameBut.update ..))⟩)
theorem fin {it : Addr} {i : Nat} {Q : Option Value → Shared → Prop} (hh : A.handled = none) (hit : s.heap.IsKeyIter it d i es.size ep) (hm : RawD s.heap d es ep) (hx : es[i]? = none)
    (hQ : ∀ g1, Heap.ExtBut it s.heap g1 → Q none { s with heap := g1 }) : wpAny (model prog w) A (pyNext (.ref it)) Q E s := by
  obtain ⟨o, ho, hc, hd⟩ := id hit
  obtain ⟨od, hod, hcd, hdd⟩ := id hm
  unfold pyNext
  refine wpAny_bind (wpAny_attempt (wpAny_callSpecial?_slot (name := Str.ofString "__next__") hit.typeIs F.slot_dict_keyiterator_next (wpAny_call_entry F.slot_dict_keyiterator_next hit.typeIs F.entry_dict_keyiterator_next ?_ (F.args_dict_keyiterator_next_1 _))))
  refine wpAny_bind (wpAny_pure (wpAny_bind (wpAny_bind ?_)))
  first | refine wpAny_bind (wpAny_typeNameOfWhole_keyiter hit.typeIs (wpAny_pure ?_)) | refine wpAny_bind (wpAny_typeNameOf_keyiter hit.typeIs (wpAny_pure ?_))
  refine wpAny_bind (wpAny_fieldsOf ho hd ?_)
  have own : Builtin.Dict_items.ownsTuple "dict_keyiterator" = false := by decide
  simp only [own, Bool.false_eq_true, if_false]
  show wpAny _ _ (if (Value.ref d == Value.none) = true then _ else _) _ _ s
  rw [if_neg (show ¬ ((Value.ref d == Value.none) = true) from Bool.false_ne_true)]
  refine wpAny_bind (wpAny_pure (wpAny_bind (wpAny_dictEntries hod hdd ?_)))
  rw [if_neg (by simp)]
  refine wpAny_bind (wpAny_pure (wpAny_bind (wpAny_dictEpoch hod hdd ?_)))
  rw [if_neg (by simp)]
  refine wpAny_pure ?_
  simp only [show ¬ ((i : Int) < 0) from by omega, if_false, Int.toNat_natCast, hx]
  refine wpAny_bind ?_
  first | refine wpAny_bind (wpAny_typeNameOfWhole_keyiter hit.typeIs (wpAny_pure ?_)) | refine wpAny_bind (wpAny_typeNameOf_keyiter hit.typeIs (wpAny_pure ?_))
  show wpAny _ _ (setField (.ref it) 0 .none >>= _) _ _ s
  refine wpAny_bind (wpAny_setField ho hd (by simp) ?_)
  show wpAny _ _ (newExc (.type "StopIteration") [] >>= _) _ _ _
  refine wpAny_bind ?_
  simp only [newExc, newTuple]
  refine wpAny_bind (wpAny_newObj_type ?_ (by size_fits))
  refine wpAny_bind (m := firstArgMember _ _) (wpAny_of_eq (a := Value.none) (by first | rfl | (simp only [firstArgMember]; rfl)) ?_)
  refine wpAny_newObj_type ?_ (by size_fits)
  simp only [raiseNew]
  refine wpAny_bind (wpAny_handled ?_)
  rw [show A.in1.handled = none from hh]
  refine wpAny_bind (wpAny_pure (wpAny_throw ?_))
  refine wpAny_bind (wpAny_isInstance (T := "StopIteration") (b := true) ⟨_, Heap.get?_push_size _ rfl, rfl⟩ isSubtype_stop ?_)
  exact wpAny_pure (hQ _ (((Heap.SameBut.update ..).extBut.push _).push _))
theorem RawD.at {h h' : Heap} (x : RawD h d es ep) (e : ∀ o, h.get? d = some o → h'.get? d = some o) : RawD h' d es ep := let ⟨o, ho, r⟩ := x; ⟨o, e _ ho, r⟩
theorem walks (hh : A.handled = none) (I : Addr) (hne : d ≠ I) : Walks prog w A I [I, d] [I] es.size (fun i v => ∃ en, es[i]? = some en ∧ v = en.key) (fun i h => h.IsKeyIter I d i es.size ep ∧ RawD h d es ep) where
  sub := fun b hb => by simp at hb; simp [hb]
  frame := fun _ _ _ st hk => ⟨st.1.at fun o e => hk I (by simp) o e, RawD.at st.2 fun o e => hk d (by simp) o e⟩
  item := fun i s Q E hi st hQ => by
    refine item (en := es[i]) st.1 st.2 (by simp [hi]) fun g1 j1 b1 => ?_
    exact hQ _ g1 s.toks ⟨_, by simp [hi], rfl⟩ ⟨j1, RawD.at st.2 fun o e => b1.extBut _ _ hne e⟩ fun b o hb e => b1.extBut b o (fun h => hb (by simp [h])) e
  done := fun s Q E st hQ => fin hh st.1 st.2 (by simp) fun g1 b1 => hQ g1 s.toks fun b o hb e => b1 b o (fun h => hb (by simp [h])) e
  self := fun _ _ _ _ st hQ => wpAny_pyIter_keyiter st.1 hQ
theorem hint {Q : Bool → Shared → Prop} (hm : RawD s.heap d es ep) (h : Q false s) : wpAny (model prog w) A (Builtin.List.listLengthHint (.ref d)) Q E s := by
  unfold Builtin.List.listLengthHint
  refine wpAny_bind (wpAny_specialOf (typ hm) F.slot_dict_len.lookup ?_)
  generalize hid : ("dict.__len__" : String) = id0
  wp_delta
  rw [show splitId id0 = some ("dict", "__len__") from by subst hid; decide +kernel]
  subst hid
  refine wpAny_bind (wpAny_isInstance (T := "dict") (b := true) (typ hm) (by rw [isSubtype_type]; kernel_rfl) ?_)
  refine wpAny_ite_split (fun hab => absurd hab (by decide)) (fun _ => ?_)
  refine wpAny_ite_split (fun _ => ?_) (fun hab => absurd (by decide +kernel) hab)
  exact wpAny_bind (wpAny_typeOf (T := "dict") (typ hm) (wpAny_pure h))
theorem extend {R : Result → Shared → Prop} (hh : A.handled = none) (hd : (d == sysModules) = false) (hm : RawD s.heap d es ep) (hlen : es.size ≤ sizeLine) (S : Addr) (res : Value) (c₀ : Nat) (hS : s.heap.get? S = some { cls := .type "list", data := .seq #[] c₀ })
    (hR : ∀ g1 tk acc' c', (∀ b o, b ≠ S → s.heap.get? b = some o → g1.get? b = some o) → g1.get? S = some { cls := .type "list", dict := none, data := .seq acc' c', slots := #[] } →
      ItemsOf (fun i v => ∃ en, es[i]? = some en ∧ v = en.key) acc' es.size → R (.ok (.ret res)) { s with heap := g1, toks := tk }) :
    wpAny (model prog w) A.in1 (Builtin.List.listExtendWith (.ref S) (.ref d) res)
      (fun fin s' => match fin with | .done f => R (.ok f) s' | .again c' => c'.quiet = true ∧ codeAny (model prog w) A c' R s') (fun e s' => R (.error e) s') s := by
  have hSd : S ≠ d := fun e => by
    obtain ⟨o, ho, hc, hdat⟩ := hm
    rw [← e, hS] at ho
    rw [← Option.some.inj ho] at hdat
    cases hdat
  have hdl : d < s.heap.objs.size := by obtain ⟨o, ho, _⟩ := hm; exact Heap.lt_size ho
  have hSI : S ≠ s.heap.objs.size := Nat.ne_of_lt (Heap.lt_size hS)
  have hdI : d ≠ s.heap.objs.size := Nat.ne_of_lt hdl
  unfold Builtin.List.listExtendWith
  refine wpAny_bind (wpAny_typeOf (T := "dict") (typ hm) ?_)
  have h1 : Builtin.List.listSameRef (.ref S) (.ref d) = false := by simp [Builtin.List.listSameRef, hSd]
  have h2 : (Value.type "dict" == Value.type "list") = false := by decide
  have h3 : (Value.type "dict" == Value.type "tuple") = false := by decide
  simp only [h1, h2, h3, Bool.or_false, Bool.false_eq_true, if_false]
  refine wpAny_bind (iter hd hm ?_)
  have hm1 : RawD (s.heap.push { cls := .type "dict_keyiterator", data := .fields #[.ref d, .int 0 0, .int es.size 0, .int ep 0] }) d es ep := RawD.at hm fun o e => Heap.get?_push_of_some _ e
  refine wpAny_bind (wpAny_holding (hint (s := { s with heap := s.heap.push { cls := .type "dict_keyiterator", data := .fields #[.ref d, .int 0 0, .int es.size 0, .int ep 0] } }) hm1 ?_))
  have hS1 := Heap.get?_push_of_some { cls := .type "dict_keyiterator", data := .fields #[.ref d, .int 0 0, .int es.size 0, .int ep 0] } hS
  have hI1 : (s.heap.push { cls := .type "dict_keyiterator", data := .fields #[.ref d, .int 0 0, .int es.size 0, .int ep 0] }).IsKeyIter s.heap.objs.size d 0 es.size ep := ⟨_, Heap.get?_push_size _ rfl, rfl, rfl⟩
  have kp : ∀ b o, s.heap.get? b = some o → (s.heap.push { cls := .type "dict_keyiterator", data := .fields #[.ref d, .int 0 0, .int es.size 0, .int ep 0] }).get? b = some o := fun b o e => Heap.get?_push_of_some _ e
  generalize s.heap.push { cls := .type "dict_keyiterator", data := .fields #[.ref d, .int 0 0, .int es.size 0, .int ep 0] } = h1' at hS1 hI1 kp hm1 ⊢
  refine wpAny_ite_split (fun _ => ?_) (fun hab => absurd (by decide +kernel) hab)
  refine wpAny_bind (wpAny_rule ?_)
  refine wpAny_bind ?_
  show wpAny _ _ (updateSeq S (·.push .none) >>= fun _ => updateSeq S (·.pop)) _ _ _
  refine wpAny_bind (wpAny_updateSeq hS1 rfl ?_)
  have hS2 := Heap.get?_update_self (Obj.mapSeq (·.push Value.none)) hS1 rfl
  refine wpAny_updateSeq (hz := by seq_fits) hS2 rfl ?_
  have hS3 := Heap.get?_update_self (Obj.mapSeq (·.pop)) hS2 rfl
  have oth : ∀ b o, b ≠ S → h1'.get? b = some o → ((h1'.update S (Obj.mapSeq (·.push Value.none))).update S (Obj.mapSeq (·.pop))).get? b = some o := fun b o hb e => (Heap.get?_update_other _ _ (Ne.symm hb)).trans ((Heap.get?_update_other _ _ (Ne.symm hb)).trans e)
  have W := (walks (prog := prog) (w := w) (A := A.in1) (d := d) (es := es) (ep := ep) hh s.heap.objs.size hdI).toS
  have hSf : S ∉ [s.heap.objs.size, d] := fun hmem => by
    rcases List.mem_cons.mp hmem with e | hmem
    · exact hSI e
    · exact hSd (List.mem_singleton.mp hmem)
  refine wpAny_pure ⟨plainId_quiet F.plain_extend_loop _, ?_⟩
  refine codeAny_extend_loopS W hlen S hSf res es.size 0 _ #[] _ rfl (Nat.zero_le _) ⟨hI1.at fun o e => oth _ o (Ne.symm hSI) e, RawD.at hm1 fun o e => oth _ o (Ne.symm hSd) e⟩ hS3 (ItemsOf.nil _) fun s' acc' c' hmv hS' hacc => ?_
  rw [Moved.eq_with hmv]
  refine hR s'.heap s'.toks acc' c' (fun b o hb e => hmv.heap b o (fun hmem => ?_) (oth b o hb (kp b o e))) hS' hacc
  rcases List.mem_cons.mp hmem with e' | hmem
  · exact hb e'
  · exact absurd (Heap.lt_size e) (by rw [List.mem_singleton.mp hmem]; exact Nat.lt_irrefl _)
theorem init {R : Result → Shared → Prop} (hh : A.handled = none) (hd : (d == sysModules) = false) (hm : RawD s.heap d es ep) (hlen : es.size ≤ sizeLine) (S : Addr) (hS : s.heap.get? S = some { cls := .type "list", data := .seq #[] })
    (hR : ∀ g1 tk acc' c', (∀ b o, b ≠ S → s.heap.get? b = some o → g1.get? b = some o) → g1.get? S = some { cls := .type "list", dict := none, data := .seq acc' c', slots := #[] } →
      ItemsOf (fun i v => ∃ en, es[i]? = some en ∧ v = en.key) acc' es.size → R (.ok (.ret .none)) { s with heap := g1, toks := tk }) :
    wpAny (model prog w) A.in1 (Builtin.«list.__init__» ⟨[.ref S, .ref d], []⟩)
      (fun fin s' => match fin with | .done f => R (.ok f) s' | .again c' => c'.quiet = true ∧ codeAny (model prog w) A c' R s') (fun e s' => R (.error e) s') s := by
  have hSd : d ≠ S := fun e => by
    obtain ⟨o, ho, hc, hdat⟩ := hm
    rw [e, hS] at ho
    rw [← Option.some.inj ho] at hdat
    cases hdat
  show wpAny _ _ (do let old ← Builtin.List.listItems (.ref S); Builtin.List.listUpdate (.ref S) (fun _ => #[]); letGo old.toList.reverse; Builtin.List.listExtendWith (.ref S) (.ref d) .none) _ _ s
  refine wpAny_bind ?_
  unfold Builtin.List.listItems
  refine wpAny_bind (wpAny_seqItems hS rfl (wpAny_pure ?_))
  show wpAny _ _ (updateSeq S (fun _ => #[]) >>= fun _ => letGo (#[] : Array Value).toList.reverse >>= fun _ => Builtin.List.listExtendWith (.ref S) (.ref d) .none) _ _ s
  refine wpAny_bind (wpAny_updateSeq hS rfl ?_)
  have hS2 := Heap.get?_update_self (Obj.mapSeq (fun _ => (#[] : Array Value))) hS rfl
  have oth : ∀ b o, b ≠ S → s.heap.get? b = some o → (s.heap.update S (Obj.mapSeq (fun _ => (#[] : Array Value)))).get? b = some o := fun b o hb e => (Heap.get?_update_other _ _ (Ne.symm hb)).trans e
  refine wpAny_bind (wpAny_letGo ?_)
  refine extend (s := { s with heap := s.heap.update S (Obj.mapSeq (fun _ => (#[] : Array Value))) }) hh hd (RawD.at hm fun o e => oth _ o hSd e) hlen S .none _ hS2 fun g1 tk acc' c' hk hS' hacc => ?_
  exact hR g1 tk acc' c' (fun b o hb e => hk b o hb (oth b o hb e)) hS' hacc
end
end Dk
section
variable {X : Cx}
end
end L2
set_option Elab.async false
set_option linter.all false
set_option maxRecDepth 100000
set_option maxHeartbeats 4000000
namespace L2
open PySem PySem.Spec PyProof.Rows
open Sem (wp)
open AutoSeq1 (wpAny_loadPart')
section
variable {prog : Program} {w : World} {A : Around} {E : Value → Shared → Prop} {s : Shared}
theorem collect_range {Q : List Value → Shared → Prop} {r : Addr} {a b c : Int} {t u v : Tok} {n : Nat} (hh : A.handled = none) (hr : IsRange s.heap r a b c t u v) (hsmall : Builtin.Range.small a b c = true)
    (hn : Builtin.Range.rangeSize a b c = n) (hlen : n ≤ 2 ^ 24)
    (hQ : ∀ (h' : Heap) (tk : Nat) (acc : Array Value), (∀ b o, s.heap.get? b = some o → h'.get? b = some o) → ItemsOf (fun i v => ∃ t, v = .int (a + i * c) t) acc n → Q acc.toList { s with heap := h', toks := tk }) :
    wpAny (model prog w) A (collect (.ref r)) Q E s := by
  unfold collect
  refine wpAny_bind (wpAny_runValue (codeAny_builtin F.entry_proto_collect ?_))
  rw [Around.under_plainId F.plain_proto_collect _]
  show wpAny _ A.in1 (newList [] >>= fun l => again (.builtin "list.__iadd__" ⟨[l, .ref r], []⟩)) _ _ s
  refine wpAny_bind (wpAny_newObj_type ?_)
  refine wpAny_pure ⟨plainId_quiet F.plain_list_iadd _, codeAny_builtin F.entry_list_iadd ?_⟩
  rw [Around.under_plainId F.plain_list_iadd _]
  show wpAny _ A.in1 (Builtin.List.listExtendWith (.ref s.heap.objs.size) (.ref r) (.ref s.heap.objs.size)) _ _ _
  have hS : (s.heap.push { cls := .type "list", data := .seq ([] : List Value).toArray }).get? s.heap.objs.size = some { cls := .type "list", data := .seq #[] 0 } := Heap.get?_push_size _ rfl
  have fin' : ∀ (h' : Heap) (tk : Nat) (acc' : Array Value) (c' : Nat), (∀ b o, s.heap.get? b = some o → h'.get? b = some o) → h'.get? s.heap.objs.size = some { cls := .type "list", dict := none, data := .seq acc' c', slots := #[] } → ItemsOf (fun i v => ∃ t, v = .int (a + i * c) t) acc' n →
      wpAny (model prog w) A (match Value.ref s.heap.objs.size with
      | Value.ref a => do
        match (← load a).data with
          | Data.seq xs _ => pure xs.toList
          | _ => unsupported "internal:collect"
      | _ => unsupported "internal:collect") Q E { s with heap := h', toks := tk } := by
    intro h' tk acc' c' kp hg hit
    show wpAny _ A (load s.heap.objs.size >>= _) _ _ _
    refine wpAny_bind (wpAny_load hg ?_)
    exact wpAny_pure (hQ h' tk acc' kp hit)
  refine wpAny_mono (wpAny_extend_range (A := A) (R := fun x s' => ∃ (h' : Heap) (tk : Nat) (acc' : Array Value) (c' : Nat), x = .ok (.ret (.ref s.heap.objs.size)) ∧ s' = { s with heap := h', toks := tk } ∧ (∀ b o, s.heap.get? b = some o → h'.get? b = some o) ∧ h'.get? s.heap.objs.size = some { cls := .type "list", dict := none, data := .seq acc' c', slots := #[] } ∧ ItemsOf (fun i v => ∃ t, v = .int (a + i * c) t) acc' n)
    (s := { s with heap := s.heap.push { cls := .type "list", data := .seq ([] : List Value).toArray } }) hh (Heap.get?_push_of_some _ hr) hsmall hn hlen s.heap.objs.size (.ref s.heap.objs.size) 0 hS (fun h' tk acc' c' kp hg hit => ⟨h', tk, acc', c', rfl, rfl, fun b o e => kp b o (Nat.ne_of_lt (Heap.lt_size e)) (Heap.get?_push_of_some _ e), hg, hit⟩)) (fun fin s' h => ?_) (fun e s' h => ?_)
  · cases fin with
    | done f =>
      obtain ⟨h', tk, acc', c', e, rfl, kp, hg, hit⟩ := h
      cases e
      exact fin' h' tk acc' c' kp hg hit
    | again c' => exact ⟨h.1, codeAny_mono h.2 fun r s'' hr => by obtain ⟨h', tk, acc', c', rfl, rfl, kp, hg, hit⟩ := hr; exact fin' h' tk acc' c' kp hg hit⟩
  · obtain ⟨_, _, _, _, e, _⟩ := h
    cases e
theorem code_tuple_range {Q₁ : Value → Shared → Prop} {r : Addr} {a b c : Int} {t u v : Tok} {n : Nat} (hh : A.handled = none) (hr : IsRange s.heap r a b c t u v) (hsmall : Builtin.Range.small a b c = true)
    (hn : Builtin.Range.rangeSize a b c = n) (hlen : n ≤ 10000)
    (h : ∀ (h' : Heap) (tk : Nat) (acc : Array Value), (∀ b o, s.heap.get? b = some o → h'.get? b = some o) → ItemsOf (fun i v => ∃ t, v = .int (a + i * c) t) acc n → Q₁ (.ref h'.objs.size) { s with heap := h'.push { cls := .type "tuple", data := .seq acc }, toks := tk }) :
    codeAny (model prog w) A (.call (.builtin "tuple.__new__") ⟨[.type "tuple", .ref r], []⟩) (wants Q₁ E) s := by
  refine codeAny_of_tree ?_
  show wpAny _ A.in1 (do checkBuiltinCall "tuple.__new__" ⟨[.type "tuple", .ref r], []⟩; again (.builtin "tuple.__new__" ⟨[.type "tuple", .ref r], []⟩)) _ _ s
  refine wpAny_bind (wpAny_of_eq (F.newCall_tuple_1 _) (wpAny_pure ⟨plainId_quiet F.plain_tuple_new _, codeAny_builtin F.entry_tuple_new ?_⟩))
  rw [Around.under_plainId F.plain_tuple_new _]
  have hsub := sub_tuple_self
  have hinit := init_tuple_lookup
  have hmh := madeHere_tuple
  have hTI : s.TypeIs (.ref r) "range" := ⟨_, hr, rfl⟩
  wp_walk using wpAny_typeOf hTI, collect_range (A := A.in1) hh hr hsmall hn (Nat.le_trans hlen (by decide))
  intro h' tk acc kp hit
  show wpAny _ _ (Builtin.Tuple.tupleExact acc.toList.toArray >>= fun v => ret v) _ _ _
  unfold Builtin.Tuple.tupleExact
  refine wpAny_bind (wpAny_newObj_type ?_ (by show acc.toList.toArray.size ≤ sizeLine; simp only [Array.toArray_toList]; rw [hit.1]; exact Nat.le_trans hlen (by decide)))
  refine wpAny_pure ?_
  have e : acc.toList.toArray = acc := by simp
  rw [e]
  exact h h' tk acc kp hit
theorem call_tuple_range {Q : Value → Shared → Prop} {r : Addr} {a b c : Int} {t u v : Tok} {n : Nat} (hh : A.handled = none) (hr : IsRange s.heap r a b c t u v) (hsmall : Builtin.Range.small a b c = true)
    (hn : Builtin.Range.rangeSize a b c = n) (hlen : n ≤ 10000)
    (hQ : ∀ (h' : Heap) (tk : Nat) (acc : Array Value), (∀ b o, s.heap.get? b = some o → h'.get? b = some o) → ItemsOf (fun i v => ∃ t, v = .int (a + i * c) t) acc n → Q (.ref h'.objs.size) { s with heap := h'.push { cls := .type "tuple", data := .seq acc }, toks := tk }) :
    wpAny (model prog w) A (call (.type "tuple") [.ref r]) Q E s := by
  refine callType_codes (Q₁ := fun obj s₁ => s₁.TypeIs obj "tuple" ∧ Q obj s₁) F.called_tuple (F.typeCall_tuple_1 _) F.entry_object_init
    (code_tuple_range (A := A.in1) hh hr hsmall hn hlen fun h' tk acc kp hit => ⟨⟨_, Heap.get?_push_size _ rfl, rfl⟩, hQ h' tk acc kp hit⟩) fun obj s₁ h₁ => ?_
  exact ⟨h₁.1, F.args_object_init_2 obj _, object_init_meets F.called_tuple.init.lookup F.called_tuple.made (by decide) prog w A.in1 _ s₁ ⟨h₁.1, rfl, h₁.2⟩⟩
end
section
variable {X : Cx} {a b : Expr} {ta : TA} {p p2 pos pos2 : Pos}
def tTR1 (ta : TA) : TE := fun σ H Q => ta σ H fun vs H1 => ∃ j : Nat, vs = [.int j] ∧ j ≤ 10000 ∧ ∀ l, H1 l = none → Q (.ref l) (upd H1 l (.tup (intV (rng 0 j))))
theorem tuple_range {pins : List (Addr × Obj)} {σ : St} {H : Hp} {s : Shared} {Q : VK} {hi : Int} {t u v : Tok} {tk : Nat} (hc : X.calm = true) (I : Inv X pins σ H s) (h3 : 0 ≤ hi) (h4 : hi ≤ 10000)
    (q : ∀ l, H l = none → Q (.ref l) (upd H l (.tup (intV (rng 0 hi.toNat))))) : wpAny (model X.prog X.w) X.A (call (.type "tuple") [.ref s.heap.objs.size]) (EP X pins σ Q) X.xe { s with heap := s.heap.push { cls := .type "range", data := .fields #[.int 0 t, .int hi u, .int 1 v] }, toks := tk } := by
  have I1 : Inv X pins σ H { s with heap := s.heap.push { cls := .type "range", data := .fields #[.int 0 t, .int hi u, .int 1 v] }, toks := tk } := I.kept fun b o e => Heap.get?_push_of_some _ e
  have hsz : Builtin.Range.rangeSize 0 hi 1 = ((hi.toNat : Nat) : Int) := by rw [rangeSize_one]; split <;> omega
  refine call_tuple_range (n := hi.toNat) (I.ok.hd hc) (IsRange.new ..) (small_one (by omega) (by omega) (by omega) (by omega)) hsz (by omega) fun h' tk' acc' kp hit => ?_
  have I2 := I1.kept (t' := tk') kp
  refine ⟨.ref _, _, I2.laid (t' := tk') (o := .tup (intV (rng 0 hi.toNat))) (fun b o e => Heap.get?_push_of_some _ e) (Nat.le_refl _) (show ObjOk X.prog X.w _ _ _ (.tup (intV (rng 0 hi.toNat))) from ⟨?_, acc'.toList, items_vals hit, ?_⟩), rfl, q _ (I2.hok.fresh (Nat.le_refl _))⟩
  · rw [ints_len, rng_len]
    exact Nat.le_trans (show hi.toNat ≤ 10000 by omega) (by decide)
  · rw [Array.toArray_toList]
    exact IsTup.new _ _
theorem pe_tupRange1 (hc : X.calm = true) (hgl : Gl X "tuple") (hml : X.mg "tuple" = none) (hg : Gl X "range") (hm : X.mg "range" = none) (ha : PA X [a] ta) (hs : starEach [a] X.env = [(false, eval a X.env)] := by rfl)
    (hs2 : starEach [.Call (.Name "range" p) [a] [] pos] X.env = [(false, eval (.Call (.Name "range" p) [a] [] pos) X.env)] := by rfl) : PE X (.Call (.Name "tuple" p2) [.Call (.Name "range" p) [a] [] pos] [] pos2) (tTR1 ta) := by
  intro pins s σ H Q I h
  refine wpAny_Call_Name_kw (ld_blt I hgl hml boot_tuple ?_)
  refine PyProof.Rows.callWith_type1 ?_ hs2 rfl
  rw [hs2]
  show wpAny _ _ (spliced ((false, eval (.Call (.Name "range" p) [a] [] pos) X.env) :: backTo pos2 [])) _ _ s
  refine Calls.spliced_cons ?_
  refine Call_ (ld_blt I hg hm boot_range (PyProof.Rows.callWith_type1 (thn (ha pos pins s σ H _ I h) fun us s1 ⟨vs, H1, I1, r1, q1⟩ => ?_) hs rfl))
  obtain ⟨j, e, hj, q⟩ := q1
  subst e
  cases r1 with
  | cons r rr =>
    cases rr
    obtain ⟨t, rfl⟩ := r
    refine call_range_1 (Calls.spliced_nil ?_)
    exact tuple_range hc I1 (by omega) (by omega) (by simpa using q)
end
section
variable {X : Cx}
theorem op_isB : OpR X (compareOp .Is) (fun x y H Q => ∃ a b : Bool, x = .bl a ∧ y = .bl b ∧ Q (.bl (a == b)) H) := by
  intro pins s σ H x y v u Q I rx ry h
  obtain ⟨a, b, rfl, rfl, q⟩ := h
  cases rx
  cases ry
  exact is_bool (fin_bl I q rfl)
def rEqL3 : R2 := fun x y H Q => ∃ a b a1 a2 a3 b1 b2 b3 R T W, x = .ref a ∧ y = .ref b ∧ H a = some (.lst [.ref a1, .ref a2, .ref a3]) ∧ H b = some (.lst [.ref b1, .ref b2, .ref b3]) ∧ WordsAt H a1 R ∧ WordsAt H b1 R ∧ TabAt H a2 T ∧ TabAt H b2 T ∧ WordsAt H a3 W ∧ WordsAt H b3 W ∧ Q (.bl true) H
theorem op_eqL3 (hu : X.A.units + 2 < cLine) : OpR X (compareOp .Eq) rEqL3 := by
  intro pins s σ H x y v u Q I rx ry h
  obtain ⟨a, b, a1, a2, a3, b1, b2, b3, R, T, W, rfl, rfl, ha, hb, r1, r2, t1, t2, w1, w2, q⟩ := h
  cases rx
  cases ry
  obtain ⟨its, v1, p1, _⟩ := I.list (SqL.of ha)
  obtain ⟨its2, v2, p2, _⟩ := I.list (SqL.of hb)
  have e1 : its = [.ref a1, .ref a2, .ref a3] := vals_refs (rs := [a1, a2, a3]) v1
  have e2 : its2 = [.ref b1, .ref b2, .ref b3] := vals_refs (rs := [b1, b2, b3]) v2
  subst e1 e2
  refine SeqAt.eq_listAt (e := fun _ => true) p1.isList p2.isList rfl (by omega) (fun j h1 h2 => ?_) ⟨.bl true, H, I, rfl, q⟩
  have hj : j < 3 := by simpa using h1
  rcases (show j = 0 ∨ j = 1 ∨ j = 2 by omega) with rfl | rfl | rfl
  · exact eq_words I r1 r2 hu
  · exact eq_tabs I t1 t2 hu
  · exact eq_words I w1 w2 hu
end
end L2
set_option Elab.async false
set_option linter.all false
set_option maxRecDepth 100000
set_option maxHeartbeats 4000000
namespace M11
def flip (k : Nat) : Nat := if k % 2 = 0 then k + 1 else k - 1
def nx (T : List (List Int)) (k i : Nat) : Nat := ((T.getD i []).getD k 0).toNat
structure Tab (L : Nat) (T : List (List Int)) : Prop where
  pos : 1 ≤ T.length
  top : T.length ≤ 300
  let1 : 1 ≤ L
  let2 : L ≤ 40
  row : ∀ (i : Nat) (r : List Int), T[i]? = some r → r.length = 2 * L
  val : ∀ i k, i < T.length → k < 2 * L → ∃ r : List Int, T[i]? = some r ∧ r[k]? = some ((nx T k i : Nat) : Int)
  lt : ∀ i k, i < T.length → k < 2 * L → nx T k i < T.length
  back : ∀ i k, i < T.length → k < 2 * L → nx T (flip k) (nx T k i) = i
def pl (s : Int) : Nat := if 0 < s then 2 * s.natAbs - 2 else 2 * s.natAbs - 1
def walk (T : List (List Int)) (w : List Int) (i : Nat) : Nat := w.foldl (fun i s => nx T (pl s) i) i
def Steps (L : Nat) (w : List Int) : Prop := ∀ s ∈ w, s ≠ 0 ∧ s.natAbs ≤ L
def back (w : List Int) : List Int := w.reverse.map fun z => -z
theorem pl_lt {L : Nat} {s : Int} (h : s ≠ 0 ∧ s.natAbs ≤ L) : pl s < 2 * L := by
  unfold pl
  split <;> omega
theorem walk_lt {L : Nat} {T : List (List Int)} (hT : Tab L T) : ∀ {w : List Int} {i : Nat}, Steps L w → i < T.length → walk T w i < T.length
  | [], i, _, hi => hi
  | s :: w, i, hw, hi => walk_lt hT (w := w) (fun s hs => hw s (List.mem_cons_of_mem _ hs)) (hT.lt i (pl s) hi (pl_lt (hw s (List.mem_cons_self ..))))
theorem walk_app (T : List (List Int)) (w u : List Int) (i : Nat) : walk T (w ++ u) i = walk T u (walk T w i) := List.foldl_append ..
theorem steps_back {L : Nat} {w : List Int} (h : Steps L w) : Steps L (back w) := fun s hs => by
  unfold back at hs
  obtain ⟨y, hy, rfl⟩ := List.mem_map.mp hs
  have := h y (List.mem_reverse.mp hy)
  omega
structure Pm (p : Nat) (r : List Int) : Prop where
  len : r.length = p
  nd : r.Nodup
  rg : ∀ z ∈ r, 0 ≤ z ∧ z < (p : Int)
theorem Pm.at {p : Nat} {r : List Int} (h : Pm p r) {i : Nat} (hi : i < p) : ∃ j : Nat, r[i]? = some (j : Int) ∧ j < p := by
  have hl : i < r.length := by rw [h.len]; exact hi
  have := h.rg r[i] (List.getElem_mem hl)
  exact ⟨r[i].toNat, by rw [List.getElem?_eq_getElem hl, show ((r[i].toNat : Nat) : Int) = r[i] by omega], by omega⟩
theorem set_same {r : List Int} {i j : Nat} {a b : Int} (h1 : r[i]? = some a) (h2 : r[j]? = some b) : ((r.set i b).set j a).Perm r := by
  have hi := (List.getElem?_eq_some_iff.mp h1).1
  have hj := (List.getElem?_eq_some_iff.mp h2).1
  have e1 := (List.getElem?_eq_some_iff.mp h1).2
  have e2 := (List.getElem?_eq_some_iff.mp h2).2
  rw [← e1, ← e2]
  exact List.set_set_perm hi hj
theorem Pm.swap {p : Nat} {r : List Int} (h : Pm p r) {i j : Nat} {a b : Int} (h1 : r[i]? = some a) (h2 : r[j]? = some b) : Pm p ((r.set i b).set j a) := by
  have hp := set_same h1 h2
  exact ⟨by rw [hp.length_eq, h.len], hp.nodup_iff.mpr h.nd, fun z hz => h.rg z (hp.mem_iff.mp hz)⟩
theorem flip_lt {k L : Nat} (h : k < 2 * L) : flip k < 2 * L := by unfold flip; split <;> omega
def RowOk (L : Nat) (f : Nat → Int → Int) (come : List Int) (x : Int) (r : List Int) (m : Nat) : Prop := r.length = m ∧ ∀ k, k < m → ∃ j : Nat, r[k]? = some (j : Int) ∧ come[j]? = some (f k x)
theorem RowOk.more {L : Nat} {f : Nat → Int → Int} {come c2 : List Int} {x : Int} {r : List Int} {m : Nat} (h : RowOk L f come x r m) : RowOk L f (come ++ c2) x r m := ⟨h.1, fun k hk => by
  obtain ⟨j, h1, h2⟩ := h.2 k hk
  refine ⟨j, h1, ?_⟩
  rw [List.getElem?_append_left (List.getElem?_eq_some_iff.mp h2).1]
  exact h2⟩
theorem RowOk.snoc {L : Nat} {f : Nat → Int → Int} {come : List Int} {x : Int} {r : List Int} {m j : Nat} (h : RowOk L f come x r m) (hj : come[j]? = some (f m x)) : RowOk L f come x (r ++ [(j : Int)]) (m + 1) := by
  refine ⟨by rw [List.length_append, h.1]; rfl, fun k hk => ?_⟩
  by_cases e : k = m
  · subst e
    refine ⟨j, ?_, hj⟩
    rw [List.getElem?_append_right (by rw [h.1]; exact Nat.le_refl _), h.1, Nat.sub_self]
    rfl
  · obtain ⟨i, h1, h2⟩ := h.2 k (by omega)
    exact ⟨i, by rw [List.getElem?_append_left (by rw [h.1]; omega)]; exact h1, h2⟩
theorem nodup_len : ∀ (n : Nat) (l : List Nat), l.Nodup → (∀ x ∈ l, x < n) → l.length ≤ n
  | 0, [], _, _ => Nat.le_refl _
  | 0, a :: l, _, h => absurd (h a (List.mem_cons_self ..)) (by omega)
  | n + 1, l, hn, h => by
    by_cases hm : n ∈ l
    · have := nodup_len n (l.erase n) (hn.erase n) (fun x hx => by
        have h1 := (hn.mem_erase_iff).mp hx
        have h2 := h x h1.2
        have h3 := h1.1
        omega)
      rw [List.length_erase_of_mem hm] at this
      omega
    · have := nodup_len n l hn (fun x hx => by
        have h2 := h x hx
        have h3 : x ≠ n := fun z => hm (by rw [← z]; exact hx)
        omega)
      omega
theorem nodup_lenI {n : Nat} {l : List Int} (hn : l.Nodup) (h : ∀ x ∈ l, 0 ≤ x ∧ x < (n : Int)) : l.length ≤ n := by
  have h1 : (l.map Int.toNat).Nodup := by
    refine List.pairwise_map.mpr (List.Pairwise.imp_of_mem ?_ hn)
    intro a b ha hb hab z
    have := h a ha
    have := h b hb
    exact hab (by omega)
  have := nodup_len n (l.map Int.toNat) h1 (fun x hx => by
    obtain ⟨y, hy, rfl⟩ := List.mem_map.mp hx
    have := h y hy
    omega)
  rw [List.length_map] at this
  exact this
theorem Pm.surj {p : Nat} {r : List Int} (h : Pm p r) {x : Nat} (hx : x < p) : ∃ i : Nat, r[i]? = some (x : Int) ∧ i < p := by
  have hm : (x : Int) ∈ r := by
    refine Classical.byContradiction fun hm => ?_
    have := nodup_lenI (n := p) (l := (x : Int) :: r) (List.nodup_cons.mpr ⟨hm, h.nd⟩) (fun y hy => by
      rcases List.mem_cons.mp hy with e | hy
      · rw [e]; omega
      · exact h.rg y hy)
    rw [List.length_cons, h.len] at this
    omega
  obtain ⟨i, hi, e⟩ := List.mem_iff_getElem.mp hm
  exact ⟨i, by rw [List.getElem?_eq_getElem hi, e], by rw [← h.len]; exact hi⟩
def InvOf (p : Nat) (r t : List Int) : Prop := t.length = p ∧ ∀ k j : Nat, r[k]? = some (j : Int) → t[j]? = some (k : Int)
def InvTo (p : Nat) (r t : List Int) (n : Nat) : Prop := t.length = p ∧ ∀ k j : Nat, k < n → r[k]? = some (j : Int) → t[j]? = some (k : Int)
theorem InvTo.step {p n j : Nat} {r t : List Int} (h : InvTo p r t n) (hr : Pm p r) (hj : r[n]? = some (j : Int)) (hjp : j < p) : InvTo p r (t.set j (n : Int)) (n + 1) := by
  refine ⟨by rw [List.length_set]; exact h.1, fun k i hk hi => ?_⟩
  by_cases e : k = n
  · subst e
    rw [hj] at hi
    have : j = i := by have := Option.some.inj hi; omega
    subst this
    exact List.getElem?_set_self (by rw [h.1]; exact hjp)
  · have hne : j ≠ i := fun z => by
      subst z
      exact e ((List.getElem?_inj (List.getElem?_eq_some_iff.mp hi).1 hr.nd).mp (hi.trans hj.symm))
    rw [List.getElem?_set_ne hne]
    exact h.2 k i (by omega) hi
theorem InvTo.all {p : Nat} {r t : List Int} (h : InvTo p r t p) (hr : Pm p r) : InvOf p r t := ⟨h.1, fun k j hk => h.2 k j (by
  have := (List.getElem?_eq_some_iff.mp hk).1
  rw [hr.len] at this
  exact this) hk⟩
end M11
namespace M12
open M11
def Fc (W : Nat) (E : List Int) (N : Nat) : Prop := (∀ z ∈ E, 0 ≤ z ∧ z < (N : Int)) ∧ ∀ j : Nat, 0 < j → j < N → ∃ p : Nat, p < j * W ∧ E[p]? = some (j : Int) ∧ ∀ (q : Nat) (z : Int), q < p → E[q]? = some z → z < (j : Int)
theorem Fc.old {W N i : Nat} {E : List Int} (h : Fc W E N) (hi : i < N) : Fc W (E ++ [(i : Int)]) N := by
  refine ⟨fun z hz => ?_, fun j h0 h1 => ?_⟩
  · rcases List.mem_append.mp hz with hz | hz
    · exact h.1 z hz
    · rw [List.mem_singleton.mp hz]; omega
  · obtain ⟨p, a1, a2, a3⟩ := h.2 j h0 h1
    have hp := (List.getElem?_eq_some_iff.mp a2).1
    refine ⟨p, a1, by rw [List.getElem?_append_left hp]; exact a2, fun q z hq hz => a3 q z hq ?_⟩
    rw [List.getElem?_append_left (by omega)] at hz
    exact hz
theorem Fc.new {W N : Nat} {E : List Int} (h : Fc W E N) (hN : 0 < N) (hE : E.length < N * W) : Fc W (E ++ [(N : Int)]) (N + 1) := by
  refine ⟨fun z hz => ?_, fun j h0 h1 => ?_⟩
  · rcases List.mem_append.mp hz with hz | hz
    · have := h.1 z hz; omega
    · rw [List.mem_singleton.mp hz]; omega
  · by_cases e : j = N
    · subst e
      refine ⟨E.length, hE, by rw [List.getElem?_append_right (Nat.le_refl _), Nat.sub_self]; rfl, fun q z hq hz => ?_⟩
      rw [List.getElem?_append_left hq] at hz
      exact (h.1 z (List.mem_of_getElem? hz)).2
    · obtain ⟨p, a1, a2, a3⟩ := h.2 j h0 (by omega)
      have hp := (List.getElem?_eq_some_iff.mp a2).1
      refine ⟨p, a1, by rw [List.getElem?_append_left hp]; exact a2, fun q z hq hz => a3 q z hq ?_⟩
      rw [List.getElem?_append_left (by omega)] at hz
      exact hz
theorem Fc.zero (W : Nat) : Fc W [] 1 := ⟨(fun z hz => by cases hz), (fun j h0 h1 => by omega)⟩
def st (k : Nat) : Int := if k % 2 = 0 then ((k / 2 + 1 : Nat) : Int) else -((k / 2 + 1 : Nat) : Int)
theorem st_ok {k L : Nat} (h : k < 2 * L) : st k ≠ 0 ∧ (st k).natAbs ≤ L := by
  unfold st
  split <;> omega
def lexL : List Nat → List Nat → Prop
  | a :: u, b :: v => a < b ∨ (a = b ∧ lexL u v)
  | _, _ => False
def aheadN (u v : List Nat) : Prop := u.length < v.length ∨ (u.length = v.length ∧ lexL u v)
theorem lex_snoc : ∀ {u v : List Nat} {a b : Nat}, u.length = v.length → lexL u v → lexL (u ++ [a]) (v ++ [b])
  | x :: u, y :: v, a, b, hl, h => by
    rcases h with h | ⟨e, h⟩
    · exact .inl h
    · exact .inr ⟨e, lex_snoc (by simpa using hl) h⟩
theorem lex_last : ∀ {u : List Nat} {a b : Nat}, a < b → lexL (u ++ [a]) (u ++ [b])
  | [], a, b, h => .inl h
  | x :: u, a, b, h => .inr ⟨rfl, lex_last h⟩
theorem ahead_snoc {u v : List Nat} {a b : Nat} (h : aheadN u v) : aheadN (u ++ [a]) (v ++ [b]) := by
  rcases h with h | ⟨e, h⟩
  · exact .inl (by simp only [List.length_append, List.length_cons, List.length_nil]; omega)
  · exact .inr ⟨by simp only [List.length_append, List.length_cons, List.length_nil]; omega, lex_snoc e h⟩
theorem ahead_last {u : List Nat} {a b : Nat} (h : a < b) : aheadN (u ++ [a]) (u ++ [b]) := .inr ⟨by simp, lex_last h⟩
def Lw (L : Nat) (T : List (List Int)) (ws : List (List Nat)) : Prop := ws.length = T.length ∧ ws[0]? = some [] ∧
  ∀ (j p : Nat), 0 < j → j < T.length → T.flatten[p]? = some (j : Int) → (∀ (q : Nat) (z : Int), q < p → T.flatten[q]? = some z → z < (j : Int)) → ∃ u, ws[p / (2 * L)]? = some u ∧ ws[j]? = some (u ++ [p % (2 * L)])
section
variable {L : Nat} {T : List (List Int)} {ws : List (List Nat)} (hT : Tab L T) (hF : Fc (2 * L) T.flatten T.length) (hw : Lw L T ws)
include hT hF hw
theorem mono : ∀ (i' i : Nat), i < i' → i' < T.length → ∀ u v, ws[i]? = some u → ws[i']? = some v → aheadN u v := by
  have hL := hT.let1
  intro i'
  induction i' using Nat.strongRecOn with
  | _ i' ih =>
    intro i hlt hi' u v hu hv
    obtain ⟨p', a1, a2, a3⟩ := hF.2 i' (by omega) hi'
    obtain ⟨v0, b1, b2⟩ := hw.2.2 i' p' (by omega) hi' a2 a3
    have ev : v = v0 ++ [p' % (2 * L)] := Option.some.inj (hv.symm.trans b2)
    by_cases h0 : i = 0
    · subst h0
      have eu : u = [] := Option.some.inj (hu.symm.trans hw.2.1)
      rw [eu, ev]
      exact .inl (by simp)
    · obtain ⟨p, c1, c2, c3⟩ := hF.2 i (by omega) (by omega)
      obtain ⟨u0, d1, d2⟩ := hw.2.2 i p (by omega) (by omega) c2 c3
      have eu : u = u0 ++ [p % (2 * L)] := Option.some.inj (hu.symm.trans d2)
      have hpp : p < p' := by
        refine Classical.byContradiction fun hn => ?_
        by_cases e : p = p'
        · rw [e, a2] at c2
          have := Option.some.inj c2
          omega
        · have := c3 p' _ (by omega) a2
          omega
      have hrow : p' / (2 * L) < i' := by
        rw [Nat.div_lt_iff_lt_mul (by omega)]
        exact a1
      rw [eu, ev]
      by_cases er : p / (2 * L) = p' / (2 * L)
      · rw [er] at d1
        have e0 : u0 = v0 := Option.some.inj (d1.symm.trans b1)
        rw [e0]
        refine ahead_last ?_
        have h1 := Nat.div_add_mod p (2 * L)
        have h2 := Nat.div_add_mod p' (2 * L)
        rw [er] at h1
        omega
      · have hlt2 : p / (2 * L) < p' / (2 * L) := by
          have := Nat.div_le_div_right (c := 2 * L) (Nat.le_of_lt hpp)
          omega
        exact ahead_snoc (ih _ hrow _ hlt2 (by omega) _ _ d1 b1)
end
end M12
namespace M17
def it (f : Nat → Nat) : Nat → Nat → Nat
  | 0, x => x
  | n + 1, x => f (it f n x)
theorem it_add (f : Nat → Nat) (m : Nat) : ∀ (n x : Nat), it f (m + n) x = it f n (it f m x)
  | 0, x => rfl
  | n + 1, x => congrArg f (it_add f m n x)
theorem it_lt {f : Nat → Nat} {p : Nat} (h : ∀ x, x < p → f x < p) : ∀ (n x : Nat), x < p → it f n x < p
  | 0, x, hx => hx
  | n + 1, x, hx => h _ (it_lt h n x hx)
theorem it_inj {f : Nat → Nat} {p : Nat} (h : ∀ x, x < p → f x < p) (hi : ∀ x y, x < p → y < p → f x = f y → x = y) : ∀ (n x y : Nat), x < p → y < p → it f n x = it f n y → x = y
  | 0, x, y, _, _, e => e
  | n + 1, x, y, hx, hy, e => it_inj h hi n x y hx hy (hi _ _ (it_lt h n x hx) (it_lt h n y hy) e)
theorem it_mul {f : Nat → Nat} {c x : Nat} (h : it f c x = x) : ∀ k, it f (c * k) x = x
  | 0 => rfl
  | k + 1 => by
    rw [Nat.mul_succ, it_add, it_mul h k, h]
theorem ring {f : Nat → Nat} {p x : Nat} (h : ∀ x, x < p → f x < p) (hi : ∀ x y, x < p → y < p → f x = f y → x = y) (hx : x < p) : ∃ c, 1 ≤ c ∧ c ≤ p ∧ it f c x = x := by
  refine Classical.byContradiction fun hn => ?_
  have ne : ∀ i j, i < j → j ≤ p → it f i x ≠ it f j x := fun i j hij hj e => by
    refine hn ⟨j - i, by omega, by omega, ?_⟩
    have e2 : it f j x = it f i (it f (j - i) x) := by rw [← it_add, show j - i + i = j by omega]
    rw [e2] at e
    exact (it_inj h hi i x _ hx (it_lt h _ x hx) e).symm
  have nd : ((List.range (p + 1)).map fun i => ((it f i x : Nat) : Int)).Nodup := by
    rw [List.nodup_iff_pairwise_ne, List.pairwise_map]
    refine List.Pairwise.imp_of_mem (R := fun a b => a < b) (fun ha hb hab e => ?_) List.pairwise_lt_range
    have := List.mem_range.mp hb
    exact ne _ _ hab (by omega) (by omega)
  have := M11.nodup_lenI (n := p) nd fun z hz => by
    obtain ⟨i, _, rfl⟩ := List.mem_map.mp hz
    have := it_lt h i x hx
    omega
  rw [List.length_map, List.length_range] at this
  omega
theorem sixty {f : Nat → Nat} {p : Nat} (hp : p ≤ 6) (h : ∀ x, x < p → f x < p) (hi : ∀ x y, x < p → y < p → f x = f y → x = y) (x : Nat) (hx : x < p) : it f 60 x = x := by
  obtain ⟨c, c1, c2, e⟩ := ring h hi hx
  have hc : c = 1 ∨ c = 2 ∨ c = 3 ∨ c = 4 ∨ c = 5 ∨ c = 6 := by omega
  rcases hc with rfl | rfl | rfl | rfl | rfl | rfl
  · exact it_mul e 60
  · exact it_mul e 30
  · exact it_mul e 20
  · exact it_mul e 15
  · exact it_mul e 12
  · exact it_mul e 10
end M17
namespace M18
open M11 M12
section
variable {α : Type}
def RowG (f : Nat → α → α) (come : List α) (x : α) (r : List Int) (m : Nat) : Prop := r.length = m ∧ ∀ k, k < m → ∃ j : Nat, r[k]? = some (j : Int) ∧ come[j]? = some (f k x)
theorem RowG.more {f : Nat → α → α} {come c2 : List α} {x : α} {r : List Int} {m : Nat} (h : RowG f come x r m) : RowG f (come ++ c2) x r m := ⟨h.1, fun k hk => by
  obtain ⟨j, h1, h2⟩ := h.2 k hk
  refine ⟨j, h1, ?_⟩
  rw [List.getElem?_append_left (List.getElem?_eq_some_iff.mp h2).1]
  exact h2⟩
theorem RowG.snoc {f : Nat → α → α} {come : List α} {x : α} {r : List Int} {m j : Nat} (h : RowG f come x r m) (hj : come[j]? = some (f m x)) : RowG f come x (r ++ [(j : Int)]) (m + 1) := by
  refine ⟨by rw [List.length_append, h.1]; rfl, fun k hk => ?_⟩
  by_cases e : k = m
  · subst e
    refine ⟨j, ?_, hj⟩
    rw [List.getElem?_append_right (by rw [h.1]; exact Nat.le_refl _), h.1, Nat.sub_self]
    rfl
  · obtain ⟨i, h1, h2⟩ := h.2 k (by omega)
    exact ⟨i, by rw [List.getElem?_append_left (by rw [h.1]; omega)]; exact h1, h2⟩
structure Cm (L : Nat) (f : Nat → α → α) (T : List (List Int)) (come : List α) : Prop where
  tab : Tab L T
  len : come.length = T.length
  nd : come.Nodup
  mv : ∀ (i k : Nat) (x : α), come[i]? = some x → k < 2 * L → come[nx T k i]? = some (f k x)
theorem tabG {L : Nat} {f : Nat → α → α} {come : List α} {T : List (List Int)} (hL1 : 1 ≤ L) (hL2 : L ≤ 40) (hn : come.Nodup) (h1 : 1 ≤ come.length) (h2 : come.length ≤ 300) (hT : T.length = come.length)
    (hrow : ∀ (i : Nat) (x : α) (r : List Int), come[i]? = some x → T[i]? = some r → RowG f come x r (2 * L)) (hf : ∀ (k : Nat) (x : α), k < 2 * L → x ∈ come → f (M11.flip k) (f k x) = x) : Cm L f T come := by
  have key : ∀ i k : Nat, i < T.length → k < 2 * L → ∃ x r, come[i]? = some x ∧ T[i]? = some r ∧ r[k]? = some ((nx T k i : Nat) : Int) ∧ come[nx T k i]? = some (f k x) := fun i k hi hk => by
    have hx : come[i]? = some (come[i]'(by omega)) := List.getElem?_eq_getElem (by omega)
    have hr : T[i]? = some T[i] := List.getElem?_eq_getElem hi
    obtain ⟨j, a1, a2⟩ := (hrow i _ _ hx hr).2 k hk
    have e : nx T k i = j := by
      unfold nx
      rw [List.getD_eq_getElem?_getD, List.getD_eq_getElem?_getD, hr, Option.getD_some, a1, Option.getD_some]
      rfl
    exact ⟨_, _, hx, hr, by rw [e]; exact a1, by rw [e]; exact a2⟩
  refine ⟨⟨by omega, by omega, hL1, hL2, fun i r h => ?_, fun i k hi hk => ?_, fun i k hi hk => ?_, fun i k hi hk => ?_⟩, hT.symm, hn, fun i k x hx hk => ?_⟩
  · have hi := (List.getElem?_eq_some_iff.mp h).1
    exact (hrow i _ _ (List.getElem?_eq_getElem (by omega)) h).1
  · obtain ⟨x, r, _, a2, a3, _⟩ := key i k hi hk
    exact ⟨r, a2, a3⟩
  · obtain ⟨x, r, _, _, _, a4⟩ := key i k hi hk
    have := (List.getElem?_eq_some_iff.mp a4).1
    omega
  · obtain ⟨x, r, a1, _, _, a4⟩ := key i k hi hk
    have hj : nx T k i < T.length := by
      have := (List.getElem?_eq_some_iff.mp a4).1
      omega
    obtain ⟨y, r2, b1, _, _, b4⟩ := key (nx T k i) (M11.flip k) hj (flip_lt hk)
    have ey : y = f k x := Option.some.inj (b1.symm.trans a4)
    subst ey
    rw [hf k x hk (List.mem_of_getElem? a1), ← a1] at b4
    exact ((List.getElem?_inj (by have := (List.getElem?_eq_some_iff.mp a1).1; exact this) hn).mp b4.symm).symm
  · have hi := (List.getElem?_eq_some_iff.mp hx).1
    obtain ⟨y, r, a1, _, _, a4⟩ := key i k (by omega) hk
    have ey : y = x := Option.some.inj (a1.symm.trans hx)
    rw [← ey]
    exact a4
theorem Cm.walk {L : Nat} {f : Nat → α → α} {come : List α} {T : List (List Int)} (h : Cm L f T come) : ∀ {w : List Int} {i : Nat} {x : α}, Steps L w → come[i]? = some x → come[walk T w i]? = some (w.foldl (fun x s => f (pl s) x) x)
  | [], i, x, _, hx => hx
  | s :: w, i, x, hw, hx => h.walk (w := w) (fun s hs => hw s (List.mem_cons_of_mem _ hs)) (h.mv i (pl s) x hx (pl_lt (hw s (List.mem_cons_self ..))))
theorem nodup_code {n : Nat} {c : List α} (code : α → Nat) (hn : c.Nodup) (h1 : ∀ x ∈ c, code x < n) (h2 : ∀ x ∈ c, ∀ y ∈ c, code x = code y → x = y) : c.length ≤ n := by
  have h : (c.map code).Nodup := by
    refine List.pairwise_map.mpr (List.Pairwise.imp_of_mem ?_ hn)
    intro a b ha hb hab z
    exact hab (h2 a ha b hb z)
  have := nodup_len n (c.map code) h (fun x hx => by
    obtain ⟨y, hy, rfl⟩ := List.mem_map.mp hx
    exact h1 y hy)
  rw [List.length_map] at this
  exact this
end
def sf (rows : List (List Int)) (x : Nat) (s : Int) : Nat := if 0 < s then ((rows.getD (s.natAbs - 1) []).getD x 0).toNat else (rows.getD (s.natAbs - 1) []).findIdx (fun z => z == (x : Int))
theorem find_at {r : List Int} {i : Nat} {x : Int} (hn : r.Nodup) (h : r[i]? = some x) : r.findIdx (fun z => z == x) = i := by
  have hi := (List.getElem?_eq_some_iff.mp h).1
  have hm : x ∈ r := List.mem_of_getElem? h
  have hlt : r.findIdx (fun z => z == x) < r.length := List.findIdx_lt_length_of_exists ⟨x, hm, by simp⟩
  have e := List.findIdx_getElem (w := hlt)
  have e2 : r[r.findIdx (fun z => z == x)]? = some x := by
    rw [List.getElem?_eq_getElem hlt]
    congr 1
    exact eq_of_beq e
  exact (List.getElem?_inj hlt hn).mp (e2.trans h.symm)
theorem sf_pos {rows : List (List Int)} {s : Int} {x y : Nat} {r : List Int} (h : 0 < s) (hr : rows[s.natAbs - 1]? = some r) (hy : r[x]? = some (y : Int)) : sf rows x s = y := by
  unfold sf
  rw [if_pos h, List.getD_eq_getElem?_getD, List.getD_eq_getElem?_getD, hr, Option.getD_some, hy, Option.getD_some]
  rfl
theorem sf_neg {rows : List (List Int)} {s : Int} {x y : Nat} {r : List Int} (h : ¬ 0 < s) (hr : rows[s.natAbs - 1]? = some r) (hn : r.Nodup) (hy : r[y]? = some (x : Int)) : sf rows x s = y := by
  unfold sf
  rw [if_neg h, List.getD_eq_getElem?_getD, hr, Option.getD_some]
  exact find_at hn hy
theorem sf_ok {rows : List (List Int)} {p x : Nat} {s : Int} (hpm : ∀ r ∈ rows, Pm p r) (hx : x < p) (h0 : s ≠ 0) (hl : s.natAbs ≤ rows.length) : sf rows x s < p ∧ sf rows (sf rows x s) (-s) = x := by
  have g : rows[s.natAbs - 1]? = some (rows[s.natAbs - 1]'(by omega)) := List.getElem?_eq_getElem (by omega)
  generalize rows[s.natAbs - 1]'(by omega) = r at g
  have hP := hpm r (List.mem_of_getElem? g)
  by_cases h : 0 < s
  · obtain ⟨j, a, b⟩ := hP.at hx
    rw [sf_pos h g a]
    exact ⟨b, sf_neg (by omega) (by rw [Int.natAbs_neg]; exact g) hP.nd a⟩
  · obtain ⟨j, a, b⟩ := hP.surj hx
    rw [sf_neg h g hP.nd a]
    exact ⟨b, sf_pos (by omega) (by rw [Int.natAbs_neg]; exact g) a⟩
theorem steps_cons {L : Nat} {s : Int} {w : List Int} (h : Steps L (s :: w)) : (s ≠ 0 ∧ s.natAbs ≤ L) ∧ Steps L w := ⟨h s (List.mem_cons_self ..), fun x hx => h x (List.mem_cons_of_mem _ hx)⟩
def fw (rows : List (List Int)) (w : List Int) (x : Nat) : Nat := w.foldl (sf rows) x
theorem fw_app (rows : List (List Int)) (w u : List Int) (x : Nat) : fw rows (w ++ u) x = fw rows u (fw rows w x) := List.foldl_append ..
section
variable {rows : List (List Int)} {p : Nat}
theorem fw_lt (hpm : ∀ r ∈ rows, Pm p r) : ∀ {w : List Int} {x : Nat}, Steps rows.length w → x < p → fw rows w x < p
  | [], x, _, hx => hx
  | s :: w, x, hw, hx => by
    obtain ⟨hs, hw'⟩ := steps_cons hw
    exact fw_lt hpm (w := w) hw' (sf_ok hpm hx hs.1 hs.2).1
theorem fw_back (hpm : ∀ r ∈ rows, Pm p r) : ∀ {w : List Int} {x : Nat}, Steps rows.length w → x < p → fw rows (back w) (fw rows w x) = x
  | [], x, _, hx => rfl
  | s :: w, x, hw, hx => by
    obtain ⟨hs, hw'⟩ := steps_cons hw
    have a := sf_ok hpm hx hs.1 hs.2
    have e : back (s :: w) = back w ++ [-s] := by unfold back; rw [List.reverse_cons, List.map_append]; rfl
    rw [e, fw_app]
    show fw rows [-s] (fw rows (back w) (fw rows w (sf rows x s))) = x
    rw [fw_back hpm hw' a.1]
    exact a.2
theorem fw_inj (hpm : ∀ r ∈ rows, Pm p r) {w : List Int} {x y : Nat} (hw : Steps rows.length w) (hx : x < p) (hy : y < p) (e : fw rows w x = fw rows w y) : x = y := by
  rw [← fw_back hpm hw hx, e, fw_back hpm hw hy]
end
def thr (rows : List (List Int)) (p : Nat) (w : List Int) : List Int := (List.range p).map fun x => ((fw rows w x : Nat) : Int)
theorem thr_len (rows : List (List Int)) (p : Nat) (w : List Int) : (thr rows p w).length = p := by unfold thr; rw [List.length_map, List.length_range]
theorem thr_at {rows : List (List Int)} {p : Nat} {w : List Int} {x : Nat} (hx : x < p) : (thr rows p w)[x]? = some ((fw rows w x : Nat) : Int) := by
  unfold thr
  rw [List.getElem?_map, List.getElem?_range hx]
  rfl
theorem thr_pm {rows : List (List Int)} {p : Nat} {w : List Int} (hpm : ∀ r ∈ rows, Pm p r) (hw : Steps rows.length w) : Pm p (thr rows p w) := by
  refine ⟨thr_len .., ?_, fun z hz => ?_⟩
  · unfold thr
    refine List.pairwise_map.mpr (List.Pairwise.imp_of_mem ?_ List.nodup_range)
    intro a b ha hb hab z
    exact hab (fw_inj hpm hw (List.mem_range.mp ha) (List.mem_range.mp hb) (by omega))
  · unfold thr at hz
    obtain ⟨i, hi, rfl⟩ := List.mem_map.mp hz
    have := fw_lt hpm hw (List.mem_range.mp hi)
    omega
def mvs (rows : List (List Int)) (s : Int) (u : List Int) : List Int := u.map fun z => ((sf rows z.toNat s : Nat) : Int)
theorem thr_snoc (rows : List (List Int)) (p : Nat) (w : List Int) (s : Int) : mvs rows s (thr rows p w) = thr rows p (w ++ [s]) := by
  unfold mvs thr
  rw [List.map_map]
  refine List.map_congr_left fun i _ => ?_
  show ((sf rows ((fw rows w i : Nat) : Int).toNat s : Nat) : Int) = _
  rw [Int.toNat_natCast, fw_app]
  rfl
theorem thr_fold (rows : List (List Int)) (p : Nat) : ∀ (w v : List Int), w.foldl (fun u s => mvs rows s u) (thr rows p v) = thr rows p (v ++ w)
  | [], v => by rw [List.append_nil]; rfl
  | s :: w, v => by
    show w.foldl (fun u s => mvs rows s u) (mvs rows s (thr rows p v)) = _
    rw [thr_snoc, thr_fold rows p w (v ++ [s]), List.append_assoc]
    rfl
theorem mvs_pm {rows : List (List Int)} {p : Nat} {s : Int} {u : List Int} (hpm : ∀ r ∈ rows, Pm p r) (hs : s ≠ 0 ∧ s.natAbs ≤ rows.length) (hu : Pm p u) : Pm p (mvs rows s u) := by
  refine ⟨by unfold mvs; rw [List.length_map, hu.len], ?_, fun z hz => ?_⟩
  · unfold mvs
    refine List.pairwise_map.mpr (List.Pairwise.imp_of_mem ?_ hu.nd)
    intro a b ha hb hab z
    have h1 := hu.rg a ha
    have h2 := hu.rg b hb
    have e1 := (sf_ok hpm (show a.toNat < p by omega) hs.1 hs.2).2
    have e2 := (sf_ok hpm (show b.toNat < p by omega) hs.1 hs.2).2
    have e3 : sf rows a.toNat s = sf rows b.toNat s := by omega
    rw [e3, e2] at e1
    omega
  · unfold mvs at hz
    obtain ⟨i, hi, rfl⟩ := List.mem_map.mp hz
    have h1 := hu.rg i hi
    have := (sf_ok hpm (show i.toNat < p by omega) hs.1 hs.2).1
    omega
theorem mvs_back {rows : List (List Int)} {p : Nat} {s : Int} {u : List Int} (hpm : ∀ r ∈ rows, Pm p r) (hs : s ≠ 0 ∧ s.natAbs ≤ rows.length) (hu : Pm p u) : mvs rows (-s) (mvs rows s u) = u := by
  unfold mvs
  rw [List.map_map]
  conv => rhs; rw [← List.map_id u]
  refine List.map_congr_left fun z hz => ?_
  have h1 := hu.rg z hz
  have := (sf_ok hpm (show z.toNat < p by omega) hs.1 hs.2).2
  show ((sf rows ((sf rows z.toNat s : Nat) : Int).toNat (-s) : Nat) : Int) = z
  rw [Int.toNat_natCast, this]
  omega
theorem st_pl {s : Int} (h : s ≠ 0) : st (pl s) = s := by
  unfold st pl
  by_cases h1 : 0 < s
  · rw [if_pos h1, if_pos (by omega)]; omega
  · rw [if_neg h1, if_neg (by omega)]; omega
theorem st_flip (k : Nat) : st (M11.flip k) = -st k := by
  unfold st M11.flip
  by_cases h : k % 2 = 0
  · rw [if_pos h, if_pos h, if_neg (by omega)]; omega
  · rw [if_neg h, if_neg h, if_pos (by omega)]; omega
def tn (p : Nat) (rows : List (List Int)) (s : Int) : List Int := (List.range p).map fun x => ((sf rows x s : Nat) : Int)
theorem tn_at {p : Nat} {rows : List (List Int)} {s : Int} {x : Nat} (hx : x < p) : (tn p rows s)[x]? = some ((sf rows x s : Nat) : Int) := by
  unfold tn
  rw [List.getElem?_map, List.getElem?_range hx]
  rfl
theorem tn_pos {p : Nat} {rows : List (List Int)} {s : Int} {r : List Int} (hr : rows[s.natAbs - 1]? = some r) (hP : Pm p r) (h : 0 < s) : tn p rows s = r := by
  refine List.ext_getElem? fun i => ?_
  by_cases hi : i < p
  · obtain ⟨j, a, b⟩ := hP.at hi
    rw [tn_at hi, a, sf_pos h hr a]
  · rw [List.getElem?_eq_none (by unfold tn; rw [List.length_map, List.length_range]; omega), List.getElem?_eq_none (by rw [hP.len]; omega)]
theorem tn_neg {p : Nat} {rows : List (List Int)} {s : Int} {r t : List Int} (hr : rows[s.natAbs - 1]? = some r) (hP : Pm p r) (h : ¬ 0 < s) (ht : InvOf p r t) : tn p rows s = t := by
  refine List.ext_getElem? fun i => ?_
  by_cases hi : i < p
  · obtain ⟨j, a, b⟩ := hP.surj hi
    rw [tn_at hi, ht.2 j i a, sf_neg h hr hP.nd a]
  · rw [List.getElem?_eq_none (by unfold tn; rw [List.length_map, List.length_range]; omega), List.getElem?_eq_none (by rw [ht.1]; omega)]
def cd (u : List Int) : Nat := u.foldl (fun n z => 4 * n + z.toNat) 0
theorem cd_fold : ∀ (u : List Int) (n : Nat), (∀ z ∈ u, 0 ≤ z ∧ z < 4) → u.foldl (fun n z => 4 * n + z.toNat) n < (n + 1) * 4 ^ u.length
  | [], n, _ => by simp
  | z :: u, n, h => by
    have hz := h z (List.mem_cons_self ..)
    have ih := cd_fold u (4 * n + z.toNat) (fun z hz => h z (List.mem_cons_of_mem _ hz))
    rw [List.foldl_cons, List.length_cons, Nat.pow_succ]
    refine Nat.lt_of_lt_of_le ih ?_
    have : (4 * n + z.toNat + 1) ≤ (n + 1) * 4 := by omega
    have := Nat.mul_le_mul_right (4 ^ u.length) this
    rw [Nat.mul_assoc, Nat.mul_comm 4 (4 ^ u.length)] at this
    exact this
theorem cd_inj : ∀ (u v : List Int) (n m : Nat), u.length = v.length → (∀ z ∈ u, 0 ≤ z ∧ z < 4) → (∀ z ∈ v, 0 ≤ z ∧ z < 4) → u.foldl (fun n z => 4 * n + z.toNat) n = v.foldl (fun n z => 4 * n + z.toNat) m → n = m ∧ u = v
  | [], [], n, m, _, _, _, e => ⟨e, rfl⟩
  | [], _ :: _, _, _, hl, _, _, _ => by cases hl
  | _ :: _, [], _, _, hl, _, _, _ => by cases hl
  | z :: u, y :: v, n, m, hl, hu, hv, e => by
    have hz := hu z (List.mem_cons_self ..)
    have hy := hv y (List.mem_cons_self ..)
    rw [List.foldl_cons, List.foldl_cons] at e
    obtain ⟨a, b⟩ := cd_inj u v _ _ (by simpa using hl) (fun z hz => hu z (List.mem_cons_of_mem _ hz)) (fun z hz => hv z (List.mem_cons_of_mem _ hz)) e
    have h1 : z = y := by omega
    exact ⟨by omega, by rw [h1, b]⟩
theorem four {p : Nat} (hp : p ≤ 4) {c : List (List Int)} (hn : c.Nodup) (h : ∀ u ∈ c, Pm p u) : c.length ≤ 256 := by
  have rg : ∀ u ∈ c, ∀ z ∈ u, 0 ≤ z ∧ z < 4 := fun u hu z hz => by
    have := (h u hu).rg z hz
    omega
  refine nodup_code cd hn (fun u hu => ?_) (fun u hu v hv e => ?_)
  · have := cd_fold u 0 (rg u hu)
    rw [(h u hu).len, Nat.zero_add, Nat.one_mul] at this
    exact Nat.lt_of_lt_of_le this (Nat.pow_le_pow_right (by omega) hp)
  · exact (cd_inj u v 0 0 (by rw [(h u hu).len, (h v hv).len]) (rg u hu) (rg v hv) e).2
def im1 (Im : List (List Int)) (s : Int) : List Int := if 0 < s then Im.getD (s.natAbs - 1) [] else back (Im.getD (s.natAbs - 1) [])
def fill (Im : List (List Int)) (u : List Int) : List Int := u.flatMap (im1 Im)
def mov (rows : List (List Int)) (p : Nat) (Im : List (List Int)) : List (List Int) := Im.map (thr rows p)
theorem mov_pm {rows : List (List Int)} {p : Nat} {Im : List (List Int)} (hpm : ∀ r ∈ rows, Pm p r) (hI : ∀ w ∈ Im, Steps rows.length w) : ∀ r ∈ mov rows p Im, Pm p r := fun r hr => by
  obtain ⟨w, hw, rfl⟩ := List.mem_map.mp hr
  exact thr_pm hpm (hI w hw)
theorem im1_steps {L : Nat} {Im : List (List Int)} {s : Int} (hI : ∀ w ∈ Im, Steps L w) : Steps L (im1 Im s) := by
  have h : Steps L (Im.getD (s.natAbs - 1) []) := by
    rw [List.getD_eq_getElem?_getD]
    cases e : Im[s.natAbs - 1]? with
    | none => exact fun s hs => by cases hs
    | some w => exact hI w (List.mem_of_getElem? e)
  unfold im1
  split
  · exact h
  · exact steps_back h
theorem back_back (w : List Int) : back (back w) = w := by
  unfold back
  rw [← List.map_reverse, List.reverse_reverse, List.map_map]
  conv => rhs; rw [← List.map_id w]
  refine List.map_congr_left fun z _ => ?_
  show - -z = z
  omega
theorem mov_one {rows : List (List Int)} {p : Nat} {Im : List (List Int)} {s : Int} {x : Nat} (hpm : ∀ r ∈ rows, Pm p r) (hI : ∀ w ∈ Im, Steps rows.length w) (h0 : s ≠ 0) (hl : s.natAbs ≤ Im.length) (hx : x < p) : sf (mov rows p Im) x s = fw rows (im1 Im s) x := by
  have g : Im[s.natAbs - 1]? = some (Im[s.natAbs - 1]'(by omega)) := List.getElem?_eq_getElem (by omega)
  generalize Im[s.natAbs - 1]'(by omega) = w at g
  have hw := hI w (List.mem_of_getElem? g)
  have g2 : (mov rows p Im)[s.natAbs - 1]? = some (thr rows p w) := by unfold mov; rw [List.getElem?_map, g]; rfl
  have e : Im.getD (s.natAbs - 1) [] = w := by rw [List.getD_eq_getElem?_getD, g]; rfl
  unfold im1
  rw [e]
  by_cases h : 0 < s
  · rw [if_pos h]
    exact sf_pos h g2 (thr_at hx)
  · rw [if_neg h]
    have hP := thr_pm hpm hw (p := p)
    have hb := fw_lt hpm (steps_back hw) hx
    refine sf_neg h g2 hP.nd ?_
    rw [thr_at hb]
    have := fw_back hpm (steps_back hw) hx
    rw [back_back] at this
    rw [this]
theorem mov_fill {rows : List (List Int)} {p : Nat} {Im : List (List Int)} (hpm : ∀ r ∈ rows, Pm p r) (hI : ∀ w ∈ Im, Steps rows.length w) : ∀ {u : List Int} {x : Nat}, Steps Im.length u → x < p → fw (mov rows p Im) u x = fw rows (fill Im u) x
  | [], x, _, _ => rfl
  | s :: u, x, hu, hx => by
    obtain ⟨hs, hu'⟩ := steps_cons hu
    have e := mov_one hpm hI hs.1 hs.2 hx
    show fw (mov rows p Im) u (sf (mov rows p Im) x s) = fw rows (im1 Im s ++ fill Im u) x
    rw [e, fw_app]
    exact mov_fill hpm hI hu' (fw_lt hpm (im1_steps hI) hx)
theorem thr_fill {rows : List (List Int)} {p : Nat} {Im : List (List Int)} {u : List Int} (hpm : ∀ r ∈ rows, Pm p r) (hI : ∀ w ∈ Im, Steps rows.length w) (hu : Steps Im.length u) : thr (mov rows p Im) p u = thr rows p (fill Im u) := by
  unfold thr
  refine List.map_congr_left fun x hx => ?_
  rw [mov_fill hpm hI hu (List.mem_range.mp hx)]
theorem fill_steps {L : Nat} {Im : List (List Int)} {u : List Int} (hI : ∀ w ∈ Im, Steps L w) : Steps L (fill Im u) := fun s hs => by
  obtain ⟨t, _, ht⟩ := List.mem_flatMap.mp hs
  exact im1_steps hI s ht
theorem walk_thr {rows : List (List Int)} {p L : Nat} {T come : List (List Int)} {w : List Int} (h : Cm L (fun k u => mvs rows (st k) u) T come) (h0 : come[0]? = some (thr rows p [])) (hw : Steps L w) : come[walk T w 0]? = some (thr rows p w) := by
  have := h.walk hw h0
  rw [this]
  have key : ∀ (w : List Int) (u : List Int), Steps L w → w.foldl (fun x s => mvs rows (st (pl s)) x) u = w.foldl (fun u s => mvs rows s u) u := by
    intro w
    induction w with
    | nil => intro u _; rfl
    | cons s w ih =>
      intro u hw
      obtain ⟨hs, hw'⟩ := steps_cons hw
      rw [List.foldl_cons, List.foldl_cons, st_pl hs.1]
      exact ih _ hw'
  rw [key w _ hw, thr_fold]
  rfl
theorem walk_home {rows : List (List Int)} {p L : Nat} {T come : List (List Int)} {w : List Int} (h : Cm L (fun k u => mvs rows (st k) u) T come) (h0 : come[0]? = some (thr rows p [])) (hw : Steps L w) : walk T w 0 = 0 ↔ thr rows p w = thr rows p [] := by
  have e := walk_thr h h0 hw
  constructor
  · intro z
    rw [z, h0] at e
    exact (Option.some.inj e).symm
  · intro z
    rw [z, ← h0] at e
    have hp := h.tab.pos
    have hl := h.len
    exact ((List.getElem?_inj (by omega) h.nd).mp e.symm).symm
end M18
namespace K71
open PySem L2
def top (i : Nat) : Stmt := PySem.Challenge.pw_cosetyard_k71_carries.main.body.getD i (.Pass ⟨0, 0, 0, 0⟩)
abbrev s_back : Stmt := top 1
abbrev s_filled_in : Stmt := top 2
abbrev s_led : Stmt := top 4
abbrev s_place_of : Stmt := top 5
abbrev s_carries : Stmt := top 7
abbrev s__law_at : Stmt := top 9
abbrev s__law_mix : Stmt := top 10
abbrev s__law_turns : Stmt := top 11
abbrev s__law_back : Stmt := top 12
abbrev s__law_through : Stmt := top 13
abbrev s__law_table : Stmt := top 14
abbrev s__law_word : Stmt := top 15
abbrev s__law_cut_words : Stmt := top 16
abbrev s__law_often : Stmt := top 17
abbrev s_law : Stmt := top 18
structure Adr where
  f_back : Addr
  d_back : FuncData
  f_filled_in : Addr
  d_filled_in : FuncData
  f_led : Addr
  d_led : FuncData
  f_place_of : Addr
  d_place_of : FuncData
  f_carries : Addr
  d_carries : FuncData
  f__law_at : Addr
  d__law_at : FuncData
  f__law_mix : Addr
  d__law_mix : FuncData
  f__law_turns : Addr
  d__law_turns : FuncData
  f__law_back : Addr
  d__law_back : FuncData
  f__law_through : Addr
  d__law_through : FuncData
  f__law_table : Addr
  d__law_table : FuncData
  f__law_word : Addr
  d__law_word : FuncData
  f__law_cut_words : Addr
  d__law_cut_words : FuncData
  f__law_often : Addr
  d__law_often : FuncData
  f_law : Addr
  d_law : FuncData
structure Txt (K : PySem.W.Frag) (mg : Str → Option Value) (A : Adr) : Prop where
  back : Def K mg "back" s_back ["word"] A.f_back A.d_back
  filled_in : Def K mg "filled_in" s_filled_in ["word", "images"] A.f_filled_in A.d_filled_in
  led : Def K mg "led" s_led ["table", "room", "word"] A.f_led A.d_led
  place_of : Def K mg "place_of" s_place_of ["step"] A.f_place_of A.d_place_of
  carries : Def K mg "carries" s_carries ["rules", "table", "images"] A.f_carries A.d_carries
  _law_at : Def K mg "_law_at" s__law_at ["_law_script", "_law_k"] A.f__law_at A.d__law_at
  _law_mix : Def K mg "_law_mix" s__law_mix ["_law_number", "_law_place"] A.f__law_mix A.d__law_mix
  _law_turns : Def K mg "_law_turns" s__law_turns ["_law_number", "_law_letters", "_law_points"] A.f__law_turns A.d__law_turns
  _law_back : Def K mg "_law_back" s__law_back ["_law_turned"] A.f__law_back A.d__law_back
  _law_through : Def K mg "_law_through" s__law_through ["_law_turns_here", "_law_word_here", "_law_points"] A.f__law_through A.d__law_through
  _law_table : Def K mg "_law_table" s__law_table ["_law_turns_here", "_law_points"] A.f__law_table A.d__law_table
  _law_word : Def K mg "_law_word" s__law_word ["_law_cells", "_law_letters"] A.f__law_word A.d__law_word
  _law_cut_words : Def K mg "_law_cut_words" s__law_cut_words ["_law_cells", "_law_letters"] A.f__law_cut_words A.d__law_cut_words
  _law_often : Def K mg "_law_often" s__law_often ["_law_turns_here", "_law_word_here", "_law_points"] A.f__law_often A.d__law_often
  law : Def K mg "law" s_law ["_law_script"] A.f_law A.d_law
  z_abs : mg "abs" = none
  z_range : mg "range" = none
  z_len : mg "len" = none
  z_tuple : mg "tuple" = none
  z_list : mg "list" = none
  z_isinstance : mg "isinstance" = none
  z_bool : mg "bool" = none
  z_reversed : mg "reversed" = none
theorem sc_back : FnScope ["word"] ["word"] (defScope s_back) := ⟨rfl, rfl, rfl, by decide +kernel, rfl, by decide +kernel, by decide +kernel⟩
theorem sc_filled_in : FnScope ["word", "images", "filled", "step", "image"] ["word", "images"] (defScope s_filled_in) := ⟨rfl, rfl, rfl, by decide +kernel, rfl, by decide +kernel, by decide +kernel⟩
theorem sc_led : FnScope ["table", "room", "word", "step"] ["table", "room", "word"] (defScope s_led) := ⟨rfl, rfl, rfl, by decide +kernel, rfl, by decide +kernel, by decide +kernel⟩
theorem sc_place_of : FnScope ["step"] ["step"] (defScope s_place_of) := ⟨rfl, rfl, rfl, by decide +kernel, rfl, by decide +kernel, by decide +kernel⟩
theorem sc_carries : FnScope ["rules", "table", "images", "rule"] ["rules", "table", "images"] (defScope s_carries) := ⟨rfl, rfl, rfl, by decide +kernel, rfl, by decide +kernel, by decide +kernel⟩
theorem sc__law_at : FnScope ["_law_script", "_law_k"] ["_law_script", "_law_k"] (defScope s__law_at) := ⟨rfl, rfl, rfl, by decide +kernel, rfl, by decide +kernel, by decide +kernel⟩
theorem sc__law_mix : FnScope ["_law_number", "_law_place", "_law_part"] ["_law_number", "_law_place"] (defScope s__law_mix) := ⟨rfl, rfl, rfl, by decide +kernel, rfl, by decide +kernel, by decide +kernel⟩
theorem sc__law_turns : FnScope ["_law_number", "_law_letters", "_law_points", "_law_turns_here", "_law_k", "_law_row", "_law_j", "_law_at_here", "_law_kept"] ["_law_number", "_law_letters", "_law_points"] (defScope s__law_turns) := ⟨rfl, rfl, rfl, by decide +kernel, rfl, by decide +kernel, by decide +kernel⟩
theorem sc__law_back : FnScope ["_law_turned", "_law_found", "_law_k"] ["_law_turned"] (defScope s__law_back) := ⟨rfl, rfl, rfl, by decide +kernel, rfl, by decide +kernel, by decide +kernel⟩
theorem sc__law_through : FnScope ["_law_turns_here", "_law_word_here", "_law_points", "_law_spots", "_law_step", "_law_turned"] ["_law_turns_here", "_law_word_here", "_law_points"] (defScope s__law_through) := ⟨rfl, rfl, rfl, by decide +kernel, rfl, by decide +kernel, by decide +kernel⟩
theorem sc__law_table : FnScope ["_law_turns_here", "_law_points", "_law_come", "_law_table_here", "_law_spots", "_law_row", "_law_k", "_law_turned", "_law_other"] ["_law_turns_here", "_law_points"] (defScope s__law_table) := ⟨rfl, rfl, rfl, by decide +kernel, rfl, by decide +kernel, by decide +kernel⟩
theorem sc__law_word : FnScope ["_law_cells", "_law_letters", "_law_steps", "_law_cell", "_law_number", "_law_step"] ["_law_cells", "_law_letters"] (defScope s__law_word) := ⟨rfl, rfl, rfl, by decide +kernel, rfl, by decide +kernel, by decide +kernel⟩
theorem sc__law_cut_words : FnScope ["_law_cells", "_law_letters", "_law_words", "_law_kept", "_law_cell"] ["_law_cells", "_law_letters"] (defScope s__law_cut_words) := ⟨rfl, rfl, rfl, by decide +kernel, rfl, by decide +kernel, by decide +kernel⟩
theorem sc__law_often : FnScope ["_law_turns_here", "_law_word_here", "_law_points", "_law_plain", "_law_one", "_law_spots", "_law_many"] ["_law_turns_here", "_law_word_here", "_law_points"] (defScope s__law_often) := ⟨rfl, rfl, rfl, by decide +kernel, rfl, by decide +kernel, by decide +kernel⟩
theorem sc_law : FnScope ["_law_script", "_law_number", "_law_points", "_law_turns_here", "_law_table_here", "_law_letters", "_law_images", "_law_k", "_law_some", "_law_moves", "_law_rules", "_law_due", "_law_word_here", "_law_handed", "_law_time", "_law_found"] ["_law_script"] (defScope s_law) := ⟨rfl, rfl, rfl, by decide +kernel, rfl, by decide +kernel, by decide +kernel⟩
section
variable {P : Program} {w : World} {K : PySem.W.Frag} {mg : Str → Option Value} {base : Heap} {A : Adr}
def spAt (K : PySem.W.Frag) : Sp := fun vs H Q _ => ∃ (a : Addr) (ns : List Int) (k : Nat), vs = [.ref a, .int k] ∧ SqL K H a (intV ns) ∧ k ≤ 1000 ∧ ∀ z, Q (.int z) H
def spMix : Sp := fun vs H Q _ => ∃ (z p : Int), vs = [.int z, .int p] ∧ 0 ≤ p ∧ p ≤ 1000 ∧ ∀ r : Int, 0 ≤ r → Q (.int r) H
def spLaw (K : PySem.W.Frag) : Sp := fun vs H Q _ => ∃ (a : Addr) (ns : List Int), vs = [.ref a] ∧ SqL K H a (ns.map V.int) ∧ ns.length ≤ 63 ∧ ∀ H', Q (.bl true) H'
theorem ref_at {rs : List Addr} {i : Nat} {r : Addr} (h : rs[i]? = some r) : atI (rs.map V.ref) (i : Int) = some (V.ref r) := atI_nat (by rw [List.getElem?_map, h]; rfl)
theorem ok__law_at (T : Txt K mg A) : FnOk P w K mg base CX0 1 A.f__law_at A.d__law_at ["_law_script", "_law_k"] (spAt K) := by
  refine T._law_at.F.ok sc__law_at (fun vs H Q E h => ?_) (fun cdv AA outer s H vs Q E hr h => ?_)
  · obtain ⟨a, ns, n, rfl, _⟩ := h
    rfl
  · obtain ⟨a, ns, n, rfl, ha, hn, k⟩ := h
    refine ⟨_, (pss_cons (ps_if (pt_cmpR op_lt (pv 1) (pe_callB call_len_seq rfl T.z_len PySem.boot_len (pa_cons (pv 0) pa_nil)) (nomark _))
        (pss_one (ps_ret (pe_ix ix_list (pv 0) (pv 1) (fun _ _ => rfl))))
        pss_nil)
      (pss_one (ps_ret (pe_op op_add (pe_op op_mul pe_int (pv 1)) pe_int)))), ?_⟩
    refine ⟨_, rfl, _, rfl, a, _, rfl, .inl ha, _, _, rfl, rfl, _, rfl, ?_⟩
    refine ite2 (fun h => ?_) (fun h => ?_)
    · have h' : (n : Int) < ((intV ns).length : Int) := of_decide_eq_true h
      rw [ints_len] at h'
      have e0 : ns[n]? = some ns[n] := List.getElem?_eq_getElem (by omega)
      exact ⟨_, rfl, _, rfl, a, _, _, _, rfl, rfl, ha, atI_nat (ints_at e0), k _⟩
    · exact ⟨_, rfl, _, _, rfl, rfl, .inl ⟨by decide, by decide⟩, _, _, rfl, rfl, k _⟩
theorem ok__law_mix (T : Txt K mg A) : FnOk P w K mg base CX0 1 A.f__law_mix A.d__law_mix ["_law_number", "_law_place"] spMix := by
  refine T._law_mix.F.ok sc__law_mix (fun vs H Q E h => ?_) (fun cdv AA outer s H vs Q E hr h => ?_)
  · obtain ⟨z, p, rfl, _⟩ := h
    rfl
  · obtain ⟨z, p, rfl, hp, hp2, k⟩ := h
    refine ⟨_, (pss_cons (ps_set (i := 2) sc__law_mix.nd rfl (Or.inl rfl) (pe_op op_mod (pe_op op_mul (pe_op op_add (pe_op op_add (pe_op op_mod (pv 0) pe_int) (pv 1)) pe_int) (pe_op op_add (pe_op op_mul (pe_op op_mul pe_int (pv 1)) (pv 1)) pe_int)) pe_int))
      (pss_one (ps_ret (pe_op op_mod (pe_op op_mul (pv 2) (pv 2)) pe_int)))), ?_⟩
    have b1 := Int.emod_nonneg z (show (2147483629 : Int) ≠ 0 by decide)
    have b2 := Int.emod_lt_of_pos z (show (0 : Int) < 2147483629 by decide)
    refine ⟨_, rfl, _, _, rfl, rfl, (by show (0 : Int) < 2147483629; decide), _, rfl, _, _, rfl, rfl, _, _, rfl, rfl, _, rfl, _, _, rfl, rfl, .inl ⟨by decide, by decide⟩, _, rfl, _, _, rfl, rfl, .inr ⟨by omega, by omega⟩, _, _, rfl, rfl, _, _, rfl, rfl, .inl ⟨by omega, by omega⟩, _, _, rfl, rfl, (by show (0 : Int) < 2147483647; decide), ?_⟩
    generalize ((z % 2147483629 + p + 1) * (8 * p * p + 48271)) = y1
    have c1 := Int.emod_nonneg y1 (show (2147483647 : Int) ≠ 0 by decide)
    have c2 := Int.emod_lt_of_pos y1 (show (0 : Int) < 2147483647 by decide)
    generalize y1 % 2147483647 = y2 at c1 c2 ⊢
    refine ⟨_, rfl, _, rfl, _, _, rfl, rfl, .inl ⟨by omega, by omega⟩, _, _, rfl, rfl, (by show (0 : Int) < 2147483587; decide), ?_⟩
    exact k _ (Int.emod_nonneg _ (by decide))
theorem ixN_nat {n i : Nat} (h : i < n) : ixN n (i : Int) = some i := by
  unfold ixN
  rw [if_pos (by omega), if_pos (by omega), Int.toNat_natCast]
theorem ints_set (ns : List Int) (i : Nat) (z : Int) : (intV ns).set i (.int z) = intV (ns.set i z) := by
  unfold intV
  rw [List.map_set]
theorem pm_rng {p : Nat} : M11.Pm p (rng 0 p) := by
  refine ⟨rng_len 0 p, ?_, fun z hz => ?_⟩
  · unfold rng
    exact List.Pairwise.map _ (fun a b (hab : a ≠ b) (z : (0 : Int) + (a : Int) = 0 + (b : Int)) => hab (by omega)) List.nodup_range
  · unfold rng at hz
    obtain ⟨i, hi, rfl⟩ := List.mem_map.mp hz
    have := List.mem_range.mp hi
    omega
def But (p : Addr) (H H' : Hp) : Prop := ∀ q o, q ≠ p → H q = some o → H' q = some o
theorem But.trans {p : Addr} {H H1 H2 : Hp} (a : But p H H1) (b : But p H1 H2) : But p H H2 := fun q o n e => b q o n (a q o n e)
theorem But.upd {p : Addr} {H : Hp} {o : HO} : But p H (upd H p o) := fun q u n e => by rw [upd_ne n]; exact e
theorem _root_.L2.RowsAt.but {H H' : Hp} {rs : List Addr} {rows : List (List Int)} {w : Addr} (h : RowsAt H rs rows) (b : But w H H') (hw : w ∉ rs) : RowsAt H' rs rows := ⟨h.1, fun i r ns h1 h2 => b _ _ (fun z => hw (by rw [← z]; exact List.mem_of_getElem? h1)) (h.2 i r ns h1 h2)⟩
theorem rows_mem {H : Hp} {rs : List Addr} {rows : List (List Int)} (h : RowsAt H rs rows) {r : Addr} (hr : r ∈ rs) : ∃ ns, H r = some (.lst (intV ns)) := by
  obtain ⟨i, hi, e⟩ := List.mem_iff_getElem.mp hr
  have hi2 : i < rows.length := by rw [← h.1]; exact hi
  exact ⟨_, h.2 i r _ (by rw [List.getElem?_eq_getElem hi, e]) (List.getElem?_eq_getElem hi2)⟩
theorem _root_.L2.RowsAt.snoc {H : Hp} {rs : List Addr} {rows : List (List Int)} {r : Addr} {ns : List Int} (h : RowsAt H rs rows) (hr : H r = some (.lst (intV ns))) : RowsAt H (rs ++ [r]) (rows ++ [ns]) := by
  refine ⟨by rw [List.length_append, List.length_append, h.1]; rfl, fun i q ms h1 h2 => ?_⟩
  by_cases hi : i < rs.length
  · rw [List.getElem?_append_left hi] at h1
    rw [List.getElem?_append_left (by rw [← h.1]; exact hi)] at h2
    exact h.2 i q ms h1 h2
  · rw [List.getElem?_append_right (by omega)] at h1
    rw [List.getElem?_append_right (by rw [← h.1]; omega)] at h2
    rw [List.mem_singleton.mp (List.mem_of_getElem? h1), List.mem_singleton.mp (List.mem_of_getElem? h2)]
    exact hr
theorem rep_zero (p : Nat) : (List.replicate p [V.int 0]).flatten = intV (List.replicate p (0 : Int)) := by
  unfold intV
  rw [List.map_replicate]
  induction p with
  | zero => rfl
  | succ n ih => rw [List.replicate_succ, List.flatten_cons, ih, List.replicate_succ]; rfl
theorem tups_upd {H : Hp} {ps : List Addr} {ws : List (List Int)} (h : TupsAt H ps ws) {w : Addr} {xs : List V} {o : HO} (hw : H w = some (.lst xs)) : TupsAt (upd H w o) ps ws := h.keep fun p us e => by
  rw [upd_ne (ne_of e hw (by intro z; cases z))]
  exact e
def spPlace : Sp := fun vs H Q _ => ∃ s : Int, vs = [.int s] ∧ s ≠ 0 ∧ s.natAbs ≤ 1000 ∧ Q (.int (M11.pl s)) H
def spLed : Sp := fun vs H Q _ => ∃ (a wa : Addr) (T : List (List Int)) (L i : Nat) (w : List Int), vs = [.ref a, .int i, .ref wa] ∧ TabAt H a T ∧ M11.Tab L T ∧ i < T.length ∧ H wa = some (.tup (intV w)) ∧ M11.Steps L w ∧ Q (.int (M11.walk T w i)) H
theorem tab_get {H : Hp} {a : Addr} {T : List (List Int)} {L i : Nat} (h : TabAt H a T) (hT : M11.Tab L T) (hi : i < T.length) : ∃ (rs : List Addr) (r : Addr) (row : List Int), H a = some (.lst (rs.map V.ref)) ∧ rs[i]? = some r ∧ H r = some (.lst (intV row)) ∧ row.length = 2 * L ∧ ∀ k, k < 2 * L → row[k]? = some ((M11.nx T k i : Nat) : Int) := by
  obtain ⟨rs, h1, h2⟩ := h
  have hil : i < rs.length := by rw [h2.1]; exact hi
  have hr : rs[i]? = some rs[i] := List.getElem?_eq_getElem hil
  have ht : T[i]? = some T[i] := List.getElem?_eq_getElem hi
  refine ⟨rs, _, _, h1, hr, h2.2 i _ _ hr ht, hT.row i _ ht, fun k hk => ?_⟩
  obtain ⟨r, e1, e2⟩ := hT.val i k hi hk
  rw [ht] at e1
  rw [Option.some.inj e1]
  exact e2
theorem walk_take {T : List (List Int)} {w : List Int} {i n : Nat} {s : Int} (h : w[n]? = some s) : M11.walk T (w.take (n + 1)) i = M11.nx T (M11.pl s) (M11.walk T (w.take n) i) := by
  rw [List.take_succ, h]
  exact M11.walk_app T (w.take n) [s] i
theorem steps_take {L : Nat} {w : List Int} (n : Nat) (h : M11.Steps L w) : M11.Steps L (w.take n) := fun s hs => h s (List.mem_of_mem_take hs)
theorem ok_place_of (T : Txt K mg A) : FnOk P w K mg base CX0 1 A.f_place_of A.d_place_of ["step"] spPlace := by
  refine T.place_of.F.ok sc_place_of (fun vs H Q E h => ?_) (fun cdv AA outer s H vs Q E hr h => ?_)
  · obtain ⟨s, rfl, _⟩ := h
    rfl
  · obtain ⟨s, rfl, hs0, hsl, k⟩ := h
    refine ⟨_, (pss_cons (ps_if (pt_cmpR op_gt (pv 0) pe_int (nomark _))
        (pss_one (ps_ret (pe_op op_sub (pe_op op_mul pe_int (pv 0)) pe_int)))
        pss_nil)
      (pss_one (ps_ret (pe_op op_sub (pe_op op_mul (pe_un un_neg pe_int) (pv 0)) pe_int)))), ?_⟩
    refine ⟨_, rfl, _, _, rfl, rfl, _, rfl, ?_⟩
    refine ite2 (fun h => ?_) (fun h => ?_)
    · have h' : (0 : Int) < s := of_decide_eq_true h
      refine ⟨_, rfl, _, _, rfl, rfl, .inl ⟨by decide, by decide⟩, _, _, rfl, rfl, ?_⟩
      unfold M11.pl at k
      rw [if_pos h', show ((2 * s.natAbs - 2 : Nat) : Int) = 2 * s - 2 by omega] at k
      exact k
    · have h' : ¬ (0 : Int) < s := fun z => h (decide_eq_true z)
      refine ⟨_, rfl, _, rfl, _, _, rfl, rfl, .inl ⟨by decide, by decide⟩, _, _, rfl, rfl, ?_⟩
      unfold M11.pl at k
      rw [if_neg h', show ((2 * s.natAbs - 1 : Nat) : Int) = -2 * s - 1 by omega] at k
      exact k
theorem ok_led (T : Txt K mg A) : FnOk P w K mg base CX0 2 A.f_led A.d_led ["table", "room", "word"] spLed := by
  have G_place_of : FnOk P w K mg base CX0 1 A.f_place_of A.d_place_of ["step"] spPlace := ok_place_of T
  refine T.led.F.ok sc_led (fun vs H Q E h => ?_) (fun cdv AA outer s H vs Q E hr h => ?_)
  · obtain ⟨a, wa, Tb, L, i, ws, rfl, _⟩ := h
    rfl
  · obtain ⟨a, wa, Tb, L, i, ws, rfl, hTa, hT, hi, hwa, hst, k⟩ := h
    refine ⟨_, (pss_cons (ps_for PassesOwn.never rfl (pi_tup (pv 2)) (pg_name (i := 3) sc_led.nd rfl (Or.inl rfl))
        (pss_one (ps_set (i := 1) sc_led.nd rfl (Or.inl rfl) (pe_ix ix_list (pe_ix ix_list (pv 0) (pv 1) (fun _ _ => rfl)) (pe_call (G_place_of) (hr.mono (by decide)) rfl T.place_of.m T.place_of.F.kp T.place_of.b .nil pass0 (pa_cons (pv 3) pa_nil)) (fun _ _ => rfl)))))
      (pss_one (ps_ret (pv 1)))), ?_⟩
    refine ⟨_, rfl, wa, rfl, ⟨_, SqT.of hwa⟩, ?_⟩
    refine for_tup (K := K) (a := wa) (xs := intV ws) (fun n σ H2 => ∃ v : Option V, σ = [some (.ref a), some (.int (M11.walk Tb (ws.take n) i)), some (.ref wa), v] ∧ H2 = H) ⟨none, rfl, rfl⟩ (fun n σ H2 _ ⟨_, _, e⟩ => by rw [e]; exact SqT.of hwa) ?_ ?_
    · rintro n y σ H2 hn ⟨v, rfl, rfl⟩
      obtain ⟨z, rfl, hz⟩ := ints_of_at hn
      have hs := hst z (List.mem_of_getElem? hz)
      have hlt := M11.walk_lt hT (steps_take n hst) hi
      obtain ⟨rs, r, row, h1, h2, h3, h4, h5⟩ := tab_get hTa hT hlt
      have h40 := hT.let2
      refine ⟨_, rfl, _, rfl, a, _, _, _, rfl, rfl, SqL.of h1, ref_at h2, _, rfl, z, rfl, hs.1, by omega, ?_⟩
      refine ⟨r, _, _, _, rfl, rfl, SqL.of h3, atI_nat (ints_at (h5 _ (M11.pl_lt hs))), ?_⟩
      exact ⟨_, by rw [walk_take hz]; rfl, rfl⟩
    · rintro σ H2 ⟨v, rfl, rfl⟩
      rw [ints_len, List.take_length]
      exact ⟨_, rfl, k⟩
theorem comp_copy {K : PySem.W.Frag} {H : Hp} {a : Addr} {fv : St} {te : TE} {Q : VK} {rs : List Addr} {rows : List (List Int)} (hrs : H a = some (.lst (rs.map V.ref))) (hrw : RowsAt H rs rows) (hz : rows.length ≤ 1000) (he : ∀ (H2 : Hp) (r : Addr) (ns : List Int) (R : VK), H2 r = some (.lst (intV ns)) → (∀ l, H2 l = none → R (.ref l) (upd H2 l (.lst (intV ns)))) → te (some (.ref r) :: fv) H2 R)
    (hQ : ∀ D H2 qs, Same H H2 → H2 D = none → RowsAt H2 qs rows → Q (.ref D) (upd H2 D (.lst (qs.map V.ref)))) : CompGo te fv Q (Itl K a) H := by
  have hrl := hrw.1
  refine ⟨fun i m ys H2 => m = rs.length - i ∧ i ≤ rs.length ∧ ∃ qs : List Addr, ys = qs.map V.ref ∧ Same H H2 ∧ RowsAt H2 qs (rows.take i), ⟨rs.length, by simp, Nat.zero_le _, [], rfl, fun _ _ e => e, ⟨by simp, fun i r ns h1 => by simp at h1⟩⟩, ?_⟩
  rintro i m ys H2 ⟨rfl, hi, qs, rfl, s2, hqa⟩
  have hql : qs.length = i := by have := hqa.1; rw [List.length_take] at this; omega
  by_cases hlt : i < rs.length
  · have g1 : rs[i]? = some rs[i] := List.getElem?_eq_getElem hlt
    have hil : i < rows.length := by omega
    have g2 : rows[i]? = some rows[i] := List.getElem?_eq_getElem hil
    have hr := hrw.2 i _ _ g1 g2
    refine .inr ⟨itl_go (SqL.of (s2 _ _ hrs)) i (by rw [List.length_map]; exact hlt), by rw [List.length_map, hql]; exact Nat.lt_of_le_of_lt (show i ≤ 1000 by omega) (by decide), fun x H3 hy => ?_⟩
    obtain ⟨rfl, hx⟩ := itl_yld (SqL.of (s2 _ _ hrs)) i x H3 (by rw [List.length_map]; exact hlt) hy
    rw [List.getElem?_map, g1] at hx
    have ex : V.ref rs[i] = x := Option.some.inj hx
    subst ex
    refine he H3 _ _ _ (s2 _ _ hr) fun l hl => ?_
    refine ⟨rs.length - (i + 1), by omega, rfl, hlt, qs ++ [l], by rw [List.map_append]; rfl, s2.trans (Same.upd hl), ?_⟩
    have e : rows.take (i + 1) = rows.take i ++ [rows[i]] := by rw [List.take_succ, g2]; rfl
    rw [e]
    exact (hqa.same (Same.upd hl)).snoc upd_same
  · have e : i = rs.length := by omega
    refine .inl ⟨?_, by rw [List.length_map, hql]; exact Nat.le_trans (show i ≤ 1000 by omega) (by decide), fun D hD => ?_⟩
    · have := itl_stop (K := K) (SqL.of (s2 _ _ hrs))
      rw [List.length_map, ← e] at this
      exact this
    · rw [List.take_of_length_le (by omega)] at hqa
      exact hQ D H2 qs s2 hD hqa
def spBack : Sp := fun vs H Q _ => ∃ (a : Addr) (ns : List Int), vs = [.ref a] ∧ H a = some (.tup (intV ns)) ∧ ns.length ≤ 2000 ∧ ∀ l H', Same H H' → H' l = some (.tup (intV (M11.back ns))) → Q (.ref l) H'
def negV : V → V
  | .int z => .int (-z)
  | v => v
theorem ok_back (T : Txt K mg A) : FnOk P w K mg base CX0 1 A.f_back A.d_back ["word"] spBack := by
  refine T.back.F.ok sc_back (fun vs H Q E h => ?_) (fun cdv AA outer s H vs Q E hr h => ?_)
  · obtain ⟨a, ns, rfl, _⟩ := h
    rfl
  · obtain ⟨a, ns, rfl, ha, hlen, k⟩ := h
    refine ⟨_, (pss_one (ps_ret (pe_callTy call_tuple_of rfl T.z_tuple PyProof.Rows.boot_tuple (pa_cons (pe_comp (fns := []) (ixs := []) (cl := []) rfl (pi_rev rfl T.z_reversed (pa_cons (pv 0) pa_nil)) (compScope0 (by decide +kernel) (by decide +kernel) rfl (by decide +kernel) rfl) (fun C s H ex => (pe_un un_neg (pv 0)))) pa_nil)))), ?_⟩
    have hz : (intV ns).reverse.length ≤ sizeLine := by rw [List.length_reverse, ints_len]; exact Nat.le_trans hlen (by decide)
    refine ⟨_, rfl, a, intV ns, rfl, SqT.of ha, ?_⟩
    refine comp_pure (intV ns).reverse negV (itv_go (SqT.of ha)) (itv_yld (SqT.of ha)) (itv_stop (SqT.of (K := K) ha)) hz (fun i x hx R hR => ?_) (fun D hD => ?_)
    · obtain ⟨z, rfl, _⟩ := ints_of_at (ns := ns.reverse) (by unfold intV at hx ⊢; rw [List.map_reverse]; exact hx)
      exact ⟨_, rfl, z, rfl, hR⟩
    · refine ⟨D, _, rfl, .inl ⟨SqL.of upd_same, fun l hl => ?_⟩⟩
      have e : ((intV ns).reverse.map negV) = intV (M11.back ns) := by
        unfold intV M11.back
        rw [← List.map_reverse, List.map_map, List.map_map]
        rfl
      exact k l _ ((Same.upd hD).trans (Same.upd hl)) (by rw [upd_same, e])
theorem rep_flat (w : List Int) (n : Nat) : (List.replicate n (intV w)).flatten = intV ((List.replicate n w).flatten) := by
  induction n with
  | zero => rfl
  | succ n ih => rw [List.replicate_succ, List.flatten_cons, ih, List.replicate_succ, List.flatten_cons, ints_app]
theorem flat_mem {w : List Int} {n : Nat} {s : Int} (h : s ∈ (List.replicate n w).flatten) : s ∈ w := by
  obtain ⟨u, hu, hs⟩ := List.mem_flatten.mp h
  rw [(List.mem_replicate.mp hu).2] at hs
  exact hs
theorem flat_lenR (w : List Int) (n : Nat) : (List.replicate n w).flatten.length = w.length * n := by
  induction n with
  | zero => rfl
  | succ n ih => rw [List.replicate_succ, List.flatten_cons, List.length_append, ih, Nat.mul_succ]; omega
theorem back_len (w : List Int) : (M11.back w).length = w.length := by unfold M11.back; rw [List.length_map, List.length_reverse]
def spotsL (f : Nat → Nat) (p c : Nat) : List Int := (List.range p).map fun i => ((M17.it f c i : Nat) : Int)
theorem spots_len (f : Nat → Nat) (p c : Nat) : (spotsL f p c).length = p := by unfold spotsL; rw [List.length_map, List.length_range]
theorem spots_at {f : Nat → Nat} {p c i : Nat} {z : Int} (h : (spotsL f p c)[i]? = some z) : i < p ∧ z = ((M17.it f c i : Nat) : Int) := by
  have hi : i < p := by
    have := (List.getElem?_eq_some_iff.mp h).1
    rw [spots_len] at this
    exact this
  unfold spotsL at h
  rw [List.getElem?_map, List.getElem?_range hi] at h
  exact ⟨hi, (Option.some.inj h).symm⟩
theorem spots_zero (f : Nat → Nat) (p : Nat) : rng 0 p = spotsL f p 0 := by
  unfold rng spotsL
  refine List.map_congr_left fun i _ => ?_
  show (0 : Int) + (i : Int) = (i : Int)
  omega
theorem spots_step (f : Nat → Nat) (p c : Nat) : ((intV (spotsL f p c)).map fun v => match v with | .int z => V.int ((f z.toNat : Nat) : Int) | v => v) = intV (spotsL f p (c + 1)) := by
  unfold intV spotsL
  rw [List.map_map, List.map_map, List.map_map]
  refine List.map_congr_left fun i _ => ?_
  show V.int ((f ((M17.it f c i : Nat) : Int).toNat : Nat) : Int) = V.int ((f (M17.it f c i) : Nat) : Int)
  rw [Int.toNat_natCast]
theorem spots_sixty {f : Nat → Nat} {p : Nat} (h : ∀ x, x < p → M17.it f 60 x = x) : spotsL f p 60 = spotsL f p 0 := by
  unfold spotsL
  refine List.map_congr_left fun i hi => ?_
  rw [h i (List.mem_range.mp hi)]
  rfl
theorem rng_thr (rows : List (List Int)) (p : Nat) : rng 0 p = M18.thr rows p [] := by
  unfold rng M18.thr
  refine List.map_congr_left fun i _ => ?_
  show (0 : Int) + (i : Int) = (i : Int)
  omega
def spFilled : Sp := fun vs H Q _ => ∃ (wa ia : Addr) (w : List Int) (Im : List (List Int)), vs = [.ref wa, .ref ia] ∧ H wa = some (.tup (intV w)) ∧ WordsAt H ia Im ∧ M11.Steps Im.length w ∧ w.length ≤ 1000 ∧ (∀ u ∈ Im, u.length ≤ 100) ∧ Im.length ≤ 1000 ∧ ∀ l H', Same H H' → H' l = some (.tup (intV (M18.fill Im w))) → Q (.ref l) H'
def car (T Im R : List (List Int)) : Bool := R.all fun u => decide (M11.walk T (M18.fill Im u) 0 = 0)
def spCarries : Sp := fun vs H Q _ => ∃ (ra a ia : Addr) (R T Im : List (List Int)) (L : Nat), vs = [.ref ra, .ref a, .ref ia] ∧ WordsAt H ra R ∧ TabAt H a T ∧ M11.Tab L T ∧ WordsAt H ia Im ∧ (∀ u ∈ R, M11.Steps Im.length u ∧ u.length ≤ 1000) ∧ (∀ u ∈ Im, M11.Steps L u ∧ u.length ≤ 100) ∧ Im.length ≤ 1000 ∧ ∀ H', Same H H' → Q (.bl (car T Im R)) H'
def spTurns : Sp := fun vs H Q _ => ∃ (z : Int) (L p : Nat), vs = [.int z, .int L, .int p] ∧ 1 ≤ L ∧ L ≤ 40 ∧ 1 ≤ p ∧ p ≤ 30 ∧ ∀ l rows H', Same H H' → WordsAt H' l rows → rows.length = L → (∀ r ∈ rows, M11.Pm p r) → Q (.ref l) H'
def spBackT : Sp := fun vs H Q _ => ∃ (a : Addr) (r : List Int) (p : Nat), vs = [.ref a] ∧ H a = some (.tup (intV r)) ∧ M11.Pm p r ∧ p ≤ 100 ∧ ∀ l t H', Same H H' → H' l = some (.tup (intV t)) → M11.InvOf p r t → Q (.ref l) H'
def spThr : Sp := fun vs H Q _ => ∃ (a wa : Addr) (rows : List (List Int)) (p : Nat) (w : List Int), vs = [.ref a, .ref wa, .int p] ∧ WordsAt H a rows ∧ (∀ r ∈ rows, M11.Pm p r) ∧ p ≤ 100 ∧ H wa = some (.tup (intV w)) ∧ M11.Steps rows.length w ∧ rows.length ≤ 1000 ∧ ∀ l H', Same H H' → H' l = some (.tup (intV (M18.thr rows p w))) → Q (.ref l) H'
def spTable : Sp := fun vs H Q _ => ∃ (a : Addr) (rows : List (List Int)) (p : Nat) (G : List Int → Prop), vs = [.ref a, .int p] ∧ WordsAt H a rows ∧ (∀ r ∈ rows, M11.Pm p r) ∧ p ≤ 100 ∧ 1 ≤ rows.length ∧ rows.length ≤ 40 ∧ G (M18.thr rows p []) ∧ (∀ u, G u → M11.Pm p u) ∧ (∀ (k : Nat) (u : List Int), k < 2 * rows.length → G u → G (M18.mvs rows (M12.st k) u)) ∧ (∀ c : List (List Int), c.Nodup → (∀ u ∈ c, G u) → c.length ≤ 300) ∧
  ∀ l lt lc T come H', Same H H' → H' l = some (.tup [.ref lt, .ref lc]) → TabAt H' lt T → WordsAt H' lc come → M18.Cm rows.length (fun k u => M18.mvs rows (M12.st k) u) T come → come[0]? = some (M18.thr rows p []) → (∀ u ∈ come, G u) → Q (.ref l) H'
def spWord : Sp := fun vs H Q _ => ∃ (a : Addr) (cs : List Int) (L : Nat), vs = [.ref a, .int L] ∧ H a = some (.lst (intV cs)) ∧ cs.length ≤ 63 ∧ 1 ≤ L ∧ L ≤ 40 ∧ ∀ l w H', Same H H' → H' l = some (.tup (intV w)) → M11.Steps L w → w.length = cs.length → Q (.ref l) H'
def spCut : Sp := fun vs H Q _ => ∃ (a : Addr) (cs : List Int) (L : Nat), vs = [.ref a, .int L] ∧ H a = some (.lst (intV cs)) ∧ cs.length ≤ 63 ∧ 1 ≤ L ∧ L ≤ 40 ∧ ∀ l Ws H', Same H H' → H l = none → WordsAt H' l Ws → (∀ u ∈ Ws, M11.Steps L u ∧ 1 ≤ u.length ∧ u.length ≤ 5) → Ws.length ≤ 64 → Q (.ref l) H'
def spOften : Sp := fun vs H Q _ => ∃ (a wa : Addr) (rows : List (List Int)) (p : Nat) (w : List Int), vs = [.ref a, .ref wa, .int p] ∧ WordsAt H a rows ∧ (∀ r ∈ rows, M11.Pm p r) ∧ p ≤ 6 ∧ H wa = some (.tup (intV w)) ∧ M11.Steps rows.length w ∧ rows.length ≤ 1000 ∧ ∀ (n : Nat) H', 1 ≤ n → n ≤ 60 → Same H H' → Q (.int n) H'
theorem im1_len {Im : List (List Int)} {s : Int} (h : ∀ u ∈ Im, u.length ≤ 100) : (M18.im1 Im s).length ≤ 100 := by
  have hz : (Im.getD (s.natAbs - 1) []).length ≤ 100 := by
    rw [List.getD_eq_getElem?_getD]
    cases e : Im[s.natAbs - 1]? with
    | none => exact Nat.zero_le _
    | some w => exact h w (List.mem_of_getElem? e)
  unfold M18.im1
  split
  · exact hz
  · rw [back_len]; exact hz
theorem fill_len {Im : List (List Int)} {w : List Int} (h : ∀ u ∈ Im, u.length ≤ 100) : (M18.fill Im w).length ≤ 100 * w.length := by
  induction w with
  | nil => exact Nat.zero_le _
  | cons s w ih =>
    have := im1_len (s := s) h
    show (M18.im1 Im s ++ M18.fill Im w).length ≤ _
    rw [List.length_append, List.length_cons, Nat.mul_succ]
    omega
theorem fill_take {Im : List (List Int)} {w : List Int} {n : Nat} {s : Int} (h : w[n]? = some s) : M18.fill Im (w.take (n + 1)) = M18.fill Im (w.take n) ++ M18.im1 Im s := by
  unfold M18.fill
  rw [List.take_succ, h, List.flatMap_append]
  simp
theorem ok__law_word (T : Txt K mg A) : FnOk P w K mg base CX0 2 A.f__law_word A.d__law_word ["_law_cells", "_law_letters"] spWord := by
  have G__law_mix : FnOk P w K mg base CX0 1 A.f__law_mix A.d__law_mix ["_law_number", "_law_place"] spMix := ok__law_mix T
  refine T._law_word.F.ok sc__law_word (fun vs H Q E h => ?_) (fun cdv AA outer s H vs Q E hr h => ?_)
  · obtain ⟨a, cs, L, rfl, _⟩ := h
    rfl
  · obtain ⟨a, cs, L, rfl, ha, hcl, hL1, hL2, k⟩ := h
    refine ⟨_, (pss_cons (ps_set (i := 2) sc__law_word.nd rfl (Or.inl rfl) (pe_lst pa_nil))
      (pss_cons (ps_for PassesOwn.never rfl (pi_list (pv 0)) (pg_name (i := 3) sc__law_word.nd rfl (Or.inl rfl))
        (pss_cons (ps_set (i := 4) sc__law_word.nd rfl (Or.inl rfl) (pe_call (G__law_mix) (hr.mono (by decide)) rfl T._law_mix.m T._law_mix.F.kp T._law_mix.b .nil pass0 (pa_cons (pv 3) (pa_cons pe_int pa_nil))))
        (pss_cons (ps_set (i := 5) sc__law_word.nd rfl (Or.inl rfl) (pe_op op_add pe_int (pe_op op_mod (pe_op op_fdiv (pv 4) pe_int) (pv 1))))
        (pss_cons (ps_cut (ps_if (pt_cmpR op_eq (pe_op op_mod (pv 4) pe_int) pe_int (nomark _))
          (pss_one (ps_set (i := 5) sc__law_word.nd rfl (Or.inl rfl) (pe_op op_sub pe_int (pv 5))))
          pss_nil))
        (pss_one (ps_expr (pe_bm PySem.F.plainAttrs_list PySem.F.slot_list_append PySem.F.type_list_append mt_append (pv 2) (pa_cons (pv 5) pa_nil))))))))
      (pss_one (ps_ret (pe_callTy call_tuple_of rfl T.z_tuple PyProof.Rows.boot_tuple (pa_cons (pv 2) pa_nil)))))), ?_⟩
    refine ⟨Nat.zero_le _, fun l hl => ?_⟩
    have hnl : l ≠ a := fun e => by rw [e, ha] at hl; cases hl
    have s0 : Same H (upd H l (.lst [])) := Same.upd hl
    refine ⟨_, rfl, a, rfl, ⟨_, SqL.of (s0 _ _ ha)⟩, ?_⟩
    refine for_list (K := K) (a := a) (xs := intV cs) (fun i σ H2 => ∃ (ws : List Int) (v3 v4 v5 : Option V), σ = [some (.ref a), some (.int L), some (.ref l), v3, v4, v5] ∧ Same H H2 ∧ H2 l = some (.lst (intV ws)) ∧ M11.Steps L ws ∧ ws.length = i)
      ⟨[], none, none, none, rfl, s0, upd_same, (fun s hs => by cases hs), rfl⟩ (fun i σ H2 _ ⟨_, _, _, _, _, s, _⟩ => SqL.of (s _ _ ha)) ?_ ?_
    · rintro i y σ H2 hi ⟨ws, v3, v4, v5, rfl, s2, hl2, hst, hwl⟩
      obtain ⟨z, rfl, hz⟩ := ints_of_at hi
      have hil : i < cs.length := (List.getElem?_eq_some_iff.mp hz).1
      refine ⟨_, rfl, z, 2, rfl, by decide, by decide, fun r hr => ?_⟩
      have e1 := Int.emod_nonneg (r / 2) (show (L : Int) ≠ 0 by omega)
      have e2 := Int.emod_lt_of_pos (r / 2) (show (0 : Int) < (L : Int) by omega)
      refine ⟨_, rfl, _, _, rfl, rfl, ⟨by decide, by decide⟩, _, rfl, _, _, rfl, rfl, (by show (0 : Int) < (L : Int); omega), _, _, rfl, rfl, ?_⟩
      refine ⟨fun σ' H' => ∃ st : Int, σ' = [some (.ref a), some (.int L), some (.ref l), some (.int z), some (.int r), some (.int st)] ∧ H' = H2 ∧ st ≠ 0 ∧ st.natAbs ≤ L, ?_, ?_⟩
      · refine ⟨_, rfl, _, _, rfl, rfl, (by show (0 : Int) < 2; decide), rfl, _, rfl, ?_⟩
        refine ite2 (fun _ => ?_) (fun _ => ⟨_, rfl, rfl, by omega, by omega⟩)
        exact ⟨_, rfl, _, _, rfl, rfl, _, rfl, rfl, by omega, by omega⟩
      rintro σ' H3 ⟨st, rfl, rfl, h0, h1⟩
      refine ⟨_, rfl, .inl ⟨rfl, _, SqL.of hl2⟩, _, rfl, l, _, _, rfl, rfl, hl2, ?_, ?_⟩
      · rw [ints_len]
        exact Nat.lt_of_le_of_lt (show ws.length ≤ 63 by omega) (by decide)
      refine ⟨ws ++ [st], _, _, _, rfl, fun b o e => by rw [upd_ne (ne_of_none e hl)]; exact s2 _ _ e, by rw [upd_same, ints_app]; rfl, fun s hs => ?_, by rw [List.length_append, hwl]; rfl⟩
      rcases List.mem_append.mp hs with hs | hs
      · exact hst s hs
      · rw [List.mem_singleton.mp hs]
        exact ⟨h0, h1⟩
    · rintro σ H2 ⟨ws, v3, v4, v5, rfl, s2, hl2, hst, hwl⟩
      rw [ints_len] at hwl
      refine ⟨_, rfl, l, _, rfl, .inl ⟨SqL.of hl2, fun lt hlt => ?_⟩⟩
      exact k lt ws _ (s2.trans (Same.upd hlt)) upd_same hst hwl
theorem ok_filled_in (T : Txt K mg A) : FnOk P w K mg base CX0 2 A.f_filled_in A.d_filled_in ["word", "images"] spFilled := by
  have G_back : FnOk P w K mg base CX0 1 A.f_back A.d_back ["word"] spBack := ok_back T
  refine T.filled_in.F.ok sc_filled_in (fun vs H Q E h => ?_) (fun cdv AA outer s H vs Q E hr h => ?_)
  · obtain ⟨wa, ia, w, Im, rfl, _⟩ := h
    rfl
  · obtain ⟨wa, ia, w, Im, rfl, hwa, hIa, hst, hwl, hIl, hIn, k⟩ := h
    refine ⟨_, (pss_cons (ps_set (i := 2) sc_filled_in.nd rfl (Or.inl rfl) (pe_lst pa_nil))
      (pss_cons (ps_for PassesOwn.never rfl (pi_tup (pv 0)) (pg_name (i := 3) sc_filled_in.nd rfl (Or.inl rfl))
        (pss_cons (ps_set (i := 4) sc_filled_in.nd rfl (Or.inl rfl) (pe_ix ix_list (pv 1) (pe_op op_sub (pe_callB call_abs rfl T.z_abs PyProof.Rows.boot_abs (pa_cons (pv 3) pa_nil)) pe_int) (fun _ _ => rfl)))
        (pss_one (ps_expr (pe_bm PySem.F.plainAttrs_list PySem.F.slot_list_extend PySem.F.type_list_extend mt_extendT (pv 2) (pa_cons (pe_cut (pe_ifExp (pt_cmpR op_gt (pv 3) pe_int (nomark _)) (pv 4) (pe_call (G_back) (hr.mono (by decide)) rfl T.back.m T.back.F.kp T.back.b .nil pass0 (pa_cons (pv 4) pa_nil)))) pa_nil))))))
      (pss_one (ps_ret (pe_callTy call_tuple_of rfl T.z_tuple PyProof.Rows.boot_tuple (pa_cons (pv 2) pa_nil)))))), ?_⟩
    obtain ⟨ps, hps, hpt⟩ := id hIa
    have hpl : ps.length = Im.length := hpt.1
    refine ⟨Nat.zero_le _, fun lf hlf => ?_⟩
    have s0 : Same H (upd H lf (.lst [])) := Same.upd hlf
    have h0 : upd H lf (.lst []) lf = some (.lst (intV (M18.fill Im (w.take 0)))) := upd_same
    generalize upd H lf (.lst []) = H0 at s0 h0 ⊢
    refine ⟨_, rfl, wa, rfl, ⟨_, SqT.of (s0 _ _ hwa)⟩, ?_⟩
    refine for_tup (K := K) (a := wa) (xs := intV w) (fun n σ H2 => ∃ v3 v4 : Option V, σ = [some (.ref wa), some (.ref ia), some (.ref lf), v3, v4] ∧ Same H H2 ∧ H2 lf = some (.lst (intV (M18.fill Im (w.take n))))) ⟨none, none, rfl, s0, h0⟩ (fun n σ H2 _ ⟨_, _, _, s, _⟩ => SqT.of (s _ _ hwa)) ?_ ?_
    · rintro n y σ H2 hn ⟨v3, v4, rfl, s2, h2⟩
      obtain ⟨z, rfl, hz⟩ := ints_of_at hn
      have hs := hst z (List.mem_of_getElem? hz)
      have hnl : n < w.length := (List.getElem?_eq_some_iff.mp hz).1
      have g2 : Im[z.natAbs - 1]? = some (Im[z.natAbs - 1]'(by omega)) := List.getElem?_eq_getElem (by omega)
      have g1 : ps[z.natAbs - 1]? = some (ps[z.natAbs - 1]'(by omega)) := List.getElem?_eq_getElem (by omega)
      generalize Im[z.natAbs - 1]'(by omega) = im at g2
      generalize ps[z.natAbs - 1]'(by omega) = pa at g1
      have hpa := hpt.2 _ _ _ g1 g2
      have hil := hIl im (List.mem_of_getElem? g2)
      have ez : (if z < 0 then -z else z) - 1 = ((z.natAbs - 1 : Nat) : Int) := by split <;> omega
      refine ⟨_, rfl, _, rfl, z, rfl, _, _, rfl, rfl, ia, _, _, .ref pa, rfl, rfl, SqL.of (s2 _ _ hps), (by rw [ez]; exact ref_at g1), ?_⟩
      have e1 : Im.getD (z.natAbs - 1) [] = im := by rw [List.getD_eq_getElem?_getD, g2]; rfl
      have hfl := fill_len (w := w.take n) hIl
      rw [List.length_take] at hfl
      have hfl2 : (M18.fill Im (w.take n)).length ≤ 100000 := Nat.le_trans hfl (Nat.le_trans (Nat.mul_le_mul_left 100 (show min n w.length ≤ 1000 by omega)) (by decide))
      refine ⟨_, rfl, .inl ⟨rfl, _, SqL.of h2⟩, fun v H3 => ∃ (q : Addr), v = .ref q ∧ Same H2 H3 ∧ H3 q = some (.tup (intV (M18.im1 Im z))), ?_, ?_⟩
      · refine ⟨_, rfl, _, _, rfl, rfl, _, rfl, ite2 (fun h => ?_) (fun h => ?_)⟩
        · have h' : (0 : Int) < z := of_decide_eq_true h
          refine ⟨_, rfl, pa, rfl, fun _ _ e => e, ?_⟩
          unfold M18.im1
          rw [if_pos h', e1]
          exact s2 _ _ hpa
        · have h' : ¬ (0 : Int) < z := fun q => h (decide_eq_true q)
          refine ⟨_, rfl, pa, im, rfl, s2 _ _ hpa, by omega, fun l H3 s3 h3 => ⟨l, rfl, s3, ?_⟩⟩
          unfold M18.im1
          rw [if_neg h', e1]
          exact h3
      rintro v H3 ⟨q, rfl, s3, hq⟩
      have hi1 := im1_len (s := z) hIl
      refine ⟨lf, q, _, _, rfl, rfl, s3 _ _ h2, hq, ?_, ?_⟩
      · rw [ints_len, ints_len]
        exact Nat.le_trans (Nat.add_le_add hfl2 hi1) (by decide)
      refine ⟨_, _, rfl, fun b o e => by rw [upd_ne (ne_of_none e hlf)]; exact s3 _ _ (s2 _ _ e), ?_⟩
      rw [upd_same, ← ints_app, fill_take hz]
    · rintro σ H2 ⟨v3, v4, rfl, s2, h2⟩
      rw [ints_len, List.take_length] at h2
      exact ⟨_, rfl, lf, _, rfl, .inl ⟨SqL.of h2, fun l hl => k l _ (s2.trans (Same.upd hl)) upd_same⟩⟩
theorem ok_carries (T : Txt K mg A) : FnOk P w K mg base CX0 3 A.f_carries A.d_carries ["rules", "table", "images"] spCarries := by
  have G_led : FnOk P w K mg base CX0 2 A.f_led A.d_led ["table", "room", "word"] spLed := ok_led T
  have G_filled_in : FnOk P w K mg base CX0 2 A.f_filled_in A.d_filled_in ["word", "images"] spFilled := ok_filled_in T
  refine T.carries.F.ok sc_carries (fun vs H Q E h => ?_) (fun cdv AA outer s H vs Q E hr h => ?_)
  · obtain ⟨ra, a, ia, R, TT, Im, L, rfl, _⟩ := h
    rfl
  · obtain ⟨ra, a, ia, R, TT, Im, L, rfl, hRa, hTa, hT, hIa, hR, hI, hIn, k⟩ := h
    refine ⟨_, (pss_cons (ps_for PassesOwn.never rfl (pi_list (pv 0)) (pg_name (i := 3) sc_carries.nd rfl (Or.inl rfl))
        (pss_one (ps_if (pt_cmpR op_ne (pe_call (G_led) (hr.mono (by decide)) rfl T.led.m T.led.F.kp T.led.b .nil pass0 (pa_cons (pv 1) (pa_cons pe_int (pa_cons (pe_call (G_filled_in) (hr.mono (by decide)) rfl T.filled_in.m T.filled_in.F.kp T.filled_in.b .nil pass0 (pa_cons (pv 3) (pa_cons (pv 2) pa_nil))) pa_nil)))) pe_int (nomark _))
          (pss_one (ps_ret pe_bl))
          pss_nil)))
      (pss_one (ps_ret pe_bl))), ?_⟩
    obtain ⟨ps, hps, hpt⟩ := id hRa
    have hpl : ps.length = R.length := hpt.1
    have hpos := hT.pos
    refine ⟨_, rfl, ra, rfl, ⟨_, SqL.of hps⟩, ?_⟩
    refine for_list (K := K) (a := ra) (xs := ps.map V.ref) (fun n σ H2 => ∃ v3 : Option V, σ = [some (.ref ra), some (.ref a), some (.ref ia), v3] ∧ Same H H2 ∧ ∀ u ∈ R.take n, M11.walk TT (M18.fill Im u) 0 = 0) ⟨none, rfl, fun _ _ e => e, fun u hu => by simp at hu⟩ (fun n σ H2 _ ⟨_, _, s, _⟩ => SqL.of (s _ _ hps)) ?_ ?_
    · rintro n y σ H2 hn ⟨v3, rfl, s2, hall⟩
      rw [List.getElem?_map] at hn
      have hnl : n < ps.length := by
        cases e : ps[n]? with
        | none => rw [e] at hn; cases hn
        | some r => exact (List.getElem?_eq_some_iff.mp e).1
      have g1 : ps[n]? = some ps[n] := List.getElem?_eq_getElem hnl
      rw [g1] at hn
      have ey : V.ref ps[n] = y := Option.some.inj hn
      subst ey
      generalize ps[n] = pp at g1
      have g2 : R[n]? = some (R[n]'(by omega)) := List.getElem?_eq_getElem (by omega)
      generalize R[n]'(by omega) = u at g2
      have hpp := hpt.2 n pp u g1 g2
      have hum := List.mem_of_getElem? g2
      refine ⟨_, rfl, _, rfl, _, rfl, pp, ia, u, Im, rfl, s2 _ _ hpp, hIa.same s2, (hR u hum).1, (hR u hum).2, fun v hv => (hI v hv).2, hIn, fun lf H3 s3 h3 => ?_⟩
      have hfs := M18.fill_steps (u := u) fun v hv => (hI v hv).1
      refine ⟨a, lf, TT, L, 0, _, rfl, (hTa.same s2).same s3, hT, hpos, h3, hfs, rfl, _, rfl, ?_⟩
      by_cases e : M11.walk TT (M18.fill Im u) 0 = 0
      · refine ite2 (fun h => ?_) (fun _ => ⟨_, rfl, s2.trans s3, fun v hv => ?_⟩)
        · rw [e] at h
          exact absurd h (by decide)
        · rw [List.take_succ, g2] at hv
          rcases List.mem_append.mp hv with hv | hv
          · exact hall v hv
          · have ev : v = u := by simpa using hv
            rw [ev]
            exact e
      · refine ite2 (fun _ => ?_) (fun h => ?_)
        · have ek : car TT Im R = false := by
            unfold car
            rw [List.all_eq_false]
            exact ⟨u, hum, by rw [decide_eq_false e]; exact Bool.false_ne_true⟩
          have := k H3 (s2.trans s3)
          rw [ek] at this
          exact this
        · refine absurd ?_ h
          have : ¬ V.int ((M11.walk TT (M18.fill Im u) 0 : Nat) : Int) = V.int 0 := fun z => e (by injection z with z; omega)
          rw [decide_eq_false this]
          rfl
    · rintro σ H2 ⟨v3, rfl, s2, hall⟩
      rw [List.length_map, hpl, List.take_length] at hall
      have ek : car TT Im R = true := by
        unfold car
        rw [List.all_eq_true]
        exact fun u hu => decide_eq_true (hall u hu)
      have := k H2 s2
      rw [ek] at this
      exact this
theorem ok__law_turns (T : Txt K mg A) : FnOk P w K mg base CX0 2 A.f__law_turns A.d__law_turns ["_law_number", "_law_letters", "_law_points"] spTurns := by
  have G__law_mix : FnOk P w K mg base CX0 1 A.f__law_mix A.d__law_mix ["_law_number", "_law_place"] spMix := ok__law_mix T
  refine T._law_turns.F.ok sc__law_turns (fun vs H Q E h => ?_) (fun cdv AA outer s H vs Q E hr h => ?_)
  · obtain ⟨z, L, p, rfl, _⟩ := h
    rfl
  · obtain ⟨z, L, p, rfl, hL1, hL2, hp1, hp2, k⟩ := h
    refine ⟨_, (pss_cons (ps_set (i := 3) sc__law_turns.nd rfl (Or.inl rfl) (pe_lst pa_nil))
      (pss_cons (ps_for PassesOwn.never rfl (pi_range1 rfl T.z_range (pa_cons (pv 1) pa_nil)) (pg_name (i := 4) sc__law_turns.nd rfl (Or.inl rfl))
        (pss_cons (ps_set (i := 5) sc__law_turns.nd rfl (Or.inl rfl) (pe_listRange1 rfl rfl T.z_list rfl T.z_range (pa_cons (pv 2) pa_nil)))
        (pss_cons (ps_for PassesOwn.never rfl (pi_range1 rfl T.z_range (pa_cons (pv 2) pa_nil)) (pg_name (i := 6) sc__law_turns.nd rfl (Or.inl rfl))
          (pss_cons (ps_set (i := 7) sc__law_turns.nd rfl (Or.inl rfl) (pe_op op_mod (pe_call (G__law_mix) (hr.mono (by decide)) rfl T._law_mix.m T._law_mix.F.kp T._law_mix.b .nil pass0 (pa_cons (pv 0) (pa_cons (pe_op op_add (pe_op op_mul pe_int (pv 4)) (pv 6)) pa_nil))) (pv 2)))
          (pss_cons (ps_set (i := 8) sc__law_turns.nd rfl (Or.inl rfl) (pe_ix ix_list (pv 5) (pv 6) (fun _ _ => rfl)))
          (pss_cons (ps_asg (pe_ix ix_list (pv 5) (pv 7) (fun _ _ => rfl)) (pg_sub (pv 5) (pv 6) set_list))
          (pss_one (ps_asg (pv 8) (pg_sub (pv 5) (pv 7) set_list)))))))
        (pss_one (ps_expr (pe_bm PySem.F.plainAttrs_list PySem.F.slot_list_append PySem.F.type_list_append mt_append (pv 3) (pa_cons (pe_callTy call_tuple_of rfl T.z_tuple PyProof.Rows.boot_tuple (pa_cons (pv 5) pa_nil)) pa_nil)))))))
      (pss_one (ps_ret (pv 3))))), ?_⟩
    refine ⟨Nat.zero_le _, fun lt hlt => ?_⟩
    have s0 : Same H (upd H lt (.lst [])) := Same.upd hlt
    have h0 : upd H lt (.lst []) lt = some (.lst (([] : List Addr).map V.ref)) := upd_same
    generalize upd H lt (.lst []) = H0 at s0 h0 ⊢
    refine ⟨_, rfl, (L : Int), rfl, by omega, by omega, ?_⟩
    refine for_range (lo := 0) (n := ((L : Int)).toNat) (fun i σ H2 => ∃ (ps : List Addr) (rows : List (List Int)) (v4 v5 v6 v7 v8 : Option V), σ = [some (.int z), some (.int L), some (.int p), some (.ref lt), v4, v5, v6, v7, v8] ∧ Same H H2 ∧ H2 lt = some (.lst (ps.map V.ref)) ∧ TupsAt H2 ps rows ∧ rows.length = i ∧ ∀ r ∈ rows, M11.Pm p r)
      ⟨[], [], none, none, none, none, none, rfl, s0, h0, ⟨rfl, fun i r ns h1 => by simp at h1⟩, rfl, fun r hr => by simp at hr⟩ ?_ ?_
    · rintro i σ H2 hi ⟨ps, rows, v4, v5, v6, v7, v8, rfl, s2, h2, t2, hrl, hpm⟩
      refine ⟨_, rfl, p, rfl, by omega, fun lr hlr => ?_⟩
      have s3 : Same H2 (upd H2 lr (.lst (intV (rng 0 p)))) := Same.upd hlr
      have h3 : upd H2 lr (.lst (intV (rng 0 p))) lr = some (.lst (intV (rng 0 p))) := upd_same
      generalize upd H2 lr (.lst (intV (rng 0 p))) = H3 at s3 h3 ⊢
      refine ⟨_, rfl, (p : Int), rfl, by omega, by omega, ?_⟩
      refine for_range (lo := 0) (n := ((p : Int)).toNat) (fun j σ H4 => ∃ (row : List Int) (v6 v7 v8 : Option V), σ = [some (.int z), some (.int L), some (.int p), some (.ref lt), some (.int (0 + (i : Int))), some (.ref lr), v6, v7, v8] ∧ Same H2 H4 ∧ H4 lr = some (.lst (intV row)) ∧ M11.Pm p row)
        ⟨rng 0 p, v6, v7, v8, rfl, s3, h3, pm_rng⟩ ?_ ?_
      · rintro j σ H4 hj ⟨row, v6, v7, v8, rfl, s4, h4, hP⟩
        have hjp : j < p := by omega
        refine ⟨_, rfl, _, rfl, _, _, rfl, rfl, .inr ⟨by omega, by omega⟩, _, rfl, _, _, rfl, rfl, z, 8 * (0 + (i : Int)) + (0 + (j : Int)), rfl, by omega, by omega, fun r hr => ?_⟩
        obtain ⟨o2, ho2, ho2l⟩ := emod_nat r (n := p) (by omega)
        obtain ⟨x1, hx1, _⟩ := hP.at hjp
        obtain ⟨x2, hx2, _⟩ := hP.at ho2l
        have ej : (0 : Int) + (j : Int) = (j : Int) := by omega
        refine ⟨_, rfl, _, _, rfl, rfl, (by show (0 : Int) < (p : Int); omega), ?_⟩
        simp only [ho2, ej]
        refine ⟨_, rfl, _, rfl, lr, _, _, _, rfl, rfl, SqL.of h4, atI_nat (ints_at hx1), ?_⟩
        refine ⟨_, rfl, _, rfl, lr, _, _, _, rfl, rfl, SqL.of h4, atI_nat (ints_at hx2), _, rfl, _, rfl, lr, _, _, j, rfl, rfl, h4, ixN_nat (by rw [ints_len, hP.len]; exact hjp), ?_⟩
        rw [ints_set]
        have h6 : upd H4 lr (.lst (intV (row.set j (x2 : Int)))) lr = some (.lst (intV (row.set j (x2 : Int)))) := upd_same
        refine ⟨_, rfl, _, rfl, _, rfl, lr, _, _, o2, rfl, rfl, h6, ixN_nat (by rw [ints_len, List.length_set, hP.len]; exact ho2l), ?_⟩
        rw [ints_set]
        refine ⟨_, _, _, _, rfl, fun b o e => ?_, upd_same, hP.swap hx1 hx2⟩
        have hb : b ≠ lr := ne_of_none e hlr
        rw [upd_ne hb, upd_ne hb]
        exact s4 _ _ e
      · rintro σ H4 ⟨row, v6, v7, v8, rfl, s4, h4, hP⟩
        refine ⟨_, rfl, .inl ⟨rfl, _, SqL.of (s4 _ _ h2)⟩, _, rfl, lr, _, rfl, .inl ⟨SqL.of h4, fun q hq => ?_⟩⟩
        have s5 : Same H4 (upd H4 q (.tup (intV row))) := Same.upd hq
        have h5 : upd H4 q (.tup (intV row)) q = some (.tup (intV row)) := upd_same
        generalize upd H4 q (.tup (intV row)) = H5 at s5 h5 ⊢
        have s25 := s4.trans s5
        have hpl : ps.length = rows.length := t2.1
        refine ⟨lt, _, _, rfl, rfl, s25 _ _ h2, ?_, ?_⟩
        · rw [List.length_map]
          exact Nat.lt_of_le_of_lt (show ps.length ≤ 40 by omega) (by decide)
        refine ⟨ps ++ [q], rows ++ [row], _, _, _, _, _, rfl, fun b o e => by rw [upd_ne (ne_of_none e hlt)]; exact s25 _ _ (s2 _ _ e), by rw [upd_same, List.map_append]; rfl, tups_upd ((t2.same s25).snoc h5) (s25 _ _ h2), by rw [List.length_append, hrl]; rfl, fun r hr => ?_⟩
        rcases List.mem_append.mp hr with hr | hr
        · exact hpm r hr
        · rw [List.mem_singleton.mp hr]; exact hP
    · rintro σ H2 ⟨ps, rows, v4, v5, v6, v7, v8, rfl, s2, h2, t2, hrl, hpm⟩
      rw [Int.toNat_natCast] at hrl
      exact ⟨_, rfl, k lt rows H2 s2 ⟨ps, h2, t2⟩ hrl hpm⟩
theorem ok__law_back (T : Txt K mg A) : FnOk P w K mg base CX0 1 A.f__law_back A.d__law_back ["_law_turned"] spBackT := by
  refine T._law_back.F.ok sc__law_back (fun vs H Q E h => ?_) (fun cdv AA outer s H vs Q E hr h => ?_)
  · obtain ⟨a, r, p, rfl, _⟩ := h
    rfl
  · obtain ⟨a, r, p, rfl, ha, hP, hp, k⟩ := h
    refine ⟨_, (pss_cons (ps_set (i := 1) sc__law_back.nd rfl (Or.inl rfl) (pe_op op_rep (pe_lst (pa_cons pe_int pa_nil)) (pe_callB call_len_seq rfl T.z_len PySem.boot_len (pa_cons (pv 0) pa_nil))))
      (pss_cons (ps_for PassesOwn.never rfl (pi_range1 rfl T.z_range (pa_cons (pe_callB call_len_seq rfl T.z_len PySem.boot_len (pa_cons (pv 0) pa_nil)) pa_nil)) (pg_name (i := 2) sc__law_back.nd rfl (Or.inl rfl))
        (pss_one (ps_asg (pv 2) (pg_sub (pv 1) (pe_ix ix_tup (pv 0) (pv 2) (fun _ _ => rfl)) set_list))))
      (pss_one (ps_ret (pe_callTy call_tuple_of rfl T.z_tuple PyProof.Rows.boot_tuple (pa_cons (pv 1) pa_nil)))))), ?_⟩
    refine ⟨by show 1 ≤ sizeLine; decide, fun q hq => ?_⟩
    have sq : Same H (upd H q (.lst [.int 0])) := Same.upd hq
    have hqq : upd H q (.lst [.int 0]) q = some (.lst [.int 0]) := upd_same
    generalize upd H q (.lst [.int 0]) = H3 at sq hqq ⊢
    have hlen : ((intV r).length : Int) = (p : Int) := by rw [ints_len, hP.len]
    refine ⟨_, rfl, a, _, rfl, .inr (SqT.of (sq _ _ ha)), q, _, _, rfl, rfl, hqq, by omega, by omega, ?_, fun t ht => ?_⟩
    · show 1 * ((intV r).length : Int).toNat ≤ sizeLine
      rw [hlen, Int.toNat_natCast]
      exact Nat.le_trans (show 1 * p ≤ 300 by omega) (by decide)
    rw [hlen, Int.toNat_natCast, rep_zero]
    have st : Same H3 (upd H3 t (.lst (intV (List.replicate p (0 : Int))))) := Same.upd ht
    have htt : upd H3 t (.lst (intV (List.replicate p (0 : Int)))) t = some (.lst (intV (List.replicate p (0 : Int)))) := upd_same
    generalize upd H3 t (.lst (intV (List.replicate p (0 : Int)))) = H4 at st htt ⊢
    have s4 := sq.trans st
    have nt : H t = none := sq.free ht
    have tra : a ≠ t := fun z => by
      have := ha
      rw [z, nt] at this
      cases this
    refine ⟨_, rfl, a, _, rfl, .inr (SqT.of (s4 _ _ ha)), (p : Int), by rw [hlen], by omega, by omega, ?_⟩
    refine for_range (lo := 0) (n := ((p : Int)).toNat) (fun n σ H5 => ∃ (tv : List Int) (v2 : Option V), σ = [some (.ref a), some (.ref t), v2] ∧ But t H4 H5 ∧ H5 t = some (.lst (intV tv)) ∧ M11.InvTo p r tv n)
      ⟨_, _, rfl, fun _ _ _ e => e, htt, List.length_replicate .., fun k j hk => by omega⟩ ?_ ?_
    · rintro n σ H5 hn ⟨tv, v5, rfl, b5, ht5, hto⟩
      have hn' : n < p := by omega
      obtain ⟨j, hj, hjp⟩ := hP.at hn'
      have hra5 := b5 _ _ tra (s4 _ _ ha)
      refine ⟨_, rfl, _, rfl, _, rfl, _, rfl, a, _, _, _, rfl, rfl, SqT.of hra5, (by rw [Int.zero_add]; exact atI_nat (ints_at hj)), t, _, _, j, rfl, rfl, ht5, ixN_nat (by rw [ints_len, hto.1]; exact hjp), ?_⟩
      rw [Int.zero_add, ints_set]
      exact ⟨_, _, rfl, b5.trans But.upd, upd_same, hto.step hP hj hjp⟩
    · rintro σ H5 ⟨tv, v5, rfl, b5, ht5, hto⟩
      rw [show ((p : Int)).toNat = p by omega] at hto
      have hIv := hto.all hP
      refine ⟨_, rfl, t, _, rfl, .inl ⟨SqL.of ht5, fun l hl => ?_⟩⟩
      refine k l tv _ (fun b o e => ?_) upd_same hIv
      have : b ≠ t := ne_of_none e nt
      exact (Same.upd hl) _ _ (b5 _ _ this (s4 _ _ e))
theorem ok__law_through (T : Txt K mg A) : FnOk P w K mg base CX0 2 A.f__law_through A.d__law_through ["_law_turns_here", "_law_word_here", "_law_points"] spThr := by
  have G__law_back : FnOk P w K mg base CX0 1 A.f__law_back A.d__law_back ["_law_turned"] spBackT := ok__law_back T
  refine T._law_through.F.ok sc__law_through (fun vs H Q E h => ?_) (fun cdv AA outer s H vs Q E hr h => ?_)
  · obtain ⟨a, wa, rows, p, w, rfl, _⟩ := h
    rfl
  · obtain ⟨a, wa, rows, p, w, rfl, hTa, hpm, hp, hwa, hst, hrl, k⟩ := h
    refine ⟨_, (pss_cons (ps_set (i := 3) sc__law_through.nd rfl (Or.inl rfl) (pe_tupRange1 rfl rfl T.z_tuple rfl T.z_range (pa_cons (pv 2) pa_nil)))
      (pss_cons (ps_for PassesOwn.never rfl (pi_tup (pv 1)) (pg_name (i := 4) sc__law_through.nd rfl (Or.inl rfl))
        (pss_cons (ps_set (i := 5) sc__law_through.nd rfl (Or.inr rfl) (pe_ix ix_list (pv 0) (pe_op op_sub (pe_callB call_abs rfl T.z_abs PyProof.Rows.boot_abs (pa_cons (pv 4) pa_nil)) pe_int) (fun _ _ => rfl)))
        (pss_cons (ps_cut (ps_if (pt_cmpR op_lt (pv 4) pe_int (nomark _))
          (pss_one (ps_set (i := 5) sc__law_through.nd rfl (Or.inr rfl) (pe_call (G__law_back) (hr.mono (by decide)) rfl T._law_back.m T._law_back.F.kp T._law_back.b .nil pass0 (pa_cons (pv 5) pa_nil))))
          pss_nil))
        (pss_one (ps_set (i := 3) sc__law_through.nd rfl (Or.inl rfl) (pe_callTy call_tuple_of rfl T.z_tuple PyProof.Rows.boot_tuple (pa_cons (pe_comp (fns := ["_law_turned"]) (ixs := [5]) (cl := _) rfl (pi_tup (pv 3)) (compScope1 rfl rfl (by decide +kernel) rfl (by decide +kernel) rfl (by decide +kernel) (by decide +kernel) rfl rfl rfl rfl) (fun C s H ex => (pe_ix (ix_tupK (K := K) rfl) (pv 1) (pv 0) (fun _ _ => rfl)))) pa_nil)))))))
      (pss_one (ps_ret (pv 3))))), ?_⟩
    obtain ⟨ps, hps, hpt⟩ := id hTa
    have hpl : ps.length = rows.length := hpt.1
    refine ⟨_, rfl, p, rfl, by omega, fun q0 hq0 => ?_⟩
    have s0 : Same H (upd H q0 (.tup (intV (rng 0 p)))) := Same.upd hq0
    have h0 : upd H q0 (.tup (intV (rng 0 p))) q0 = some (.tup (intV (M18.thr rows p (w.take 0)))) := by rw [upd_same, rng_thr rows p]; rfl
    generalize upd H q0 (.tup (intV (rng 0 p))) = H0 at s0 h0 ⊢
    refine ⟨_, rfl, wa, rfl, ⟨_, SqT.of (s0 _ _ hwa)⟩, ?_⟩
    refine for_tup (K := K) (a := wa) (xs := intV w) (fun n σ H2 => ∃ (q : Addr) (v4 v5 : Option V), σ = [some (.ref a), some (.ref wa), some (.int p), some (.ref q), v4, v5] ∧ Same H H2 ∧ H2 q = some (.tup (intV (M18.thr rows p (w.take n))))) ⟨q0, none, none, rfl, s0, h0⟩ (fun n σ H2 _ ⟨_, _, _, _, s, _⟩ => SqT.of (s _ _ hwa)) ?_ ?_
    · rintro n y σ H2 hn ⟨q, v4, v5, rfl, s2, h2⟩
      obtain ⟨z, rfl, hz⟩ := ints_of_at hn
      have hs := hst z (List.mem_of_getElem? hz)
      have g2 : rows[z.natAbs - 1]? = some (rows[z.natAbs - 1]'(by omega)) := List.getElem?_eq_getElem (by omega)
      have g1 : ps[z.natAbs - 1]? = some (ps[z.natAbs - 1]'(by omega)) := List.getElem?_eq_getElem (by omega)
      generalize rows[z.natAbs - 1]'(by omega) = row at g2
      generalize ps[z.natAbs - 1]'(by omega) = pa at g1
      have hpa := s2 _ _ (hpt.2 _ _ _ g1 g2)
      have hP := hpm row (List.mem_of_getElem? g2)
      have hU := M18.thr_pm hpm (fun s hs => hst s (List.mem_of_mem_take hs) : M11.Steps rows.length (w.take n)) (p := p)
      have eU : M18.thr rows p (w.take (n + 1)) = M18.mvs rows z (M18.thr rows p (w.take n)) := by
        rw [M18.thr_snoc, List.take_succ, hz]
        rfl
      rw [eU]
      generalize M18.thr rows p (w.take n) = us at h2 hU
      have ez : (if z < 0 then -z else z) - 1 = ((z.natAbs - 1 : Nat) : Int) := by split <;> omega
      refine ⟨_, rfl, _, rfl, z, rfl, _, _, rfl, rfl, a, _, _, .ref pa, rfl, rfl, SqL.of (s2 _ _ hps), (by rw [ez]; exact ref_at g1), ?_⟩
      refine ⟨fun σ' H' => ∃ tq : Addr, σ' = [some (.ref a), some (.ref wa), some (.int p), some (.ref q), some (.int z), some (.ref tq)] ∧ Same H2 H' ∧ H' tq = some (.tup (intV (M18.tn p rows z))), ?_, ?_⟩
      · refine ⟨_, rfl, _, _, rfl, rfl, _, rfl, ite2 (fun h => ?_) (fun h => ?_)⟩
        · have h' : z < (0 : Int) := of_decide_eq_true h
          refine ⟨_, rfl, pa, row, p, rfl, hpa, hP, hp, fun l t H3 s3 h3 hI => ⟨l, rfl, s3, ?_⟩⟩
          rw [M18.tn_neg g2 hP (by omega) hI]
          exact h3
        · have h' : ¬ z < (0 : Int) := fun q => h (decide_eq_true q)
          refine ⟨pa, rfl, fun _ _ e => e, ?_⟩
          rw [M18.tn_pos g2 hP (by omega)]
          exact hpa
      rintro σ' H3 ⟨tq, rfl, s3, htq⟩
      have h3 := s3 _ _ h2
      refine ⟨_, rfl, q, rfl, ⟨_, SqT.of h3⟩, ?_⟩
      refine comp_pure (intV us) (fun v => match v with | .int y => .int ((M18.sf rows y.toNat z : Nat) : Int) | v => v) (itt_go (SqT.of h3)) (itt_yld (SqT.of h3)) (itt_stop (SqT.of h3)) (by rw [ints_len, hU.len]; exact Nat.le_trans hp (by decide)) (fun i x hx R hR => ?_) (fun D hD => ?_)
      · obtain ⟨y, rfl, hy⟩ := ints_of_at hx
        have hyr := hU.rg y (List.mem_of_getElem? hy)
        have ey : y = ((y.toNat : Nat) : Int) := by omega
        refine ⟨_, rfl, _, rfl, tq, _, _, _, rfl, rfl, SqT.of htq, ?_, hR⟩
        have := M18.tn_at (p := p) (rows := rows) (s := z) (show y.toNat < p by omega)
        have h5 := atI_nat (ints_at this)
        rw [← ey] at h5
        exact h5
      refine ⟨D, _, rfl, .inl ⟨SqL.of upd_same, fun l hl => ?_⟩⟩
      refine ⟨l, _, _, rfl, ((s2.trans s3).trans (Same.upd hD)).trans (Same.upd hl), ?_⟩
      rw [upd_same]
      unfold M18.mvs intV
      rw [List.map_map, List.map_map]
      rfl
    · rintro σ H2 ⟨q, v4, v5, rfl, s2, h2⟩
      rw [ints_len, List.take_length] at h2
      exact ⟨_, rfl, k q H2 s2 h2⟩
structure TS (H0 H : Hp) (lc lt : Addr) (cs ts : List Addr) (come Tb : List (List Int)) : Prop where
  same : Same H0 H
  c1 : H lc = some (.lst (cs.map V.ref))
  c2 : TupsAt H cs come
  t1 : H lt = some (.lst (ts.map V.ref))
  t2 : RowsAt H ts Tb
  ne : lc ≠ lt
  nc : lc ∉ ts
  nt : lt ∉ ts
  newc : H0 lc = none
  newt : H0 lt = none
section
variable {H0 H : Hp} {lc lt : Addr} {cs ts : List Addr} {come Tb : List (List Int)}
theorem TS.more {H' : Hp} (h : TS H0 H lc lt cs ts come Tb) (s : Same H H') : TS H0 H' lc lt cs ts come Tb :=
  ⟨h.same.trans s, s _ _ h.c1, h.c2.same s, s _ _ h.t1, h.t2.same s, h.ne, h.nc, h.nt, h.newc, h.newt⟩
theorem TS.comes (h : TS H0 H lc lt cs ts come Tb) {q : Addr} {u : List Int} (hq : H q = some (.tup (intV u))) : TS H0 (upd H lc (.lst (cs.map V.ref ++ [V.ref q]))) lc lt (cs ++ [q]) ts (come ++ [u]) Tb where
  same := fun b o e => by rw [upd_ne (ne_of_none e h.newc)]; exact h.same _ _ e
  c1 := by rw [upd_same, List.map_append]; rfl
  c2 := tups_upd (h.c2.snoc hq) h.c1
  t1 := by rw [upd_ne (Ne.symm h.ne)]; exact h.t1
  t2 := h.t2.but But.upd h.nc
  ne := h.ne
  nc := h.nc
  nt := h.nt
  newc := h.newc
  newt := h.newt
theorem TS.grows (h : TS H0 H lc lt cs ts come Tb) {lr : Addr} {r r' : List Int} (hr : H lr = some (.lst (intV r))) (hn : H0 lr = none) (h1 : lr ≠ lc) (h2 : lr ≠ lt) (h3 : lr ∉ ts) : TS H0 (upd H lr (.lst (intV r'))) lc lt cs ts come Tb where
  same := fun b o e => by rw [upd_ne (ne_of_none e hn)]; exact h.same _ _ e
  c1 := by rw [upd_ne (Ne.symm h1)]; exact h.c1
  c2 := tups_upd h.c2 hr
  t1 := by rw [upd_ne (Ne.symm h2)]; exact h.t1
  t2 := h.t2.but But.upd h3
  ne := h.ne
  nc := h.nc
  nt := h.nt
  newc := h.newc
  newt := h.newt
theorem TS.lays (h : TS H0 H lc lt cs ts come Tb) {lr : Addr} {r : List Int} (hr : H lr = some (.lst (intV r))) (h1 : lr ≠ lc) (h2 : lr ≠ lt) : TS H0 (upd H lt (.lst (ts.map V.ref ++ [V.ref lr]))) lc lt cs (ts ++ [lr]) come (Tb ++ [r]) where
  same := fun b o e => by rw [upd_ne (ne_of_none e h.newt)]; exact h.same _ _ e
  c1 := by rw [upd_ne h.ne]; exact h.c1
  c2 := tups_upd h.c2 h.t1
  t1 := by rw [upd_same, List.map_append]; rfl
  t2 := by
    refine RowsAt.but (w := lt) (h.t2.snoc hr) But.upd fun z => ?_
    rcases List.mem_append.mp z with z | z
    · exact h.nt z
    · exact h2 (List.mem_singleton.mp z).symm
  ne := h.ne
  nc := fun z => by
    rcases List.mem_append.mp z with z | z
    · exact h.nc z
    · exact h1 (List.mem_singleton.mp z).symm
  nt := fun z => by
    rcases List.mem_append.mp z with z | z
    · exact h.nt z
    · exact h2 (List.mem_singleton.mp z).symm
  newc := h.newc
  newt := h.newt
end
structure WG (L : Nat) (f : Nat → List Int → List Int) (G : List Int → Prop) (come Tb : List (List Int)) (u0 : List Int) : Prop where
  nd : come.Nodup
  g : ∀ u ∈ come, G u
  z : come[0]? = some u0
  rw_ : ∀ (i : Nat) (x r : List Int), come[i]? = some x → Tb[i]? = some r → M18.RowG f come x r (2 * L)
theorem WG.more {L : Nat} {f : Nat → List Int → List Int} {G : List Int → Prop} {come Tb : List (List Int)} {u0 y : List Int} (h : WG L f G come Tb u0) (hT : Tb.length ≤ come.length) (hy : y ∉ come) (h0 : G y) : WG L f G (come ++ [y]) Tb u0 := by
  refine ⟨?_, fun x hx => ?_, ?_, fun i x r h1 h2 => ?_⟩
  · rw [List.nodup_append]
    exact ⟨h.nd, by simp, fun a ha b hb => by rw [List.mem_singleton.mp hb]; exact fun z => hy (by rw [← z]; exact ha)⟩
  · rcases List.mem_append.mp hx with hx | hx
    · exact h.g x hx
    · rw [List.mem_singleton.mp hx]; exact h0
  · rw [List.getElem?_append_left (List.getElem?_eq_some_iff.mp h.z).1]
    exact h.z
  · have hi := (List.getElem?_eq_some_iff.mp h2).1
    rw [List.getElem?_append_left (by omega)] at h1
    exact (h.rw_ i x r h1 h2).more
theorem st_abs (n : Nat) : (M12.st n).natAbs - 1 = n / 2 := by
  unfold M12.st
  split <;> omega
theorem st_sign (n : Nat) : 0 < M12.st n ↔ n % 2 = 0 := by
  unfold M12.st
  split <;> omega
theorem ok__law_table (T : Txt K mg A) : FnOk P w K mg base CX0 2 A.f__law_table A.d__law_table ["_law_turns_here", "_law_points"] spTable := by
  have G__law_back : FnOk P w K mg base CX0 1 A.f__law_back A.d__law_back ["_law_turned"] spBackT := ok__law_back T
  refine T._law_table.F.ok sc__law_table (fun vs H Q E h => ?_) (fun cdv AA outer s H vs Q E hr h => ?_)
  · obtain ⟨a, rows, p, G, rfl, _⟩ := h
    rfl
  · obtain ⟨a, rows, p, G, rfl, hTa, hpm, hp, hL1, hL2, hG0, hGp, hGs, hGb, k⟩ := h
    have hu2 := hu_of hr
    refine ⟨_, (pss_cons (ps_set (i := 2) sc__law_table.nd rfl (Or.inl rfl) (pe_lst (pa_cons (pe_tupRange1 rfl rfl T.z_tuple rfl T.z_range (pa_cons (pv 1) pa_nil)) pa_nil)))
      (pss_cons (ps_set (i := 3) sc__law_table.nd rfl (Or.inl rfl) (pe_lst pa_nil))
      (pss_cons (ps_cut (ps_while PassesOwn.never (pt_cmpR op_lt (pe_callB call_len_seq rfl T.z_len PySem.boot_len (pa_cons (pv 3) pa_nil)) (pe_callB call_len_seq rfl T.z_len PySem.boot_len (pa_cons (pv 2) pa_nil)) (nomark _))
        (pss_cons (ps_set (i := 4) sc__law_table.nd rfl (Or.inl rfl) (pe_ix ix_list (pv 2) (pe_callB call_len_seq rfl T.z_len PySem.boot_len (pa_cons (pv 3) pa_nil)) (fun _ _ => rfl)))
        (pss_cons (ps_set (i := 5) sc__law_table.nd rfl (Or.inl rfl) (pe_lst pa_nil))
        (pss_cons (ps_for PassesOwn.never rfl (pi_range1 rfl T.z_range (pa_cons (pe_op op_mul pe_int (pe_callB call_len_seq rfl T.z_len PySem.boot_len (pa_cons (pv 0) pa_nil))) pa_nil)) (pg_name (i := 6) sc__law_table.nd rfl (Or.inl rfl))
          (pss_cons (ps_set (i := 7) sc__law_table.nd rfl (Or.inr rfl) (pe_ix ix_list (pv 0) (pe_op op_fdiv (pv 6) pe_int) (fun _ _ => rfl)))
          (pss_cons (ps_cut (ps_if (pt_cmpR op_eq (pe_op op_mod (pv 6) pe_int) pe_int (nomark _))
            (pss_one (ps_set (i := 7) sc__law_table.nd rfl (Or.inr rfl) (pe_call (G__law_back) (hr.mono (by decide)) rfl T._law_back.m T._law_back.F.kp T._law_back.b .nil pass0 (pa_cons (pv 7) pa_nil))))
            pss_nil))
          (pss_cons (ps_set (i := 8) sc__law_table.nd rfl (Or.inl rfl) (pe_callTy call_tuple_of rfl T.z_tuple PyProof.Rows.boot_tuple (pa_cons (pe_comp (fns := ["_law_turned"]) (ixs := [7]) (cl := _) rfl (pi_tup (pv 4)) (compScope1 rfl rfl (by decide +kernel) rfl (by decide +kernel) rfl (by decide +kernel) (by decide +kernel) rfl rfl rfl rfl) (fun C s H ex => (pe_ix (ix_tupK (K := K) rfl) (pv 1) (pv 0) (fun _ _ => rfl)))) pa_nil)))
          (pss_cons (ps_cut (ps_if (pt_cmpR (op_NOTIN_lt hu2) (pv 8) (pv 2) rfl)
            (pss_one (ps_expr (pe_bm PySem.F.plainAttrs_list PySem.F.slot_list_append PySem.F.type_list_append mt_append (pv 2) (pa_cons (pv 8) pa_nil))))
            pss_nil))
          (pss_one (ps_expr (pe_bm PySem.F.plainAttrs_list PySem.F.slot_list_append PySem.F.type_list_append mt_append (pv 5) (pa_cons (pe_bm PySem.F.plainAttrs_list PySem.F.slot_list_index PySem.F.type_list_index (mt_index_lt hu2) (pv 2) (pa_cons (pv 8) pa_nil)) pa_nil)))))))))
        (pss_one (ps_expr (pe_bm PySem.F.plainAttrs_list PySem.F.slot_list_append PySem.F.type_list_append mt_append (pv 3) (pa_cons (pv 5) pa_nil)))))))))
      (pss_one (ps_ret (pe_tup (pa_cons (pv 3) (pa_cons (pv 2) pa_nil)))))))), ?_⟩
    obtain ⟨ps, hps, hpt⟩ := id hTa
    have hpl : ps.length = rows.length := hpt.1
    refine ⟨_, rfl, p, rfl, by omega, fun q0 hq0 => ?_⟩
    have s0 : Same H (upd H q0 (.tup (intV (rng 0 p)))) := Same.upd hq0
    have h0 : upd H q0 (.tup (intV (rng 0 p))) q0 = some (.tup (intV (M18.thr rows p []))) := by rw [upd_same, rng_thr rows p]
    generalize upd H q0 (.tup (intV (rng 0 p))) = H0 at s0 h0 ⊢
    refine ⟨by show 1 ≤ sizeLine; decide, fun lc hlc => ?_⟩
    have s1 : Same H0 (upd H0 lc (.lst [.ref q0])) := Same.upd hlc
    have h1 : upd H0 lc (.lst [.ref q0]) lc = some (.lst ([q0].map V.ref)) := upd_same
    have nlc : H lc = none := s0.free hlc
    generalize upd H0 lc (.lst [.ref q0]) = H1 at s1 h1 ⊢
    refine ⟨Nat.zero_le _, fun lt hlt => ?_⟩
    have s2 : Same H1 (upd H1 lt (.lst [])) := Same.upd hlt
    have h2 : upd H1 lt (.lst []) lt = some (.lst (([] : List Addr).map V.ref)) := upd_same
    have nlt : H lt = none := (s0.trans s1).free hlt
    have hne : lc ≠ lt := fun e => by rw [← e, h1] at hlt; cases hlt
    generalize upd H1 lt (.lst []) = H2 at s2 h2 ⊢
    have B2 : TS H H2 lc lt [q0] [] [M18.thr rows p []] [] := ⟨(s0.trans s1).trans s2, s2 _ _ h1, ⟨rfl, fun i r ns g1 g2 => by
      have e1 := List.mem_singleton.mp (List.mem_of_getElem? g1)
      have e2 := List.mem_singleton.mp (List.mem_of_getElem? g2)
      rw [e1, e2]
      exact s2 _ _ (s1 _ _ h0)⟩, h2, ⟨rfl, fun i r ns h1 => by simp at h1⟩, hne, by simp, by simp, nlc, nlt⟩
    obtain ⟨u0, hu0⟩ : ∃ u0, u0 = M18.thr rows p [] := ⟨_, rfl⟩
    rw [← hu0] at B2 hG0
    obtain ⟨f, hf⟩ : ∃ f : Nat → List Int → List Int, f = fun k u => M18.mvs rows (M12.st k) u := ⟨_, rfl⟩
    have hfk : ∀ k u, M18.mvs rows (M12.st k) u = f k u := fun k u => by rw [hf]
    have W2 : WG rows.length f G [u0] [] u0 := ⟨by simp, fun u hu => by rw [List.mem_singleton.mp hu]; exact hG0, rfl, fun i x r h1 h2 => by simp at h2⟩
    refine ⟨fun σ' H' => ∃ (come Tb : List (List Int)) (cs ts : List Addr) (v4 v5 v6 v7 v8 : Option V), σ' = [some (.ref a), some (.int p), some (.ref lc), some (.ref lt), v4, v5, v6, v7, v8] ∧ TS H H' lc lt cs ts come Tb ∧ WG rows.length f G come Tb u0 ∧ Tb.length = come.length, ?_, ?_⟩
    · refine ⟨fun m σ H' => ∃ (come Tb : List (List Int)) (cs ts : List Addr) (v4 v5 v6 v7 v8 : Option V), m = 300 - Tb.length ∧ σ = [some (.ref a), some (.int p), some (.ref lc), some (.ref lt), v4, v5, v6, v7, v8] ∧ TS H H' lc lt cs ts come Tb ∧ WG rows.length f G come Tb u0 ∧ Tb.length ≤ come.length,
        ⟨_, [u0], [], [q0], [], none, none, none, none, none, rfl, rfl, B2, W2, Nat.zero_le _⟩, ?_⟩
      rintro m σ H5 ⟨come, Tb, cs, ts, v4, v5, v6, v7, v8, rfl, rfl, B5, W5, hTc⟩
      have htl : ts.length = Tb.length := B5.t2.1
      have hcl : cs.length = come.length := B5.c2.1
      have hcb := hGb come W5.nd W5.g
      refine ⟨_, rfl, lt, _, rfl, .inl (SqL.of B5.t1), _, rfl, lc, _, rfl, .inl (SqL.of B5.c1), _, _, rfl, rfl, _, rfl, ?_⟩
      refine ite2 (fun h => ?_) (fun h => ?_)
      · have hlt2 : Tb.length < come.length := by
          have h' : ((ts.map V.ref).length : Int) < ((cs.map V.ref).length : Int) := of_decide_eq_true h
          rw [List.length_map, List.length_map, htl, hcl] at h'
          omega
        have hx : come[Tb.length]? = some come[Tb.length] := List.getElem?_eq_getElem hlt2
        generalize come[Tb.length] = x at hx
        have hsa : cs[Tb.length]? = some (cs[Tb.length]'(by omega)) := List.getElem?_eq_getElem (by omega)
        generalize cs[Tb.length]'(by omega) = sa at hsa
        have hPx := hGp x (W5.g x (List.mem_of_getElem? hx))
        refine ⟨fun σ' H' => ∃ (come Tb2 : List (List Int)) (cs ts : List Addr) (v4 v5 v6 v7 v8 : Option V), σ' = [some (.ref a), some (.int p), some (.ref lc), some (.ref lt), v4, v5, v6, v7, v8] ∧ TS H H' lc lt cs ts come Tb2 ∧ WG rows.length f G come Tb2 u0 ∧ Tb2.length ≤ come.length ∧ Tb2.length = Tb.length + 1, fun σ' H' ⟨c, T2, c2, ts2, a4, a5, a6, a7, a8, e, b, w', q1, q2⟩ => ⟨300 - T2.length, ?_, c, T2, c2, ts2, a4, a5, a6, a7, a8, rfl, e, b, w', q1⟩, ?_⟩
        · omega
        refine ⟨_, rfl, _, rfl, lt, _, rfl, .inl (SqL.of B5.t1), lc, _, _, .ref sa, rfl, rfl, SqL.of B5.c1, (by rw [List.length_map, htl]; exact ref_at hsa), ?_⟩
        refine ⟨Nat.zero_le _, fun lr hlr => ?_⟩
        have s56 : Same H5 (upd H5 lr (.lst [])) := Same.upd hlr
        have hr6 : upd H5 lr (.lst []) lr = some (.lst (intV [])) := upd_same
        have nlr : H lr = none := B5.same.free hlr
        have n1 : lr ≠ lc := fun e => by have := B5.c1; rw [← e, hlr] at this; cases this
        have n2 : lr ≠ lt := fun e => by have := B5.t1; rw [← e, hlr] at this; cases this
        have n3 : lr ∉ ts := fun z => by obtain ⟨ns, e⟩ := rows_mem B5.t2 z; rw [hlr] at e; cases e
        have B6 := B5.more s56
        generalize upd H5 lr (.lst []) = H6 at s56 hr6 B6 ⊢
        have hps6 := B6.same _ _ hps
        refine ⟨_, rfl, a, _, rfl, .inl (SqL.of hps6), _, _, rfl, rfl, .inl ⟨by decide, by decide⟩, ((2 * rows.length : Nat) : Int), ?_, by omega, by omega, ?_⟩
        · show [V.int (2 * ((ps.map V.ref).length : Int))] = _
          rw [List.length_map, hpl]
          rfl
        refine for_range (lo := 0) (n := (((2 * rows.length : Nat) : Int)).toNat) (fun n σ H7 => ∃ (come : List (List Int)) (cs : List Addr) (r : List Int) (v6 v7 v8 : Option V), σ = [some (.ref a), some (.int p), some (.ref lc), some (.ref lt), some (.ref sa), some (.ref lr), v6, v7, v8] ∧ TS H H7 lc lt cs ts come Tb ∧ WG rows.length f G come Tb u0 ∧ come[Tb.length]? = some x ∧ cs[Tb.length]? = some sa ∧ H7 lr = some (.lst (intV r)) ∧ M18.RowG f come x r n)
          ⟨come, cs, [], v6, v7, v8, rfl, B6, W5, hx, hsa, hr6, rfl, fun k hk => by omega⟩ ?_ ?_
        · rintro n σ H7 hn ⟨come, cs, r, v6, v7, v8, rfl, B7, W7, hx7, hsa7, hr7, hro⟩
          have hn' : n < 2 * rows.length := by omega
          have hTl7 := (List.getElem?_eq_some_iff.mp hx7).1
          have hcb7 := hGb come W7.nd W7.g
          have hxa := B7.c2.2 _ _ _ hsa7 hx7
          have g2 : rows[n / 2]? = some (rows[n / 2]'(by omega)) := List.getElem?_eq_getElem (by omega)
          have g1 : ps[n / 2]? = some (ps[n / 2]'(by omega)) := List.getElem?_eq_getElem (by omega)
          generalize rows[n / 2]'(by omega) = row at g2
          generalize ps[n / 2]'(by omega) = pa at g1
          have hpa := B7.same _ _ (hpt.2 _ _ _ g1 g2)
          have hP := hpm row (List.mem_of_getElem? g2)
          have g3 : rows[(M12.st n).natAbs - 1]? = some row := by rw [st_abs]; exact g2
          have e0 : (0 : Int) + (n : Int) = (n : Int) := by omega
          refine ⟨_, rfl, _, rfl, _, _, rfl, rfl, ⟨by decide, by decide⟩, a, _, _, .ref pa, rfl, rfl, SqL.of (B7.same _ _ hps), ?_, ?_⟩
          · show atI _ ((0 + (n : Int)) / 2) = _
            rw [show (0 + (n : Int)) / 2 = ((n / 2 : Nat) : Int) by omega]
            exact ref_at g1
          refine ⟨fun σ' H' => ∃ tq : Addr, σ' = [some (.ref a), some (.int p), some (.ref lc), some (.ref lt), some (.ref sa), some (.ref lr), some (.int (0 + (n : Int))), some (.ref tq), v8] ∧ Same H7 H' ∧ H' tq = some (.tup (intV (M18.tn p rows (M12.st n)))), ?_, ?_⟩
          · refine ⟨_, rfl, _, _, rfl, rfl, (by show (0 : Int) < 2; decide), rfl, _, rfl, ?_⟩
            by_cases hod : n % 2 = 0
            · refine ite2 (fun h => ?_) (fun h => ?_)
              · have h' : V.int ((0 + (n : Int)) % 2) = V.int 1 := of_decide_eq_true h
                injection h' with h'
                omega
              · refine ⟨pa, rfl, fun _ _ e => e, ?_⟩
                rw [M18.tn_pos g3 hP ((st_sign n).mpr hod)]
                exact hpa
            · refine ite2 (fun h => ?_) (fun h => ?_)
              · refine ⟨_, rfl, pa, row, p, rfl, hpa, hP, hp, fun l t H3 s3 h3 hI => ⟨l, rfl, s3, ?_⟩⟩
                rw [M18.tn_neg g3 hP (fun z => hod ((st_sign n).mp z)) hI]
                exact h3
              · refine absurd (decide_eq_true ?_) h
                show V.int ((0 + (n : Int)) % 2) = V.int 1
                rw [show (0 + (n : Int)) % 2 = 1 by omega]
          rintro σ' H8 ⟨tq, rfl, s78, htq⟩
          have hx8 := s78 _ _ hxa
          refine ⟨_, rfl, sa, rfl, ⟨_, SqT.of hx8⟩, ?_⟩
          refine comp_pure (intV x) (fun v => match v with | .int y => .int ((M18.sf rows y.toNat (M12.st n) : Nat) : Int) | v => v) (itt_go (SqT.of hx8)) (itt_yld (SqT.of hx8)) (itt_stop (SqT.of hx8)) (by rw [ints_len, hPx.len]; exact Nat.le_trans hp (by decide)) (fun i y0 hy0 R hR => ?_) (fun D hD => ?_)
          · obtain ⟨y, rfl, hy⟩ := ints_of_at hy0
            have hyr := hPx.rg y (List.mem_of_getElem? hy)
            have ey : y = ((y.toNat : Nat) : Int) := by omega
            refine ⟨_, rfl, _, rfl, tq, _, _, _, rfl, rfl, SqT.of htq, ?_, hR⟩
            have := M18.tn_at (p := p) (rows := rows) (s := M12.st n) (show y.toNat < p by omega)
            have h5 := atI_nat (ints_at this)
            rw [← ey] at h5
            exact h5
          refine ⟨D, _, rfl, .inl ⟨SqL.of upd_same, fun ol hol => ?_⟩⟩
          have eo : upd (upd H8 D (.lst ((intV x).map fun v => match v with | .int y => V.int ((M18.sf rows y.toNat (M12.st n) : Nat) : Int) | v => v))) ol (.tup ((intV x).map fun v => match v with | .int y => V.int ((M18.sf rows y.toNat (M12.st n) : Nat) : Int) | v => v)) ol = some (.tup (intV (f n x))) := by
            rw [upd_same, ← hfk]
            unfold M18.mvs intV
            rw [List.map_map, List.map_map]
            rfl
          have s79 := (s78.trans (Same.upd (o := .lst ((intV x).map fun v => match v with | .int y => V.int ((M18.sf rows y.toNat (M12.st n) : Nat) : Int) | v => v)) hD)).trans (Same.upd (o := .tup ((intV x).map fun v => match v with | .int y => V.int ((M18.sf rows y.toNat (M12.st n) : Nat) : Int) | v => v)) hol)
          generalize upd (upd H8 D (.lst ((intV x).map fun v => match v with | .int y => V.int ((M18.sf rows y.toNat (M12.st n) : Nat) : Int) | v => v))) ol (.tup ((intV x).map fun v => match v with | .int y => V.int ((M18.sf rows y.toNat (M12.st n) : Nat) : Int) | v => v)) = H9 at eo s79 ⊢
          have B9 := B7.more s79
          have hr9 := s79 _ _ hr7
          have hGf : G (f n x) := by rw [← hfk]; exact hGs n x hn' (W7.g x (List.mem_of_getElem? hx7))
          refine ⟨fun σ' H' => ∃ (come : List (List Int)) (cs : List Addr), σ' = [some (.ref a), some (.int p), some (.ref lc), some (.ref lt), some (.ref sa), some (.ref lr), some (.int (0 + (n : Int))), some (.ref tq), some (.ref ol)] ∧ TS H H' lc lt cs ts come Tb ∧ WG rows.length f G come Tb u0 ∧ come[Tb.length]? = some x ∧ cs[Tb.length]? = some sa ∧ H' lr = some (.lst (intV r)) ∧ M18.RowG f come x r n ∧ f n x ∈ come ∧ H' ol = some (.tup (intV (f n x))), ?_, ?_⟩
          · refine ⟨_, rfl, _, rfl, ol, lc, _, _, rfl, rfl, eo, ⟨cs, B9.c1, B9.c2⟩, _, rfl, ?_⟩
            by_cases hm : f n x ∈ come
            · rw [decide_eq_true hm]
              exact iteF ⟨come, cs, rfl, B9, W7, hx7, hsa7, hr9, hro, hm, eo⟩
            · rw [decide_eq_false hm]
              refine iteT ⟨_, rfl, .inl ⟨rfl, _, SqL.of B9.c1⟩, _, rfl, lc, _, _, rfl, rfl, B9.c1, ?_, ?_⟩
              · rw [List.length_map, B9.c2.1]
                exact Nat.lt_of_le_of_lt hcb7 (by decide)
              have hcl7 : cs.length = come.length := B7.c2.1
              refine ⟨come ++ [f n x], cs ++ [ol], rfl, B9.comes eo, W7.more (by omega) hm hGf, ?_, ?_, by rw [upd_ne n1]; exact hr9, hro.more, by simp, ?_⟩
              · rw [List.getElem?_append_left hTl7]; exact hx7
              · rw [List.getElem?_append_left (by omega)]; exact hsa7
              · rw [upd_ne (ne_of eo B9.c1 (by intro z; cases z))]
                exact eo
          rintro σ' H10 ⟨come, cs, rfl, B10, W10, hx10, hsa10, hr10, hro10, hm, eo10⟩
          refine ⟨_, rfl, .inl ⟨rfl, _, SqL.of hr10⟩, _, rfl, .inl ⟨rfl, _, SqL.of B10.c1⟩, _, rfl, lc, ol, _, _, rfl, rfl, eo10, ⟨cs, B10.c1, B10.c2⟩, hm, fun j hj _ => ?_⟩
          refine ⟨lr, _, _, rfl, rfl, hr10, ?_, ?_⟩
          · rw [ints_len, hro10.1]
            exact Nat.lt_of_le_of_lt (show n ≤ 100 by omega) (by decide)
          have B11 := B10.grows (r' := r ++ [(j : Int)]) hr10 nlr n1 n2 n3
          rw [ints_app] at B11
          exact ⟨come, cs, r ++ [(j : Int)], _, _, _, rfl, B11, W10, hx10, hsa10, by rw [upd_same, ints_app]; rfl, hro10.snoc hj⟩
        · rintro σ H7 ⟨come, cs, r, v6, v7, v8, rfl, B7, W7, hx7, hsa7, hr7, hro⟩
          rw [Int.toNat_natCast] at hro
          have hTl7 := (List.getElem?_eq_some_iff.mp hx7).1
          have hcb7 := hGb come W7.nd W7.g
          refine ⟨_, rfl, .inl ⟨rfl, _, SqL.of B7.t1⟩, _, rfl, lt, _, _, rfl, rfl, B7.t1, ?_, ?_⟩
          · rw [List.length_map, htl]
            exact Nat.lt_of_le_of_lt (show Tb.length ≤ 300 by omega) (by decide)
          refine ⟨come, Tb ++ [r], cs, ts ++ [lr], _, _, _, _, _, rfl, B7.lays hr7 n1 n2, ⟨W7.nd, W7.g, W7.z, fun i y r' h1 h2 => ?_⟩, ?_, ?_⟩
          · by_cases hi : i < Tb.length
            · rw [List.getElem?_append_left hi] at h2
              exact W7.rw_ i y r' h1 h2
            · rw [List.getElem?_append_right (by omega)] at h2
              have e1 := List.mem_singleton.mp (List.mem_of_getElem? h2)
              have e2 : i = Tb.length := by
                have := (List.getElem?_eq_some_iff.mp h2).1
                simp only [List.length_cons, List.length_nil] at this
                omega
              subst e2
              rw [hx7] at h1
              rw [e1, ← Option.some.inj h1]
              exact hro
          · rw [List.length_append]
            simp only [List.length_cons, List.length_nil]
            omega
          · rw [List.length_append]
            rfl
      · have hge : come.length ≤ Tb.length := by
          have h' : ¬ ((ts.map V.ref).length : Int) < ((cs.map V.ref).length : Int) := fun z => h (decide_eq_true z)
          rw [List.length_map, List.length_map, htl, hcl] at h'
          omega
        exact ⟨come, Tb, cs, ts, v4, v5, v6, v7, v8, rfl, B5, W5, by omega⟩
    rintro σ' H5 ⟨come, Tb, cs, ts, v4, v5, v6, v7, v8, rfl, B5, W5, hTc⟩
    have hcb := hGb come W5.nd W5.g
    have hc1 := (List.getElem?_eq_some_iff.mp W5.z).1
    refine ⟨_, rfl, _, rfl, by show 2 ≤ sizeLine; decide, fun q hq => ?_⟩
    have sq := Same.upd (o := .tup [.ref lt, .ref lc]) hq
    refine k q lt lc Tb come _ (B5.same.trans sq) upd_same (TabAt.same ⟨ts, B5.t1, B5.t2⟩ sq) (WordsAt.same ⟨cs, B5.c1, B5.c2⟩ sq) ?_ (by rw [← hu0]; exact W5.z) W5.g
    have hCm := M18.tabG (f := f) hL1 hL2 W5.nd (by omega) hcb hTc W5.rw_ fun k u hk hu => ?_
    · rw [hf] at hCm
      exact hCm
    · rw [hf]
      show M18.mvs rows (M12.st (M11.flip k)) (M18.mvs rows (M12.st k) u) = u
      rw [M18.st_flip]
      exact M18.mvs_back hpm (M12.st_ok hk) (hGp u (W5.g u hu))
theorem ok__law_cut_words (T : Txt K mg A) : FnOk P w K mg base CX0 3 A.f__law_cut_words A.d__law_cut_words ["_law_cells", "_law_letters"] spCut := by
  have G__law_word : FnOk P w K mg base CX0 2 A.f__law_word A.d__law_word ["_law_cells", "_law_letters"] spWord := ok__law_word T
  have G__law_mix : FnOk P w K mg base CX0 1 A.f__law_mix A.d__law_mix ["_law_number", "_law_place"] spMix := ok__law_mix T
  refine T._law_cut_words.F.ok sc__law_cut_words (fun vs H Q E h => ?_) (fun cdv AA outer s H vs Q E hr h => ?_)
  · obtain ⟨a, cs, L, rfl, _⟩ := h
    rfl
  · obtain ⟨a, cs, L, rfl, ha, hcl, hL1, hL2, k⟩ := h
    refine ⟨_, (pss_cons (ps_set (i := 2) sc__law_cut_words.nd rfl (Or.inl rfl) (pe_lst pa_nil))
      (pss_cons (ps_set (i := 3) sc__law_cut_words.nd rfl (Or.inl rfl) (pe_lst pa_nil))
      (pss_cons (ps_for PassesOwn.never rfl (pi_list (pv 0)) (pg_name (i := 4) sc__law_cut_words.nd rfl (Or.inl rfl))
        (pss_cons (ps_expr (pe_bm PySem.F.plainAttrs_list PySem.F.slot_list_append PySem.F.type_list_append mt_append (pv 3) (pa_cons (pv 4) pa_nil)))
        (pss_one (ps_cut (ps_if (PW.pt (pw_or (pt_cmpR op_eq (pe_callB call_len_seq rfl T.z_len PySem.boot_len (pa_cons (pv 3) pa_nil)) pe_int (nomark _)) (pw_or1 (pt_cmpR op_eq (pe_op op_mod (pe_call (G__law_mix) (hr.mono (by decide)) rfl T._law_mix.m T._law_mix.F.kp T._law_mix.b .nil pass0 (pa_cons (pv 4) (pa_cons pe_int pa_nil))) pe_int) pe_int (nomark _)))))
          (pss_cons (ps_expr (pe_bm PySem.F.plainAttrs_list PySem.F.slot_list_append PySem.F.type_list_append mt_append (pv 2) (pa_cons (pe_call (G__law_word) (hr.mono (by decide)) rfl T._law_word.m T._law_word.F.kp T._law_word.b .nil pass0 (pa_cons (pv 3) (pa_cons (pv 1) pa_nil))) pa_nil)))
          (pss_one (ps_set (i := 3) sc__law_cut_words.nd rfl (Or.inl rfl) (pe_lst pa_nil))))
          pss_nil)))))
      (pss_cons (ps_cut (ps_if (pt_cmpR op_gt (pe_callB call_len_seq rfl T.z_len PySem.boot_len (pa_cons (pv 3) pa_nil)) pe_int (nomark _))
        (pss_one (ps_expr (pe_bm PySem.F.plainAttrs_list PySem.F.slot_list_append PySem.F.type_list_append mt_append (pv 2) (pa_cons (pe_call (G__law_word) (hr.mono (by decide)) rfl T._law_word.m T._law_word.F.kp T._law_word.b .nil pass0 (pa_cons (pv 3) (pa_cons (pv 1) pa_nil))) pa_nil))))
        pss_nil))
      (pss_one (ps_ret (pv 2))))))), ?_⟩
    refine ⟨Nat.zero_le _, fun lw hlw => ?_⟩
    have s0 : Same H (upd H lw (.lst [])) := Same.upd hlw
    have h0 : upd H lw (.lst []) lw = some (.lst (([] : List Addr).map V.ref)) := upd_same
    generalize upd H lw (.lst []) = H0 at s0 h0 ⊢
    refine ⟨Nat.zero_le _, fun lk hlk => ?_⟩
    have s1 : Same H0 (upd H0 lk (.lst [])) := Same.upd hlk
    have h1 : upd H0 lk (.lst []) lk = some (.lst (intV [])) := upd_same
    have hne0 : lw ≠ lk := fun e => by rw [← e, h0] at hlk; cases hlk
    have nlk : H lk = none := s0.free hlk
    generalize upd H0 lk (.lst []) = H1 at s1 h1 ⊢
    refine ⟨_, rfl, a, rfl, ⟨_, SqL.of (s1 _ _ (s0 _ _ ha))⟩, ?_⟩
    refine for_list (K := K) (a := a) (xs := intV cs) (fun i σ H2 => ∃ (ps : List Addr) (Ws : List (List Int)) (lk : Addr) (kv : List Int) (v4 : Option V), σ = [some (.ref a), some (.int L), some (.ref lw), some (.ref lk), v4] ∧ Same H H2 ∧ H lk = none ∧ lw ≠ lk ∧ H2 lw = some (.lst (ps.map V.ref)) ∧ TupsAt H2 ps Ws ∧ (∀ u ∈ Ws, M11.Steps L u ∧ 1 ≤ u.length ∧ u.length ≤ 5) ∧ Ws.length ≤ i ∧ H2 lk = some (.lst (intV kv)) ∧ kv.length ≤ 4)
      ⟨[], [], lk, [], none, rfl, s0.trans s1, nlk, hne0, s1 _ _ h0, ⟨rfl, fun i r ns h1 => by simp at h1⟩, fun r hr => by simp at hr, Nat.le_refl _, h1, Nat.zero_le _⟩ (fun i σ H2 _ ⟨_, _, _, _, _, _, s, _⟩ => SqL.of (s _ _ ha)) ?_ ?_
    · rintro i y σ H2 hi ⟨ps, Ws, lk, kv, v4, rfl, s2, nlk, hne, h2, t2, hW, hWl, hk2, hkl⟩
      obtain ⟨z, rfl, hz⟩ := ints_of_at hi
      have hil : i < cs.length := (List.getElem?_eq_some_iff.mp hz).1
      have hpl : ps.length = Ws.length := t2.1
      refine ⟨_, rfl, .inl ⟨rfl, _, SqL.of hk2⟩, _, rfl, lk, _, _, rfl, rfl, hk2, ?_, ?_⟩
      · rw [ints_len]
        exact Nat.lt_of_le_of_lt (show kv.length ≤ 63 by omega) (by decide)
      have ek : upd H2 lk (.lst (intV kv ++ [.int z])) lk = some (.lst (intV (kv ++ [z]))) := by rw [upd_same, ints_app]; rfl
      have s3 : Same H (upd H2 lk (.lst (intV kv ++ [.int z]))) := fun b o e => by rw [upd_ne (ne_of_none e nlk)]; exact s2 _ _ e
      have h3 : upd H2 lk (.lst (intV kv ++ [.int z])) lw = some (.lst (ps.map V.ref)) := by rw [upd_ne hne]; exact h2
      have t3 := tups_upd (o := .lst (intV kv ++ [.int z])) t2 hk2
      generalize upd H2 lk (.lst (intV kv ++ [.int z])) = H3 at ek s3 h3 t3 ⊢
      have hkl3 : (kv ++ [z]).length = kv.length + 1 := by rw [List.length_append]; rfl
      generalize kv ++ [z] = kw at ek hkl3
      have put : ∀ (Q : St → Hp → Prop), (∀ (ps : List Addr) (Ws : List (List Int)) (lk' : Addr) (H5 : Hp), Same H H5 → H lk' = none → lw ≠ lk' → H5 lw = some (.lst (ps.map V.ref)) → TupsAt H5 ps Ws → (∀ u ∈ Ws, M11.Steps L u ∧ 1 ≤ u.length ∧ u.length ≤ 5) → Ws.length ≤ i + 1 → H5 lk' = some (.lst (intV [])) → Q [some (.ref a), some (.int L), some (.ref lw), some (.ref lk'), some (.int z)] H5) →
          ∀ (qw : Addr) (u : List Int) (H4 : Hp), Same H3 H4 → H4 qw = some (.tup (intV u)) → M11.Steps L u → u.length = kw.length → ∃ l xs y, V.ref lw = V.ref l ∧ [V.ref qw] = [y] ∧ H4 l = some (.lst xs) ∧ xs.length < sizeLine ∧ ([] : List V).length ≤ sizeLine ∧ ∀ q, upd H4 l (.lst (xs ++ [y])) q = none → Q [some (.ref a), some (.int L), some (.ref lw), some (.ref q), some (.int z)] (upd (upd H4 l (.lst (xs ++ [y]))) q (.lst [])) := by
        intro Q hQ qw u H4 s34 hqw hst hul
        have h4 := s34 _ _ h3
        refine ⟨lw, _, _, rfl, rfl, h4, ?_, Nat.zero_le _, fun q hq => ?_⟩
        · rw [List.length_map]
          exact Nat.lt_of_le_of_lt (show ps.length ≤ 63 by omega) (by decide)
        have e5 : upd H4 lw (.lst (ps.map V.ref ++ [V.ref qw])) lw = some (.lst ((ps ++ [qw]).map V.ref)) := by rw [upd_same, List.map_append]; rfl
        have s5 : Same H (upd H4 lw (.lst (ps.map V.ref ++ [V.ref qw]))) := fun b o e => by rw [upd_ne (ne_of_none e hlw)]; exact s34 _ _ (s3 _ _ e)
        have t5 := tups_upd (o := .lst (ps.map V.ref ++ [V.ref qw])) ((t3.same s34).snoc hqw) h4
        generalize upd H4 lw (.lst (ps.map V.ref ++ [V.ref qw])) = H5 at hq e5 s5 t5 ⊢
        have s56 : Same H5 (upd H5 q (.lst [])) := Same.upd hq
        refine hQ (ps ++ [qw]) (Ws ++ [u]) q _ (s5.trans s56) (s5.free hq) (fun e => by rw [← e, e5] at hq; cases hq) (s56 _ _ e5) (t5.same s56) (fun v hv => ?_) (by rw [List.length_append]; simp only [List.length_cons, List.length_nil]; omega) upd_same
        rcases List.mem_append.mp hv with hv | hv
        · exact hW v hv
        · rw [List.mem_singleton.mp hv]
          exact ⟨hst, by omega, by omega⟩
      refine ⟨fun σ' H' => ∃ (ps : List Addr) (Ws : List (List Int)) (lk : Addr) (kv : List Int) (v4 : Option V), σ' = [some (.ref a), some (.int L), some (.ref lw), some (.ref lk), v4] ∧ Same H H' ∧ H lk = none ∧ lw ≠ lk ∧ H' lw = some (.lst (ps.map V.ref)) ∧ TupsAt H' ps Ws ∧ (∀ u ∈ Ws, M11.Steps L u ∧ 1 ≤ u.length ∧ u.length ≤ 5) ∧ Ws.length ≤ i + 1 ∧ H' lk = some (.lst (intV kv)) ∧ kv.length ≤ 4, ?_, fun _ _ h => h⟩
      have body := put (fun σ' H' => ∃ (ps : List Addr) (Ws : List (List Int)) (lk : Addr) (kv : List Int) (v4 : Option V), σ' = [some (.ref a), some (.int L), some (.ref lw), some (.ref lk), v4] ∧ Same H H' ∧ H lk = none ∧ lw ≠ lk ∧ H' lw = some (.lst (ps.map V.ref)) ∧ TupsAt H' ps Ws ∧ (∀ u ∈ Ws, M11.Steps L u ∧ 1 ≤ u.length ∧ u.length ≤ 5) ∧ Ws.length ≤ i + 1 ∧ H' lk = some (.lst (intV kv)) ∧ kv.length ≤ 4) (fun ps Ws lk' H5 a1 a2 a3 a4 a5 a6 a7 a8 => ⟨ps, Ws, lk', [], _, rfl, a1, a2, a3, a4, a5, a6, a7, a8, Nat.zero_le _⟩)
      refine ⟨_, rfl, lk, _, rfl, .inl (SqL.of ek), rfl, _, rfl, ite2 (fun _ => iteT ?_) (fun h => ?_)⟩
      · exact ⟨_, rfl, .inl ⟨rfl, _, SqL.of h3⟩, _, rfl, _, rfl, lk, kw, L, rfl, ek, by omega, hL1, hL2, body⟩
      · have hk5 : kw.length ≠ 5 := fun e => h (by rw [decide_eq_true]; rw [ints_len, e]; rfl)
        refine ⟨_, rfl, z, 3, rfl, by decide, by decide, fun r hr => ?_⟩
        refine ⟨_, _, rfl, rfl, (by show (0 : Int) < 3; decide), rfl, _, rfl, ite2 (fun _ => ?_) (fun _ => ⟨ps, Ws, lk, kw, _, rfl, s3, nlk, hne, h3, t3, hW, by omega, ek, by omega⟩)⟩
        exact ⟨_, rfl, .inl ⟨rfl, _, SqL.of h3⟩, _, rfl, _, rfl, lk, kw, L, rfl, ek, by omega, hL1, hL2, body⟩
    · rintro σ H2 ⟨ps, Ws, lk, kv, v4, rfl, s2, nlk, hne, h2, t2, hW, hWl, hk2, hkl⟩
      rw [ints_len] at hWl
      have hpl : ps.length = Ws.length := t2.1
      refine ⟨fun σ' H' => ∃ (Ws : List (List Int)), σ' = [some (.ref a), some (.int L), some (.ref lw), some (.ref lk), v4] ∧ Same H H' ∧ WordsAt H' lw Ws ∧ (∀ u ∈ Ws, M11.Steps L u ∧ 1 ≤ u.length ∧ u.length ≤ 5) ∧ Ws.length ≤ 64, ?_, ?_⟩
      · refine ⟨_, rfl, lk, _, rfl, .inl (SqL.of hk2), _, _, rfl, rfl, _, rfl, ite2 (fun h => ?_) (fun _ => ⟨Ws, rfl, s2, ⟨ps, h2, t2⟩, hW, by omega⟩)⟩
        have hk1 : (0 : Int) < ((intV kv).length : Int) := of_decide_eq_true h
        rw [ints_len] at hk1
        refine ⟨_, rfl, .inl ⟨rfl, _, SqL.of h2⟩, _, rfl, _, rfl, lk, kv, L, rfl, hk2, by omega, hL1, hL2, fun qw u H4 s34 hqw hst hul => ?_⟩
        have h4 := s34 _ _ h2
        refine ⟨lw, _, _, rfl, rfl, h4, ?_, ?_⟩
        · rw [List.length_map]
          exact Nat.lt_of_le_of_lt (show ps.length ≤ 63 by omega) (by decide)
        refine ⟨Ws ++ [u], rfl, fun b o e => by rw [upd_ne (ne_of_none e hlw)]; exact s34 _ _ (s2 _ _ e), ⟨ps ++ [qw], by rw [upd_same, List.map_append]; rfl, tups_upd ((t2.same s34).snoc hqw) h4⟩, fun v hv => ?_, by rw [List.length_append]; simp only [List.length_cons, List.length_nil]; omega⟩
        rcases List.mem_append.mp hv with hv | hv
        · exact hW v hv
        · rw [List.mem_singleton.mp hv]
          exact ⟨hst, by omega, by omega⟩
      rintro σ' H4 ⟨Ws, rfl, s4, h4, hW4, hl4⟩
      exact ⟨_, rfl, k lw Ws H4 s4 hlw h4 hW4 hl4⟩
theorem ok__law_often (T : Txt K mg A) : FnOk P w K mg base CX0 3 A.f__law_often A.d__law_often ["_law_turns_here", "_law_word_here", "_law_points"] spOften := by
  have G__law_through : FnOk P w K mg base CX0 2 A.f__law_through A.d__law_through ["_law_turns_here", "_law_word_here", "_law_points"] spThr := ok__law_through T
  refine T._law_often.F.ok sc__law_often (fun vs H Q E h => ?_) (fun cdv AA outer s H vs Q E hr h => ?_)
  · obtain ⟨a, wa, rows, p, w, rfl, _⟩ := h
    rfl
  · obtain ⟨a, wa, rows, p, w, rfl, hTa, hpm, hp, hwa, hst, hrl, k⟩ := h
    have hu := Nat.lt_of_succ_lt (hu_of hr)
    refine ⟨_, (pss_cons (ps_set (i := 3) sc__law_often.nd rfl (Or.inl rfl) (pe_tupRange1 rfl rfl T.z_tuple rfl T.z_range (pa_cons (pv 2) pa_nil)))
      (pss_cons (ps_set (i := 4) sc__law_often.nd rfl (Or.inr rfl) (pe_call (G__law_through) (hr.mono (by decide)) rfl T._law_through.m T._law_through.F.kp T._law_through.b .nil pass0 (pa_cons (pv 0) (pa_cons (pv 1) (pa_cons (pv 2) pa_nil)))))
      (pss_cons (ps_set (i := 5) sc__law_often.nd rfl (Or.inl rfl) (pv 4))
      (pss_cons (ps_set (i := 6) sc__law_often.nd rfl (Or.inl rfl) pe_int)
      (pss_cons (ps_cut (ps_while PassesOwn.never (pt_cmpR (op_neTI hu) (pv 5) (pv 3) (nomark _))
        (pss_cons (ps_set (i := 5) sc__law_often.nd rfl (Or.inl rfl) (pe_callTy call_tuple_of rfl T.z_tuple PyProof.Rows.boot_tuple (pa_cons (pe_comp (fns := ["_law_one"]) (ixs := [4]) (cl := _) rfl (pi_tup (pv 5)) (compScope1 rfl rfl (by decide +kernel) rfl (by decide +kernel) rfl (by decide +kernel) (by decide +kernel) rfl rfl rfl rfl) (fun C s H ex => (pe_ix (ix_tupK (K := K) rfl) (pv 1) (pv 0) (fun _ _ => rfl)))) pa_nil)))
        (pss_one (ps_set (i := 6) sc__law_often.nd rfl (Or.inl rfl) (pe_op op_add (pv 6) pe_int))))))
      (pss_one (ps_ret (pv 6)))))))), ?_⟩
    have hf1 : ∀ x, x < p → M18.fw rows w x < p := fun x hx => M18.fw_lt hpm hst hx
    have hf2 : ∀ x y, x < p → y < p → M18.fw rows w x = M18.fw rows w y → x = y := fun x y hx hy e => M18.fw_inj hpm hst hx hy e
    obtain ⟨f, hf⟩ : ∃ f : Nat → Nat, f = M18.fw rows w := ⟨_, rfl⟩
    rw [← hf] at hf1 hf2
    have h60 := spots_sixty (M17.sixty hp hf1 hf2)
    have hit := fun (n : Nat) (x : Nat) (hx : x < p) => M17.it_lt hf1 n x hx
    refine ⟨_, rfl, p, rfl, by omega, fun q0 hq0 => ?_⟩
    have s0 : Same H (upd H q0 (.tup (intV (rng 0 p)))) := Same.upd hq0
    have h0 : upd H q0 (.tup (intV (rng 0 p))) q0 = some (.tup (intV (spotsL f p 0))) := by rw [upd_same, spots_zero f p]
    generalize upd H q0 (.tup (intV (rng 0 p))) = H0 at s0 h0 ⊢
    refine ⟨_, rfl, _, rfl, _, rfl, a, wa, rows, p, w, rfl, hTa.same s0, hpm, by omega, s0 _ _ hwa, hst, hrl, fun q1 H1 s1 h1 => ?_⟩
    have e1 : M18.thr rows p w = spotsL f p 1 := by rw [hf]; rfl
    rw [e1] at h1
    have s01 := s0.trans s1
    refine ⟨_, rfl, ?_⟩
    refine ⟨fun σ' H2 => ∃ (sq : Addr) (c : Nat), σ' = [some (.ref a), some (.ref wa), some (.int p), some (.ref q0), some (.ref q1), some (.ref sq), some (.int (c : Int))] ∧ Same H H2 ∧ 1 ≤ c ∧ c ≤ 60, ?_, ?_⟩
    · refine ⟨fun m σ H2 => ∃ (sq : Addr) (c : Nat), m = 60 - c ∧ σ = [some (.ref a), some (.ref wa), some (.int p), some (.ref q0), some (.ref q1), some (.ref sq), some (.int (c : Int))] ∧ Same H H2 ∧ Same H1 H2 ∧ H2 sq = some (.tup (intV (spotsL f p c))) ∧ 1 ≤ c ∧ c ≤ 60, ⟨_, q1, 1, rfl, rfl, s01, fun _ _ e => e, h1, Nat.le_refl _, by omega⟩, ?_⟩
      rintro m σ H2 ⟨sq, c, rfl, rfl, s2, s12, h2, hc1, hc2⟩
      have hq1 := s12 _ _ h1
      refine ⟨_, rfl, _, rfl, sq, q0, _, _, rfl, rfl, SqT.of h2, SqT.of (s12 _ _ (s1 _ _ h0)), _, rfl, ?_⟩
      by_cases e : spotsL f p c = spotsL f p 0
      · exact iteNS e ⟨sq, c, rfl, s2, hc1, hc2⟩
      · refine ite2 (fun _ => ?_) (fun h => absurd (by rw [decide_eq_false e]; rfl) h)
        have hc3 : c < 60 := by
          rcases Nat.lt_or_ge c 60 with q | q
          · exact q
          · exact absurd (by rw [show c = 60 by omega]; exact h60) e
        refine ⟨_, fun _ _ h => h, ?_⟩
        refine ⟨_, rfl, sq, rfl, ⟨_, SqT.of h2⟩, ?_⟩
        refine comp_pure (intV (spotsL f p c)) (fun v => match v with | .int z => .int ((f z.toNat : Nat) : Int) | v => v) (itt_go (SqT.of h2)) (itt_yld (SqT.of h2)) (itt_stop (SqT.of h2)) (by rw [ints_len, spots_len]; exact Nat.le_trans hp (by decide)) (fun i x hx R hR => ?_) (fun s3 hs3 => ?_)
        · obtain ⟨z, rfl, hz⟩ := ints_of_at hx
          obtain ⟨hi, rfl⟩ := spots_at hz
          have hR' : R (.int ((f (M17.it f c i) : Nat) : Int)) H2 := by
            have h1 : R (V.int ((f ((M17.it f c i : Nat) : Int).toNat : Nat) : Int)) H2 := hR
            rw [Int.toNat_natCast] at h1
            exact h1
          have hl := hit c i hi
          have hat : (spotsL f p 1)[M17.it f c i]? = some ((f (M17.it f c i) : Nat) : Int) := by
            unfold spotsL
            rw [List.getElem?_map, List.getElem?_range hl]
            rfl
          exact ⟨_, rfl, _, rfl, q1, _, _, _, rfl, rfl, SqT.of hq1, atI_nat (ints_at hat), hR'⟩
        rw [spots_step]
        refine ⟨s3, _, rfl, .inl ⟨SqL.of upd_same, fun l hl => ?_⟩⟩
        have s24 := (Same.upd (o := .lst (intV (spotsL f p (c + 1)))) hs3).trans (Same.upd (o := .tup (intV (spotsL f p (c + 1)))) hl)
        refine ⟨_, rfl, _, _, rfl, rfl, 60 - (c + 1), by omega, l, c + 1, rfl, ?_, s2.trans s24, s12.trans s24, upd_same, by omega, by omega⟩
        rw [show ((c + 1 : Nat) : Int) = (c : Int) + 1 by omega]
        rfl
    rintro σ' H2 ⟨sl, c, rfl, s2, hc1, hc2⟩
    exact ⟨_, rfl, k c H2 hc1 hc2 s2⟩
theorem comp_any {H1 : Hp} {fv : St} {te : TE} {Q : VK} {n : Nat} (hn : n ≤ 1000) (he : ∀ (i : Nat) (R : VK), i < n → (∀ z : Int, R (.int z) H1) → te (some (.int (0 + (i : Int))) :: fv) H1 R)
    (hQ : ∀ D zs, H1 D = none → zs.length = n → Q (.ref D) (upd H1 D (.lst (intV zs)))) : CompGo te fv Q (Itr 0 n) H1 := by
  refine ⟨fun i m ys H2 => m = n - i ∧ i ≤ n ∧ ∃ zs : List Int, ys = intV zs ∧ zs.length = i ∧ H2 = H1, ⟨n, by simp, Nat.zero_le _, [], rfl, rfl, rfl⟩, ?_⟩
  rintro i m ys H2 ⟨rfl, hi, zs, rfl, hzl, rfl⟩
  by_cases hlt : i < n
  · refine .inr ⟨hlt, by rw [ints_len, hzl]; exact Nat.lt_of_le_of_lt (show i ≤ 1000 by omega) (by decide), fun x H3 hy => ?_⟩
    obtain ⟨rfl, rfl⟩ := hy
    refine he i _ hlt fun z => ?_
    exact ⟨n - (i + 1), by omega, rfl, hlt, zs ++ [z], by rw [ints_app]; rfl, by rw [List.length_append, hzl]; rfl, rfl⟩
  · have e : i = n := by omega
    subst e
    exact .inl ⟨Nat.le_refl _, by rw [ints_len, hzl]; exact Nat.le_trans hn (by decide), fun D hD => hQ D zs hD hzl⟩
theorem comp_wordsS {K : PySem.W.Frag} {H : Hp} {a : Addr} {fv : St} {te : TE} {Q : VK} {rs : List Addr} {us : List (List Int)} (f : List Int → List Int) (hrs : H a = some (.lst (rs.map V.ref))) (hrw : TupsAt H rs us) (hz : us.length ≤ 1000)
    (he : ∀ (H2 : Hp) (r : Addr) (u : List Int) (R : VK), Same H H2 → u ∈ us → H2 r = some (.tup (intV u)) → (∀ l H3, Same H2 H3 → H3 l = some (.tup (intV (f u))) → R (.ref l) H3) → te (some (.ref r) :: fv) H2 R)
    (hQ : ∀ D H2 qs, Same H H2 → H2 D = none → TupsAt H2 qs (us.map f) → Q (.ref D) (upd H2 D (.lst (qs.map V.ref)))) : CompGo te fv Q (Itl K a) H := by
  have hrl := hrw.1
  refine ⟨fun i m ys H2 => m = rs.length - i ∧ i ≤ rs.length ∧ ∃ qs : List Addr, ys = qs.map V.ref ∧ Same H H2 ∧ TupsAt H2 qs ((us.take i).map f), ⟨rs.length, by simp, Nat.zero_le _, [], rfl, fun _ _ e => e, ⟨by simp, fun i r ns h1 => by simp at h1⟩⟩, ?_⟩
  rintro i m ys H2 ⟨rfl, hi, qs, rfl, s2, hqa⟩
  have hql : qs.length = i := by have := hqa.1; rw [List.length_map, List.length_take] at this; omega
  by_cases hlt : i < rs.length
  · have g1 : rs[i]? = some rs[i] := List.getElem?_eq_getElem hlt
    have hil : i < us.length := by omega
    have g2 : us[i]? = some us[i] := List.getElem?_eq_getElem hil
    have hr := hrw.2 i _ _ g1 g2
    refine .inr ⟨itl_go (SqL.of (s2 _ _ hrs)) i (by rw [List.length_map]; exact hlt), by rw [List.length_map, hql]; exact Nat.lt_of_le_of_lt (show i ≤ 1000 by omega) (by decide), fun x H3 hy => ?_⟩
    obtain ⟨rfl, hx⟩ := itl_yld (SqL.of (s2 _ _ hrs)) i x H3 (by rw [List.length_map]; exact hlt) hy
    rw [List.getElem?_map, g1] at hx
    have ex : V.ref rs[i] = x := Option.some.inj hx
    subst ex
    refine he H3 _ _ _ s2 (List.mem_of_getElem? g2) (s2 _ _ hr) fun l H4 s4 h4 => ?_
    refine ⟨rs.length - (i + 1), by omega, rfl, hlt, qs ++ [l], by rw [List.map_append]; rfl, s2.trans s4, ?_⟩
    have e : (us.take (i + 1)).map f = (us.take i).map f ++ [f us[i]] := by rw [List.take_succ, g2, List.map_append]; rfl
    rw [e]
    exact (hqa.same s4).snoc h4
  · have e : i = rs.length := by omega
    refine .inl ⟨?_, by rw [List.length_map, hql]; exact Nat.le_trans (show i ≤ 1000 by omega) (by decide), fun D hD => ?_⟩
    · have := itl_stop (K := K) (SqL.of (s2 _ _ hrs))
      rw [List.length_map, ← e] at this
      exact this
    · rw [List.take_of_length_le (by omega)] at hqa
      exact hQ D H2 qs s2 hD hqa
def dueB (mv : List (List Int)) (p : Nat) (R : List (List Int)) : Bool := R.all fun u => decide (M18.thr mv p u = M18.thr mv p [])
theorem due_snoc (mv : List (List Int)) (p : Nat) (R : List (List Int)) (u : List Int) : dueB mv p (R ++ [u]) = (dueB mv p R && decide (M18.thr mv p u = M18.thr mv p [])) := by
  unfold dueB
  rw [List.all_append]
  simp
theorem due_car {rows : List (List Int)} {p : Nat} {T come Im R : List (List Int)} (hpm : ∀ r ∈ rows, M11.Pm p r) (hI : ∀ w ∈ Im, M11.Steps rows.length w) (hR : ∀ u ∈ R, M11.Steps Im.length u)
    (hC : M18.Cm rows.length (fun k u => M18.mvs rows (M12.st k) u) T come) (h0 : come[0]? = some (M18.thr rows p [])) : dueB (M18.mov rows p Im) p R = car T Im R := by
  unfold dueB car
  induction R with
  | nil => rfl
  | cons u R ih =>
    rw [List.all_cons, List.all_cons, ih (fun v hv => hR v (List.mem_cons_of_mem _ hv))]
    congr 1
    rw [decide_eq_decide, M18.thr_fill hpm hI (hR u (List.mem_cons_self ..)), M18.walk_home hC h0 (M18.fill_steps hI)]
    exact Iff.rfl
theorem ok_law (T : Txt K mg A) : FnOk P w K mg base CX0 9 A.f_law A.d_law ["_law_script"] (spLaw K) := by
  have G__law_mix : FnOk P w K mg base CX0 1 A.f__law_mix A.d__law_mix ["_law_number", "_law_place"] spMix := ok__law_mix T
  have G__law_turns : FnOk P w K mg base CX0 2 A.f__law_turns A.d__law_turns ["_law_number", "_law_letters", "_law_points"] spTurns := ok__law_turns T
  have G__law_cut_words : FnOk P w K mg base CX0 3 A.f__law_cut_words A.d__law_cut_words ["_law_cells", "_law_letters"] spCut := ok__law_cut_words T
  have G__law_at : FnOk P w K mg base CX0 1 A.f__law_at A.d__law_at ["_law_script", "_law_k"] (spAt K) := ok__law_at T
  have G__law_table : FnOk P w K mg base CX0 2 A.f__law_table A.d__law_table ["_law_turns_here", "_law_points"] spTable := ok__law_table T
  have G__law_through : FnOk P w K mg base CX0 2 A.f__law_through A.d__law_through ["_law_turns_here", "_law_word_here", "_law_points"] spThr := ok__law_through T
  have G_carries : FnOk P w K mg base CX0 3 A.f_carries A.d_carries ["rules", "table", "images"] spCarries := ok_carries T
  have G__law_word : FnOk P w K mg base CX0 2 A.f__law_word A.d__law_word ["_law_cells", "_law_letters"] spWord := ok__law_word T
  have G__law_often : FnOk P w K mg base CX0 3 A.f__law_often A.d__law_often ["_law_turns_here", "_law_word_here", "_law_points"] spOften := ok__law_often T
  refine T.law.F.ok sc_law (fun vs H Q E h => ?_) (fun cdv AA outer s H vs Q E hr h => ?_)
  · obtain ⟨a, ns, rfl, _⟩ := h
    rfl
  · obtain ⟨a, ns, rfl, hS, hlen, k⟩ := h
    have hu3 := Nat.lt_of_le_of_lt (Nat.add_le_add_left (by decide : 2 ≤ 64) _) hr.units
    have hu := Nat.lt_of_succ_lt (hu_of hr)
    refine ⟨_, (pss_cons (ps_set (i := 1) sc_law.nd rfl (Or.inl rfl) (pe_call (G__law_mix) (hr.mono (by decide)) rfl T._law_mix.m T._law_mix.F.kp T._law_mix.b .nil pass0 (pa_cons (pe_call (G__law_at) (hr.mono (by decide)) rfl T._law_at.m T._law_at.F.kp T._law_at.b .nil pass0 (pa_cons (pv 0) (pa_cons pe_int pa_nil))) (pa_cons pe_int pa_nil))))
      (pss_cons (ps_set (i := 2) sc_law.nd rfl (Or.inr rfl) (pe_op op_add pe_int (pe_op op_mod (pe_op op_fdiv (pv 1) pe_int) pe_int)))
      (pss_cons (ps_set (i := 3) sc_law.nd rfl (Or.inr rfl) (pe_call (G__law_turns) (hr.mono (by decide)) rfl T._law_turns.m T._law_turns.F.kp T._law_turns.b .nil pass0 (pa_cons (pe_call (G__law_mix) (hr.mono (by decide)) rfl T._law_mix.m T._law_mix.F.kp T._law_mix.b .nil pass0 (pa_cons (pe_call (G__law_at) (hr.mono (by decide)) rfl T._law_at.m T._law_at.F.kp T._law_at.b .nil pass0 (pa_cons (pv 0) (pa_cons pe_int pa_nil))) (pa_cons pe_int pa_nil))) (pa_cons (pe_op op_add pe_int (pe_op op_mod (pv 1) pe_int)) (pa_cons (pv 2) pa_nil)))))
      (pss_cons (ps_set (i := 4) sc_law.nd rfl (Or.inl rfl) (pe_ix ix_tup (pe_call (G__law_table) (hr.mono (by decide)) rfl T._law_table.m T._law_table.F.kp T._law_table.b .nil pass0 (pa_cons (pv 3) (pa_cons (pv 2) pa_nil))) pe_int (fun _ _ => rfl)))
      (pss_cons (ps_set (i := 5) sc_law.nd rfl (Or.inl rfl) (pe_op op_add pe_int (pe_op op_mod (pe_op op_fdiv (pv 1) pe_int) pe_int)))
      (pss_cons (ps_set (i := 6) sc_law.nd rfl (Or.inl rfl) (pe_lst pa_nil))
      (pss_cons (ps_for PassesOwn.never rfl (pi_range1 rfl T.z_range (pa_cons (pv 5) pa_nil)) (pg_name (i := 7) sc_law.nd rfl (Or.inl rfl))
        (pss_cons (ps_set (i := 8) sc_law.nd rfl (Or.inr rfl) (pe_call (G__law_mix) (hr.mono (by decide)) rfl T._law_mix.m T._law_mix.F.kp T._law_mix.b .nil pass0 (pa_cons (pe_call (G__law_at) (hr.mono (by decide)) rfl T._law_at.m T._law_at.F.kp T._law_at.b .nil pass0 (pa_cons (pv 0) (pa_cons pe_int pa_nil))) (pa_cons (pv 7) pa_nil))))
        (pss_one (ps_expr (pe_bm PySem.F.plainAttrs_list PySem.F.slot_list_append PySem.F.type_list_append mt_append (pv 6) (pa_cons (pe_call (G__law_word) (hr.mono (by decide)) rfl T._law_word.m T._law_word.F.kp T._law_word.b .nil pass0 (pa_cons (pe_comp (fns := ["_law_some"]) (ixs := [8]) (cl := _) rfl (pi_range1 rfl T.z_range (pa_cons (pe_op op_mod (pv 8) pe_int) pa_nil)) (compScope1 rfl rfl (by decide +kernel) rfl (by decide +kernel) rfl (by decide +kernel) (by decide +kernel) rfl rfl rfl rfl) (fun C s H ex => (pe_call (G__law_mix) (hr.mono (by decide)) rfl T._law_mix.m T._law_mix.F.kp T._law_mix.b .nil pass0 (pa_cons (pv 1) (pa_cons (pv 0) pa_nil))))) (pa_cons (pe_callB call_len_seq rfl T.z_len PySem.boot_len (pa_cons (pv 3) pa_nil)) pa_nil))) pa_nil))))))
      (pss_cons (ps_setComp (iy := 9) sc_law.nd rfl (Or.inl rfl) (fns := ["_law_turns_here", "_law_points"]) (ixs := [3, 2]) (cl := _) rfl (pi_list (pv 6)) (compScope2 rfl rfl rfl (by decide +kernel) rfl (by decide +kernel) rfl (by decide +kernel) (by decide +kernel) rfl rfl rfl rfl rfl rfl rfl) (fun C s H ex => (pe_call (G__law_through) (hr.mono (by decide)) rfl T._law_through.m T._law_through.F.kp T._law_through.b .nil pass0 (pa_cons (pv 1) (pa_cons (pv 0) (pa_cons (pv 2) pa_nil))))))
      (pss_cons (ps_set (i := 10) sc_law.nd rfl (Or.inl rfl) (pe_lst pa_nil))
      (pss_cons (ps_set (i := 11) sc_law.nd rfl (Or.inl rfl) pe_bl)
      (pss_cons (ps_for PassesOwn.never rfl (pi_list (pe_call (G__law_cut_words) (hr.mono (by decide)) rfl T._law_cut_words.m T._law_cut_words.F.kp T._law_cut_words.b .nil pass0 (pa_cons (pe_slice sl_list (pv 0) (po_some pe_int) (po_some pe_int)) (pa_cons (pv 5) pa_nil)))) (pg_name (i := 12) sc_law.nd rfl (Or.inl rfl))
        (pss_cons (ps_cut (ps_if (PW.pt (pw_or (pt_cmpR op_eq (pe_op op_mod (pe_call (G__law_mix) (hr.mono (by decide)) rfl T._law_mix.m T._law_mix.F.kp T._law_mix.b .nil pass0 (pa_cons (pe_op op_add (pe_op op_mul (pe_ix ix_tup (pv 12) pe_int (fun _ _ => rfl)) (pe_callB call_len_seq rfl T.z_len PySem.boot_len (pa_cons (pv 12) pa_nil))) (pv 1)) (pa_cons pe_int pa_nil))) pe_int) pe_int (nomark _)) (pw_or1 (pt_cmpR op_eq (pe_op op_mod (pe_op op_fdiv (pv 1) pe_int) pe_int) pe_int (nomark _)))))
          (pss_one (ps_set (i := 12) sc_law.nd rfl (Or.inl rfl) (pe_op op_repT (pv 12) (pe_call (G__law_often) (hr.mono (by decide)) rfl T._law_often.m T._law_often.F.kp T._law_often.b .nil pass0 (pa_cons (pv 9) (pa_cons (pv 12) (pa_cons (pv 2) pa_nil)))))))
          pss_nil))
        (pss_cons (ps_expr (pe_bm PySem.F.plainAttrs_list PySem.F.slot_list_append PySem.F.type_list_append mt_append (pv 10) (pa_cons (pv 12) pa_nil)))
        (pss_one (ps_cut (ps_if (pt_cmpR (op_neTI hu) (pe_call (G__law_through) (hr.mono (by decide)) rfl T._law_through.m T._law_through.F.kp T._law_through.b .nil pass0 (pa_cons (pv 9) (pa_cons (pv 12) (pa_cons (pv 2) pa_nil)))) (pe_tupRange1 rfl rfl T.z_tuple rfl T.z_range (pa_cons (pv 2) pa_nil)) (nomark _))
          (pss_one (ps_set (i := 11) sc_law.nd rfl (Or.inl rfl) pe_bl))
          pss_nil))))))
      (pss_cons (ps_set (i := 13) sc_law.nd rfl (Or.inl rfl) (pe_lst (pa_cons (pe_callTy call_list_of rfl T.z_list PyProof.Rows.boot_list (pa_cons (pv 10) pa_nil)) (pa_cons (pe_comp (fns := []) (ixs := []) (cl := []) rfl (pi_list (pv 4)) (compScope0 (by decide +kernel) (by decide +kernel) rfl (by decide +kernel) rfl) (fun C s H ex => (pe_callTy (call_list_ofK (K := K) rfl) rfl T.z_list PyProof.Rows.boot_list (pa_cons (pv 0) pa_nil)))) (pa_cons (pe_callTy call_list_of rfl T.z_list PyProof.Rows.boot_list (pa_cons (pv 6) pa_nil)) pa_nil)))))
      (pss_cons (ps_for PassesOwn.never rfl (pi_range1 rfl T.z_range (pa_cons pe_int pa_nil)) (pg_name (i := 14) sc_law.nd rfl (Or.inl rfl))
        (pss_cons (ps_set (i := 15) sc_law.nd rfl (Or.inl rfl) (pe_call (G_carries) (hr.mono (by decide)) rfl T.carries.m T.carries.F.kp T.carries.b .nil pass0 (pa_cons (pe_ix ix_list (pv 13) pe_int (fun _ _ => rfl)) (pa_cons (pe_ix ix_list (pv 13) pe_int (fun _ _ => rfl)) (pa_cons (pe_ix ix_list (pv 13) pe_int (fun _ _ => rfl)) pa_nil)))))
        (pss_one (ps_cut (ps_if (PW.pt (pw_or (pt_not (pt_val (pe_callB call_isi rfl T.z_isinstance PyProof.Rows.boot_isinstance (pa_cons (pv 15) (pa_cons (pe_bltn (v := .ty "bool") rfl T.z_bool PyProof.Rows.boot_bool rfl) pa_nil))))) (pw_or1 (pt_cmpR op_ne (pv 15) (pv 11) (nomark _)))))
          (pss_one (ps_ret pe_bl))
          pss_nil)))))
      (pss_one (ps_ret (pe_and (pe_cmpR op_isB (pe_call (G_carries) (hr.mono (by decide)) rfl T.carries.m T.carries.F.kp T.carries.b .nil pass0 (pa_cons (pe_lst pa_nil) (pa_cons (pe_ix ix_list (pv 13) pe_int (fun _ _ => rfl)) (pa_cons (pe_ix ix_list (pv 13) pe_int (fun _ _ => rfl)) pa_nil)))) pe_bl (nomark _)) (pe_one (pe_cmpR (op_eqL3 hu3) (pv 13) (pe_lst (pa_cons (pv 10) (pa_cons (pv 4) (pa_cons (pv 6) pa_nil)))) (nomark _))))))))))))))))))), ?_⟩
    refine ⟨_, rfl, a, ns, 0, rfl, hS, by omega, fun z0 => ⟨z0, 0, rfl, by decide, by decide, fun num hnum => ?_⟩⟩
    obtain ⟨p, hpp, hp4⟩ : ∃ p : Nat, 1 + num / 9 % 4 = (p : Int) ∧ 1 ≤ p ∧ p ≤ 4 := by
      have h1 := Int.emod_nonneg (num / 9) (show (4 : Int) ≠ 0 by decide)
      have h2 := Int.emod_lt_of_pos (num / 9) (show (0 : Int) < 4 by decide)
      exact ⟨(1 + num / 9 % 4).toNat, by omega, by omega, by omega⟩
    obtain ⟨L, hLL, hL3⟩ : ∃ L : Nat, 1 + num % 3 = (L : Int) ∧ 1 ≤ L ∧ L ≤ 3 := by
      have h1 := Int.emod_nonneg num (show (3 : Int) ≠ 0 by decide)
      have h2 := Int.emod_lt_of_pos num (show (0 : Int) < 3 by decide)
      exact ⟨(1 + num % 3).toNat, by omega, by omega, by omega⟩
    obtain ⟨M, hMM, hM3⟩ : ∃ M : Nat, 1 + num / 3 % 3 = (M : Int) ∧ 1 ≤ M ∧ M ≤ 3 := by
      have h1 := Int.emod_nonneg (num / 3) (show (3 : Int) ≠ 0 by decide)
      have h2 := Int.emod_lt_of_pos (num / 3) (show (0 : Int) < 3 by decide)
      exact ⟨(1 + num / 3 % 3).toNat, by omega, by omega, by omega⟩
    refine ⟨_, rfl, _, _, rfl, rfl, ⟨by decide, by decide⟩, _, _, rfl, rfl, (by show (0 : Int) < 4; decide), _, _, rfl, rfl, ?_⟩
    simp only [hpp]
    refine ⟨_, rfl, a, ns, 0, rfl, hS, by omega, fun z1 => ⟨z1, 1, rfl, by decide, by decide, fun m1 hm1 => ?_⟩⟩
    refine ⟨_, rfl, _, _, rfl, rfl, (by show (0 : Int) < 3; decide), _, _, rfl, rfl, ?_⟩
    simp only [hLL]
    refine ⟨_, rfl, m1, L, p, rfl, by omega, by omega, by omega, by omega, fun lt rows H1 s1 hTr hrl hpm => ?_⟩
    subst hrl
    refine ⟨_, rfl, _, rfl, lt, rows, p, M11.Pm p, rfl, hTr, hpm, by omega, by omega, by omega, M18.thr_pm hpm (fun s hs => by cases hs), fun u h => h, fun k u hk hu => M18.mvs_pm hpm (M12.st_ok hk) hu, fun c h1 h2 => Nat.le_trans (M18.four hp4.2 h1 h2) (by decide), fun l2 la lc TT come H2 s2 hl2 hTa hCo hCm h00 hGc => ?_⟩
    refine ⟨l2, _, _, _, rfl, rfl, SqT.of hl2, atI_nat (j := 0) rfl, ?_⟩
    clear hl2 hCo hGc
    have hT := hCm.tab
    have h300 := hT.top
    have hTr2 := hTr.same s2
    have s02 := s1.trans s2
    refine ⟨_, rfl, _, _, rfl, rfl, ⟨by decide, by decide⟩, _, _, rfl, rfl, (by show (0 : Int) < 3; decide), _, _, rfl, rfl, ?_⟩
    simp only [hMM]
    refine ⟨Nat.zero_le _, fun li hli => ?_⟩
    have s23 : Same H2 (upd H2 li (.lst [])) := Same.upd hli
    have h3 : upd H2 li (.lst []) li = some (.lst (([] : List Addr).map V.ref)) := upd_same
    generalize upd H2 li (.lst []) = H3 at s23 h3 ⊢
    refine ⟨_, rfl, (M : Int), rfl, by omega, by omega, ?_⟩
    refine for_range (lo := 0) (n := ((M : Int)).toNat) (fun i σ H4 => ∃ (ps : List Addr) (Im : List (List Int)) (v7 v8 : Option V), σ = [some (.ref a), some (.int num), some (.int p), some (.ref lt), some (.ref la), some (.int M), some (.ref li), v7, v8, none, none, none, none, none, none, none] ∧ Same H2 H4 ∧ H4 li = some (.lst (ps.map V.ref)) ∧ TupsAt H4 ps Im ∧ Im.length = i ∧ ∀ u ∈ Im, M11.Steps rows.length u ∧ u.length ≤ 4)
      ⟨[], [], none, none, rfl, s23, h3, ⟨rfl, fun i r ns h1 => by simp at h1⟩, rfl, fun u hu => by simp at hu⟩ ?_ ?_
    · rintro i σ H4 hi ⟨ps, Im, v7, v8, rfl, s4, h4, t4, hIl, hI⟩
      have hpl : ps.length = Im.length := t4.1
      refine ⟨_, rfl, a, ns, 1, rfl, (s02.trans s4).seq hS, by omega, fun z1 => ⟨_, rfl, z1, _, rfl, by omega, by omega, fun sm hsm => ?_⟩⟩
      have e1 := Int.emod_nonneg sm (show (5 : Int) ≠ 0 by decide)
      have e2 := Int.emod_lt_of_pos sm (show (0 : Int) < 5 by decide)
      refine ⟨_, rfl, .inl ⟨rfl, _, SqL.of h4⟩, _, rfl, _, _, rfl, rfl, (by show (0 : Int) < 5; decide), sm % 5, rfl, by omega, by omega, ?_⟩
      refine comp_any (n := (sm % 5).toNat) (by omega) (fun j R hj hR => ⟨_, rfl, _, rfl, sm, _, rfl, by omega, by omega, fun r hr => hR r⟩) (fun D zs hD hzl => ?_)
      have s45 : Same H4 (upd H4 D (.lst (intV zs))) := Same.upd hD
      have h5 : upd H4 D (.lst (intV zs)) D = some (.lst (intV zs)) := upd_same
      generalize upd H4 D (.lst (intV zs)) = H5 at s45 h5 ⊢
      obtain ⟨ts, hts, htt⟩ := (hTr2.same s4).same s45
      have htl : ((ts.map V.ref).length : Int) = ((rows.length : Nat) : Int) := by rw [List.length_map, htt.1]
      refine ⟨_, rfl, lt, _, rfl, .inl (SqL.of hts), D, zs, rows.length, congrArg (fun z => [V.ref D, V.int z]) htl, h5, by omega, by omega, by omega, fun lw w H6 s6 h6 hst hwl => ?_⟩
      have s46 := s45.trans s6
      refine ⟨li, _, _, rfl, rfl, s46 _ _ h4, ?_, ?_⟩
      · rw [List.length_map]
        exact Nat.lt_of_le_of_lt (show ps.length ≤ 40 by omega) (by decide)
      refine ⟨ps ++ [lw], Im ++ [w], _, _, rfl, fun b o e => by rw [upd_ne (ne_of_none e hli)]; exact s46 _ _ (s4 _ _ e), by rw [upd_same, List.map_append]; rfl, tups_upd ((t4.same s46).snoc h6) (s46 _ _ h4), by rw [List.length_append, hIl]; rfl, fun u hu => ?_⟩
      rcases List.mem_append.mp hu with hu | hu
      · exact hI u hu
      · rw [List.mem_singleton.mp hu]
        exact ⟨hst, by omega⟩
    rintro σ H4 ⟨ips, Im, v7, v8, rfl, s4, h4, t4, hIl, hI⟩
    rw [Int.toNat_natCast] at hIl
    have hTr4 := hTr2.same s4
    refine ⟨_, rfl, li, rfl, ⟨_, SqL.of h4⟩, ?_⟩
    refine comp_wordsS (M18.thr rows p) h4 t4 (by omega) (fun H5 r u R s45 hu h5 hR => ⟨_, rfl, _, rfl, _, rfl, lt, r, rows, p, u, rfl, hTr4.same s45, hpm, by omega, h5, (hI u hu).1, by omega, hR⟩) (fun lm H5 ms s45 hlm hms => ?_)
    have s56 : Same H5 (upd H5 lm (.lst (ms.map V.ref))) := Same.upd hlm
    have hMv : WordsAt (upd H5 lm (.lst (ms.map V.ref))) lm (M18.mov rows p Im) := ⟨ms, upd_same, hms.same s56⟩
    generalize upd H5 lm (.lst (ms.map V.ref)) = H6 at s56 hMv ⊢
    have s26 := (s4.trans s45).trans s56
    have hIs : ∀ u ∈ Im, M11.Steps rows.length u := fun u hu => (hI u hu).1
    have hmp := M18.mov_pm (p := p) hpm hIs
    have hml : (M18.mov rows p Im).length = M := by unfold M18.mov; rw [List.length_map, hIl]
    obtain ⟨mv, hmv⟩ : ∃ mv, mv = M18.mov rows p Im := ⟨_, rfl⟩
    rw [← hmv] at hMv hmp hml
    have hIa : WordsAt H6 li Im := WordsAt.same ⟨ips, h4, t4⟩ (s45.trans s56)
    have hTa6 := hTa.same s26
    refine ⟨Nat.zero_le _, fun lr hlr => ?_⟩
    have s67 : Same H6 (upd H6 lr (.lst [])) := Same.upd hlr
    have h7 : upd H6 lr (.lst []) lr = some (.lst (([] : List Addr).map V.ref)) := upd_same
    generalize upd H6 lr (.lst []) = H7 at s67 h7 ⊢
    refine ⟨_, rfl, 2, rfl, 62, rfl, a, intV ns, rfl, ((s02.trans s26).trans s67).seq hS, fun lp hlp => ?_⟩
    rw [cut_ints]
    generalize hcs : (ns.drop (HT.sIx ns.length 0 (some 2))).take (HT.sIx ns.length ns.length (some 62) - HT.sIx ns.length 0 (some 2)) = cs
    have hcl : cs.length ≤ 63 := by
      rw [← hcs, List.length_take, List.length_drop]
      omega
    have s78 : Same H7 (upd H7 lp (.lst (intV cs))) := Same.upd hlp
    have hp8 : upd H7 lp (.lst (intV cs)) lp = some (.lst (intV cs)) := upd_same
    generalize upd H7 lp (.lst (intV cs)) = H8 at s78 hp8 ⊢
    refine ⟨_, rfl, lp, cs, M, rfl, hp8, hcl, by omega, by omega, fun lw Ws H9 s89 nlw hWs hWb hWl => ?_⟩
    obtain ⟨wps, hws, hwt⟩ := id hWs
    have hwpl : wps.length = Ws.length := hwt.1
    have s79 := s78.trans s89
    have s69 := s67.trans s79
    have nwr : lw ≠ lr := fun e => by
      have := s78 _ _ h7
      rw [← e, nlw] at this
      cases this
    refine ⟨lw, rfl, ⟨_, SqL.of hws⟩, ?_⟩
    refine for_list (K := K) (a := lw) (xs := wps.map V.ref) (fun n σ HA => ∃ (qs : List Addr) (R : List (List Int)) (v12 : Option V), σ = [some (.ref a), some (.int num), some (.int p), some (.ref lt), some (.ref la), some (.int M), some (.ref li), v7, v8, some (.ref lm), some (.ref lr), some (.bl (dueB mv p R)), v12, none, none, none] ∧ Same H6 HA ∧ HA lw = some (.lst (wps.map V.ref)) ∧ TupsAt HA wps Ws ∧ HA lr = some (.lst (qs.map V.ref)) ∧ TupsAt HA qs R ∧ R.length = n ∧ ∀ u ∈ R, M11.Steps M u ∧ u.length ≤ 300)
      ⟨[], [], none, rfl, s69, hws, hwt, s79 _ _ h7, ⟨rfl, fun i r ns h1 => by simp at h1⟩, rfl, fun u hu => by simp at hu⟩ (fun n σ HA _ ⟨_, _, _, _, _, e, _⟩ => SqL.of e) ?_ ?_
    · rintro n y σ HA hn ⟨qs, R, v12, rfl, sA, hwA, twA, hrA, trA, hRl, hR⟩
      rw [List.getElem?_map] at hn
      have hnl : n < wps.length := by
        cases e : wps[n]? with
        | none => rw [e] at hn; cases hn
        | some r => exact (List.getElem?_eq_some_iff.mp e).1
      have g1 : wps[n]? = some wps[n] := List.getElem?_eq_getElem hnl
      rw [g1] at hn
      have ey : V.ref wps[n] = y := Option.some.inj hn
      subst ey
      generalize wps[n] = pp at g1
      have g2 : Ws[n]? = some (Ws[n]'(by omega)) := List.getElem?_eq_getElem (by omega)
      generalize Ws[n]'(by omega) = u at g2
      have hpp := twA.2 n pp u g1 g2
      obtain ⟨hus, hu1, hu5⟩ := hWb u (List.mem_of_getElem? g2)
      have hs0 : u[0]? = some (u[0]'(by omega)) := List.getElem?_eq_getElem (by omega)
      generalize u[0]'(by omega) = st0 at hs0
      have hst0 := hus st0 (List.mem_of_getElem? hs0)
      have hql : qs.length = R.length := trA.1
      have body : ∀ (m : Nat) (HB : Hp), 1 ≤ m → m ≤ 60 → Same HA HB → ∃ a0 k xs, V.ref pp = .ref a0 ∧ V.int (m : Int) = .int k ∧ HB a0 = some (.tup xs) ∧ -(2 ^ 63) ≤ k ∧ k < 2 ^ 63 ∧ xs.length * k.toNat ≤ sizeLine ∧ ∀ q H', Same HB H' → H' q = some (.tup (List.replicate k.toNat xs).flatten) → ∃ (wq : Addr) (v : List Int), ([some (.ref a), some (.int num), some (.int p), some (.ref lt), some (.ref la), some (.int M), some (.ref li), v7, v8, some (.ref lm), some (.ref lr), some (.bl (dueB mv p R)), some (.ref q), none, none, none] : St) = [some (.ref a), some (.int num), some (.int p), some (.ref lt), some (.ref la), some (.int M), some (.ref li), v7, v8, some (.ref lm), some (.ref lr), some (.bl (dueB mv p R)), some (.ref wq), none, none, none] ∧ Same HA H' ∧ H' wq = some (.tup (intV v)) ∧ M11.Steps M v ∧ v.length ≤ 300 := by
        intro m HB hm1 hm2 sB
        have hmul : u.length * m ≤ 300 := Nat.le_trans (Nat.mul_le_mul hu5 hm2) (by decide)
        refine ⟨pp, _, _, rfl, rfl, sB _ _ hpp, by omega, by omega, ?_, fun q H' s' h' => ?_⟩
        · rw [ints_len, Int.toNat_natCast]
          exact Nat.le_trans hmul (by decide)
        rw [Int.toNat_natCast, rep_flat] at h'
        exact ⟨q, _, rfl, sB.trans s', h', fun s hs => hus s (flat_mem hs), by rw [flat_lenR]; exact hmul⟩
      refine ⟨fun σ' HB => ∃ (wq : Addr) (v : List Int), σ' = [some (.ref a), some (.int num), some (.int p), some (.ref lt), some (.ref la), some (.int M), some (.ref li), v7, v8, some (.ref lm), some (.ref lr), some (.bl (dueB mv p R)), some (.ref wq), none, none, none] ∧ Same HA HB ∧ HB wq = some (.tup (intV v)) ∧ M11.Steps M v ∧ v.length ≤ 300, ?_, ?_⟩
      · refine ⟨_, rfl, pp, _, _, _, rfl, rfl, SqT.of hpp, atI_nat (j := 0) (ints_at hs0), _, rfl, pp, _, rfl, .inr (SqT.of hpp), _, _, rfl, rfl, .inl ⟨by omega, by omega⟩, _, rfl, _, _, rfl, rfl, _, 4, rfl, by decide, by decide, fun r hr => ⟨_, _, rfl, rfl, (by show (0 : Int) < 2; decide), rfl, _, rfl, ite2 (fun _ => iteT ?_) (fun _ => ?_)⟩⟩
        · exact ⟨_, rfl, _, rfl, _, rfl, _, rfl, lm, pp, mv, p, u, rfl, hMv.same sA, hmp, by omega, hpp, (by rw [hml]; exact hus), by omega, body⟩
        · refine ⟨_, rfl, _, _, rfl, rfl, ⟨by decide, by decide⟩, _, _, rfl, rfl, (by show (0 : Int) < 2; decide), rfl, _, rfl, ite2 (fun _ => ?_) (fun _ => ⟨pp, u, rfl, fun _ _ e => e, hpp, hus, by omega⟩)⟩
          exact ⟨_, rfl, _, rfl, _, rfl, _, rfl, lm, pp, mv, p, u, rfl, hMv.same sA, hmp, by omega, hpp, (by rw [hml]; exact hus), by omega, body⟩
      rintro σ' HB ⟨wq, v, rfl, sB, hwq, hvs, hvl⟩
      have hrB := sB _ _ hrA
      refine ⟨_, rfl, .inl ⟨rfl, _, SqL.of hrB⟩, _, rfl, lr, _, _, rfl, rfl, hrB, ?_, ?_⟩
      · rw [List.length_map]
        exact Nat.lt_of_le_of_lt (show qs.length ≤ 100 by omega) (by decide)
      have sC : Same H6 (upd HB lr (.lst (qs.map V.ref ++ [V.ref wq]))) := fun b o e => by rw [upd_ne (ne_of_none e hlr)]; exact sB _ _ (sA _ _ e)
      have hrC : upd HB lr (.lst (qs.map V.ref ++ [V.ref wq])) lr = some (.lst ((qs ++ [wq]).map V.ref)) := by rw [upd_same, List.map_append]; rfl
      have hwC : upd HB lr (.lst (qs.map V.ref ++ [V.ref wq])) lw = some (.lst (wps.map V.ref)) := by rw [upd_ne nwr]; exact sB _ _ hwA
      have twC := tups_upd (o := .lst (qs.map V.ref ++ [V.ref wq])) (twA.same sB) hrB
      have trC := tups_upd (o := .lst (qs.map V.ref ++ [V.ref wq])) ((trA.same sB).snoc hwq) hrB
      have hwqC : upd HB lr (.lst (qs.map V.ref ++ [V.ref wq])) wq = some (.tup (intV v)) := by rw [upd_ne (ne_of hwq hrB (by intro z; cases z))]; exact hwq
      generalize upd HB lr (.lst (qs.map V.ref ++ [V.ref wq])) = HC at sC hrC hwC twC trC hwqC ⊢
      have hRs : ∀ u ∈ R ++ [v], M11.Steps M u ∧ u.length ≤ 300 := fun u hu => by
        rcases List.mem_append.mp hu with hu | hu
        · exact hR u hu
        · rw [List.mem_singleton.mp hu]
          exact ⟨hvs, hvl⟩
      have hRl2 : (R ++ [v]).length = n + 1 := by rw [List.length_append, hRl]; rfl
      refine ⟨_, ?_, fun _ _ h => h⟩
      refine ⟨_, rfl, _, rfl, _, rfl, lm, wq, mv, p, v, rfl, hMv.same sC, hmp, by omega, hwqC, (by rw [hml]; exact hvs), by omega, fun lq HD sD hq => ?_⟩
      refine ⟨_, rfl, p, rfl, by omega, fun l hl => ?_⟩
      have sE : Same HD (upd HD l (.tup (intV (rng 0 p)))) := Same.upd hl
      have hE : upd HD l (.tup (intV (rng 0 p))) l = some (.tup (intV (M18.thr mv p []))) := by rw [upd_same, rng_thr mv p]
      generalize upd HD l (.tup (intV (rng 0 p))) = HE at sE hE ⊢
      have sCE := sD.trans sE
      refine ⟨lq, l, _, _, rfl, rfl, SqT.of (sE _ _ hq), SqT.of hE, _, rfl, ?_⟩
      by_cases e : M18.thr mv p v = M18.thr mv p []
      · refine iteNS e ⟨qs ++ [wq], R ++ [v], some (.ref wq), ?_, sC.trans sCE, sCE _ _ hwC, twC.same sCE, sCE _ _ hrC, trC.same sCE, hRl2, hRs⟩
        rw [due_snoc, decide_eq_true e, Bool.and_true]
      · refine ite2 (fun _ => ⟨qs ++ [wq], R ++ [v], some (.ref wq), ?_, sC.trans sCE, sCE _ _ hwC, twC.same sCE, sCE _ _ hrC, trC.same sCE, hRl2, hRs⟩) (fun h => absurd (by rw [decide_eq_false e]; rfl) h)
        rw [due_snoc, decide_eq_false e, Bool.and_false]
        rfl
    rintro σ HA ⟨qs, R, v12, rfl, sA, hwA, twA, hrA, trA, hRl, hR⟩
    rw [List.length_map, hwpl] at hRl
    have hRa : WordsAt HA lr R := ⟨qs, hrA, trA⟩
    have hTaA := hTa6.same sA
    have hIaA := hIa.same sA
    have hdc : dueB mv p R = car TT Im R := by
      rw [hmv]
      exact due_car hpm hIs (fun u hu => by rw [hIl]; exact (hR u hu).1) hCm h00
    obtain ⟨due, hdue⟩ : ∃ d, d = dueB mv p R := ⟨_, rfl⟩
    rw [← hdue] at hdc ⊢
    obtain ⟨rs, hrs, hrw⟩ := id hTaA
    obtain ⟨ips2, hip, hit⟩ := id hIaA
    refine ⟨_, rfl, lr, _, rfl, .inl (SqL.of hrA), fun c1 hc1 => ?_⟩
    have sB : Same HA (upd HA c1 (.lst (qs.map V.ref))) := Same.upd hc1
    have hB : WordsAt (upd HA c1 (.lst (qs.map V.ref))) c1 R := ⟨qs, upd_same, trA.same sB⟩
    generalize upd HA c1 (.lst (qs.map V.ref)) = HB at sB hB ⊢
    refine ⟨_, rfl, la, rfl, ⟨_, SqL.of (sB _ _ hrs)⟩, ?_⟩
    refine comp_copy (sB _ _ hrs) (hrw.same sB) (by omega) (fun H9 r ms R9 h9 hR9 => ⟨_, rfl, r, _, rfl, .inl (SqL.of h9), hR9⟩) (fun c2 HC qs2 sC hc2 hqs2 => ?_)
    have sCD : Same HC (upd HC c2 (.lst (qs2.map V.ref))) := Same.upd hc2
    have hD2 : TabAt (upd HC c2 (.lst (qs2.map V.ref))) c2 TT := ⟨qs2, upd_same, hqs2.same sCD⟩
    generalize upd HC c2 (.lst (qs2.map V.ref)) = HD at sCD hD2 ⊢
    have sBD := sC.trans sCD
    have sAD := sB.trans sBD
    refine ⟨_, rfl, li, _, rfl, .inl (SqL.of (sAD _ _ hip)), fun c3 hc3 => ?_⟩
    have sDE : Same HD (upd HD c3 (.lst (ips2.map V.ref))) := Same.upd hc3
    have hE3 : WordsAt (upd HD c3 (.lst (ips2.map V.ref))) c3 Im := ⟨ips2, upd_same, (hit.same sAD).same sDE⟩
    generalize upd HD c3 (.lst (ips2.map V.ref)) = HE at sDE hE3 ⊢
    refine ⟨by show 3 ≤ sizeLine; decide, fun hh hhh => ?_⟩
    have sEF : Same HE (upd HE hh (.lst [.ref c1, .ref c2, .ref c3])) := Same.upd hhh
    have hF0 : upd HE hh (.lst [.ref c1, .ref c2, .ref c3]) hh = some (.lst [.ref c1, .ref c2, .ref c3]) := upd_same
    generalize upd HE hh (.lst [.ref c1, .ref c2, .ref c3]) = HF at sEF hF0 ⊢
    have sAF := (sAD.trans sDE).trans sEF
    have hF1 : WordsAt HF c1 R := hB.same ((sBD.trans sDE).trans sEF)
    have hF2 : TabAt HF c2 TT := hD2.same (sDE.trans sEF)
    have hF3 : WordsAt HF c3 Im := hE3.same sEF
    have hRc : ∀ u ∈ R, M11.Steps Im.length u ∧ u.length ≤ 1000 := fun u hu => ⟨by rw [hIl]; exact (hR u hu).1, by have := (hR u hu).2; omega⟩
    have hIc : ∀ u ∈ Im, M11.Steps rows.length u ∧ u.length ≤ 100 := fun u hu => ⟨(hI u hu).1, by have := (hI u hu).2; omega⟩
    refine ⟨2, rfl, by decide, by decide, ?_⟩
    refine for_range (lo := 0) (n := (2 : Int).toNat) (fun n σ HG => ∃ (v14 v15 : Option V), σ = [some (.ref a), some (.int num), some (.int p), some (.ref lt), some (.ref la), some (.int M), some (.ref li), v7, v8, some (.ref lm), some (.ref lr), some (.bl due), v12, some (.ref hh), v14, v15] ∧ Same HF HG) ⟨none, none, rfl, fun _ _ e => e⟩ ?_ ?_
    · rintro n σ HG hn ⟨v14, v15, rfl, sG⟩
      have hG0 := sG _ _ hF0
      refine ⟨_, rfl, hh, _, _, _, rfl, rfl, SqL.of hG0, atI_nat (j := 0) rfl, _, rfl, hh, _, _, _, rfl, rfl, SqL.of hG0, atI_nat (j := 1) rfl, _, rfl, hh, _, _, _, rfl, rfl, SqL.of hG0, atI_nat (j := 2) rfl, ?_⟩
      refine ⟨c1, c2, c3, R, TT, Im, rows.length, rfl, hF1.same sG, hF2.same sG, hT, hF3.same sG, hRc, hIc, by omega, fun HI sI => ?_⟩
      rw [← hdc]
      refine ⟨_, ?_, fun _ _ h => h⟩
      refine ⟨_, rfl, _, _, _, _, rfl, .bl due, kit_self _ _, true, rfl, iteF ⟨_, rfl, _, rfl, rfl, _, rfl, ?_⟩⟩
      refine iteNS rfl ⟨_, _, rfl, sG.trans sI⟩
    rintro σ HG ⟨v14, v15, rfl, sG⟩
    have hG0 := sG _ _ hF0
    refine ⟨Nat.zero_le _, fun le hle => ?_⟩
    have sGH : Same HG (upd HG le (.lst [])) := Same.upd hle
    have hH0 : WordsAt (upd HG le (.lst [])) le [] := ⟨[], upd_same, rfl, fun i r ns h1 => by simp at h1⟩
    generalize upd HG le (.lst []) = HH at sGH hH0 ⊢
    have hG1 := sGH _ _ hG0
    have sFH := sG.trans sGH
    refine ⟨_, rfl, hh, _, _, _, rfl, rfl, SqL.of hG1, atI_nat (j := 1) rfl, _, rfl, hh, _, _, _, rfl, rfl, SqL.of hG1, atI_nat (j := 2) rfl, ?_⟩
    refine ⟨le, c2, c3, [], TT, Im, rows.length, rfl, hH0, hF2.same sFH, hT, hF3.same sFH, (fun u hu => by cases hu), hIc, by omega, fun HI sI => ?_⟩
    refine ⟨true, true, rfl, rfl, true, rfl, iteT ?_⟩
    have sFI := sFH.trans sI
    refine ⟨_, rfl, _, rfl, _, rfl, _, rfl, by show 3 ≤ sizeLine; decide, fun q hq => ?_⟩
    have sq := Same.upd (o := .lst [.ref lr, .ref la, .ref li]) hq
    have sFq := sFI.trans sq
    refine ⟨hh, q, c1, c2, c3, lr, la, li, R, TT, Im, rfl, rfl, sFq _ _ hF0, upd_same, hF1.same sFq, (hRa.same sAF).same sFq, hF2.same sFq, (hTaA.same sAF).same sFq, hF3.same sFq, (hIaA.same sAF).same sFq, ?_⟩
    exact k _
end
theorem all_mk {l : PySem.W.OpenLaw} {w : World} {K : PySem.W.Frag} {h : Heap} {mg : Str → Option Value} {fa : Addr} (X : K.In h) (G : h.Ns mainGlobals mg) (hfa : mg "law" = some (.ref fa))
    {f1 : Addr} {od1 an1 : Option Addr} {sl1 : Array (Option Value)} {oc1 kV1 dc1 pm1 cd1 ct1 : Value} {f2 : Addr} {od2 an2 : Option Addr} {sl2 : Array (Option Value)} {oc2 kV2 dc2 pm2 cd2 ct2 : Value} {f3 : Addr} {od3 an3 : Option Addr} {sl3 : Array (Option Value)} {oc3 kV3 dc3 pm3 cd3 ct3 : Value} {f4 : Addr} {od4 an4 : Option Addr} {sl4 : Array (Option Value)} {oc4 kV4 dc4 pm4 cd4 ct4 : Value} {f5 : Addr} {od5 an5 : Option Addr} {sl5 : Array (Option Value)} {oc5 kV5 dc5 pm5 cd5 ct5 : Value} {f6 : Addr} {od6 an6 : Option Addr} {sl6 : Array (Option Value)} {oc6 kV6 dc6 pm6 cd6 ct6 : Value} {f7 : Addr} {od7 an7 : Option Addr} {sl7 : Array (Option Value)} {oc7 kV7 dc7 pm7 cd7 ct7 : Value} {f8 : Addr} {od8 an8 : Option Addr} {sl8 : Array (Option Value)} {oc8 kV8 dc8 pm8 cd8 ct8 : Value} {f9 : Addr} {od9 an9 : Option Addr} {sl9 : Array (Option Value)} {oc9 kV9 dc9 pm9 cd9 ct9 : Value} {f10 : Addr} {od10 an10 : Option Addr} {sl10 : Array (Option Value)} {oc10 kV10 dc10 pm10 cd10 ct10 : Value} {f11 : Addr} {od11 an11 : Option Addr} {sl11 : Array (Option Value)} {oc11 kV11 dc11 pm11 cd11 ct11 : Value} {f12 : Addr} {od12 an12 : Option Addr} {sl12 : Array (Option Value)} {oc12 kV12 dc12 pm12 cd12 ct12 : Value} {f13 : Addr} {od13 an13 : Option Addr} {sl13 : Array (Option Value)} {oc13 kV13 dc13 pm13 cd13 ct13 : Value} {f14 : Addr} {od14 an14 : Option Addr} {sl14 : Array (Option Value)} {oc14 kV14 dc14 pm14 cd14 ct14 : Value} {f15 : Addr} {od15 an15 : Option Addr} {sl15 : Array (Option Value)} {oc15 kV15 dc15 pm15 cd15 ct15 : Value}
    (a1 : PySem.W.nsIn K mainGlobals "back" = some (some (.ref f1))) (l1 : K.lookup f1 = some ⟨oc1, od1, .func (PySem.W.fnOf "back" "back" (defArgs s_back) (defBody s_back) (defScope s_back) .none kV1 dc1 pm1 an1 cd1 ct1), sl1⟩) (c1 : PySem.W.codeIn K cd1 "back" = true) (k1 : PySem.W.keepIn K (.ref f1) = true)
    (a2 : PySem.W.nsIn K mainGlobals "filled_in" = some (some (.ref f2))) (l2 : K.lookup f2 = some ⟨oc2, od2, .func (PySem.W.fnOf "filled_in" "filled_in" (defArgs s_filled_in) (defBody s_filled_in) (defScope s_filled_in) .none kV2 dc2 pm2 an2 cd2 ct2), sl2⟩) (c2 : PySem.W.codeIn K cd2 "filled_in" = true) (k2 : PySem.W.keepIn K (.ref f2) = true)
    (a3 : PySem.W.nsIn K mainGlobals "led" = some (some (.ref f3))) (l3 : K.lookup f3 = some ⟨oc3, od3, .func (PySem.W.fnOf "led" "led" (defArgs s_led) (defBody s_led) (defScope s_led) .none kV3 dc3 pm3 an3 cd3 ct3), sl3⟩) (c3 : PySem.W.codeIn K cd3 "led" = true) (k3 : PySem.W.keepIn K (.ref f3) = true)
    (a4 : PySem.W.nsIn K mainGlobals "place_of" = some (some (.ref f4))) (l4 : K.lookup f4 = some ⟨oc4, od4, .func (PySem.W.fnOf "place_of" "place_of" (defArgs s_place_of) (defBody s_place_of) (defScope s_place_of) .none kV4 dc4 pm4 an4 cd4 ct4), sl4⟩) (c4 : PySem.W.codeIn K cd4 "place_of" = true) (k4 : PySem.W.keepIn K (.ref f4) = true)
    (a5 : PySem.W.nsIn K mainGlobals "carries" = some (some (.ref f5))) (l5 : K.lookup f5 = some ⟨oc5, od5, .func (PySem.W.fnOf "carries" "carries" (defArgs s_carries) (defBody s_carries) (defScope s_carries) .none kV5 dc5 pm5 an5 cd5 ct5), sl5⟩) (c5 : PySem.W.codeIn K cd5 "carries" = true) (k5 : PySem.W.keepIn K (.ref f5) = true)
    (a6 : PySem.W.nsIn K mainGlobals "_law_at" = some (some (.ref f6))) (l6 : K.lookup f6 = some ⟨oc6, od6, .func (PySem.W.fnOf "_law_at" "_law_at" (defArgs s__law_at) (defBody s__law_at) (defScope s__law_at) .none kV6 dc6 pm6 an6 cd6 ct6), sl6⟩) (c6 : PySem.W.codeIn K cd6 "_law_at" = true) (k6 : PySem.W.keepIn K (.ref f6) = true)
    (a7 : PySem.W.nsIn K mainGlobals "_law_mix" = some (some (.ref f7))) (l7 : K.lookup f7 = some ⟨oc7, od7, .func (PySem.W.fnOf "_law_mix" "_law_mix" (defArgs s__law_mix) (defBody s__law_mix) (defScope s__law_mix) .none kV7 dc7 pm7 an7 cd7 ct7), sl7⟩) (c7 : PySem.W.codeIn K cd7 "_law_mix" = true) (k7 : PySem.W.keepIn K (.ref f7) = true)
    (a8 : PySem.W.nsIn K mainGlobals "_law_turns" = some (some (.ref f8))) (l8 : K.lookup f8 = some ⟨oc8, od8, .func (PySem.W.fnOf "_law_turns" "_law_turns" (defArgs s__law_turns) (defBody s__law_turns) (defScope s__law_turns) .none kV8 dc8 pm8 an8 cd8 ct8), sl8⟩) (c8 : PySem.W.codeIn K cd8 "_law_turns" = true) (k8 : PySem.W.keepIn K (.ref f8) = true)
    (a9 : PySem.W.nsIn K mainGlobals "_law_back" = some (some (.ref f9))) (l9 : K.lookup f9 = some ⟨oc9, od9, .func (PySem.W.fnOf "_law_back" "_law_back" (defArgs s__law_back) (defBody s__law_back) (defScope s__law_back) .none kV9 dc9 pm9 an9 cd9 ct9), sl9⟩) (c9 : PySem.W.codeIn K cd9 "_law_back" = true) (k9 : PySem.W.keepIn K (.ref f9) = true)
    (a10 : PySem.W.nsIn K mainGlobals "_law_through" = some (some (.ref f10))) (l10 : K.lookup f10 = some ⟨oc10, od10, .func (PySem.W.fnOf "_law_through" "_law_through" (defArgs s__law_through) (defBody s__law_through) (defScope s__law_through) .none kV10 dc10 pm10 an10 cd10 ct10), sl10⟩) (c10 : PySem.W.codeIn K cd10 "_law_through" = true) (k10 : PySem.W.keepIn K (.ref f10) = true)
    (a11 : PySem.W.nsIn K mainGlobals "_law_table" = some (some (.ref f11))) (l11 : K.lookup f11 = some ⟨oc11, od11, .func (PySem.W.fnOf "_law_table" "_law_table" (defArgs s__law_table) (defBody s__law_table) (defScope s__law_table) .none kV11 dc11 pm11 an11 cd11 ct11), sl11⟩) (c11 : PySem.W.codeIn K cd11 "_law_table" = true) (k11 : PySem.W.keepIn K (.ref f11) = true)
    (a12 : PySem.W.nsIn K mainGlobals "_law_word" = some (some (.ref f12))) (l12 : K.lookup f12 = some ⟨oc12, od12, .func (PySem.W.fnOf "_law_word" "_law_word" (defArgs s__law_word) (defBody s__law_word) (defScope s__law_word) .none kV12 dc12 pm12 an12 cd12 ct12), sl12⟩) (c12 : PySem.W.codeIn K cd12 "_law_word" = true) (k12 : PySem.W.keepIn K (.ref f12) = true)
    (a13 : PySem.W.nsIn K mainGlobals "_law_cut_words" = some (some (.ref f13))) (l13 : K.lookup f13 = some ⟨oc13, od13, .func (PySem.W.fnOf "_law_cut_words" "_law_cut_words" (defArgs s__law_cut_words) (defBody s__law_cut_words) (defScope s__law_cut_words) .none kV13 dc13 pm13 an13 cd13 ct13), sl13⟩) (c13 : PySem.W.codeIn K cd13 "_law_cut_words" = true) (k13 : PySem.W.keepIn K (.ref f13) = true)
    (a14 : PySem.W.nsIn K mainGlobals "_law_often" = some (some (.ref f14))) (l14 : K.lookup f14 = some ⟨oc14, od14, .func (PySem.W.fnOf "_law_often" "_law_often" (defArgs s__law_often) (defBody s__law_often) (defScope s__law_often) .none kV14 dc14 pm14 an14 cd14 ct14), sl14⟩) (c14 : PySem.W.codeIn K cd14 "_law_often" = true) (k14 : PySem.W.keepIn K (.ref f14) = true)
    (a15 : PySem.W.nsIn K mainGlobals "law" = some (some (.ref f15))) (l15 : K.lookup f15 = some ⟨oc15, od15, .func (PySem.W.fnOf "law" "law" (defArgs s_law) (defBody s_law) (defScope s_law) .none kV15 dc15 pm15 an15 cd15 ct15), sl15⟩) (c15 : PySem.W.codeIn K cd15 "law" = true) (k15 : PySem.W.keepIn K (.ref f15) = true)
    (z1 : PySem.W.nsIn K mainGlobals "abs" = some none)
    (z2 : PySem.W.nsIn K mainGlobals "range" = some none)
    (z3 : PySem.W.nsIn K mainGlobals "len" = some none)
    (z4 : PySem.W.nsIn K mainGlobals "tuple" = some none)
    (z5 : PySem.W.nsIn K mainGlobals "list" = some none)
    (z6 : PySem.W.nsIn K mainGlobals "isinstance" = some none)
    (z7 : PySem.W.nsIn K mainGlobals "bool" = some none)
    (z8 : PySem.W.nsIn K mainGlobals "reversed" = some none)
    : ∃ fd : FuncData, (∀ (s : Shared) (v : Value), BindsTo s fd ⟨[v], []⟩ [("_law_script", v)]) ∧ ∀ base : Heap, K.In base → base.Ns mainGlobals mg → FnOk l.prog w K mg base CX0 9 fa fd ["_law_script"] (spLaw K) := by
  have e := hfa.symm.trans (PySem.W.mg_of X G a15)
  cases e
  have F1 := fun_mk (st := s_back) l1 c1 k1
  have D1 : Def K mg "back" s_back ["word"] _ _ := ⟨F1, PySem.W.mg_of X G a1, F1.binds (ps := ["word"]) fun _ _ _ _ _ _ us hl => match us, hl with | [_], _ => rfl⟩
  have F2 := fun_mk (st := s_filled_in) l2 c2 k2
  have D2 : Def K mg "filled_in" s_filled_in ["word", "images"] _ _ := ⟨F2, PySem.W.mg_of X G a2, F2.binds (ps := ["word", "images"]) fun _ _ _ _ _ _ us hl => match us, hl with | [_, _], _ => rfl⟩
  have F3 := fun_mk (st := s_led) l3 c3 k3
  have D3 : Def K mg "led" s_led ["table", "room", "word"] _ _ := ⟨F3, PySem.W.mg_of X G a3, F3.binds (ps := ["table", "room", "word"]) fun _ _ _ _ _ _ us hl => match us, hl with | [_, _, _], _ => rfl⟩
  have F4 := fun_mk (st := s_place_of) l4 c4 k4
  have D4 : Def K mg "place_of" s_place_of ["step"] _ _ := ⟨F4, PySem.W.mg_of X G a4, F4.binds (ps := ["step"]) fun _ _ _ _ _ _ us hl => match us, hl with | [_], _ => rfl⟩
  have F5 := fun_mk (st := s_carries) l5 c5 k5
  have D5 : Def K mg "carries" s_carries ["rules", "table", "images"] _ _ := ⟨F5, PySem.W.mg_of X G a5, F5.binds (ps := ["rules", "table", "images"]) fun _ _ _ _ _ _ us hl => match us, hl with | [_, _, _], _ => rfl⟩
  have F6 := fun_mk (st := s__law_at) l6 c6 k6
  have D6 : Def K mg "_law_at" s__law_at ["_law_script", "_law_k"] _ _ := ⟨F6, PySem.W.mg_of X G a6, F6.binds (ps := ["_law_script", "_law_k"]) fun _ _ _ _ _ _ us hl => match us, hl with | [_, _], _ => rfl⟩
  have F7 := fun_mk (st := s__law_mix) l7 c7 k7
  have D7 : Def K mg "_law_mix" s__law_mix ["_law_number", "_law_place"] _ _ := ⟨F7, PySem.W.mg_of X G a7, F7.binds (ps := ["_law_number", "_law_place"]) fun _ _ _ _ _ _ us hl => match us, hl with | [_, _], _ => rfl⟩
  have F8 := fun_mk (st := s__law_turns) l8 c8 k8
  have D8 : Def K mg "_law_turns" s__law_turns ["_law_number", "_law_letters", "_law_points"] _ _ := ⟨F8, PySem.W.mg_of X G a8, F8.binds (ps := ["_law_number", "_law_letters", "_law_points"]) fun _ _ _ _ _ _ us hl => match us, hl with | [_, _, _], _ => rfl⟩
  have F9 := fun_mk (st := s__law_back) l9 c9 k9
  have D9 : Def K mg "_law_back" s__law_back ["_law_turned"] _ _ := ⟨F9, PySem.W.mg_of X G a9, F9.binds (ps := ["_law_turned"]) fun _ _ _ _ _ _ us hl => match us, hl with | [_], _ => rfl⟩
  have F10 := fun_mk (st := s__law_through) l10 c10 k10
  have D10 : Def K mg "_law_through" s__law_through ["_law_turns_here", "_law_word_here", "_law_points"] _ _ := ⟨F10, PySem.W.mg_of X G a10, F10.binds (ps := ["_law_turns_here", "_law_word_here", "_law_points"]) fun _ _ _ _ _ _ us hl => match us, hl with | [_, _, _], _ => rfl⟩
  have F11 := fun_mk (st := s__law_table) l11 c11 k11
  have D11 : Def K mg "_law_table" s__law_table ["_law_turns_here", "_law_points"] _ _ := ⟨F11, PySem.W.mg_of X G a11, F11.binds (ps := ["_law_turns_here", "_law_points"]) fun _ _ _ _ _ _ us hl => match us, hl with | [_, _], _ => rfl⟩
  have F12 := fun_mk (st := s__law_word) l12 c12 k12
  have D12 : Def K mg "_law_word" s__law_word ["_law_cells", "_law_letters"] _ _ := ⟨F12, PySem.W.mg_of X G a12, F12.binds (ps := ["_law_cells", "_law_letters"]) fun _ _ _ _ _ _ us hl => match us, hl with | [_, _], _ => rfl⟩
  have F13 := fun_mk (st := s__law_cut_words) l13 c13 k13
  have D13 : Def K mg "_law_cut_words" s__law_cut_words ["_law_cells", "_law_letters"] _ _ := ⟨F13, PySem.W.mg_of X G a13, F13.binds (ps := ["_law_cells", "_law_letters"]) fun _ _ _ _ _ _ us hl => match us, hl with | [_, _], _ => rfl⟩
  have F14 := fun_mk (st := s__law_often) l14 c14 k14
  have D14 : Def K mg "_law_often" s__law_often ["_law_turns_here", "_law_word_here", "_law_points"] _ _ := ⟨F14, PySem.W.mg_of X G a14, F14.binds (ps := ["_law_turns_here", "_law_word_here", "_law_points"]) fun _ _ _ _ _ _ us hl => match us, hl with | [_, _, _], _ => rfl⟩
  have F15 := fun_mk (st := s_law) l15 c15 k15
  have D15 : Def K mg "law" s_law ["_law_script"] _ _ := ⟨F15, PySem.W.mg_of X G a15, F15.binds (ps := ["_law_script"]) fun _ _ _ _ _ _ us hl => match us, hl with | [_], _ => rfl⟩
  have T : Txt K mg ⟨f1, PySem.W.fnOf "back" "back" (defArgs s_back) (defBody s_back) (defScope s_back) .none kV1 dc1 pm1 an1 cd1 ct1, f2, PySem.W.fnOf "filled_in" "filled_in" (defArgs s_filled_in) (defBody s_filled_in) (defScope s_filled_in) .none kV2 dc2 pm2 an2 cd2 ct2, f3, PySem.W.fnOf "led" "led" (defArgs s_led) (defBody s_led) (defScope s_led) .none kV3 dc3 pm3 an3 cd3 ct3, f4, PySem.W.fnOf "place_of" "place_of" (defArgs s_place_of) (defBody s_place_of) (defScope s_place_of) .none kV4 dc4 pm4 an4 cd4 ct4, f5, PySem.W.fnOf "carries" "carries" (defArgs s_carries) (defBody s_carries) (defScope s_carries) .none kV5 dc5 pm5 an5 cd5 ct5, f6, PySem.W.fnOf "_law_at" "_law_at" (defArgs s__law_at) (defBody s__law_at) (defScope s__law_at) .none kV6 dc6 pm6 an6 cd6 ct6, f7, PySem.W.fnOf "_law_mix" "_law_mix" (defArgs s__law_mix) (defBody s__law_mix) (defScope s__law_mix) .none kV7 dc7 pm7 an7 cd7 ct7, f8, PySem.W.fnOf "_law_turns" "_law_turns" (defArgs s__law_turns) (defBody s__law_turns) (defScope s__law_turns) .none kV8 dc8 pm8 an8 cd8 ct8, f9, PySem.W.fnOf "_law_back" "_law_back" (defArgs s__law_back) (defBody s__law_back) (defScope s__law_back) .none kV9 dc9 pm9 an9 cd9 ct9, f10, PySem.W.fnOf "_law_through" "_law_through" (defArgs s__law_through) (defBody s__law_through) (defScope s__law_through) .none kV10 dc10 pm10 an10 cd10 ct10, f11, PySem.W.fnOf "_law_table" "_law_table" (defArgs s__law_table) (defBody s__law_table) (defScope s__law_table) .none kV11 dc11 pm11 an11 cd11 ct11, f12, PySem.W.fnOf "_law_word" "_law_word" (defArgs s__law_word) (defBody s__law_word) (defScope s__law_word) .none kV12 dc12 pm12 an12 cd12 ct12, f13, PySem.W.fnOf "_law_cut_words" "_law_cut_words" (defArgs s__law_cut_words) (defBody s__law_cut_words) (defScope s__law_cut_words) .none kV13 dc13 pm13 an13 cd13 ct13, f14, PySem.W.fnOf "_law_often" "_law_often" (defArgs s__law_often) (defBody s__law_often) (defScope s__law_often) .none kV14 dc14 pm14 an14 cd14 ct14, fa, PySem.W.fnOf "law" "law" (defArgs s_law) (defBody s_law) (defScope s_law) .none kV15 dc15 pm15 an15 cd15 ct15⟩ := ⟨D1, D2, D3, D4, D5, D6, D7, D8, D9, D10, D11, D12, D13, D14, D15, PySem.W.mg_none_of X G z1, PySem.W.mg_none_of X G z2, PySem.W.mg_none_of X G z3, PySem.W.mg_none_of X G z4, PySem.W.mg_none_of X G z5, PySem.W.mg_none_of X G z6, PySem.W.mg_none_of X G z7, PySem.W.mg_none_of X G z8⟩
  exact ⟨_, fun s v => .of_eq rfl, fun base _ _ => ok_law T⟩
theorem walk {l : PySem.W.OpenLaw} {q : Program} {loose : List Str} {XP : (Str → Option Value) → Heap → Prop} {YP : World → Heap → Prop} {d : DefRec} {K : Params → PySem.W.Frag} (hn : l.most = some 63) (hdf : d.params.defaults = [])
    (hY : ∀ (w : World) (h : Heap), YP w h → (K w.params).In h)
    (F : ∀ (w : World) (mg : Str → Option Value) (fa : Addr) (h : Heap), (K w.params).In h → h.Ns mainGlobals mg → mg d.name = some (.ref fa) →
      ∃ fd : FuncData, (∀ (s : Shared) (u : Value), BindsTo s fd ⟨[u], []⟩ [("_law_script", u)]) ∧ ∀ base : Heap, (K w.params).In base → base.Ns mainGlobals mg → FnOk l.prog w (K w.params) mg base CX0 9 fa fd ["_law_script"] (spLaw (K w.params))) :
    PySem.W.WalkO q loose XP YP l.row.toRowW d [] (fun f vs => PySem.call f vs) :=
  L2.walk_of (n := 63) (k := 9) (x := "_law_script") (CX := fun w => CX0) (sp := fun w => spLaw (K w.params)) hn (by decide) hdf ⟨rfl, by decide, by decide⟩ hY F (fun _ _ a ns hl _ hS => ⟨a, ns, rfl, hS, hl, fun _ => rfl⟩) fun _ _ _ _ _ z => z
end K71
open PySem PySem.W PyProof.Rows
set_option maxRecDepth 100000 in
set_option maxHeartbeats 0 in
theorem PySem.Challenge.cw_cosetyard_k71_carries_holds : PySem.Challenge.rw_cosetyard_k71_carries.Holds := by
  w_on; o_law; k_head; (case hw => w_witness2)
  k_fill
  refine K71.walk (l := PySem.Challenge.rw_cosetyard_k71_carries) rfl rfl (fun w h Y => PySem.W.kIn_of Y) ?F
  case F =>
    intro w mg fa h KX G hmg
    refine' K71.all_mk KX G hmg ?a1 ?l1 ?c1 ?k1 ?a2 ?l2 ?c2 ?k2 ?a3 ?l3 ?c3 ?k3 ?a4 ?l4 ?c4 ?k4 ?a5 ?l5 ?c5 ?k5 ?a6 ?l6 ?c6 ?k6 ?a7 ?l7 ?c7 ?k7 ?a8 ?l8 ?c8 ?k8 ?a9 ?l9 ?c9 ?k9 ?a10 ?l10 ?c10 ?k10 ?a11 ?l11 ?c11 ?k11 ?a12 ?l12 ?c12 ?k12 ?a13 ?l13 ?c13 ?k13 ?a14 ?l14 ?c14 ?k14 ?a15 ?l15 ?c15 ?k15 ?z1 ?z2 ?z3 ?z4 ?z5 ?z6 ?z7 ?z8
    (case a1 => k_is)
    (case l1 => k_is)
    (case c1 => k_is)
    (case k1 => k_is)
    (case a2 => k_is)
    (case l2 => k_is)
    (case c2 => k_is)
    (case k2 => k_is)
    (case a3 => k_is)
    (case l3 => k_is)
    (case c3 => k_is)
    (case k3 => k_is)
    (case a4 => k_is)
    (case l4 => k_is)
    (case c4 => k_is)
    (case k4 => k_is)
    (case a5 => k_is)
    (case l5 => k_is)
    (case c5 => k_is)
    (case k5 => k_is)
    (case a6 => k_is)
    (case l6 => k_is)
    (case c6 => k_is)
    (case k6 => k_is)
    (case a7 => k_is)
    (case l7 => k_is)
    (case c7 => k_is)
    (case k7 => k_is)
    (case a8 => k_is)
    (case l8 => k_is)
    (case c8 => k_is)
    (case k8 => k_is)
    (case a9 => k_is)
    (case l9 => k_is)
    (case c9 => k_is)
    (case k9 => k_is)
    (case a10 => k_is)
    (case l10 => k_is)
    (case c10 => k_is)
    (case k10 => k_is)
    (case a11 => k_is)
    (case l11 => k_is)
    (case c11 => k_is)
    (case k11 => k_is)
    (case a12 => k_is)
    (case l12 => k_is)
    (case c12 => k_is)
    (case k12 => k_is)
    (case a13 => k_is)
    (case l13 => k_is)
    (case c13 => k_is)
    (case k13 => k_is)
    (case a14 => k_is)
    (case l14 => k_is)
    (case c14 => k_is)
    (case k14 => k_is)
    (case a15 => k_is)
    (case l15 => k_is)
    (case c15 => k_is)
    (case k15 => k_is)
    (case z1 => k_is)
    (case z2 => k_is)
    (case z3 => k_is)
    (case z4 => k_is)
    (case z5 => k_is)
    (case z6 => k_is)
    (case z7 => k_is)
    (case z8 => k_is)
