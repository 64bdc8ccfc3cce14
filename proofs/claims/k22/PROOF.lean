import PyProof.Rows.All
import Wide.All
import OpenK.AllK
import Wide.FinOn
import Lean
import PyProof.EqAt
import PyProof.EqKinds
import PyProof.TupleCall
import PyProof.FString
import OpenK.KOwn
import KE.KTryMore
import PyProof.NsDelKeeps
import PyProof.StrBlock2
import PyProof.AutoListH
import KE.KIntText
import PyProof.Rows.StrIntSpec
import KE.KRevIter
import PyProof.StrWalks
import PyProof.CompUse
import PyProof.NeKinds
import PyProof.Rows.Range3
import PyProof.Rows.EnumRows
import PyProof.ConsumeWalk
import PyProof.Rows.SeqGen
import PyProof.StrLawsRepr
import PyProof.ZipIter
import PyProof.Rows.FactsT2
import PyProof.EnumMake
import PyProof.DictWalks
import PyProof.DictTruth
import PyProof.ListRange
import PyProof.ListStr
import PyProof.TupleOfGen
import PyProof.TupleOfSeq
import PyProof.MinMaxWalk
import PyProof.WalkInts
import KE.KSortAsk
import PyProof.MeetsSeq3
import KE.KRevSl
import PyProof.Rows.SeqMore
import PyProof.ListMulRoad
import PyProof.Rows.SumAny
import PyProof.SeqI3
import PyProof.AttrMissSeq
import KE.KDictOf
import PyProof.Rows.StrCut
import PyProof.Rows.StrSplitCount
import PyProof.DictItems
import PySem.Challenge.RW_cosetyard_k22_nothing_false_follows
abbrev adW:=@PySem.wpAny_bind
abbrev adX:=@List.getElem?_eq_getElem
abbrev adY:=@List.mem_of_getElem?
abbrev adZ:=@List.length_append
abbrev ad1:=@List.mem_singleton
abbrev ad2:=@List.getD_eq_getElem?_getD
abbrev ad3:=@PySem.Heap.get?_push_of_some
abbrev ad4:=@List.getElem?_eq_some_iff
abbrev ad5:=@List.mem_append_right
abbrev ad6:=@List.length_map
abbrev ad7:=@Nat.le_refl
abbrev ad8:=@PySem.wpAny_pure
abbrev ad9:=@List.size_toArray
abbrev aea:=@List.mem_cons
abbrev aeb:=@List.mem_cons_self
abbrev aec:=@Nat.lt_of_le_of_lt
abbrev aed:=@if_neg
abbrev aee:=@List.getElem?_append_right
abbrev aef:=@beq_eq_false_iff_ne
abbrev aeg:=@PySem.F.plainAttrs_list
abbrev aeh:=@PySem.Heap.lt_size
abbrev aei:=@List.mem_append
abbrev aej:=@List.getElem?_append_left
abbrev aek:=@List.mem_cons_of_mem
abbrev ael:=@if_pos
abbrev aem:=@PySem.Heap.get?_push_size
abbrev aen:=@Nat.ne_of_lt
abbrev aeo:=@List.getElem?_map
abbrev aep:=@Nat.le_trans
abbrev aeq:=@PySem.F.slot_list_append
abbrev aer:=@PySem.F.type_list_append
abbrev aes:=@List.length_cons
abbrev aeu:=@List.map_append
abbrev aev:=@Nat.lt_of_lt_of_le
abbrev aew:=@List.length_set
abbrev aex:=@List.mem_append_left
abbrev aey:=@decide_eq_true
abbrev aez:=@PySem.PassesOwn.never
abbrev aeA:=@Nat.zero_le
abbrev aeB:=@decide_eq_true_iff
abbrev aeC:=@Int.toNat_natCast
abbrev aeD:=@Nat.lt_irrefl
abbrev aeE:=@Bool.false_ne_true
abbrev aeF:=@PyProof.Rows.boot_isinstance
abbrev aeG:=@List.length_take
abbrev aeH:=@List.getElem?_set_self
abbrev aeI:=@of_decide_eq_true
abbrev aeJ:=@List.nodup_cons
abbrev aeK:=@decide_eq_false
abbrev aeL:=@List.mem_map
abbrev aeM:=@List.getElem?_eq_none
abbrev aeN:=@List.map_cons
abbrev aeO:=@PySem.wpAny_newObj_type
abbrev aeP:=@List.append_nil
abbrev aeQ:=@List.mem_range
abbrev aeR:=@List.length_range
abbrev aeS:=@List.lookup_cons
abbrev aeT:=@List.not_mem_nil
abbrev aeU:=@List.length_drop
abbrev aeV:=@Nat.lt_trans
abbrev aeW:=@PySem.boot_len
abbrev aeX:=@List.nodup_append
abbrev aeY:=@Bool.eq_iff_iff
abbrev aeZ:=@PySem.Calls.spliced_cons
abbrev ae0:=@PySem.wpAny_callSpecial?_slot
abbrev ae1:=@PySem.Calls.callWith_builtin
abbrev ae2:=@PyProof.Rows.boot_list
abbrev ae3:=@List.getElem?_set_ne
abbrev ae4:=@PySem.wpAny_call_entry
abbrev ae5:=@PyProof.Rows.slot_tuple_getitem
abbrev ae6:=@List.append_assoc
abbrev ae7:=@List.getElem_toArray
abbrev ae8:=@List.map_map
abbrev ae9:=@List.getElem?_of_mem
abbrev afa:=@PySem.wpAny_setField_rec
abbrev afb:=@PyProof.Rows.callWith_type1
abbrev afc:=@List.replicate_succ
abbrev afd:=@List.map_congr_left
abbrev afe:=@Ne.symm
abbrev aff:=@PySem.F.plainAttrs_dict
abbrev afg:=@PyProof.Rows.boot_tuple
abbrev afh:=@congrArg
abbrev afi:=@PySem.wpAny_mono
abbrev afj:=@PyProof.Rows.boot_dict
abbrev afk:=@PySem.W.kia_one
abbrev afl:=@PySem.F.slot_dict_itemiterator_next
abbrev afm:=@PySem.mem_of_lookup
abbrev afn:=@PySem.wpAny_field
abbrev afo:=@PySem.Heap.SameBut.update
abbrev afp:=@PySem.Heap.get?_update_self
abbrev afq:=@Nat.lt_succ_of_lt
abbrev afr:=@PySem.F.slot_dict_keyiterator_next
abbrev afs:=@Int.emod_lt_of_pos
abbrev aft:=@PySem.Calls.evalArgs_plain
abbrev afu:=@Nat.ne_of_gt
abbrev afv:=@Bool.and_eq_true
abbrev afw:=@Option.map_eq_some_iff
abbrev afx:=@List.take_of_length_le
abbrev afy:=@PySem.Calls.spliced_nil
abbrev afz:=@List.flatten_cons
abbrev afA:=@List.mem_map_of_mem
abbrev afB:=@Int.neg_neg
abbrev afC:=@PySem.wpAny_holding
abbrev afD:=@PySem.Heap.size_push
abbrev afE:=@List.nodup_nil
abbrev afF:=@Int.emod_nonneg
abbrev afG:=@List.length_nil
abbrev afH:=@PySem.F.slot_dict_get
abbrev afI:=@List.range_succ
abbrev afJ:=@Nat.sub_self
abbrev afK:=@PySem.wpAny_typeNameOfWhole_itemiter
abbrev afL:=@List.take_length
abbrev afM:=@PySem.wpAny_typeNameOfWhole_keyiter
abbrev afN:=@List.dropLast_concat_getLast
abbrev afO:=@PySem.F.slot_dict_setdefault
abbrev afP:=@PySem.wpAny_dictEntries
abbrev afQ:=@List.pairwise_map
abbrev afR:=@PySem.Heap.get?_update_other
abbrev afS:=@List.find?_cons_of_pos
abbrev afT:=@List.find?_cons_of_neg
abbrev afU:=@PySem.F.slot_tuple_iterator_next
abbrev afV:=@Nat.lt_succ_self
abbrev afW:=@Nat.le_of_eq
abbrev afX:=@PySem.wpAny_Call_Name_kw
abbrev afY:=@Array.getElem?_toList
abbrev afZ:=@List.length_filter_le
abbrev af0:=@List.take_succ
abbrev af1:=@List.mem_or_eq_of_mem_set
abbrev af2:=@PySem.wpAny_typeNameOf_itemiter
abbrev af3:=@Int.natAbs_neg
abbrev af4:=@List.mem_iff_getElem
abbrev af5:=@List.mem_filter
abbrev af6:=@PySem.wpAny_passesOwn
abbrev af7:=@PySem.wpAny_comprehension_free
abbrev af8:=@PySem.wpAny_Call_method
abbrev af9:=@PySem.wpAny_loadPart'
abbrev aga:=@PySem.wpAny_typeNameOf_keyiter
abbrev agb:=@List.foldl_append
abbrev agc:=@not_false_eq_true
abbrev agd:=@List.length_erase_of_mem
abbrev age:=@Nat.min_eq_left
abbrev agf:=@PySem.call_meetsIn
abbrev agg:=@Array.length_toList
abbrev agh:=@Nat.le_succ
abbrev agi:=@PySem.wpAny_list_append_plain
abbrev agj:=@or_false
abbrev agk:=@List.eq_nil_of_length_eq_zero
abbrev agl:=@List.mem_flatMap
abbrev agm:=@PySem.codeAny_compStart_list
abbrev agn:=@PySem.F.entry_dict_get
abbrev ago:=@if_false
abbrev agp:=@PySem.tupleKind_room_in1
abbrev agq:=@List.foldl_cons
abbrev agr:=@Bool.or_eq_true
abbrev ags:=@List.find?_cons
abbrev agt:=@PySem.F.slot_dict_pop
abbrev agu:=@PySem.F.slot_enumerate_next
abbrev agv:=@PySem.F.slot_enumerate_iter
abbrev agw:=@PySem.wpAny_notOrdered_dict
abbrev agx:=@PySem.wpAny_dictEpoch
abbrev agy:=@PySem.wpAny_truthy_bool
abbrev agz:=@PySem.wpAny_pyIter_list
abbrev agA:=@Decidable.not_not
abbrev agB:=@PySem.wpAny_newFunctionEnv
abbrev agC:=@Nat.mul_le_mul_right
abbrev agD:=@List.mem_of_find?_eq_some
abbrev agE:=@List.drop_eq_getElem_cons
abbrev agF:=@Classical.byContradiction
abbrev agG:=@Nat.min_eq_right
abbrev agH:=@if_true
abbrev agI:=@List.length_pos_iff
abbrev agJ:=@List.flatMap_append
abbrev agK:=@beq_iff_eq
abbrev agL:=@Option.isSome_iff_exists
abbrev agM:=@PySem.F.args_tuple_add_2
abbrev agN:=@PySem.wpAny_typeOf
abbrev agO:=@PySem.call_meets
abbrev agP:=@Nat.lt_or_ge
abbrev agQ:=@List.Pairwise.imp_of_mem
abbrev agR:=@PySem.wpAny_standAt
abbrev agS:=@PySem.F.entry_tuple_add
abbrev agT:=@PySem.Obj.data_mapFields
abbrev agU:=@List.filter_cons_of_neg
abbrev agV:=@List.filter_cons_of_pos
abbrev agW:=@decide_eq_false_iff_not
abbrev agX:=@PySem.F.slot_tuple_add
abbrev agY:=@Option.map_eq_none_iff
abbrev agZ:=@List.ext_getElem?
abbrev ag0:=@Nat.lt_of_succ_lt
abbrev ag6:=@PySem.wpAny_setField
abbrev ag8:=@Nat.mul_le_mul
abbrev ag9:=@Nat.le_of_lt
abbrev aha:=@PySem.codeAny_mono
abbrev ahb:=@Int.zero_add
abbrev ahc:=@List.any_eq_true
abbrev ahd:=@Nat.max_eq_right
abbrev ahe:=@List.nodup_range
abbrev ahf:=@List.drop_length
abbrev ahg:=@List.map_take
abbrev ahh:=@List.map_drop
-- CHANGE:ac8 row's module here,as the last of these rows
set_option Elab.async false
set_option linter.all false
set_option maxRecDepth 100000
namespace L2
open PySem PySem.Spec PyProof.Rows
abbrev Key:=Sum Int Str
def uO:Key->Value->Bool
 |.inl k,v=>Value.isInt k v
 |.inr x,v=>Value.isStrOf x v
def Yw (w:World):Key->Int
 |.inl k=>hashInt k
 |.inr x=>hashStr w x
theorem eA:∀{k:Key} {v:Value},uO k v=true->(∃i t,k=Sum.inl i/\v=Value.int i t)\/(∃x t,k=Sum.inr x/\v=Value.str x t)
 |.inl i,v,h=>by
  obtain⟨t,e⟩:=Value.isInt_shape (k:=i) (v:=v) h;exact .inl ⟨i,t,rfl,e⟩
 |.inr x,v,h=>by
  obtain⟨t,e⟩:=Value.isStrOf_shape (x:=x) (v:=v) h;exact .inr ⟨x,t,rfl,e⟩
theorem GN (i:Int)(t:Tok):uO (.inl i) (.int i t)=true:=by simp[uO,Value.isInt]
theorem GO (x:Str)(t:Tok):uO (.inr x) (.str x t)=true:=by simp[uO,Value.isStrOf]
theorem OO (a b:Int):decide ((Sum.inl a:Key)=Sum.inl b)=(a==b):=by
 by_cases e:a=b
 ·subst e;simp
 ·have h:¬(Sum.inl a:Key)=Sum.inl b:=λq=>e (Sum.inl.inj q)
  rw[aeK h];exact(aef.mpr e).symm
theorem OQ (a b:Str):decide ((Sum.inr a:Key)=Sum.inr b)=decide (a=b):=by
 by_cases e:a=b
 ·subst e;simp
 ·have h:¬(Sum.inr a:Key)=Sum.inr b:=λq=>e (Sum.inr.inj q)
  rw[aeK h,aeK e]
theorem OS (a:Int)(b:Str):decide ((Sum.inl a:Key)=Sum.inr b)=false:=aeK (λq=>nomatch q)
theorem OU (a:Str)(b:Int):decide ((Sum.inr a:Key)=Sum.inl b)=false:=aeK (λq=>nomatch q)
def b9 (prog:Program)(w:World):PySem.KeyKind prog w Key where
 is:=uO
 hash:=Yw w
 inj:=λv a b ha hb=>by
  rcases eA ha with ⟨i,t,rfl,rfl⟩|⟨x,t,rfl,rfl⟩
  ·rcases eA hb with ⟨j,u,rfl,e⟩|⟨y,u,rfl,e⟩
   ·injection e with e1 _;rw[e1]
   ·exact nomatch e
  ·rcases eA hb with ⟨j,u,rfl,e⟩|⟨y,u,rfl,e⟩
   ·exact nomatch e
   ·injection e with e1 _;rw[e1]
 byValue:=λk v h=>by
  rcases eA h with ⟨i,t,rfl,rfl⟩|⟨x,t,rfl,rfl⟩ <;> rfl
 pyHash:=λhv h=>by
  rcases eA hv with ⟨i,t,rfl,rfl⟩|⟨x,t,rfl,rfl⟩
  ·exact wpAny_pyHash_int h
  ·exact wpAny_pyHash_str h
 eqBool:=λhu hv h=>by
  rcases eA hu with ⟨i,t,rfl,rfl⟩|⟨x,t,rfl,rfl⟩
  ·rcases eA hv with ⟨j,u,rfl,rfl⟩|⟨y,u,rfl,rfl⟩
   ·rw[OO]at h;exact wpAny_eqBool_int h
   ·rw[OS]at h;exact SeqAt.EqAt.int_str i t y u _ _ _ _ h
  ·rcases eA hv with ⟨j,u,rfl,rfl⟩|⟨y,u,rfl,rfl⟩
   ·rw[OU]at h;exact SeqAt.EqAt.str_int x t j u _ _ _ _ h
   ·rw[OQ]at h;exact wpAny_eqBool_str h
 «strs»:=λk x t v h=>by
  rcases eA h with ⟨i,u,rfl,e⟩|⟨y,u,rfl,e⟩
  ·exact nomatch e
  ·injection e with e1 _
   subst e1;cases v <;> rfl
theorem DN (prog:Program)(w:World)(i:Int)(t:Tok):(b9 prog w).is (.inl i) (.int i t)=true:=GN i t
theorem DP (prog:Program)(w:World)(x:Str)(t:Tok):(b9 prog w).is (.inr x) (.str x t)=true:=GO x t
end L2
namespace L2
open PySem PySem.Spec PyProof.Rows
inductive V where
 |non|bl (b:Bool)|int (i:Int)|str (x:Str)|pQ (b:Array UInt8)|AX (b:UInt64)|ref (a:Addr)|ty (n:String)
 deriving DecidableEq
def RelV:V->Value->Prop
 |.non,u=>u=Value.none
 |.bl b,u=>u=Value.bool b
 |.int i,u=>∃t,u=Value.int i t
 |.str x,u=>∃t,u=Value.str x t
 |.pQ b,u=>∃t,u=Value.bytes b t
 |.AX b,u=>∃t,u=Value.float b t
 |.ref a,u=>u=Value.ref a
 |.ty n,u=>u=Value.type n
abbrev Vals:List V->List Value->Prop:=Paired RelV
theorem Vals.length {xs:List V}{us:List Value}(r:Vals xs us):xs.length=us.length:=Paired.length r
theorem Vals.get:∀{xs:List V} {us:List Value} {i:Nat} {x:V},Vals xs us->xs[i]?=some x->∃u,us[i]?=some u/\RelV x u
 |_,_,_,_,.nil,e=>by simp at e
 |_,_,0,_,.cons r _,e=>by simp at e;subst e;exact⟨_,rfl,r⟩
 |_,_,i+ 1,x,.cons _ t,e=>by
  obtain⟨u,h1,h2⟩:=Vals.get (i:=i) (x:=x) t (by simpa using e);exact⟨u,by simpa using h1,h2⟩
theorem Vals.set {x:V}{u:Value}(r:RelV x u):∀{xs:List V} {us:List Value} (i:Nat),Vals xs us->Vals (xs.set i x) (us.set i u)
 |_,_,_,.nil=>.nil
 |_,_,0,.cons _ t=>.cons r t
 |_,_,i+ 1,.cons q t=>.cons q (Vals.set r i t)
theorem Vals.append:∀{xs ys:List V} {us ws:List Value},Vals xs us->Vals ys ws->Vals (xs++ys) (us++ws)
 |_,_,_,_,.nil,s=>s
 |_,_,_,_,.cons r t,s=>.cons r (Vals.append t s)
theorem Vals.take:∀{xs:List V} {us:List Value} (n:Nat),Vals xs us->Vals (xs.take n) (us.take n)
 |_,_,0,_=>.nil
 |_,_,_+ 1,.nil=>.nil
 |_,_,n+ 1,.cons r t=>.cons r (Vals.take n t)
theorem Vals.drop:∀{xs:List V} {us:List Value} (n:Nat),Vals xs us->Vals (xs.drop n) (us.drop n)
 |_,_,0,r=>r
 |_,_,_+ 1,.nil=>.nil
 |_,_,n+ 1,.cons _ t=>Vals.drop n t
def gq:Option V->Option Value->Prop
 |some v,some u=>RelV v u
 |none,none=>True
 |_,_=>False
def KV {κ:Type}:List (κ×V)->List (κ×Value)->Prop:=Paired λ(p:κ×V) (q:κ×Value)=>p.1=q.1/\RelV p.2 q.2
def kV:Key->V
 |.inl i=>.int i
 |.inr x=>.str x
inductive HO where
 /-- a list -/
 |lst (xs:List V)
 /-- a tuple (never changes) -/
 |tup (xs:List V)
 /-- a dict whose keys are ints and texts;one whose keys are tuples of ints and texts (the empty one is both) -/
 |dK (kvs:List (Key×V))|dT (kvs:List (List Key×V))
 /-- a set of ints:its members,its size -/
 |set (S:Int->Bool) (n:Nat)
 /-- an instance of the class at C,its dict at dx,its attributes -/
 |ins (C dx:Addr) (fs:List (Str×V))
 /-- the dict of the instance at x -/
 |own (x:Addr)
 /-- the dict of an exception -/
 |xd (fs:List (Str×V))
 /-- a bound method,f of x -/
 |met (f x:Addr)
 /-- a range object lo,lo+ 1,.. below hi -/
 |fA (lo hi:Int)
 /-- a thing that is known to the object (the script;a dict while a loop walks it):read,never written while it is so -/
 |fB (o:Obj) (u:HO)
 /-- a code object's table -/
 |AY (ps:Array Value)
 /-- any other thing,by what is true of its one object (a def of ac1 own:ac9 a S n:=HO.ext λh=>..) -/
 |ext (φ:Heap->Prop)
abbrev Hp:=Addr->Option HO
def upd (H:Hp)(a:Addr)(o:HO):Hp:=λb=>if b=a then some o else H b
theorem aj {H:Hp}{a:Addr}{o:HO}:upd H a o a=some o:=by unfold upd;rw[ael rfl]
theorem ao {H:Hp}{a b:Addr}{o:HO}(h:b≠a):upd H a o b=H b:=by unfold upd;rw[aed h]
theorem cF {H:Hp}{a b:Addr}{o u:HO}(h:H a=some o)(h':H b=some u)(d:o≠u):a≠b:=by
 intro e;subst e;rw[h]at h';exact d (Option.some.inj h')
theorem av {H:Hp}{a b:Addr}{o:HO}(h:H a=some o)(h':H b=none):a≠b:=by
 intro e;subst e;rw[h]at h';cases h'
section
variable (P:Program) (w:World)
def cG (H:Hp)(h:Heap)(a:Addr):HO->Prop
 |.lst xs=>xs.length<=sizeLine/\∃(its:List Value) (n:Nat),Vals xs its/\h.get? a=some { cls:=.type "list",data:=.seq its.toArray n }
 |.tup xs=>xs.length<=sizeLine/\∃its:List Value,Vals xs its/\IsTup h a its.toArray
 |.dK kvs=>kvs.length<=sizeLine/\(a==sysModules)=false/\∃vs,KV kvs vs/\h.DictOf (b9 P w) a vs
 |.dT kvs=>kvs.length<=sizeLine/\(a==sysModules)=false/\∃xs:List (List Key×Addr×Value),
  Paired (λ(p:List Key×V) (q:List Key×Addr×Value)=>p.1=q.1/\H q.2.1=some (.tup (p.1.map kV))/\RelV p.2 q.2.2) kvs xs/\
  ∃o es ep,h.get? a=some o/\o.ExactDict/\o.data=.dict es ep/\es.toList=xs.map (entryOfKey (tupleKind (b9 P w)))/\(xs.map (·.1)).Nodup
 |.set S n=>h.SetOf (intKind P w) a S n
 |.ins C dx fs=>H dx=some (.own a)/\fs.length<=1000/\dx≠a/\h.get? a=some (PySem.W.instObj C dx)/\
  ∃mA,h.Ns1 dx mA/\(∀f,gq (fs.lookup f) (mA f))/\PySem.Within mA (fs.map (·.1))
 |.own _=>∃o,h.get? a=some o
 |.xd fs=>∃mA,h.Ns1 a mA/\∀f,gq (fs.lookup f) (mA f)
 |.fA lo hi=>∃t u v,h.get? a=some { cls:=.type "range",data:=.fields #[.int lo t,.int hi u,.int 1 v] }
 |.fB o u=>h.get? a=some o/\cG H h a u
 |.AY ps=>h.get? a=some { cls:=.none,data:=.fields ps }
 |.met f x=>h.get? a=some (PySem.W.methodObj (.ref f) (.ref x))
 |.ext φ=>φ h/\(∃o,h.get? a=some o)/\∀h1 h2:Heap,φ h1->(∀o,h1.get? a=some o->h2.get? a=some o)->φ h2
def dS (H:Hp)(h:Heap):Prop:=∀a o,H a=some o->cG P w H h a o
end
section
variable {P:Program} {w:World} {H H':Hp} {h h':Heap} {a:Addr} {o:HO}
theorem cG.lt (x:cG P w H h a o):a<h.objs.size:=by
 cases o with
 |lst xs=>obtain⟨_,_,_,_,e⟩:=x;exact aeh e
 |tup xs=>obtain⟨_,_,_,p⟩:=x;exact p.lt
 |dK kvs=>obtain⟨_,_,_,_,o,_,_,e,_⟩:=x;exact aeh e
 |dT kvs=>obtain⟨_,_,_,_,o,_,_,e,_⟩:=x;exact aeh e
 |set S n=>obtain⟨o,_,_,_,e,_⟩:=x;exact aeh e
 |ins C dx fs=>obtain⟨_,_,_,e,_⟩:=x;exact aeh e
 |own y=>obtain⟨_,e⟩:=x;exact aeh e
 |xd fs=>obtain⟨_,⟨_,_,_,e,_⟩,_⟩:=x;exact aeh e
 |fA lo hi=>obtain⟨_,_,_,e⟩:=x;exact aeh e
 |fB ob u=>obtain⟨e,_⟩:=x;exact aeh e
 |AY ps=>exact aeh (show h.get? a=some _ from x)
 |met f y=>exact aeh (show h.get? a=some _ from x)
 |ext φ=>obtain⟨_,⟨_,e⟩,_⟩:=x;exact aeh e
theorem Paired.JA {α β:Type}{F G:α->β->Prop}:∀{OV:List α} {OW:List β},Paired F OV OW->(∀a b,F a b->G a b)->Paired G OV OW
 |_,_,.nil,_=>.nil
 |_,_,.cons r t,f=>.cons (f _ _ r) (Paired.JA t f)
theorem cG.lK (x:cG P w H h a o)(k:∀b u,(b=a\/H b=some (.own a))->h.get? b=some u->h'.get? b=some u)
 (ho:∀b,H b=some (.own a)->H' b=some (.own a)) (ht:∀b xs,H b=some (.tup xs)->H' b=some (.tup xs)):cG P w H' h' a o:=by
 induction o with
 |lst xs=>obtain⟨z,its,n,r,e⟩:=x;exact⟨z,its,n,r,k _ _ (.inl rfl) e⟩
 |tup xs=>obtain⟨z,its,r,ob,e,c⟩:=x;exact⟨z,its,r,ob,k _ _ (.inl rfl) e,c⟩
 |dK kvs=>obtain⟨z,y,vs,r,ob,es,ep,e,c⟩:=x;exact⟨z,y,vs,r,ob,es,ep,k _ _ (.inl rfl) e,c⟩
 |dT kvs=>
  obtain⟨z,y,xs,r,ob,es,ep,e,c⟩:=x;exact⟨z,y,xs,Paired.JA r λp q z=>⟨z.1,ht _ _ z.2.1,z.2.2⟩,ob,es,ep,k _ _ (.inl rfl) e,c⟩
 |set S n=>obtain⟨ob,es,ep,t,e,c⟩:=x;exact⟨ob,es,ep,t,k _ _ (.inl rfl) e,c⟩
 |ins C dx fs=>
  obtain⟨d,z,ne,e,mA,⟨od,es,ep,e2,c⟩,r⟩:=x;exact⟨ho _ d,z,ne,k _ _ (.inl rfl) e,mA,⟨od,es,ep,k _ _ (.inr d) e2,c⟩,r⟩
 |own y=>obtain⟨ob,e⟩:=x;exact⟨ob,k _ _ (.inl rfl) e⟩
 |xd fs=>obtain⟨mA,⟨od,es,ep,e,c⟩,r⟩:=x;exact⟨mA,⟨od,es,ep,k _ _ (.inl rfl) e,c⟩,r⟩
 |fA lo hi=>obtain⟨t,u,v,e⟩:=x;exact⟨t,u,v,k _ _ (.inl rfl) e⟩
 |fB ob u ih=>obtain⟨e,q⟩:=x;exact⟨k _ _ (.inl rfl) e,ih q⟩
 |AY ps=>
  have e:h.get? a=some { cls:=.none,data:=.fields ps }:=x;show h'.get? a=some { cls:=.none,data:=.fields ps };exact k a _ (.inl rfl) e
 |met f y=>
  have e:h.get? a=some (PySem.W.methodObj (.ref f) (.ref y)):=x;show h'.get? a=some (PySem.W.methodObj (.ref f) (.ref y));exact k a _ (.inl rfl) e
 |ext φ=>obtain⟨p,⟨o,e⟩,st⟩:=x;exact⟨st _ _ p λo q=>k _ _ (.inl rfl) q,⟨o,k _ _ (.inl rfl) e⟩,st⟩
theorem dS.lt (x:dS P w H h)(e:H a=some o):a<h.objs.size:=(x a o e).lt
theorem dS.fresh (x:dS P w H h)(e:h.objs.size<=a):H a=none:=by
 cases q:H a with
 |none=>rfl
 |some u=>exact absurd (aev (x.lt q) e) (aeD _)
theorem dS.kept (x:dS P w H h)(k:∀b u,h.get? b=some u->h'.get? b=some u):dS P w H h':=λa o e=>
 (x a o e).lK (λb u _ q=>k b u q) (λ_ q=>q) λ_ _ q=>q
theorem dS.laid (x:dS P w H h)(k:∀b u,h.get? b=some u->h'.get? b=some u)(hp:h.objs.size<=a)(new:cG P w (upd H a o) h' a o):dS P w (upd H a o) h':=λb u e=>by
 have hn:=x.fresh hp;by_cases hb:b=a
 ·subst hb;rw[aj]at e;cases e;exact new
 ·rw[ao hb]at e;exact(x b u e).lK (λc v _ q=>k c v q) (λc q=>by rw[ao (av q hn)];exact q) λc xs q=>by rw[ao (av q hn)];exact q
end
def Rd (H:Hp)(a:Addr)(u:HO):Prop:=H a=some u\/∃o,H a=some (.fB o u)
theorem Rd.ok {P:Program}{w:World}{H:Hp}{h:Heap}{a:Addr}{u:HO}(r:Rd H a u)(x:dS P w H h):cG P w H h a u:=by
 rcases r with r|⟨o,r⟩
 ·exact x a u r
 ·obtain⟨_,q⟩:=x a _ r;exact q
def vp:Option HO->Prop
 |some (.lst _)=>True
 |some (.dK _)=>True
 |some (.dT _)=>True
 |some (.set _ _)=>True
 |some (.ins _ _ _)=>True
 |some (.ext _)=>True
 |_=>False
section
variable {P:Program} {w:World} {H:Hp} {h h':Heap} {x e:Addr} {o':HO}
theorem dS.write (ok:dS P w H h)(mu:vp (H x))(he:e=x\/H e=some (.own x))(k:∀b u,b≠e->h.get? b=some u->h'.get? b=some u)(Ed:∃u,h'.get? e=some u)
 (new:cG P w (upd H x o') h' x o'):dS P w (upd H x o') h':=λb u q=>by
 have yG:∀c y,H c=some (.own y)->c≠x:=λc y r z=>by subst z;rw[r]at mu;exact mu
 have lL:∀c xs,H c=some (.tup xs)->c≠x:=λc xs r z=>by subst z;rw[r]at mu;exact mu
 by_cases hb:b=x
 ·subst hb;rw[aj]at q;cases q;exact new
 ·rw[ao hb]at q;by_cases jq:b=e
  ·have q':H b=some (.own x):=by
    rcases he with z|z
    ·exact absurd (jq.trans z) hb
    ·rw[jq];exact z
   rw[q]at q';cases q';obtain⟨v,hv⟩:=Ed;exact⟨v,by rw[jq];exact hv⟩
  ·refine(ok b u q).lK (λc v hc r=>k c v ?_ r) (λc r=>by rw[ao (yG c b r)];exact r) λc xs r=>by rw[ao (lL c xs r)];exact r
   rcases hc with rfl|hc
   ·exact jq
   ·rintro rfl;rcases he with z|z
    ·exact yG c b hc z
    ·rw[hc]at z;cases z;exact hb rfl
end
structure Un (fs ex:List Addr) (H H':Hp) (h h':Heap):Prop where
 keep:∀b o,h.get? b=some o->H b=none->b∉fs->b∉ex->h'.get? b=some o
 slot:∀b o,h.get? b=some o->H b=none->b∈fs->b∉ex->∃sl,h'.get? b=some { o with slots:=sl }
 free:∀b o,h.get? b=some o->H b=none->b∉ex->H' b=none
 there:∀b o,h.get? b=some o->b∉ex->∃o',h'.get? b=some o'
 iK:∀b xs,H b=some (.tup xs)->H' b=some (.tup xs)
 gW:∀b o u,H b=some (.fB o u)->H' b=some (.fB o u)
 iL:∀b ps,H b=some (.AY ps)->∃more,H' b=some (.AY (ps++more))
section
variable {fs ZV ex ex':List Addr} {H H1 H2:Hp} {h h1 h2 h':Heap} {a x e:Addr} {o:HO}
theorem Un.any (u:Un fs ex H H1 h h1){b:Addr}{ob:Obj}(q:h.get? b=some ob)(n:H b=none)(hx:b∉ex):∃sl,h1.get? b=some { ob with slots:=sl }:=by
 by_cases hb:b∈fs
 ·exact u.slot b ob q n hb hx
 ·exact⟨ob.slots,u.keep b ob q n hb hx⟩
theorem Un.kept (k:∀b u,h.get? b=some u->h'.get? b=some u):Un fs ex H H h h':=
 ⟨λb ob q _ _ _=>k b ob q,λb ob q _ _ _=>⟨ob.slots,k b ob q⟩,λ_ _ _ n _=>n,λb ob q _=>⟨ob,k b ob q⟩,λ_ _ q=>q,λ_ _ _ q=>q,λ_ ps q=>⟨#[],by rw[q];simp⟩⟩
theorem Un.refl:Un fs ex H H h h:=Un.kept λ_ _ q=>q
theorem Un.laid (k:∀b u,h.get? b=some u->h'.get? b=some u)(hp:h.objs.size<=a)(hn:H a=none):Un fs ex H (upd H a o) h h' where
 keep:=λb u q _ _ _=>k b u q
 slot:=λb u q _ _ _=>⟨u.slots,k b u q⟩
 free:=λb u q n _=>by rw[ao (aen (aev (aeh q) hp))];exact n
 there:=λb u q _=>⟨u,k b u q⟩
 iK:=λb xs q=>by rw[ao (av q hn)];exact q
 gW:=λb u xs q=>by rw[ao (av q hn)];exact q
 iL:=λb ps q=>⟨#[],by rw[ao (av q hn),q];simp⟩
theorem Un.write (mu:vp (H x))(he:e=x\/H e=some (.own x))(k:∀b u,b≠e->h.get? b=some u->h'.get? b=some u)(Ed:∃u,h'.get? e=some u):Un fs ex H (upd H x o) h h':=by
 have hx:∀b,H b=none->b≠x:=λb n z=>by subst z;rw[n]at mu;exact mu
 have hb:∀b,H b=none->b≠e:=λb n z=>by
  subst z;rcases he with r|r
  ·exact hx b n r
  ·rw[n]at r;cases r
 have hm:∀b u,H b=some u->¬vp (some u)->b≠x:=λb u q nm z=>by subst z;rw[q]at mu;exact nm mu
 refine⟨λb u q n _ _=>k b u (hb b n) q,λb u q n _ _=>⟨u.slots,k b u (hb b n) q⟩,λb u q n _=>by rw[ao (hx b n)];exact n,λb u q _=>?_,
  λb xs q=>by rw[ao (hm b _ q λz=>z)];exact q,λb u xs q=>by rw[ao (hm b _ q λz=>z)];exact q,λb ps q=>⟨#[],by rw[ao (hm b _ q λz=>z),q];simp⟩⟩
 by_cases jq:b=e
 ·subst jq;exact Ed
 ·exact⟨u,k b u jq q⟩
end
def Li (h:Heap)(H:Hp):List Addr:=(List.range h.objs.size).filter λa=>(H a).isSome
def rS (h:Heap)(H:Hp):Heap:=PySem.W.hideAll h (Li h H)
theorem GP (h:Heap)(H:Hp):(rS h H).objs.size=h.objs.size:=PySem.W.hideAll_size _ _
theorem JB {h:Heap}{H:Hp}{b:Addr}{o:Obj}(e:h.get? b=some o)(n:H b=none):(rS h H).get? b=some o:=
 PySem.W.hideAll_get _ e λhm=>by
  have q:(H b).isSome=true:=(af5.mp hm).2;rw[n]at q;simp at q
theorem Nu {h:Heap}{H:Hp}{b:Addr}{o:Obj}(e:(rS h H).get? b=some o):h.get? b=some o/\H b=none:=by
 have e':h.get? b=some o:=PySem.W.of_hideAll (Li h H) e;refine⟨e',?_⟩
 cases q:H b with
 |none=>rfl
 |some x=>
  have hm:b∈Li h H:=af5.mpr ⟨aeQ.mpr (aeh e'),by simp[q]⟩;have z:(rS h H).get? b=none:=PySem.W.hideAll_none (Li h H) hm;rw[z]at e;cases e
def Nv (g h:Heap)(L:Addr):List (Addr×Obj):=(List.range h.objs.size).filterMap λa=>if a=L\/(g.get? a).isSome=true then none else (h.get? a).map λo=>(a,o)
def rest (g h:Heap)(L d:Addr):List (Addr×Obj):=(Nv g h L).filter λp=>decide (p.1≠d)
end L2
namespace L2
open PySem PySem.Spec PyProof.Rows
structure Mod (K:PySem.W.Frag) (mg:Str->Option Value) (base:Heap):Prop where
 GQ:K.In base
 glob:base.Ns mainGlobals mg
 blt:∃mb,base.Ns builtinsNs mb/\∀x:Str,x≠"__name__"->mb x=bootBuiltins x
 nolimit:base.NoLimit
structure Cx where
 prog:Program
 w:World
 K:PySem.W.Frag
 mg:Str->Option Value
 base:Heap
 A:Around
 N:List Str
 dG:Shared
 vR:Hp
 env:Env
 outer:List Env
 stack:List Env
 ex:List Addr
 fn:Str->Bool
 calm:Bool
 pn:List (Addr×Obj)
 xe:Value->Shared->Prop
def ik (l:List Env):List Addr:=l.filterMap (·.frame)
abbrev Cx.fs (X:Cx):List Addr:=ik X.outer
def OX (sc:Scope)(x:Str):Prop:=sc.names.lookup x=some .local\/sc.names.lookup x=some .cell\/sc.names.lookup x=some .free
def Loc (sc:Scope)(x:Str):Prop:=sc.names.lookup x=some .local\/sc.names.lookup x=some .cell
def Look (env:Env)(h:Heap)(m:Str->Option Value)(x:Str)(u:Value):Prop:=
 (env.kindOf x=some .local/\m x=some u)\/((env.kindOf x=some .cell\/env.kindOf x=some .free)/\∃c,env.cells.lookup x=some c/\h.IsCell c (some u))
structure Cx.Ok (X:Cx):Prop where
 mod:Mod X.K X.mg X.base
 kind:X.env.scope.kind=.function
 glob:X.env.globals=mainGlobals
 blt:X.env.builtins=builtinsNs
 above:X.dG.heap.objs.size<=X.env.locals
 inj:∀x y c,X.env.cells.lookup x=some c->X.env.cells.lookup y=some c->x=y
 has:∀x,(X.env.kindOf x=some .cell\/X.env.kindOf x=some .free)->∃c,X.env.cells.lookup x=some c
 xk:∀x c,X.fn x=true->X.env.cells.lookup x=some c->X.dG.heap.objs.size<=c
 hd:X.calm=true->X.A.handled=none
 frames:X.A.frames=some X.stack
 zo:X.stack=X.outer\/(X.stack=X.env::X.outer/\X.env.frame=some X.env.locals)
 Ee:∀b∈X.ex,b≠X.env.locals/\∀x c,X.env.cells.lookup x=some c->c≠b
 bs:∀b o,X.base.get? b=some o->X.dG.heap.get? b=some o/\X.vR b=none
 om:X.base.objs.size<=X.dG.heap.objs.size
 mY:∀b o,X.base.get? b=some o->b∉X.ex
 tG:∀b∈X.ex,b∉X.fs
 jv:X.dG.heap.FunFrames X.base X.outer
 tH:∀b∈X.fs,X.vR b=none
structure Inv (X:Cx) (pins:List (Addr×Obj)) (σ:List (Option V)) (H:Hp) (s:Shared):Prop where
 ok:X.Ok
 os:s.os=X.dG.os
 bare:AllBare s.gens
 base:Un X.fs X.ex X.vR H X.dG.heap s.heap
 loc:∃m,s.heap.Ns X.env.locals m/\∀(i:Nat) (x:Str) (v:V),X.N[i]?=some x->σ[i]?=some (some v)->OX X.env.scope x->∃u,RelV v u/\Look X.env s.heap m x u
 cell:∀x c,X.env.cells.lookup x=some c->∃v,s.heap.IsCell c v
 free:H X.env.locals=none
 fw:∀x c,X.env.cells.lookup x=some c->H c=none
 pin:∀p∈X.pn++pins,s.heap.get? p.1=some p.2/\H p.1=none/\p.1≠X.env.locals/\p.1∉X.fs/\∀v,p.2.data≠.cell v
 aO:dS X.prog X.w H s.heap
 len:σ.length=X.N.length
section
variable {X:Cx} {pins:List (Addr×Obj)} {σ:List (Option V)} {H H':Hp} {s:Shared} {h':Heap}
theorem Cx.Ok.Yx (ok:X.Ok){b:Addr}{o:Obj}(e:X.base.get? b=some o):b∉X.fs:=λhb=>by
 have:=(ok.jv.mem hb).1;rw[e]at this;cases this
theorem Inv.bs (I:Inv X pins σ H s):∀b o,X.base.get? b=some o->s.heap.get? b=some o/\H b=none:=λb o e=>
 ⟨I.base.keep b o (I.ok.bs b o e).1 (I.ok.bs b o e).2 (I.ok.Yx e) (I.ok.mY b o e),I.base.free b o (I.ok.bs b o e).1 (I.ok.bs b o e).2 (I.ok.mY b o e)⟩
theorem Inv.bk (I:Inv X pins σ H s):∀b o,X.base.get? b=some o->s.heap.get? b=some o:=λb o e=>(I.bs b o e).1
theorem Inv.mod (I:Inv X pins σ H s):Mod X.K X.mg X.base:=I.ok.mod
theorem Inv.ip (I:Inv X pins σ H s):X.K.In s.heap:=I.ok.mod.GQ.keeps I.bk
theorem Inv.lt (I:Inv X pins σ H s):X.env.locals<s.heap.objs.size:=let ⟨_,hn,_⟩:=I.loc;hn.lt
theorem Inv.sz (I:Inv X pins σ H s):X.dG.heap.objs.size<=s.heap.objs.size:=aep I.ok.above (ag9 I.lt)
theorem Inv.AZ (I:Inv X pins σ H s){a:Addr}(h:s.heap.objs.size<=a):a∉X.fs:=λhb=>by
 obtain⟨_,o,ho,_⟩:=I.ok.jv.mem hb;exact absurd (aev (aeh ho) (aep I.sz h)) (aeD _)
theorem Inv.iM (I:Inv X pins σ H s):∀x c,X.env.cells.lookup x=some c->c≠X.env.locals:=λx c e z=>by
 obtain⟨v,o,ho,hd⟩:=I.cell x c e;obtain⟨m,⟨o',es,ep,xl,eZ,_⟩,_⟩:=I.loc;rw[z,xl]at ho;cases ho;rw[eZ]at hd;cases hd
theorem Inv.jv (I:Inv X pins σ H s):s.heap.FunFrames X.base X.outer:=by
 have all:∀(l:List Env),(∀b∈ik l,b∈X.fs)->X.dG.heap.FunFrames X.base l->s.heap.FunFrames X.base l:=by
  intro l
  induction l with
  |nil=>intro _ _;trivial
  |cons env r ih=>
   intro hs hl;obtain⟨hk,⟨L,o,hf,hn,ho,hd⟩,hr⟩:=hl;have hL:L∈X.fs:=hs L (by unfold ik;rw[List.filterMap_cons,hf];exact aeb);obtain⟨sl,e⟩:=I.base.slot L o ho (I.ok.tH L hL) hL λz=>I.ok.tG L z hL
   exact⟨hk,⟨L,_,hf,hn,e,hd⟩,ih (λb hb=>hs b (by unfold ik;rw[List.filterMap_cons,hf];exact aek _ hb)) hr⟩
 exact all X.outer (λ_ hb=>hb) I.ok.jv
theorem Inv.stack (I:Inv X pins σ H s):s.heap.FunFrames X.base X.stack:=by
 rcases I.ok.zo with e|⟨e,hf⟩
 ·rw[e];exact I.jv
 ·rw[e];obtain⟨m,hn,_⟩:=I.loc;refine .cons (by rw[I.ok.kind];decide) hf hn ?_ I.jv;exact Heap.get?_none_of_le (aep I.ok.om I.ok.above)
theorem Inv.qH (I:Inv X pins σ H s):∀b∈ik X.stack,b∈X.env.locals::X.fs:=λb hb=>by
 rcases I.ok.zo with e|⟨e,hf⟩
 ·rw[e]at hb;exact aek _ hb
 ·rw[e]at hb;unfold ik at hb;rw[List.filterMap_cons,hf]at hb;exact hb
theorem Inv.qI (I:Inv X pins σ H s):∀b∈ik X.stack,H b=none:=λb hb=>by
 rcases aea.mp (I.qH b hb) with e|hb
 ·rw[e];exact I.free
 ·obtain⟨_,o,ho,_⟩:=I.ok.jv.mem hb;exact I.base.free b o ho (I.ok.tH b hb) λz=>I.ok.tG b z hb
theorem Inv.step {g':Array GenState}{t':Nat}{d':Drawn}{ch:List Addr}(I:Inv X pins σ H s)
 (vq:∀b∈ch,(b∈X.ex\/X.dG.heap.objs.size<=b)/\b≠X.env.locals/\(∀x c,X.env.cells.lookup x=some c->c≠b)/\∀p∈X.pn++pins,p.1≠b)
 (keep:∀b o,b≠X.env.locals->b∉X.fs->b∉ch->s.heap.get? b=some o->H b=none->h'.get? b=some o)
 (slot:∀b o,b≠X.env.locals->b∈X.fs->b∉ch->s.heap.get? b=some o->H b=none->∃sl,h'.get? b=some { o with slots:=sl }) (free:∀b o,b∉ch->s.heap.get? b=some o->H b=none->H' b=none)
 (there:∀b o,b∉ch->s.heap.get? b=some o->∃o',h'.get? b=some o')
 (iK:∀b xs,H b=some (.tup xs)->H' b=some (.tup xs)) (gW:∀b o u,H b=some (.fB o u)->H' b=some (.fB o u)) (iL:∀b ps,H b=some (.AY ps)->∃more,H' b=some (.AY (ps++more)))
 (ns:∀m,s.heap.Ns X.env.locals m->h'.Ns X.env.locals m) (aO:dS X.prog X.w H' h') (hg:AllBare g'):
 Inv X pins σ H' { s with heap:=h',gens:=g',drawn:=d',toks:=t' }:=by
 have Vj:∀b o,X.dG.heap.get? b=some o->b≠X.env.locals:=λb o e=>aen (aev (aeh e) I.ok.above)
 have zp:∀b o,X.dG.heap.get? b=some o->b∉X.ex->b∉ch:=λb o e hx hb=>by
  rcases (vq b hb).1 with z|z
  ·exact hx z
  ·exact absurd (aev (aeh e) z) (aeD _)
 have cellK:∀x c,X.env.cells.lookup x=some c->∀v,s.heap.IsCell c v->h'.IsCell c v:=λx c e v ⟨o,ho,hd⟩=>by
  have GR:c∉ch:=λz=>(vq c z).2.2.1 x c e rfl
  by_cases hc:c∈X.fs
  ·obtain⟨sl,q⟩:=slot c o (I.iM x c e) hc GR ho (I.fw x c e);exact⟨_,q,hd⟩
  ·exact⟨o,keep c o (I.iM x c e) hc GR ho (I.fw x c e),hd⟩
 refine⟨I.ok,I.os,hg,⟨λb o e n hb hx=>?_,λb o e n hb hx=>?_,λb o e n hx=>?_,λb o e hx=>?_,λb xs e=>iK b xs (I.base.iK b xs e),λb o xs e=>gW b o xs (I.base.gW b o xs e),λb ps e=>?_⟩,?_,λx c e=>?_,?_,λx c e=>?_,λp hp=>?_,aO,I.len⟩
 ·exact keep b o (Vj b o e) hb (zp b o e hx) (I.base.keep b o e n hb hx) (I.base.free b o e n hx)
 ·obtain⟨sl,e1⟩:=I.base.slot b o e n hb hx;obtain⟨ZW,e2⟩:=slot b _ (Vj b o e) hb (zp b o e hx) e1 (I.base.free b o e n hx);exact⟨ZW,e2⟩
 ·obtain⟨o',e1⟩:=I.base.there b o e hx;exact free b o' (zp b o e hx) e1 (I.base.free b o e n hx)
 ·obtain⟨o',e1⟩:=I.base.there b o e hx;exact there b o' (zp b o e hx) e1
 ·obtain⟨m1,e1⟩:=I.base.iL b ps e;obtain⟨m2,e2⟩:=iL b _ e1;exact⟨m1++m2,by rw[e2,Array.append_assoc]⟩
 ·obtain⟨m,hn,hl⟩:=I.loc;refine⟨m,ns m hn,λi x v e1 e2 e3=>?_⟩;obtain⟨u,r,l⟩:=hl i x v e1 e2 e3;refine⟨u,r,?_⟩;rcases l with l|⟨k,c,e,z⟩
  ·exact .inl l
  ·exact .inr ⟨k,c,e,cellK x c e _ z⟩
 ·obtain⟨v,z⟩:=I.cell x c e;exact⟨v,cellK x c e v z⟩
 ·obtain⟨m,⟨o,_,_,ho,_⟩,_⟩:=I.loc;exact free _ o (λz=>(vq _ z).2.1 rfl) ho I.free
 ·obtain⟨v,o,ho,hd⟩:=I.cell x c e;exact free c o (λz=>(vq c z).2.2.1 x c e rfl) ho (I.fw x c e)
 ·obtain⟨e,n,ne,nf,d⟩:=I.pin p hp;have GR:p.1∉ch:=λz=>(vq p.1 z).2.2.2 p hp rfl
  exact⟨keep p.1 p.2 ne nf GR e n,free p.1 p.2 GR e n,ne,nf,d⟩
theorem Inv.un {t':Nat}(I:Inv X pins σ H s)(u:Un X.fs [] H H' s.heap h')(aO:dS X.prog X.w H' h'):Inv X pins σ H' { s with heap:=h',toks:=t' }:=by
 obtain⟨m,⟨o,es,ep,ho,r⟩,_⟩:=id I.loc;obtain⟨sl,hL⟩:=u.any ho I.free (by simp)
 exact I.step (g':=s.gens) (d':=s.drawn) (ch:=[]) (λ_ z=>nomatch z) (λb o _ hb _ e n=>u.keep b o e n hb (by simp)) (λb o _ hb _ e n=>u.slot b o e n hb (by simp)) (λb o _ e n=>u.free b o e n (by simp)) (λb o _ e=>u.there b o e (by simp)) u.iK u.gW u.iL (λm' hm=>by
  obtain⟨o',OY,OZ,xl,r'⟩:=hm;rw[ho]at xl;cases xl;exact⟨_,OY,OZ,hL,r'⟩) aO I.bare
theorem Inv.call {g':Array GenState}{t':Nat}{d':Drawn}{ch:List Addr}(I:Inv X pins σ H s)(u:Un (ik X.stack) ch H H' s.heap h')(aO:dS X.prog X.w H' h')(hg:AllBare g')
 (vq:∀b∈ch,(b∈X.ex\/X.dG.heap.objs.size<=b)/\b≠X.env.locals/\(∀x c,X.env.cells.lookup x=some c->c≠b)/\∀p∈X.pn++pins,p.1≠b):
 Inv X pins σ H' { s with heap:=h',gens:=g',drawn:=d',toks:=t' }:=by
 obtain⟨m,⟨o,es,ep,ho,r⟩,_⟩:=id I.loc;obtain⟨sl,hL⟩:=u.any ho I.free λz=>(vq _ z).2.1 rfl
 exact I.step (ch:=ch) vq (λb o hL hb hc e n=>u.keep b o e n (λz=>(aea.mp (I.qH b z)).elim hL hb) hc) (λb o _ _ hc e n=>u.any e n hc) (λb o hc e n=>u.free b o e n hc) (λb o hc e=>u.there b o e hc) u.iK u.gW u.iL (λm' hm=>by
  obtain⟨o',OY,OZ,xl,r'⟩:=hm;rw[ho]at xl;cases xl;exact⟨_,OY,OZ,hL,r'⟩) aO hg
theorem Inv.turned {t':Nat}{it:Addr}(I:Inv X pins σ H s)(k:∀b o,b≠it->s.heap.get? b=some o->h'.get? b=some o)(hn:H it=none)(hL:it≠X.env.locals)
 (h1:it∈X.ex\/X.dG.heap.objs.size<=it) (h2:∀x c,X.env.cells.lookup x=some c->c≠it) (h3:∀p∈X.pn++pins,p.1≠it):Inv X pins σ H { s with heap:=h',toks:=t' }:=by
 have Vk:∀b u,H b=some u->b≠it:=λb u e z=>by rw[z,hn]at e;cases e
 refine I.step (g':=s.gens) (d':=s.drawn) (ch:=[it]) (λb hb=>?_) (λb o _ _ hc e _=>k b o (λz=>hc (by simp[z])) e) (λb o _ _ hc e _=>⟨o.slots,k b o (λz=>hc (by simp[z])) e⟩) (λ_ _ _ _ n=>n)
  (λb o hc e=>⟨o,k b o (λz=>hc (by simp[z])) e⟩) (λ_ _ e=>e) (λ_ _ _ e=>e) (λb ps e=>⟨#[],by rw[e];simp⟩) (λm hm=>?_) (λb u e=>?_) I.bare
 ·have e:b=it:=by simpa using hb
  subst e;exact⟨h1,hL,h2,h3⟩
 ·obtain⟨o,es,ep,ho,r⟩:=hm;exact⟨o,es,ep,k _ o (afe hL) ho,r⟩
 ·refine(I.aO b u e).lK (λc v hc q=>k c v ?_ q) (λ_ q=>q) λ_ _ q=>q
  rcases hc with z|z
  ·rw[z];exact Vk b u e
  ·exact Vk c _ z
theorem Inv.tok (I:Inv X pins σ H s)(t:Nat):Inv X pins σ H { s with toks:=t }:=I.un (h':=s.heap) (t':=t) Un.refl I.aO
theorem Inv.kept {t':Nat}(I:Inv X pins σ H s)(k:∀b u,s.heap.get? b=some u->h'.get? b=some u):Inv X pins σ H { s with heap:=h',toks:=t' }:=I.un (Un.kept k) (I.aO.kept k)
theorem Inv.laid {a:Addr}{o:HO}{t':Nat}(I:Inv X pins σ H s)(k:∀b u,s.heap.get? b=some u->h'.get? b=some u)(hp:s.heap.objs.size<=a)(new:cG X.prog X.w (upd H a o) h' a o):
 Inv X pins σ (upd H a o) { s with heap:=h',toks:=t' }:=I.un (Un.laid k hp (I.aO.fresh hp)) (I.aO.laid k hp new)
theorem Inv.write {x e:Addr}{o:HO}{t':Nat}(I:Inv X pins σ H s)(mu:vp (H x))(he:e=x\/H e=some (.own x))(k:∀b u,b≠e->s.heap.get? b=some u->h'.get? b=some u)(Ed:∃u,h'.get? e=some u)
 (new:cG X.prog X.w (upd H x o) h' x o):Inv X pins σ (upd H x o) { s with heap:=h',toks:=t' }:=I.un (Un.write mu he k Ed) (I.aO.write mu he k Ed new)
theorem Inv.fF {dR:List (Addr×Obj)}(I:Inv X pins σ H s)(h:∀p∈dR,s.heap.get? p.1=some p.2/\H p.1=none/\p.1≠X.env.locals/\p.1∉X.fs/\∀v,p.2.data≠.cell v):Inv X dR σ H s:=
 ⟨I.ok,I.os,I.bare,I.base,I.loc,I.cell,I.free,I.fw,λp hp=>(aei.mp hp).elim (λz=>I.pin p (aex _ z)) (h p),I.aO,I.len⟩
theorem A0 {N:List Str}(hN:N.Nodup){i j:Nat}{x:Str}(a:N[i]?=some x)(b:N[j]?=some x):i=j:=by
 obtain⟨h1,e1⟩:=ad4.mp a;obtain⟨h2,e2⟩:=ad4.mp b;exact(List.getElem_inj hN).mp (e1.trans e2.symm)
theorem tI {M:Model}{A:Around}{E:Value->Shared->Prop}{i:Nat}{x:Str}{v:V}{u:Value}{Q:Unit->Shared->Prop}(I:Inv X pins σ H s)(hN:X.N.Nodup)(hi:X.N[i]?=some x)(hx:Loc X.env.scope x)(r:RelV v u)
 (h:∀s',Inv X pins (σ.set i (some v)) H s'->(∃a,Heap.SameBut a s.heap s'.heap/\(a=X.env.locals\/X.env.cells.lookup x=some a))->Q () s') (hf:X.fn x=true\/X.env.scope.names.lookup x=some .local:=by first|exact .inl rfl|exact .inr rfl|assumption):wpAny M A (storeName X.env x u) Q E s:=by
 obtain⟨m,hn,hl⟩:=id I.loc;have Yy:(X.env.scope.kind==.class || (X.env.scope.kind==.module && X.env.locals !=X.env.globals))=false:=by rw[I.ok.kind];rfl
 have O6:i < σ.length:=by rw[I.len];exact(ad4.mp hi).1
 have iM:=I.iM
 have tracked:∀{a:Addr} {h':Heap},(∃o,s.heap.get? a=some o/\H a=none)->Heap.SameBut a s.heap h'->dS X.prog X.w H h':=λ{a h'} ha hs b ob e=>by
  obtain⟨_,_,pR⟩:=ha;refine(I.aO b ob e).lK (λc w' hc q=>(hs.2 c ?_).trans q) (λ_ q=>q) λ_ _ q=>q
  rintro rfl;rcases hc with rfl|hc
  ·rw[pR]at e;cases e
  ·rw[pR]at hc;cases hc
 rcases hx with hk|hk
 ·refine wpAny_storeName_local hk hn (λh' ZX hs=>?_) Yy;obtain⟨oL,_,_,ZY,_⟩:=id hn;refine h _ ⟨I.ok,I.os,I.bare,⟨λb o e n hb hx=>?_,λb o e n hb hx=>?_,I.base.free,λb o e hx=>?_,I.base.iK,I.base.gW,I.base.iL⟩,⟨_,ZX,λj y v' e1 e2 e3=>?_⟩,λy c e=>?_,I.free,I.fw,λp hp=>?_,tracked ⟨oL,ZY,I.free⟩ hs,by simpa using I.len⟩ ⟨_,hs,.inl rfl⟩
  ·exact(hs.2 b (aen (aev (aeh e) I.ok.above))).trans (I.base.keep b o e n hb hx)
  ·obtain⟨sl,e1⟩:=I.base.slot b o e n hb hx;exact⟨sl,(hs.2 b (aen (aev (aeh e) I.ok.above))).trans e1⟩
  ·obtain⟨o',e1⟩:=I.base.there b o e hx;exact⟨o',(hs.2 b (aen (aev (aeh e) I.ok.above))).trans e1⟩
  ·by_cases hj:j=i
   ·subst hj;rw[hi]at e1;cases e1;rw[aeH O6]at e2;cases e2;exact⟨u,r,.inl ⟨hk,by simp⟩⟩
   ·rw[ae3 (afe hj)]at e2;obtain⟨u',r',q⟩:=hl j y v' e1 e2 e3;refine⟨u',r',?_⟩;rcases q with ⟨k,e⟩|⟨k,c,e,z⟩
    ·refine .inl ⟨k,?_⟩;have:y≠x:=λe=>hj (A0 hN e1 (e ▸ hi))
     simp[this,e]
    ·exact .inr ⟨k,c,e,z.sameBut hs (iM y c e)⟩
  ·obtain⟨w',z⟩:=I.cell y c e;exact⟨w',z.sameBut hs (iM y c e)⟩
  ·obtain⟨e,n,ne,nf,d⟩:=I.pin p hp;exact⟨(hs.2 p.1 ne).trans e,n,ne,nf,d⟩
 ·have O8:X.fn x=true:=by
   rcases hf with z|z
   ·exact z
   ·rw[z]at hk;cases hk
  obtain⟨c,hc⟩:=I.ok.has x (.inl hk);obtain⟨w',z⟩:=I.cell x c hc;refine wpAny_storeName_cell I.ok.kind hk hc z (λh' vt hs=>?_);obtain⟨oc,Vl,Yz⟩:=id z;refine h { s with heap:=h' } ⟨I.ok,I.os,I.bare,⟨λb o e n hb hx=>?_,λb o e n hb hx=>?_,I.base.free,λb o e hx=>?_,I.base.iK,I.base.gW,I.base.iL⟩,⟨m,hn.sameBut hs (afe (iM x c hc)),λj y v' e1 e2 e3=>?_⟩,λy c' e=>?_,I.free,I.fw,λp hp=>?_,tracked ⟨oc,Vl,I.fw x c hc⟩ hs,by simpa using I.len⟩ ⟨c,hs,.inr hc⟩
  ·exact(hs.2 b (aen (aev (aeh e) (I.ok.xk x c O8 hc)))).trans (I.base.keep b o e n hb hx)
  ·obtain⟨sl,e1⟩:=I.base.slot b o e n hb hx;exact⟨sl,(hs.2 b (aen (aev (aeh e) (I.ok.xk x c O8 hc)))).trans e1⟩
  ·obtain⟨o',e1⟩:=I.base.there b o e hx;exact⟨o',(hs.2 b (aen (aev (aeh e) (I.ok.xk x c O8 hc)))).trans e1⟩
  ·by_cases hj:j=i
   ·subst hj;rw[hi]at e1;cases e1;rw[aeH O6]at e2;cases e2;exact⟨u,r,.inr ⟨.inl hk,c,hc,vt⟩⟩
   ·rw[ae3 (afe hj)]at e2;obtain⟨u',r',q⟩:=hl j y v' e1 e2 e3;refine⟨u',r',?_⟩;rcases q with q|⟨k,c',e,z'⟩
    ·exact .inl q
    ·refine .inr ⟨k,c',e,z'.sameBut hs ?_⟩;rintro rfl;exact hj (A0 hN e1 (I.ok.inj _ _ _ e hc ▸ hi))
  ·by_cases Vm:c'=c
   ·subst Vm;exact⟨_,vt⟩
   ·obtain⟨w2,z2⟩:=I.cell y c' e;exact⟨w2,z2.sameBut hs Vm⟩
  ·obtain⟨e,n,ne,nf,d⟩:=I.pin p hp;refine⟨(hs.2 p.1 ?_).trans e,n,ne,nf,d⟩;intro q;rw[q,Vl]at e;have q':oc=p.2:=Option.some.inj e;exact d w' (by rw[←q'];exact Yz)
theorem A1 {M:Model}{A:Around}{E:Value->Shared->Prop}{i:Nat}{x:Str}{v:V}{u:Value}{Q:Unit->Shared->Prop}(I:Inv X pins σ H s)(hN:X.N.Nodup)(hi:X.N[i]?=some x)(hx:Loc X.env.scope x)(r:RelV v u)
 (h:∀s',Inv X pins (σ.set i (some v)) H s'->Q () s') (hf:X.fn x=true\/X.env.scope.names.lookup x=some .local:=by first|exact .inl rfl|exact .inr rfl|assumption):wpAny M A (storeName X.env x u) Q E s:=
 tI I hN hi hx r (λs' I' _=>h s' I') hf
theorem Inv.Az {s':Shared}{ch:List Addr}(I:Inv X pins σ H s)(ho:s'.os=s.os)(u:Un (ik X.stack) ch H H' s.heap s'.heap)(aO:dS X.prog X.w H' s'.heap)(hg:AllBare s'.gens)
 (vq:∀b∈ch,(b∈X.ex\/X.dG.heap.objs.size<=b)/\b≠X.env.locals/\(∀x c,X.env.cells.lookup x=some c->c≠b)/\∀p∈X.pn++pins,p.1≠b):Inv X pins σ H' s':=by
 obtain⟨h',g',d',t',o'⟩:=s';have e:o'=s.os:=ho;subst e;exact I.call (g':=g') (t':=t') (d':=d') u aO hg vq
end
abbrev XK:=Value->Option Addr->Hp->Prop
abbrev St:=List (Option V)
abbrev VK:=V->Hp->Prop
abbrev TE:=St->Hp->VK->Prop
abbrev TT:=St->Hp->(Bool->Hp->Prop)->Prop
abbrev TA:=St->Hp->(List V->Hp->Prop)->Prop
structure Ends where
 nx:St->Hp->Prop
 rt:VK
 bk:St->Hp->Prop:=λ_ _=>False
 ct:St->Hp->Prop:=λ_ _=>False
abbrev TS:=Ends->St->Hp->Prop
def EP (X:Cx)(pins:List (Addr×Obj))(σ:St)(Q:VK)(u:Value)(s':Shared):Prop:=∃v H',Inv X pins σ H' s'/\RelV v u/\Q v H'
def TP (X:Cx)(pins:List (Addr×Obj))(σ:St)(Q:Bool->Hp->Prop)(b:Bool)(s':Shared):Prop:=∃H',Inv X pins σ H' s'/\Q b H'
def AP (X:Cx)(pins:List (Addr×Obj))(σ:St)(Q:List V->Hp->Prop)(us:List Value)(s':Shared):Prop:=∃vs H',Inv X pins σ H' s'/\Vals vs us/\Q vs H'
def SP (X:Cx)(pins:List (Addr×Obj))(D:Ends)(f:Flow)(s':Shared):Prop:=
 match f with
 |.next=>∃ aJ H',Inv X pins aJ H' s'/\D.nx aJ H'
 |.brk=>∃ aJ H',Inv X pins aJ H' s'/\D.bk aJ H'
 |.cont=>∃ aJ H',Inv X pins aJ H' s'/\D.ct aJ H'
 |.ret u=>∃v aJ H',Inv X pins aJ H' s'/\RelV v u/\D.rt v H'
def PE (X:Cx)(e:Expr)(t:TE):Prop:=
 ∀(pins:List (Addr×Obj)) (s:Shared) (σ:St) (H:Hp) (Q:VK),Inv X pins σ H s->t σ H Q->wpAny (model X.prog X.w) X.A (eval e X.env) (EP X pins σ Q) X.xe s
def PT (X:Cx)(e:Expr)(t:TT):Prop:=
 ∀(pins:List (Addr×Obj)) (s:Shared) (σ:St) (H:Hp) (Q:Bool->Hp->Prop),Inv X pins σ H s->t σ H Q->wpAny (model X.prog X.w) X.A (isTrue e X.env (eval e X.env)) (TP X pins σ Q) X.xe s
def PW (X:Cx)(e:Expr)(t:TT):Prop:=
 ∀(whole:Sem Value) (pins:List (Addr×Obj)) (s:Shared) (σ:St) (H:Hp) (Q:Bool->Hp->Prop),Inv X pins σ H s->t σ H Q->wpAny (model X.prog X.w) X.A (isTrue e X.env whole) (TP X pins σ Q) X.xe s
theorem PW.pt {X:Cx}{e:Expr}{t:TT}(h:PW X e t):PT X e t:=h _
def PA (X:Cx)(es:List Expr)(t:TA):Prop:=
 ∀(pos:Pos) (pins:List (Addr×Obj)) (s:Shared) (σ:St) (H:Hp) (Q:List V->Hp->Prop),Inv X pins σ H s->t σ H Q->wpAny (model X.prog X.w) X.A (spliced (backTo pos (starEach es X.env))) (AP X pins σ Q) X.xe s
def PS (X:Cx)(st:Stmt)(t:TS):Prop:=
 ∀(pins:List (Addr×Obj)) (s:Shared) (σ:St) (H:Hp) (D:Ends),Inv X pins σ H s->t D σ H->wpAny (model X.prog X.w) X.A (exec st X.env) (SP X pins D) X.xe s
def qJ (X:Cx)(st:List Stmt)(t:TS):Prop:=
 ∀(pins:List (Addr×Obj)) (s:Shared) (σ:St) (H:Hp) (D:Ends),Inv X pins σ H s->t D σ H->wpAny (model X.prog X.w) X.A (execs st X.env) (SP X pins D) X.xe s
theorem bh {α:Type}{t:Sem α}{Q Q':α->Shared->Prop}{M:Model}{A:Around}{E:Value->Shared->Prop}{s:Shared}(h:wpAny M A t Q E s)(hQ:∀a s,Q a s->Q' a s):wpAny M A t Q' E s:=afi h hQ λ_ _ x=>x
end L2
namespace L2
open PySem PySem.Spec PyProof.Rows
section
variable {X:Cx}
def O9 (i:Nat):TE:=λ σ H Q=>∃v,σ[i]?=some (some v)/\Q v H
def tC (v:V):TE:=λ_ H Q=>Q v H
theorem Pa {i:Nat}{x:Str}{pos:Pos}(hN:X.N[i]?=some x)(hv:OX X.env.scope x)(hd:(x==("__debug__":Str))=false:=by decide)(oq:(x==("__classdict__":Str))=false:=by decide):PE X (.Name x pos) (O9 i):=by
 intro pins s σ H Q I h;obtain⟨v,e,h⟩:=h;obtain⟨m,hn,hl⟩:=I.loc;obtain⟨u,r,l⟩:=hl i x v hN e hv;have fin:EP X pins σ Q u s:=⟨v,H,I,r,h⟩;rcases l with ⟨hk,hm⟩|⟨hk,c,hc,mG⟩
 ·exact wpAny_Name (wpAny_loadName_local I.ok.kind hk hn hm fin) hd
 ·rcases hk with hk|hk
  ·exact wpAny_Name (wpAny_loadName_cell I.ok.kind hk hc mG fin) hd
  ·exact wpAny_Name (wpAny_loadName_free I.ok.kind hk hc mG fin oq) hd
theorem aB {i j pos}:PE X (.Constant (.int i) j pos) (tC (.int i)):=λ_ _ _ H _ I h=>wpAny_Constant_int ⟨.int i,H,I.tok _,⟨_,rfl⟩,h⟩
theorem uQ {b j pos}:PE X (.Constant (.bool b) j pos) (tC (.bl b)):=λ_ _ _ H _ I h=>Constant_bool ⟨.bl b,H,I,rfl,h⟩
theorem iN {j pos}:PE X (.Constant .none j pos) (tC .non):=λ_ _ _ H _ I h=>Constant_none ⟨.non,H,I,rfl,h⟩
theorem Pb {x j pos}:PE X (.Constant (.str x) j pos) (tC (.str x)):=λ_ _ _ H _ I h=>Calls.Constant_str ⟨.str x,H,I.tok _,⟨_,rfl⟩,h⟩
def Gl (X:Cx)(x:Str):Prop:=X.env.kindOf x=some .globalImplicit
theorem Ef {E:Value->Shared->Prop}{pins:List (Addr×Obj)}{s:Shared}{σ:St}{H:Hp}{x:Str}{u:Value}{pos:Pos}{Q:Value->Shared->Prop}(I:Inv X pins σ H s)(hg:Gl X x)(hm:X.mg x=some u)(h:Q u s)
 (hd:(x==("__debug__":Str))=false:=by decide):wpAny (model X.prog X.w) X.A (eval (.Name x pos) X.env) Q E s:=
 Calls.Name_function_global I.ok.kind hg (Calls.loadGlobal_global (by rw[I.ok.glob];exact I.mod.glob.keeps I.bk) hm h) hd
theorem ky {E:Value->Shared->Prop}{pins:List (Addr×Obj)}{s:Shared}{σ:St}{H:Hp}{x:Str}{u:Value}{pos:Pos}{Q:Value->Shared->Prop}(I:Inv X pins σ H s)(hg:Gl X x)(hm:X.mg x=none)(hv:bootBuiltins x=some u)(h:Q u s)
 (hn:x≠"__name__":=by decide) (hd:(x==("__debug__":Str))=false:=by decide):wpAny (model X.prog X.w) X.A (eval (.Name x pos) X.env) Q E s:=by
 obtain⟨mb,h1,h2⟩:=I.mod.blt;exact Calls.Name_function_global I.ok.kind hg (Calls.loadGlobal_builtin (by rw[I.ok.glob];exact I.mod.glob.keeps I.bk) hm (by rw[I.ok.blt];exact h1.keeps I.bk) ((h2 x hn).trans hv) h) hd
theorem gu {x:Str}{v:V}{u:Value}{pos:Pos}(hg:Gl X x)(hm:X.mg x=none)(hv:bootBuiltins x=some u)(r:RelV v u)(hn:x≠"__name__":=by decide)(hd:(x==("__debug__":Str))=false:=by decide):PE X (.Name x pos) (tC v):=
 λ_ _ _ H _ I h=>ky I hg hm hv ⟨v,H,I,r,h⟩ hn hd
variable {a b:Expr} {ta tb:TE} {pos:Pos}
def tB (t:TE):TT:=λ σ H Q=>t σ H λx H1=>∃c,x=.bl c/\Q c H1
theorem eQ {e:Expr}{t:TE}(h:PE X e t)(he:∀whole,isTrue e X.env whole=(do let v ←whole;standAt e.pos;holding [v] (truthy v)):=by intro _;rfl):PT X e (tB t):=by
 intro pins s σ H Q I hw;refine isTrue_plain (bh (h pins s σ H _ I hw) λv s1 ⟨x,H1,I1,r1,q1⟩=>?_) (he _);obtain⟨d,rfl,q⟩:=q1;cases r1;exact agy ⟨H1,I1,q⟩
variable {tA Lj:TT} {rest:List Expr}
def YB (t u:TT):TT:=λ σ H Q=>t σ H λc H1=>if c=true then u σ H1 Q else Q false H1
def ZZ (t u:TT):TT:=λ σ H Q=>t σ H λc H1=>if c=true then Q true H1 else u σ H1 Q
def YC (t:TT):TT:=λ σ H Q=>t σ H λc H1=>Q (!c) H1
theorem qK (ha:PT X a tA):PW X (.BoolOp .And [a] pos) tA:=by
 intro wh pins s σ H Q I h;refine isTrue_and (bh (ha pins s σ H Q I h) λc s1 e=>?_)
 cases c with
 |true=>exact isTrue_and_nil e
 |false=>exact e
theorem A2 (ha:PT X a tA):PW X (.BoolOp .Or [a] pos) tA:=by
 intro wh pins s σ H Q I h;refine isTrue_or (bh (ha pins s σ H Q I h) λc s1 e=>?_)
 cases c with
 |false=>exact isTrue_or_nil e
 |true=>exact e
theorem tJ (ha:PT X a tA)(hb:PW X (.BoolOp .And (b::rest) pos) Lj):PW X (.BoolOp .And (a::b::rest) pos) (YB tA Lj):=by
 intro wh pins s σ H Q I h;refine isTrue_and (bh (ha pins s σ H _ I h) λc s1 ⟨H1,I1,q1⟩=>?_)
 cases c with
 |true=>exact hb wh pins s1 σ H1 Q I1 q1
 |false=>exact⟨H1,I1,q1⟩
theorem AB (ha:PT X a tA)(hb:PW X (.BoolOp .Or (b::rest) pos) Lj):PW X (.BoolOp .Or (a::b::rest) pos) (ZZ tA Lj):=by
 intro wh pins s σ H Q I h;refine isTrue_or (bh (ha pins s σ H _ I h) λc s1 ⟨H1,I1,q1⟩=>?_)
 cases c with
 |true=>exact⟨H1,I1,q1⟩
 |false=>exact hb wh pins s1 σ H1 Q I1 q1
theorem A3 (ha:PT X a tA):PT X (.UnaryOp .Not a pos) (YC tA):=by
 intro pins s σ H Q I h;exact isTrue_not (ha pins s σ H (λc H1=>Q (!c) H1) I h)
def Uc (ta tb:TE):TE:=λ σ H Q=>ta σ H λx H1=>∃c,x=.bl c/\if c=true then tb σ H1 Q else Q (.bl false) H1
def Ud (ta:TE):TE:=λ σ H Q=>ta σ H λx H1=>∃c,x=.bl c/\Q (.bl (!c)) H1
theorem GU {op}{t:TE}(h:PE X a t):PE X (.BoolOp op [a] pos) t:=λpins s σ H Q I hw=>BoolOp_one (h pins s σ H Q I hw)
theorem GV (ha:PE X a ta)(hb:PE X (.BoolOp .And (b::rest) pos) tb):PE X (.BoolOp .And (a::b::rest) pos) (Uc ta tb):=by
 intro pins s σ H Q I h;refine BoolOp_and (bh (ha pins s σ H _ I h) λv s1 ⟨x,H1,I1,r1,q1⟩=>?_);obtain⟨c,rfl,q1⟩:=q1;cases r1;refine agy ?_
 cases c with
 |true=>exact hb pins s1 σ H1 Q I1 q1
 |false=>exact⟨.bl false,H1,I1,rfl,q1⟩
theorem Pg (ha:PE X a ta):PE X (.UnaryOp .Not a pos) (Ud ta):=by
 intro pins s σ H Q I h;refine UnaryOp_ (bh (ha pins s σ H _ I h) λv s1 ⟨x,H1,I1,r1,q1⟩=>?_);obtain⟨c,rfl,q1⟩:=q1;cases r1;exact not_of (agy ⟨.bl (!c),H1,I1,rfl,q1⟩)
end
end L2
namespace L2
open PySem PySem.Spec PyProof.Rows
def aI (K:PySem.W.Frag)(H:Hp)(a:Addr)(xs:List V):Prop:=
 Rd H a (.lst xs)\/
  ∃(o:Obj) (its:Array Value) (n:Nat),K.lookup a=some o/\o.cls=.type "list"/\o.dict=none/\o.data=.seq its n/\its.size<=sizeLine/\Vals xs its.toList
def bV (K:PySem.W.Frag)(H:Hp)(a:Addr)(xs:List V):Prop:=
 Rd H a (.tup xs)\/
  ∃(o:Obj) (its:Array Value) (n:Nat),K.lookup a=some o/\o.cls=.type "tuple"/\o.data=.seq its n/\its.size<=sizeLine/\Vals xs its.toList
def YD:Value->Option V
 |.none=>some .non
 |.bool b=>some (.bl b)
 |.int i _=>some (.int i)
 |.str x _=>some (.str x)
 |.bytes b _=>some (.pQ b)
 |.float b _=>some (.AX b)
 |.ref a=>some (.ref a)
 |.type n=>some (.ty n)
 |_=>none
theorem RelV.abs {x:V}{u:Value}(r:RelV x u):YD u=some x:=by
 cases x with
 |non=>cases r;rfl
 |bl _=>cases r;rfl
 |int _=>obtain⟨t,rfl⟩:=r;rfl
 |str _=>obtain⟨t,rfl⟩:=r;rfl
 |pQ _=>obtain⟨t,rfl⟩:=r;rfl
 |AX _=>obtain⟨t,rfl⟩:=r;rfl
 |ref _=>cases r;rfl
 |ty _=>cases r;rfl
theorem RelV.inj {x y:V}{u:Value}(r:RelV x u)(q:RelV y u):x=y:=Option.some.inj (r.abs.symm.trans q.abs)
theorem Vals.inj:∀{xs ys:List V} {us:List Value},Vals xs us->Vals ys us->xs=ys
 |_,_,_,.nil,.nil=>rfl
 |_,_,_,.cons r t,.cons r' t'=>by rw[r.inj r',Vals.inj t t']
section
variable {X:Cx} {pins:List (Addr×Obj)} {σ:St} {H:Hp} {s:Shared} {a:Addr} {xs ys:List V}
theorem aI.of {K:PySem.W.Frag}(h:H a=some (.lst xs)):aI K H a xs:=.inl (.inl h)
theorem bV.of {K:PySem.W.Frag}(h:H a=some (.tup xs)):bV K H a xs:=.inl (.inl h)
theorem Inv.list (I:Inv X pins σ H s)(h:aI X.K H a xs):∃its:List Value,Vals xs its/\PlainL s.heap a its.toArray/\xs.length<=sizeLine:=by
 rcases h with h|⟨o,its,n,hk,hc,hd,hs,hz,r⟩
 ·obtain⟨z,its,n,r,e⟩:=h.ok I.aO;exact⟨its,r,⟨_,n,e,rfl,rfl,rfl⟩,z⟩
 ·refine⟨its.toList,r,⟨o,n,I.ip a o hk,hc,hd,by simpa using hs⟩,?_⟩;have e:=r.length;simp only[agg]at e;omega
theorem Inv.tuple (I:Inv X pins σ H s)(h:bV X.K H a xs):∃its:List Value,Vals xs its/\IsTup s.heap a its.toArray/\xs.length<=sizeLine:=by
 rcases h with h|⟨o,its,n,hk,hc,hs,hz,r⟩
 ·obtain⟨z,its,r,p⟩:=h.ok I.aO;exact⟨its,r,p,z⟩
 ·refine⟨its.toList,r,⟨o,I.ip a o hk,hc,n,by simpa using hs⟩,?_⟩;have e:=r.length;simp only[agg]at e;omega
theorem Inv.vS (I:Inv X pins σ H s)(h:aI X.K H a xs)(h':aI X.K H a ys):xs=ys:=by
 obtain⟨its,r,⟨o,n,e,_,_,d⟩,_⟩:=I.list h;obtain⟨its',r',⟨o',n',e',_,_,d'⟩,_⟩:=I.list h';rw[e]at e';cases e';rw[d]at d';injection d' with d1 _
 have:its=its':=by simpa using afh Array.toList d1
 subst this;exact r.inj r'
theorem Inv.GW (I:Inv X pins σ H s)(h:bV X.K H a xs)(h':bV X.K H a ys):xs=ys:=by
 obtain⟨its,r,⟨o,e,_,n,d⟩,_⟩:=I.tuple h;obtain⟨its',r',⟨o',e',_,n',d'⟩,_⟩:=I.tuple h';rw[e]at e';cases e';rw[d]at d';injection d' with d1 _
 have:its=its':=by simpa using afh Array.toList d1
 subst this;exact r.inj r'
end
abbrev Cx.wish (X:Cx) (E:Value->Shared->Prop):Cx:={ X with xe:=E }
abbrev Cx.GX (X:Cx):Cx:=X.wish λ_ _=>False
theorem Cx.Ok.wish {X:Cx}(ok:X.Ok)(E:Value->Shared->Prop):(X.wish E).Ok:=
 ⟨ok.mod,ok.kind,ok.glob,ok.blt,ok.above,ok.inj,ok.has,ok.xk,ok.hd,ok.frames,ok.zo,ok.Ee,ok.bs,ok.om,ok.mY,ok.tG,ok.jv,ok.tH⟩
theorem Cx.Ok.mM {X:Cx}{E:Value->Shared->Prop}(ok:(X.wish E).Ok):X.Ok:=
 ⟨ok.mod,ok.kind,ok.glob,ok.blt,ok.above,ok.inj,ok.has,ok.xk,ok.hd,ok.frames,ok.zo,ok.Ee,ok.bs,ok.om,ok.mY,ok.tG,ok.jv,ok.tH⟩
section
variable {X:Cx} {pins:List (Addr×Obj)} {σ:St} {H:Hp} {s:Shared} {E:Value->Shared->Prop}
theorem Inv.wish (I:Inv X pins σ H s)(E:Value->Shared->Prop):Inv (X.wish E) pins σ H s:=⟨I.ok.wish E,I.os,I.bare,I.base,I.loc,I.cell,I.free,I.fw,I.pin,I.aO,I.len⟩
theorem Inv.mM (I:Inv (X.wish E) pins σ H s):Inv X pins σ H s:=⟨I.ok.mM,I.os,I.bare,I.base,I.loc,I.cell,I.free,I.fw,I.pin,I.aO,I.len⟩
theorem SP.mM {D:Ends}{f:Flow}{s':Shared}(h:SP (X.wish E) pins D f s'):SP X pins D f s':=by
 cases f with
 |next=>obtain⟨aJ,H',I,q⟩:=h;exact⟨aJ,H',I.mM,q⟩
 |brk=>obtain⟨aJ,H',I,q⟩:=h;exact⟨aJ,H',I.mM,q⟩
 |cont=>obtain⟨aJ,H',I,q⟩:=h;exact⟨aJ,H',I.mM,q⟩
 |ret u=>obtain⟨v,aJ,H',I,r,q⟩:=h;exact⟨v,aJ,H',I.mM,r,q⟩
theorem qJ.GX {st:List Stmt}{t:TS}(h:qJ X.GX st t):qJ X st t:=λpins s σ H D I hw=>
 afi (h pins s σ H D (I.wish _) hw) (λ_ _ q=>q.mM) λ_ _ z=>False.elim z
end
section
variable {X:Cx} {st:Stmt} {rest:List Stmt} {t u:TS} {e:Expr} {te:TE} {pos:Pos}
def Ue:TS:=λD σ H=>D.nx σ H
def aT (t u:TS):TS:=λD σ H=>t { D with nx:=u D } σ H
theorem bB:qJ X [] Ue:=λ_ _ σ H _ I h=>wpAny_execs_nil ⟨σ,H,I,h⟩
theorem ai (h1:PS X st t)(h2:qJ X rest u):qJ X (st::rest) (aT t u):=by
 intro pins s σ H D I h;refine wpAny_execs_cons (bh (h1 pins s σ H { D with nx:=u D } I h) λf s1 q=>?_)
 cases f with
 |next=>
  obtain⟨aJ,H',I',q⟩:=q;exact h2 pins s1 aJ H' D I' q
 |ret v=>exact q
 |brk=>exact q
 |cont=>exact q
theorem aw (h1:PS X st t):qJ X [st] t:=by
 intro pins s σ H D I h;refine wpAny_execs_cons (bh (h1 pins s σ H D I h) λf s1 q=>?_)
 cases f with
 |next=>exact wpAny_execs_nil q
 |ret v=>exact q
 |brk=>exact q
 |cont=>exact q
def Ph:TS:=λD σ H=>D.bk σ H
def Ug:TS:=λD σ H=>D.ct σ H
theorem vT:PS X (.Break pos) Ph:=λ_ _ σ H _ I h=>wpAny_Break ⟨σ,H,I,h⟩
theorem DQ:PS X (.Continue pos) Ug:=λ_ _ σ H _ I h=>wpAny_Continue ⟨σ,H,I,h⟩
theorem Inv.quiet {pins:List (Addr×Obj)}{σ:St}{H:Hp}{s:Shared}(I:Inv X pins σ H s):interactive X.env=false:=by simp[interactive,I.ok.kind]
def Uh (te:TE):TS:=λD σ H=>te σ H λ_ H1=>D.nx σ H1
theorem aX (he:PE X e te)(hs:swapsWith e none pos.line X.env=pure false:=by rfl):PS X (.Expr e pos) (Uh te):=by
 intro pins s σ H D I h;exact wpAny_Expr_any (bh (he pins s σ H _ I h) λv s1 ⟨x,H1,I1,r1,q1⟩=>⟨σ,H1,I1,q1⟩) I.quiet hs
def YF (te:TE):TS:=λD σ H=>te σ H D.rt
theorem bM (he:PE X e te):PS X (.Return (some e) pos) (YF te):=by
 intro pins s σ H D I h;exact wpAny_Return_some (bh (he pins s σ H _ I h) λv s1 ⟨x,H1,I1,r1,q1⟩=>⟨x,σ,H1,I1,r1,q1⟩)
def Ui:TS:=λD _ H=>D.rt .non H
theorem yH:PS X (.Return none pos) Ui:=λ_ _ σ H _ I h=>wpAny_Return_none ⟨.non,σ,H,I,rfl,h⟩
def YG (c:TT)(t u:TS):TS:=λD σ H=>c σ H λb H1=>if b=true then t D σ H1 else u D σ H1
theorem bU {c:Expr}{a b:List Stmt}{tc:TT}(hc:PT X c tc)(ha:qJ X a t)(hb:qJ X b u):PS X (.If c a b pos) (YG tc t u):=by
 intro pins s σ H D I h;refine wpAny_If (bh (hc pins s σ H _ I h) λd s1 ⟨H1,I1,q1⟩=>?_)
 cases d with
 |true=>exact ha pins s1 σ H1 D I1 q1
 |false=>exact hb pins s1 σ H1 D I1 q1
end
abbrev TG:=V->St->Hp->(St->Hp->Prop)->Prop
abbrev A4:=List V->St->Hp->(St->Hp->Prop)->Prop
def PG (X:Cx)(target:Expr)(t:TG):Prop:=
 ∀(pins:List (Addr×Obj)) (s:Shared) (σ:St) (H:Hp) (v:V) (u:Value) (Q:St->Hp->Prop),Inv X pins σ H s->RelV v u->t v σ H Q->
  wpAny (model X.prog X.w) X.A (assign target X.env u) (λ_ s'=>∃ aJ H',Inv X pins aJ H' s'/\Q aJ H') X.xe s
def Lk (X:Cx)(ts:List Expr)(t:A4):Prop:=
 ∀(pins:List (Addr×Obj)) (s:Shared) (σ:St) (H:Hp) (vs:List V) (us:List Value) (Q:St->Hp->Prop),Inv X pins σ H s->Vals vs us->t vs σ H Q->
  wpAny (model X.prog X.w) X.A (assignInOrder ((assignEach ts X.env).map (·.2)) us) (λ_ s'=>∃ aJ H',Inv X pins aJ H' s'/\Q aJ H') X.xe s
abbrev JC:=V->V->V->Hp->(Hp->Prop)->Prop
def Pj (X:Cx)(t:JC):Prop:=
 ∀(pins:List (Addr×Obj)) (s:Shared) (σ:St) (H:Hp) (o i v:V) (ov iv u:Value) (Q:Hp->Prop),Inv X pins σ H s->RelV o ov->RelV i iv->RelV v u->t o i v H Q->
  wpAny (model X.prog X.w) X.A (setItem ov iv u) (λ_ s'=>∃H',Inv X pins σ H' s'/\Q H') X.xe s
section
variable {X:Cx} {pos:Pos}
def dE (i:Nat):TG:=λv σ H Q=>Q (σ.set i (some v)) H
theorem bN {i:Nat}{x:Str}(hN:X.N.Nodup)(hi:X.N[i]?=some x)(hx:Loc X.env.scope x)(hf:X.fn x=true\/X.env.scope.names.lookup x=some .local:=by first|exact .inl rfl|exact .inr rfl|assumption):PG X (.Name x pos) (dE i):=by
 intro pins s σ H v u Q I r h;exact wpAny_assign_Name (A1 I hN hi hx r (λs' I'=>⟨_,H,I',h⟩) hf)
def YH:A4:=λvs σ H Q=>vs=[]/\Q σ H
def Uj (t:TG)(u:A4):A4:=λvs σ H Q=>∃v r,vs=v::r/\t v σ H λ aJ H'=>u r aJ H' Q
theorem qL:Lk X [] YH:=by
 intro pins s σ H vs us Q I r h;obtain⟨e,h⟩:=h;subst e;cases r;exact assignInOrder_nil ⟨σ,H,I,h⟩
theorem dZ {e:Expr}{es:List Expr}{t:TG}{u:A4}(h1:PG X e t)(h2:Lk X es u)
 (hs:(assignEach (e::es) X.env).map (·.2)=assign e X.env::(assignEach es X.env).map (·.2):=by rfl):Lk X (e::es) (Uj t u):=by
 intro pins s σ H vs us Q I r h;obtain⟨v,vr,e1,h⟩:=h;subst e1
 cases r with
 |cons r rr=>
  rw[hs];refine assignInOrder_cons (bh (h1 pins s σ H _ _ _ I r h) λ_ s1 ⟨Eg,H1,I1,q1⟩=>?_);exact h2 pins s1 Eg H1 _ _ Q I1 rr q1
def YJ (K:PySem.W.Frag)(n:Nat)(t:A4):TG:=λv σ H Q=>∃a xs,v=.ref a/\bV K H a xs/\xs.length=n/\t xs σ H Q
theorem tK {es:List Expr}{k:Nat}{t:A4}{n:Nat}(hc:X.calm=true)(h:Lk X es t)
 (hn:(assignEach es X.env).length=n:=by rfl) (dF:(assignEach es X.env).findIdx? (·.1)=none:=by rfl):PG X (.Tuple es k pos) (YJ X.K n t):=by
 intro pins s σ H v u Q I r hw;obtain⟨a,xs,e1,hq,hl,hw⟩:=hw;subst e1;cases r;obtain⟨its,rv,ht,hz⟩:=I.tuple hq;refine assign_Tuple_tuple (I.ok.hd hc) ht (by simp[hn,←hl,rv.length]) dF λh' hx=>?_
 have I1:Inv X pins σ H { s with heap:=h' }:=I.kept (t':=s.toks) λb o e=>hx b o (aen (aeh e)) e
 exact h pins _ σ H xs _ Q I1 (by simpa using rv) hw
def YK (to ti:TE)(t:JC):TG:=λv σ H Q=>to σ H λo H1=>ti σ H1 λi H2=>t o i v H2 λH3=>Q σ H3
theorem xm {o i:Expr}{to ti:TE}{t:JC}(ho:PE X o to)(hi:PE X i ti)(hs:Pj X t)
 (ha:∀v,assign (.Subscript o i pos) X.env v=(do
  let ov ←holding [v] (eval o X.env)
  let iv ←holding [v,ov] (eval i X.env)
  standAt pos
  holding [v,ov,iv] (setItem ov iv v)
  release [v,ov,iv] []):=by intro _;rfl):PG X (.Subscript o i pos) (YK to ti t):=by
 intro pins s σ H v u Q I r h;rw[ha];refine adW (afC (bh (ho pins s σ H _ I h) λov s1 ⟨x,H1,I1,r1,q1⟩=>?_));refine adW (afC (bh (hi pins s1 σ H1 _ I1 q1) λiv s2 ⟨y,H2,I2,r2,q2⟩=>?_));refine adW (agR (adW (afC (bh (hs pins s2 σ H2 x y v ov iv u _ I2 r1 r2 r q2) λ_ s3 ⟨H3,I3,q3⟩=>?_))));exact wpAny_release ⟨σ,H3,I3,q3⟩
def FD (te:TE)(g:TG):TS:=λD σ H=>te σ H λx H1=>g x σ H1 D.nx
theorem tL {tg e:Expr}{te:TE}{g:TG}(he:PE X e te)(hg:PG X tg g)(hs:swapsWithSole [tg] e pos.line X.env=pure false:=by rfl)(hw:swappedStores [tg] e X.env=pure none:=by rfl)
 (h1:(assignEach [tg] X.env).map (·.2)=[assign tg X.env]:=by rfl):PS X (.Assign [tg] e pos) (FD te g):=by
 intro pins s σ H D I h;refine wpAny_Assign_stores (bh (he pins s σ H _ I h) λv s1 ⟨x,H1,I1,r1,q1⟩=>?_) hs hw;rw[h1];exact bh (hg pins s1 σ H1 x v _ I1 r1 q1) λ_ s2 q=>q
theorem aZ {i:Nat}{x:Str}{e:Expr}{te:TE}{pos':Pos}(hN:X.N.Nodup)(hi:X.N[i]?=some x)(hx:Loc X.env.scope x)(he:PE X e te)(hs:swapsWith e (some (.Name x pos')) pos.line X.env=pure false:=by rfl)(hf:X.fn x=true\/X.env.scope.names.lookup x=some .local:=by first|exact .inl rfl|exact .inr rfl|assumption):
 PS X (.Assign [.Name x pos'] e pos) (FD te (dE i)):=by
 intro pins s σ H D I h;refine wpAny_Assign_Name (bh (he pins s σ H _ I h) λv s1 ⟨y,H1,I1,r1,q1⟩=>?_) hs;exact A1 I1 hN hi hx r1 (λs2 I2=>⟨_,H1,I2,q1⟩) hf
end
section
variable {X:Cx} {pos:Pos}
def Pk (c:TT)(tb:TS):TS:=λD σ H=>∃W:Nat->St->Hp->Prop,(∃m,W m σ H)/\∀m σ H,W m σ H->
 c σ H λb H1=>if b=true then ∃N:St->Hp->Prop,(∀ aJ H',N aJ H'->∃m',m'<m/\W m' aJ H')/\tb { D with nx:=N,ct:=N,bk:=D.nx } σ H1 else D.nx σ H1
theorem jQ {c:Expr}{body:List Stmt}{tc:TT}{tb:TS}(hp:PassesOwn (model X.prog X.w) X.A X.env X.xe)(hc:PT X c tc)(hb:qJ X body tb):PS X (.While c body [] pos) (Pk tc tb):=by
 intro pins s σ H D I h;obtain⟨W,⟨m0,w0⟩,turn⟩:=h;refine wpAny_While (codeAny_whileLoop (λn s'=>∃ aJ H',Inv X pins aJ H' s'/\W n aJ H') ?_ m0 ⟨σ,H,I,w0⟩);rintro n s1 ⟨Eg,H1,I1,w1⟩;refine af6 hp (bh (hc pins s1 Eg H1 _ I1 (turn n Eg H1 w1)) λb s2 ⟨H2,I2,q2⟩=>?_)
 cases b with
 |true=>
  obtain⟨N,hN,q2⟩:=q2;rw[ael rfl];refine af6 hp (bh (hb pins s2 Eg H2 _ I2 q2) λf s3 q3=>?_)
  cases f with
  |next=>
   obtain⟨sN,H3,I3,n3⟩:=q3;obtain⟨m',hm,w3⟩:=hN sN H3 n3;exact⟨m',hm,sN,H3,I3,w3⟩
  |cont=>
   obtain⟨sN,H3,I3,n3⟩:=q3;obtain⟨m',hm,w3⟩:=hN sN H3 n3;exact⟨m',hm,sN,H3,I3,w3⟩
  |brk=>exact q3
  |ret v=>exact q3
 |false=>
  rw[aed aeE];exact wpAny_execs_nil ⟨Eg,H2,I2,q2⟩
end
structure It where
 go:Nat->Hp->Prop
 pS:Nat->Hp->V->Hp->Prop
 stop:Nat->Hp->Prop
def mZ (X:Cx)(pins:List (Addr×Obj))(H:Hp)(b:Addr):Prop:=
 H b=none/\b≠X.env.locals/\b∉X.fs/\(b∈X.ex\/X.dG.heap.objs.size<=b)/\(∀x c,X.env.cells.lookup x=some c->c≠b)/\∀p∈X.pn++pins,p.1≠b
theorem Inv.tM {X:Cx}{pins:List (Addr×Obj)}{σ:St}{H H':Hp}{s:Shared}{b:Addr}(I:Inv X pins σ H s)(hb:s.heap.objs.size<=b)(hn:H' b=none):mZ X pins H' b:=by
 refine⟨hn,afu (aev I.lt hb),I.AZ hb,.inr (aep I.sz hb),λx c e z=>?_,λp hp z=>?_⟩
 ·obtain⟨v,q⟩:=I.cell x c e;exact absurd (aev q.lt (by rw[z];exact hb)) (aeD _)
 ·exact absurd (aev (aeh (I.pin p hp).1) (by rw[z];exact hb)) (aeD _)
structure Turn (P:Program) (w:World) (K:PySem.W.Frag) (tg:Expr) (J:It) (fp:List Addr) (it:Addr) (tn:Nat->Heap->Prop):Prop where
 mem:it∈fp
 obj:∀i h,tn i h->∀b∈fp,∃o,h.get? b=some o/\∀v,o.data≠.cell v
 keep:∀i h h',tn i h->(∀b∈fp,∀o,h.get? b=some o->h'.get? b=some o)->tn i h'
 item:∀(X:Cx),X.prog=P->X.w=w->X.K=K->X.calm=true->∀(i:Nat) (pins:List (Addr×Obj)) (s:Shared) (σ:St) (H:Hp) (E:Value->Shared->Prop),Inv X pins σ H s->(∀b∈fp,mZ X pins H b)->tn i s.heap->J.go i H->
  wpAny (model P w) X.A (pyNext (.ref it)) (λr s1=>∃u,r=some u/\
   wpAny (model P w) X.A (letOwnedTupleGo tg (.ref it) u) (λ_ s2=>∃x H',Inv X pins σ H' s2/\RelV x u/\J.pS i H x H'/\tn (i+ 1) s2.heap/\∀b∈fp,H' b=none) E s1) E s
 done:∀(X:Cx),X.prog=P->X.w=w->X.K=K->X.calm=true->∀(i:Nat) (pins:List (Addr×Obj)) (s:Shared) (σ:St) (H:Hp) (E:Value->Shared->Prop),Inv X pins σ H s->(∀b∈fp,mZ X pins H b)->tn i s.heap->J.stop i H->
  wpAny (model P w) X.A (pyNext (.ref it)) (λr s1=>r=none/\Inv X pins σ H s1) E s
 self:∀(A:Around) (i:Nat) (s:Shared) (Q:Value->Shared->Prop) (E:Value->Shared->Prop),tn i s.heap->Q (.ref it) s->wpAny (model P w) A (pyIter (.ref it)) Q E s
abbrev TI:=St->Hp->(It->Hp->Prop)->Prop
def Vn (X:Cx)(pins:List (Addr×Obj))(σ:St)(tg:Expr)(R:It->Hp->Prop)(Eh:Value)(s2:Shared):Prop:=
 ∃(it:Addr) (fp:List Addr) (tn:Nat->Heap->Prop) (J:It) (H':Hp),Eh=.ref it/\Inv X pins σ H' s2/\Turn X.prog X.w X.K tg J fp it tn/\tn 0 s2.heap/\(∀b∈fp,mZ X pins H' b)/\R J H'
def PI (X:Cx)(tg iter:Expr)(wi:TI):Prop:=
 ∀(pins:List (Addr×Obj)) (s:Shared) (σ:St) (H:Hp) (R:It->Hp->Prop),Inv X pins σ H s->wi σ H R->
  wpAny (model X.prog X.w) X.A (eval iter X.env) (λv s1=>wpAny (model X.prog X.w) X.A (pyIter v) (Vn X pins σ tg R) X.xe s1) X.xe s
theorem FE {M:Model}{A:Around}{E:Value->Shared->Prop}{s:Shared}{tg:Expr}{it:Addr}{u:Value}{o:Obj}{n:String}{vs:Array Value}{Q:Unit->Shared->Prop}(ho:s.heap.get? it=some o)(hc:o.cls=.type n)(hd:o.data=.fields vs)
 (hn:["enumerate","zip","dict_itemiterator","dict_reverseitemiterator","odict_iterator","itertools.zip_longest","itertools.pairwise"].contains n=false) (hQ:Q () s):wpAny M A (letOwnedTupleGo tg (.ref it) u) Q E s:=by
 unfold letOwnedTupleGo
 cases tg <;> first
  |exact ad8 hQ
  |(cases u <;> first
   |exact ad8 hQ
   |(refine adW (wpAny_load ho ?_)
     rw[hc,hd];show wpAny M A (if (["enumerate","zip","dict_itemiterator","dict_reverseitemiterator","odict_iterator","itertools.zip_longest","itertools.pairwise"].contains n && vs[0]?==some (rawInt _))=true then _ else _) Q E s;rw[aed (by intro h;rw[hn,Bool.false_and]at h;cases h)];exact ad8 hQ))
def xn (K:PySem.W.Frag)(a:Addr):It:=
 ⟨λi H=>∃xs x,aI K H a xs/\xs[i]?=some x,λi H x H'=>H'=H/\∀xs,aI K H a xs->xs[i]?=some x,λi H=>∃xs,aI K H a xs/\xs.length<=i⟩
def zq (K:PySem.W.Frag)(a:Addr):It:=
 ⟨λi H=>∃xs x,bV K H a xs/\xs[i]?=some x,λi H x H'=>H'=H/\∀xs,bV K H a xs->xs[i]?=some x,λi H=>∃xs,bV K H a xs/\xs.length<=i⟩
def xo (lo:Int)(n:Nat):It:=⟨λi _=>i<n,λi H x H'=>H'=H/\x=.int (lo+ i),λi _=>n<=i⟩
theorem GY {P:Program}{w:World}{K:PySem.W.Frag}{tg:Expr}(a it:Addr):Turn P w K tg (xn K a) [it] it (λi h=>h.IsListIter it a i) where
 mem:=by simp
 obj:=λi h st b hb=>by
  have e:b=it:=by simpa using hb
  subst e;obtain⟨o,e,c,d⟩:=st;exact⟨o,e,λv z=>by rw[d]at z;cases z⟩
 keep:=λi h h' st k=>st.at λo e=>k it (by simp) o e
 item:=by
  intro X hP hw hK hc i pins s σ H E I hf st hg;subst hP hw hK;obtain⟨xs,x,hq,hx⟩:=hg;obtain⟨its,rv,p,hz⟩:=I.list hq;obtain⟨u,hu,ru⟩:=rv.get hx;obtain⟨f0,f1,f2,f3,f4,f5⟩:=hf it (by simp);refine wpAny_pyNext_list_item st p.isList (x:=u) (by simpa using hu) λh' zr sb=>?_
  have I1:Inv X pins σ H { s with heap:=h' }:=I.turned (t':=s.toks) (λb o hb e=>(sb.2 b hb).trans e) f0 f1 f3 f4 f5;obtain⟨o,e,c,d⟩:=id zr;exact⟨u,rfl,FE (s:={ s with heap:=h' }) e c d (by decide) ⟨x,H,I1,ru,⟨rfl,λys hy=>by rw[I.vS hy hq];exact hx⟩,zr,λb hb=>(hf b hb).1⟩⟩
 done:=by
  intro X hP hw hK hc i pins s σ H E I hf st hg;subst hP hw hK;obtain⟨xs,hq,hx⟩:=hg;obtain⟨its,rv,p,hz⟩:=I.list hq;obtain⟨f0,f1,f2,f3,f4,f5⟩:=hf it (by simp);have hl:=rv.length;exact wpAny_pyNext_list_end (I.ok.hd hc) st p.isList (by simp;omega) λh' eb=>⟨rfl,I.turned (t':=s.toks) (λb o hb e=>eb b o hb e) f0 f1 f3 f4 f5⟩
 self:=λ_ _ _ _ _ st h=>wpAny_pyIter_listiter st h
theorem FG {P:Program}{w:World}{K:PySem.W.Frag}{tg:Expr}(a it:Addr):Turn P w K tg (zq K a) [it] it (λi h=>h.IsTupleIter it a i) where
 mem:=by simp
 obj:=λi h st b hb=>by
  have e:b=it:=by simpa using hb
  subst e;obtain⟨o,e,c,d⟩:=st;exact⟨o,e,λv z=>by rw[d]at z;cases z⟩
 keep:=λi h h' st k=>st.at λo e=>k it (by simp) o e
 item:=by
  intro X hP hw hK hc i pins s σ H E I hf st hg;subst hP hw hK;obtain⟨xs,x,hq,hx⟩:=hg;obtain⟨its,rv,p,hz⟩:=I.tuple hq;obtain⟨u,hu,ru⟩:=rv.get hx;obtain⟨f0,f1,f2,f3,f4,f5⟩:=hf it (by simp);refine wpAny_pyNext_tuple_item st (show s.heap.IsTuple a its.toArray from p) (x:=u) (by simpa using hu) λh' zr sb=>?_
  have I1:Inv X pins σ H { s with heap:=h' }:=I.turned (t':=s.toks) (λb o hb e=>(sb.2 b hb).trans e) f0 f1 f3 f4 f5;obtain⟨o,e,c,d⟩:=id zr;exact⟨u,rfl,FE (s:={ s with heap:=h' }) e c d (by decide) ⟨x,H,I1,ru,⟨rfl,λys hy=>by rw[I.GW hy hq];exact hx⟩,zr,λb hb=>(hf b hb).1⟩⟩
 done:=by
  intro X hP hw hK hc i pins s σ H E I hf st hg;subst hP hw hK;obtain⟨xs,hq,hx⟩:=hg;obtain⟨its,rv,p,hz⟩:=I.tuple hq;obtain⟨f0,f1,f2,f3,f4,f5⟩:=hf it (by simp);have hl:=rv.length;exact wpAny_pyNext_tuple_end (I.ok.hd hc) st (show s.heap.IsTuple a its.toArray from p) (by simp;omega) λh' eb=>⟨rfl,I.turned (t':=s.toks) (λb o hb e=>eb b o hb e) f0 f1 f3 f4 f5⟩
 self:=λ_ _ _ _ _ st h=>wpAny_pyIter_tupleiter st h
theorem FH {P:Program}{w:World}{K:PySem.W.Frag}{tg:Expr}(it:Addr)(lo:Int)(n:Nat):Turn P w K tg (xo lo n) [it] it (λi h=>IsRangeIter h it (lo+ (i:Nat)* 1) ((n:Int) - (i:Nat)) 1) where
 mem:=by simp
 obj:=λi h st b hb=>by
  have e:b=it:=by simpa using hb
  subst e
  exact⟨_,st,λv z=>by
   have z':Data.fields _=Data.cell v:=z;cases z'⟩
 keep:=λi h h' st k=>k it (by simp) _ st
 item:=by
  intro X hP hw hK hc i pins s σ H E I hf st hg;subst hP hw hK;obtain⟨f0,f1,f2,f3,f4,f5⟩:=hf it (by simp);have W:=Walks.range (prog:=X.prog) (w:=X.w) (I.ok.hd hc) it lo 1 n;refine W.item i s _ _ hg st λv h' tk hv zr kk=>?_
  obtain⟨t,rfl⟩:=hv;have I1:Inv X pins σ H { s with heap:=h',toks:=tk }:=I.turned (λb o hb e=>kk b o (by simpa using hb) e) f0 f1 f3 f4 f5;refine⟨_,rfl,FE (s:={ s with heap:=h',toks:=tk }) (n:="range_iterator") zr rfl rfl (by decide) ⟨.int (lo+ i),H,I1,⟨t,?_⟩,⟨rfl,rfl⟩,zr,λb hb=>(hf b hb).1⟩⟩;rw[Int.mul_one]
 done:=by
  intro X hP hw hK hc i pins s σ H E I hf st hg;subst hP hw hK;obtain⟨f0,f1,f2,f3,f4,f5⟩:=hf it (by simp);exact wpAny_pyNext_range_end (I.ok.hd hc) st (by have:n<=i:=hg;omega) λh' eb=>⟨rfl,I.turned (t':=s.toks) (λb o hb e=>eb b o hb e) f0 f1 f3 f4 f5⟩
 self:=λ_ _ _ _ _ st h=>wpAny_pyIter_rangeiter st h
end L2
namespace L2
open PySem PySem.Spec PyProof.Rows
section
variable {X:Cx} {tg:Expr}
def Uk (K:PySem.W.Frag)(tl:TE):TI:=λ σ H R=>tl σ H λx H1=>∃a,x=.ref a/\(∃xs,aI K H1 a xs)/\R (xn K a) H1
def YL (K:PySem.W.Frag)(tl:TE):TI:=λ σ H R=>tl σ H λx H1=>∃a,x=.ref a/\(∃xs,bV K H1 a xs)/\R (zq K a) H1
theorem eG {l:Expr}{tl:TE}(hl:PE X l tl):PI X tg l (Uk X.K tl):=by
 intro pins s σ H R I h;refine bh (hl pins s σ H _ I h) λv s1 ⟨x,H1,I1,r1,q1⟩=>?_
 obtain⟨a,e,⟨xs,hq⟩,q⟩:=q1;subst e;cases r1;obtain⟨its,rv,p,hz⟩:=I1.list hq;refine agz p.isList ?_;refine⟨s1.heap.objs.size,[s1.heap.objs.size],_,_,H1,rfl,I1.kept (t':=s1.toks) λb o e=>ad3 _ e,GY a _,⟨_,aem _ rfl,rfl,rfl⟩,λb hb=>?_,q⟩;have e:b=s1.heap.objs.size:=by simpa using hb
 subst e;exact I1.tM (ad7 _) (I1.aO.fresh (ad7 _))
theorem iO {l:Expr}{tl:TE}(hl:PE X l tl):PI X tg l (YL X.K tl):=by
 intro pins s σ H R I h;refine bh (hl pins s σ H _ I h) λv s1 ⟨x,H1,I1,r1,q1⟩=>?_
 obtain⟨a,e,⟨xs,hq⟩,q⟩:=q1;subst e;cases r1;obtain⟨its,rv,p,hz⟩:=I1.tuple hq;refine wpAny_pyIter_tuple (show s1.heap.IsTuple a its.toArray from p) ?_;refine⟨s1.heap.objs.size,[s1.heap.objs.size],_,_,H1,rfl,I1.kept (t':=s1.toks) λb o e=>ad3 _ e,FG a _,⟨_,aem _ rfl,rfl,rfl⟩,λb hb=>?_,q⟩;have e:b=s1.heap.objs.size:=by simpa using hb
 subst e;exact I1.tM (ad7 _) (I1.aO.fresh (ad7 _))
theorem A5 {pins:List (Addr×Obj)}{σ:St}{H:Hp}{s:Shared}{R:It->Hp->Prop}{E:Value->Shared->Prop}{lo hi:Int}{t u v:Tok}{tk:Nat}(I:Inv X pins σ H s)(h1: -(2 ^ 62)<=lo)(h2:lo<2 ^ 62)(h3: -(2 ^ 62)<=hi)(h4:hi<2 ^ 62)
 (q:R (xo lo (hi - lo).toNat) H):wpAny (model X.prog X.w) X.A (pyIter (.ref s.heap.objs.size)) (Vn X pins σ tg R) E { s with heap:=s.heap.push { cls:=.type "range",data:=.fields #[.int lo t,.int hi u,.int 1 v] },toks:=tk }:=by
 refine wpAny_pyIter_range (IsRange.new ..) (small_one h1 h2 h3 h4) ?_;have I1:Inv X pins σ H { s with heap:=s.heap.push { cls:=.type "range",data:=.fields #[.int lo t,.int hi u,.int 1 v] },toks:=tk }:=I.kept λb o e=>ad3 _ e
 refine⟨(s.heap.push { cls:=.type "range",data:=.fields #[.int lo t,.int hi u,.int 1 v] }).objs.size,[(s.heap.push { cls:=.type "range",data:=.fields #[.int lo t,.int hi u,.int 1 v] }).objs.size],_,_,H,rfl,
  I1.kept (t':=tk) λb o e=>ad3 _ e,FH _ lo (hi - lo).toNat,?_,λb hb=>?_,q⟩
 ·have e1:lo+ ((0:Nat):Int)* 1=lo:=by simp
  have e2:(((hi - lo).toNat:Nat):Int) - ((0:Nat):Int)=Builtin.Range.rangeSize lo hi 1:=by rw[rangeSize_one];split <;> omega
  show IsRangeIter _ _ (lo+ ((0:Nat):Int)* 1) ((((hi - lo).toNat:Nat):Int) - ((0:Nat):Int)) 1;rw[e1,e2];exact aem _ rfl
 ·have e:b=(s.heap.push { cls:=.type "range",data:=.fields #[.int lo t,.int hi u,.int 1 v] }).objs.size:=by simpa using hb
  subst e;exact I1.tM (ad7 _) (I1.aO.fresh (ad7 _))
def Ul (ta:TA):TI:=λ σ H R=>ta σ H λvs H1=>∃j:Int,vs=[.int j]/\-(2 ^ 62)<=j/\j<2 ^ 62/\R (xo 0 j.toNat) H1
def Um (ta:TA):TI:=λ σ H R=>ta σ H λvs H1=>∃i j:Int,vs=[.int i,.int j]/\(-(2 ^ 62)<=i/\i<2 ^ 62/\-(2 ^ 62)<=j/\j<2 ^ 62)/\R (xo i (j - i).toNat) H1
theorem mN {a:Expr}{ta:TA}{p pos:Pos}(hg:Gl X "range")(hm:X.mg "range"=none)(ha:PA X [a] ta)(hs:starEach [a] X.env=[(false,eval a X.env)]:=by rfl):PI X tg (.Call (.Name "range" p) [a] [] pos) (Ul ta):=by
 intro pins s σ H R I h;refine Call_ (ky I hg hm boot_range (afb (bh (ha pos pins s σ H _ I h) λus s1 ⟨vs,H1,I1,r1,q1⟩=>?_) hs rfl));obtain⟨j,e,q1,q2,q⟩:=q1;subst e
 cases r1 with
 |cons r rr=>
  cases rr;obtain⟨t,rfl⟩:=r;exact call_range_1 (A5 I1 (by omega) (by omega) q1 q2 (by simpa using q))
theorem mO {a b:Expr}{ta:TA}{p pos:Pos}(hg:Gl X "range")(hm:X.mg "range"=none)(ha:PA X [a,b] ta)(hs:starEach [a,b] X.env=[(false,eval a X.env),(false,eval b X.env)]:=by rfl)(sO:starEach [b] X.env=[(false,eval b X.env)]:=by rfl):
 PI X tg (.Call (.Name "range" p) [a,b] [] pos) (Um ta):=by
 intro pins s σ H R I h;refine Call_ (ky I hg hm boot_range (afb (bh (ha pos pins s σ H _ I h) λus s1 ⟨vs,H1,I1,r1,q1⟩=>?_) (by rw[hs,sO]) (by rw[sO];rfl)));obtain⟨i,j,e,⟨q1,q2,q3,q4⟩,q⟩:=q1;subst e
 cases r1 with
 |cons r rr=>
  cases rr with
  |cons r' rr=>
   cases rr;obtain⟨t,rfl⟩:=r;obtain⟨t',rfl⟩:=r';exact call_range_2 (A5 I1 q1 q2 q3 q4 q)
def YM (wi:TI)(g:TG)(tb:TS):TS:=λD σ H=>wi σ H λJ H1=>∃W:Nat->Nat->St->Hp->Prop,(∃m,W 0 m σ H1)/\∀i m σ H,W i m σ H->
 (J.stop i H/\D.nx σ H)\/(J.go i H/\∃N:St->Hp->Prop,(∀ aJ H',N aJ H'->∃m',m'<m/\W (i+ 1) m' aJ H')/\∀x H',J.pS i H x H'->g x σ H' λ iq H2=>tb { D with nx:=N,ct:=N,bk:=D.nx } iq H2)
def xq (fp:List Addr)(h:Heap):List (Addr×Obj):=fp.filterMap λb=>(h.get? b).map λo=>(b,o)
theorem cQ {fp:List Addr}{h:Heap}{b:Addr}{o:Obj}(hb:b∈fp)(e:h.get? b=some o):(b,o)∈xq fp h:=List.mem_filterMap.mpr ⟨b,hb,by rw[e];rfl⟩
theorem GZ {fp:List Addr}{h:Heap}{p:Addr×Obj}(hp:p∈xq fp h):p.1∈fp/\h.get? p.1=some p.2:=by
 obtain⟨b,hb,e⟩:=List.mem_filterMap.mp hp
 cases q:h.get? b with
 |none=>rw[q]at e;cases e
 |some o=>
  rw[q]at e;have e':(b,o)=p:=Option.some.inj e;subst e';exact⟨hb,q⟩
theorem Inv.pinned {pins:List (Addr×Obj)}{σ:St}{H:Hp}{s:Shared}{fp:List Addr}(I:Inv X pins σ H s)(hf:∀b∈fp,mZ X pins H b)(ho:∀b∈fp,∃o,s.heap.get? b=some o/\∀v,o.data≠.cell v):Inv X (pins++xq fp s.heap) σ H s:=
 I.fF λp hp=>(aei.mp hp).elim (λz=>I.pin p (ad5 _ z)) λz=>by
  obtain⟨hb,e⟩:=GZ z;obtain⟨f0,f1,f2,_⟩:=hf p.1 hb;obtain⟨o,e',d⟩:=ho p.1 hb;rw[e]at e';cases e';exact⟨e,f0,f1,f2,d⟩
theorem Inv.vU {pins pl:List (Addr×Obj)}{σ:St}{H:Hp}{s:Shared}(I:Inv X (pins++pl) σ H s):Inv X pins σ H s:=I.fF λp hp=>I.pin p (ad5 _ (aex _ hp))
theorem du {iter:Expr}{body:List Stmt}{wi:TI}{g:TG}{tb:TS}{pos:Pos}(hp:PassesOwn (model X.prog X.w) X.A X.env X.xe)(hc:X.calm=true)(hi:PI X tg iter wi)(hg:PG X tg g)(hb:qJ X body tb)
 (hs:∀x,foldedSetIterable iter X.env x=pure x:=by intro _;rfl):PS X (.For tg iter body [] pos) (YM wi g tb):=by
 intro pins s σ H D I h;refine wpAny_For (bh (hi pins s σ H _ I h) λv s1 h1=>bh h1 λEh s2 h2=>?_) hs;obtain⟨it,fp,tn,J,H2,e,I2,T,kz,f2,W,⟨m0,w0⟩,turn⟩:=h2;subst e
 -- what stays true of the iterator's objects through the loop
 have stat:∀{H':Hp},(∀b∈fp,H' b=none)->∀b∈fp,mZ X pins H' b:=λhn b hb=>⟨hn b hb,(f2 b hb).2⟩
 refine codeAny_forLoop_any (λn s'=>∃i aJ H',Inv X pins aJ H' s'/\tn i s'.heap/\(∀b∈fp,H' b=none)/\W i n aJ H') ?_ m0 ⟨0,σ,H2,I2,kz,λb hb=>(f2 b hb).1,w0⟩;rintro n s3 ⟨i,sN,H3,I3,Vo,pT,w3⟩;rcases turn i n sN H3 w3 with ⟨stop,qn⟩|⟨go,N,hN,step⟩
 ·refine af6 hp (bh (T.done X rfl rfl rfl hc i pins s3 sN H3 X.xe I3 (stat pT) Vo stop) λr s4 ⟨hr,I4⟩=>?_);subst hr;exact wpAny_execs_nil ⟨sN,H3,I4,qn⟩
 ·refine af6 hp (bh (T.item X rfl rfl rfl hc i pins s3 sN H3 X.xe I3 (stat pT) Vo go) λr s4 ⟨u,hr,h4⟩=>?_);subst hr;refine af6 hp (bh h4 λ_ s5 ⟨x,H5,I5,r5,y5,Pl,xr⟩=>?_);have Z0:=I5.pinned (stat xr) (T.obj _ _ Pl);refine af6 hp (bh (hg _ s5 sN H5 x u _ Z0 r5 (step x H5 y5)) λ_ s6 ⟨G0,H6,I6,q6⟩=>?_);refine af6 hp (bh (hb _ s6 G0 H6 _ I6 q6) λf s7 q7=>?_)
  have again:∀{tN:St} {H7:Hp},Inv X (pins++xq fp s5.heap) tN H7 s7->N tN H7->∃m,m<n/\∃i aJ H',Inv X pins aJ H' s7/\tn i s7.heap/\(∀b∈fp,H' b=none)/\W i m aJ H':=λ{tN H7} I7 n7=>by
   obtain⟨m',hm,w7⟩:=hN tN H7 n7;refine⟨m',hm,i+ 1,tN,H7,I7.vU,T.keep _ _ _ Pl λb hb o e=>(I7.pin (b,o) (ad5 _ (ad5 _ (cQ hb e)))).1,λb hb=>?_,w7⟩;obtain⟨o,e,d⟩:=T.obj _ _ Pl b hb;exact(I7.pin (b,o) (ad5 _ (ad5 _ (cQ hb e)))).2.1
  cases f with
  |next=>obtain⟨tN,H7,I7,n7⟩:=q7;exact again I7 n7
  |cont=>obtain⟨tN,H7,I7,n7⟩:=q7;exact again I7 n7
  |brk=>obtain⟨tN,H7,I7,q7⟩:=q7;exact⟨tN,H7,I7.vU,q7⟩
  |ret v=>obtain⟨x7,tN,H7,I7,r7,q7⟩:=q7;exact⟨x7,tN,H7,I7.vU,r7,q7⟩
end
theorem gX {K:PySem.W.Frag}{a:Addr}{xs:List V}{g:TG}{tb:TS}{D:Ends}{σ:St}{H:Hp}(Pv:Nat->St->Hp->Prop)(h0:Pv 0 σ H)(hl:∀i σ H,i<=xs.length->Pv i σ H->aI K H a xs)
 (hs:∀i x σ H,xs[i]?=some x->Pv i σ H->g x σ H λ iq H2=>tb { D with nx:=Pv (i+ 1),ct:=Pv (i+ 1),bk:=D.nx } iq H2) (hd:∀ σ H,Pv xs.length σ H->D.nx σ H):
 ∃W:Nat->Nat->St->Hp->Prop,(∃m,W 0 m σ H)/\∀i m σ H,W i m σ H->
  ((xn K a).stop i H/\D.nx σ H)\/((xn K a).go i H/\∃N:St->Hp->Prop,(∀ aJ H',N aJ H'->∃m',m'<m/\W (i+ 1) m' aJ H')/\∀x H',(xn K a).pS i H x H'->g x σ H' λ iq H2=>tb { D with nx:=N,ct:=N,bk:=D.nx } iq H2):=by
 refine⟨λi m σ H=>m=xs.length - i/\i<=xs.length/\Pv i σ H,⟨xs.length,by simp,aeA _,h0⟩,?_⟩;rintro i m σ H ⟨rfl,hi,p⟩;have q:=hl i σ H hi p;by_cases bG:i<xs.length
 ·refine .inr ⟨⟨xs,xs[i],q,by simp[bG]⟩,Pv (i+ 1),λ aJ H' p'=>⟨xs.length - (i+ 1),by omega,rfl,bG,p'⟩,λx H' y=>?_⟩;obtain⟨e,y⟩:=y;subst e;exact hs i x σ _ (y xs q) p
 ·have e:i=xs.length:=by omega
  subst e;exact .inl ⟨⟨xs,q,ad7 _⟩,hd σ H p⟩
theorem Ei {K:PySem.W.Frag}{a:Addr}{xs:List V}{g:TG}{tb:TS}{D:Ends}{σ:St}{H:Hp}(Pv:Nat->St->Hp->Prop)(h0:Pv 0 σ H)(hl:∀i σ H,i<=xs.length->Pv i σ H->bV K H a xs)
 (hs:∀i x σ H,xs[i]?=some x->Pv i σ H->g x σ H λ iq H2=>tb { D with nx:=Pv (i+ 1),ct:=Pv (i+ 1),bk:=D.nx } iq H2) (hd:∀ σ H,Pv xs.length σ H->D.nx σ H):
 ∃W:Nat->Nat->St->Hp->Prop,(∃m,W 0 m σ H)/\∀i m σ H,W i m σ H->
  ((zq K a).stop i H/\D.nx σ H)\/((zq K a).go i H/\∃N:St->Hp->Prop,(∀ aJ H',N aJ H'->∃m',m'<m/\W (i+ 1) m' aJ H')/\∀x H',(zq K a).pS i H x H'->g x σ H' λ iq H2=>tb { D with nx:=N,ct:=N,bk:=D.nx } iq H2):=by
 refine⟨λi m σ H=>m=xs.length - i/\i<=xs.length/\Pv i σ H,⟨xs.length,by simp,aeA _,h0⟩,?_⟩;rintro i m σ H ⟨rfl,hi,p⟩;have q:=hl i σ H hi p;by_cases bG:i<xs.length
 ·refine .inr ⟨⟨xs,xs[i],q,by simp[bG]⟩,Pv (i+ 1),λ aJ H' p'=>⟨xs.length - (i+ 1),by omega,rfl,bG,p'⟩,λx H' y=>?_⟩;obtain⟨e,y⟩:=y;subst e;exact hs i x σ _ (y xs q) p
 ·have e:i=xs.length:=by omega
  subst e;exact .inl ⟨⟨xs,q,ad7 _⟩,hd σ H p⟩
theorem kb {lo:Int}{n:Nat}{g:TG}{tb:TS}{D:Ends}{σ:St}{H:Hp}(Pv:Nat->St->Hp->Prop)(h0:Pv 0 σ H)
 (hs:∀i σ H,i<n->Pv i σ H->g (.int (lo+ i)) σ H λ iq H2=>tb { D with nx:=Pv (i+ 1),ct:=Pv (i+ 1),bk:=D.nx } iq H2) (hd:∀ σ H,Pv n σ H->D.nx σ H):
 ∃W:Nat->Nat->St->Hp->Prop,(∃m,W 0 m σ H)/\∀i m σ H,W i m σ H->
  ((xo lo n).stop i H/\D.nx σ H)\/((xo lo n).go i H/\∃N:St->Hp->Prop,(∀ aJ H',N aJ H'->∃m',m'<m/\W (i+ 1) m' aJ H')/\∀x H',(xo lo n).pS i H x H'->g x σ H' λ iq H2=>tb { D with nx:=N,ct:=N,bk:=D.nx } iq H2):=by
 refine⟨λi m σ H=>m=n - i/\i<=n/\Pv i σ H,⟨n,by simp,aeA _,h0⟩,?_⟩;rintro i m σ H ⟨rfl,hi,p⟩;by_cases bG:i<n
 ·refine .inr ⟨bG,Pv (i+ 1),λ aJ H' p'=>⟨n - (i+ 1),by omega,rfl,bG,p'⟩,λx H' y=>?_⟩;obtain⟨e,y⟩:=y;subst e y;exact hs i σ _ bG p
 ·have e:i=n:=by omega
  subst e;exact .inl ⟨ad7 _,hd σ H p⟩
end L2
namespace L2
open PySem PySem.Spec PyProof.Rows
abbrev R2:=V->V->Hp->VK->Prop
def gT (X:Cx)(f:Value->Value->Sem Value)(r:R2):Prop:=
 ∀(pins:List (Addr×Obj)) (s:Shared) (σ:St) (H:Hp) (x y:V) (v u:Value) (Q:VK),Inv X pins σ H s->RelV x v->RelV y u->r x y H Q->
  wpAny (model X.prog X.w) X.A (f v u) (EP X pins σ Q) X.xe s
def Pn (X:Cx)(f:Value->Sem Value)(r:V->Hp->VK->Prop):Prop:=
 ∀(pins:List (Addr×Obj)) (s:Shared) (σ:St) (H:Hp) (x:V) (v:Value) (Q:VK),Inv X pins σ H s->RelV x v->r x H Q->
  wpAny (model X.prog X.w) X.A (f v) (EP X pins σ Q) X.xe s
def mH (X:Cx)(f:Value)(r:List V->Hp->VK->Prop):Prop:=
 ∀(pins:List (Addr×Obj)) (s:Shared) (σ:St) (H:Hp) (xs:List V) (us:List Value) (Q:VK),Inv X pins σ H s->Vals xs us->r xs H Q->
  wpAny (model X.prog X.w) X.A (call f us) (EP X pins σ Q) X.xe s
def YN (X:Cx)(r:V->Hp->(Bool->Hp->Prop)->Prop):Prop:=
 ∀(pins:List (Addr×Obj)) (s:Shared) (σ:St) (H:Hp) (x:V) (v:Value) (Q:Bool->Hp->Prop),Inv X pins σ H s->RelV x v->r x H Q->
  wpAny (model X.prog X.w) X.A (truthy v) (TP X pins σ Q) X.xe s
def Ln (r:R2)(ta tb:TE):TE:=λ σ H Q=>ta σ H λx H1=>tb σ H1 λy H2=>r x y H2 Q
def Z1 (r:V->Hp->VK->Prop)(ta:TE):TE:=λ σ H Q=>ta σ H λx H1=>r x H1 Q
def rI (C:Int->Int->Prop)(g:Int->Int->V):R2:=λx y H Q=>∃i j,x=.int i/\y=.int j/\C i j/\Q (g i j) H
def A6 (g:Int->Int->V):R2:=λx y H Q=>∃i j,x=.int i/\y=.int j/\Q (g i j) H
def rU (g:Int->V):V->Hp->VK->Prop:=λx H Q=>∃i,x=.int i/\Q (g i) H
section
variable {X:Cx} {a b c:Expr} {ta tb tc:TE} {pos:Pos}
theorem JD (ha:PE X a ta)(hb:PE X b tb){pins:List (Addr×Obj)}{s:Shared}{σ:St}{H:Hp}{R:V->V->Hp->Prop}(I:Inv X pins σ H s)
 (h:ta σ H λx H1=>tb σ H1 λy H2=>R x y H2) {Q:Value->Shared->Prop} {f:Value->Value->Sem Value}
 (hf:∀v u s2 x y H2,Inv X pins σ H2 s2->RelV x v->RelV y u->R x y H2->wpAny (model X.prog X.w) X.A (f v u) Q X.xe s2):
 wpAny (model X.prog X.w) X.A (eval a X.env) (λv bF=>wpAny (model X.prog X.w) X.A (eval b X.env) (λu jR=>wpAny (model X.prog X.w) X.A (f v u) Q X.xe jR) X.xe bF) X.xe s:=by
 refine bh (ha pins s σ H _ I h) λv s1 ⟨x,H1,I1,r1,q1⟩=>?_
 refine bh (hb pins s1 σ H1 _ I1 q1) λu s2 ⟨y,H2,I2,r2,q2⟩=>?_
 exact hf v u s2 x y H2 I2 r1 r2 q2
theorem aV {op:Operator}{r:R2}(ho:gT X (binaryOp op) r)(ha:PE X a ta)(hb:PE X b tb):PE X (.BinOp a op b pos) (Ln r ta tb):=by
 intro pins s σ H Q I h;exact wpAny_BinOp (JD ha hb I h λv u s2 x y H2 I2 rx ry q=>ho pins s2 σ H2 x y v u Q I2 rx ry q)
theorem gg {op:UnaryOp}{r:V->Hp->VK->Prop}(ho:Pn X (unaryOp op) r)(ha:PE X a ta):PE X (.UnaryOp op a pos) (Z1 r ta):=by
 intro pins s σ H Q I h;exact UnaryOp_ (bh (ha pins s σ H _ I h) λv s1 ⟨x,H1,I1,r1,q1⟩=>ho pins s1 σ H1 x v Q I1 r1 q1)
theorem Pp {f:Value->Value->Sem Value}{C:Int->Int->Prop}{g:Int->Int->Int}
 (rule:∀(i j:Int) (t u:Tok) (s:Shared) (Q:Value->Shared->Prop) (E:Value->Shared->Prop),C i j->Q (.int (g i j) s.toks) { s with toks:=s.toks+ 1 }->wpAny (model X.prog X.w) X.A (f (.int i t) (.int j u)) Q E s):
 gT X f (rI C λi j=>.int (g i j)):=by
 intro pins s σ H x y v u Q I rx ry h;obtain⟨i,j,rfl,rfl,hc,q⟩:=h;obtain⟨t,rfl⟩:=rx;obtain⟨t',rfl⟩:=ry;exact rule i j t t' s _ _ hc ⟨.int (g i j),H,I.tok _,⟨_,rfl⟩,q⟩
theorem Pq {f:Value->Value->Sem Value}{g:Int->Int->Int}
 (rule:∀(i j:Int) (t u:Tok) (s:Shared) (Q:Value->Shared->Prop) (E:Value->Shared->Prop),Q (.int (g i j) s.toks) { s with toks:=s.toks+ 1 }->wpAny (model X.prog X.w) X.A (f (.int i t) (.int j u)) Q E s):
 gT X f (A6 λi j=>.int (g i j)):=by
 intro pins s σ H x y v u Q I rx ry h;obtain⟨i,j,rfl,rfl,q⟩:=h;obtain⟨t,rfl⟩:=rx;obtain⟨t',rfl⟩:=ry;exact rule i j t t' s _ _ ⟨.int (g i j),H,I.tok _,⟨_,rfl⟩,q⟩
theorem JF {f:Value->Value->Sem Value}{g:Int->Int->Bool}
 (rule:∀(i j:Int) (t u:Tok) (s:Shared) (Q:Value->Shared->Prop) (E:Value->Shared->Prop),Q (.bool (g i j)) s->wpAny (model X.prog X.w) X.A (f (.int i t) (.int j u)) Q E s):
 gT X f (A6 λi j=>.bl (g i j)):=by
 intro pins s σ H x y v u Q I rx ry h;obtain⟨i,j,rfl,rfl,q⟩:=h;obtain⟨t,rfl⟩:=rx;obtain⟨t',rfl⟩:=ry;exact rule i j t t' s _ _ ⟨.bl (g i j),H,I,rfl,q⟩
def YQ (i j:Int):Prop:=0<j/\j<1073741824
def JG (i j:Int):Prop:=(-(2 ^ 64)<i/\i<2 ^ 64)\/(-(2 ^ 64)<j/\j<2 ^ 64)
theorem JG.ok {i j:Int}(h:JG i j):IntMulOk i j:=by
 rcases h with ⟨h1,h2⟩|⟨h1,h2⟩
 ·exact .of_left (intBits_le_64 h1 h2)
 ·exact .of_right (intBits_le_64 h1 h2)
theorem dC:gT X (binaryOp .Add) (A6 λi j=>.int (i+ j)):=Pq λ_ _ _ _ _ _ _ q=>add_int q
theorem ou:gT X (binaryOp .Sub) (A6 λi j=>.int (i - j)):=Pq λ_ _ _ _ _ _ _ q=>sub_int q
theorem qM:gT X (binaryOp .Mult) (rI JG λi j=>.int (i* j)):=Pp λ_ _ _ _ _ _ _ hc q=>mul_int q hc.ok
theorem fG:gT X (binaryOp .FloorDiv) (rI YQ λi j=>.int (i / j)):=Pp λi j _ _ _ _ _ hc q=>by
 have h1:(0:Int)<j:=hc.1;have h2:j<1073741824:=hc.2;exact floordiv_int (by omega) (by rw[Int.fdiv_eq_ediv_of_nonneg i (by omega)];exact q) (.inl (PyProof.noPylong_small (by omega)))
theorem cf:gT X (binaryOp .Mod) (rI (λ_ j=>0<j) λi j=>.int (i % j)):=Pp λi j _ _ _ _ _ hc q=>by
 have h1:(0:Int)<j:=hc;exact mod_int' (by omega) (by rw[Int.fmod_eq_emod_of_nonneg i (by omega)];exact q)
theorem Z2 {f:Value->Sem Value}{g:Int->Int}
 (rule:∀(i:Int) (t:Tok) (s:Shared) (Q:Value->Shared->Prop) (E:Value->Shared->Prop),Q (.int (g i) s.toks) { s with toks:=s.toks+ 1 }->wpAny (model X.prog X.w) X.A (f (.int i t)) Q E s):
 Pn X f (rU λi=>.int (g i)):=by
 intro pins s σ H x v Q I rx h;obtain⟨i,rfl,q⟩:=h;obtain⟨t,rfl⟩:=rx;exact rule i t s _ _ ⟨.int (g i),H,I.tok _,⟨_,rfl⟩,q⟩
theorem eR:Pn X (unaryOp .USub) (rU λi=>.int (-i)):=Z2 λ_ _ _ _ _ q=>neg_int q
end
def JH:V->V->Bool
 |.non,.non=>true|.non,.int _=>true|.int _,.non=>true|.non,.bl _=>true|.bl _,.non=>true|.non,.str _=>true|.str _,.non=>true
 |.int _,.int _=>true|.bl _,.bl _=>true|.str _,.str _=>true|.pQ _,.pQ _=>true
 |.int _,.str _=>true|.str _,.int _=>true|.bl _,.str _=>true|.str _,.bl _=>true
 |_,_=>false
def Z3:R2:=λx y H Q=>JH x y=true/\Q (.bl (decide (x=y))) H
def Z4:R2:=λx y H Q=>JH x y=true/\Q (.bl (!decide (x=y))) H
theorem Ej {i j:Int}:decide (V.int i=V.int j)=(i==j):=by
 rw[aeY];simp
theorem G3 {i j:Bool}:decide (V.bl i=V.bl j)=(i==j):=by
 rw[aeY];simp
theorem Ek {i j:Str}:decide (V.str i=V.str j)=(i==j):=by
 rw[aeY];simp
theorem El {i j:Array UInt8}:decide (V.pQ i=V.pQ j)=(i.toList==j.toList):=by
 rw[aeY];cases i;cases j;simp
section
variable {X:Cx} {a b c:Expr} {ta tb tc:TE} {pos:Pos}
theorem bY {pins:List (Addr×Obj)}{σ:St}{H:Hp}{s:Shared}{Q:VK}{k k':Bool}(I:Inv X pins σ H s)(q:Q (.bl k) H)(e:k=k'):EP X pins σ Q (.bool k') s:=by
 subst e;exact⟨.bl k,H,I,rfl,q⟩
theorem gY:gT X (compareOp .Eq) Z3:=by
 intro pins s σ H x y v u Q I rx ry h;obtain⟨hs,q⟩:=h
 cases x with
 |non=>
  cases rx
  cases y with
  |non=>cases ry;exact PySem.EqNone.eq_none_none (bY I q (by simp))
  |bl j=>cases ry;exact PySem.EqNone.eq_none_bool (bY I q (by simp))
  |int j=>obtain⟨t',rfl⟩:=ry;exact PySem.EqNone.eq_none_int (bY I q (by simp))
  |str j=>obtain⟨t',rfl⟩:=ry;exact PySem.EqNone.eq_none_str (bY I q (by simp))
  |_=>exact absurd (show false=true from hs) aeE
 |bl i=>
  cases rx
  cases y with
  |non=>cases ry;exact PySem.EqNone.eq_bool_none (bY I q (by simp))
  |bl j=>cases ry;exact eq_bool (bY I q G3)
  |str j=>obtain⟨t',rfl⟩:=ry;exact PySem.EqMixed.eq_bool_str (bY I q (by simp))
  |_=>exact absurd (show false=true from hs) aeE
 |int i=>
  obtain⟨t,rfl⟩:=rx
  cases y with
  |non=>cases ry;exact PySem.EqNone.eq_int_none (bY I q (by simp))
  |int j=>obtain⟨t',rfl⟩:=ry;exact eq_int (bY I q Ej)
  |str j=>obtain⟨t',rfl⟩:=ry;exact PySem.EqMixed.eq_int_str (bY I q (by simp))
  |_=>exact absurd (show false=true from hs) aeE
 |str i=>
  obtain⟨t,rfl⟩:=rx
  cases y with
  |non=>cases ry;exact PySem.EqNone.eq_str_none (bY I q (by simp))
  |bl j=>cases ry;exact PySem.EqMixed.eq_str_bool (bY I q (by simp))
  |int j=>obtain⟨t',rfl⟩:=ry;exact PySem.EqMixed.eq_str_int (bY I q (by simp))
  |str j=>obtain⟨t',rfl⟩:=ry;exact eq_str (bY I q Ek)
  |_=>exact absurd (show false=true from hs) aeE
 |pQ i=>
  obtain⟨t,rfl⟩:=rx
  cases y with
  |pQ j=>obtain⟨t',rfl⟩:=ry;exact PySem.W.eq_bytes (bY I q El)
  |_=>exact absurd (show false=true from hs) aeE
 |_=>cases y <;> exact absurd (show false=true from hs) aeE
theorem rT:gT X (compareOp .NotEq) Z4:=by
 intro pins s σ H x y v u Q I rx ry h;obtain⟨hs,q⟩:=h
 cases x with
 |non=>
  cases rx
  cases y with
  |non=>cases ry;exact PySem.EqNone.ne_none_none (bY I q (by simp))
  |bl j=>cases ry;exact PySem.EqNone.ne_none_bool (bY I q (by simp))
  |int j=>obtain⟨t',rfl⟩:=ry;exact PySem.EqNone.ne_none_int (bY I q (by simp))
  |str j=>obtain⟨t',rfl⟩:=ry;exact PySem.EqNone.ne_none_str (bY I q (by simp))
  |_=>exact absurd (show false=true from hs) aeE
 |bl i=>
  cases rx
  cases y with
  |non=>cases ry;exact PySem.EqNone.ne_bool_none (bY I q (by simp))
  |bl j=>cases ry;exact ne_bool (bY I q (afh not G3))
  |str j=>obtain⟨t',rfl⟩:=ry;exact PySem.EqMixed.ne_bool_str (bY I q (by simp))
  |_=>exact absurd (show false=true from hs) aeE
 |int i=>
  obtain⟨t,rfl⟩:=rx
  cases y with
  |non=>cases ry;exact PySem.EqNone.ne_int_none (bY I q (by simp))
  |int j=>obtain⟨t',rfl⟩:=ry;exact ne_int (bY I q (afh not Ej))
  |str j=>obtain⟨t',rfl⟩:=ry;exact PySem.EqMixed.ne_int_str (bY I q (by simp))
  |_=>exact absurd (show false=true from hs) aeE
 |str i=>
  obtain⟨t,rfl⟩:=rx
  cases y with
  |non=>cases ry;exact PySem.EqNone.ne_str_none (bY I q (by simp))
  |bl j=>cases ry;exact PySem.EqMixed.ne_str_bool (bY I q (by simp))
  |int j=>obtain⟨t',rfl⟩:=ry;exact PySem.EqMixed.ne_str_int (bY I q (by simp))
  |str j=>obtain⟨t',rfl⟩:=ry;exact ne_str (bY I q (afh not Ek))
  |_=>exact absurd (show false=true from hs) aeE
 |pQ i=>
  obtain⟨t,rfl⟩:=rx
  cases y with
  |pQ j=>obtain⟨t',rfl⟩:=ry;exact PySem.W.ne_bytes (bY I q (afh not El))
  |_=>exact absurd (show false=true from hs) aeE
 |_=>cases y <;> exact absurd (show false=true from hs) aeE
theorem xt:gT X (compareOp .Lt) (A6 λi j=>.bl (decide (i<j))):=JF λ_ _ _ _ _ _ _ q=>lt_int q
theorem Uo:gT X (compareOp .LtE) (A6 λi j=>.bl (decide (i<=j))):=JF λ_ _ _ _ _ _ _ q=>le_int q
theorem AF:gT X (compareOp .Gt) (A6 λi j=>.bl (decide (j<i))):=JF λ_ _ _ _ _ _ _ q=>gt_int q
theorem qN:gT X (compareOp .Is) (λx y H Q=>y=.non/\Q (.bl (decide (x=.non))) H):=by
 intro pins s σ H x y v u Q I rx ry h;obtain⟨rfl,q⟩:=h;cases ry;refine is_none_gen (bY I q ?_)
 cases x <;> first
  |(cases rx;rfl)
  |(obtain⟨t,rfl⟩:=rx;rfl)
theorem Nw:gT X (compareOp .IsNot) (λx y H Q=>y=.non/\Q (.bl (!decide (x=.non))) H):=by
 intro pins s σ H x y v u Q I rx ry h;obtain⟨rfl,q⟩:=h;cases ry;refine isnot_none_gen (bY I q ?_)
 cases x <;> first
  |(cases rx;rfl)
  |(obtain⟨t,rfl⟩:=rx;rfl)
theorem bE (b:Expr){op:CmpOp}(h:op≠.In:=by decide)(h2:op≠.NotIn:=by decide):behindInMarks op b=false:=by
 have e1:(op==CmpOp.In)=false:=by cases op <;> first|rfl|exact absurd rfl h
 have e2:(op==CmpOp.NotIn)=false:=by cases op <;> first|rfl|exact absurd rfl h2
 cases b <;> simp[behindInMarks,e1,e2]
theorem yI {op:CmpOp}{r:R2}(ho:gT X (compareOp op) r)(ha:PE X a ta)(hb:PE X b tb)(hm:behindInMarks op b=false):PE X (.Compare a [op] [b] pos) (Ln r ta tb):=by
 intro pins s σ H Q I h;exact wpAny_Compare1 (JD ha hb I h λv u s2 x y H2 I2 rx ry q=>ho pins s2 σ H2 x y v u Q I2 rx ry q) hm
def Uq (t:TE):TT:=λ σ H Q=>t σ H λx H'=>∃k,x=.bl k/\Q k H'
theorem bu {op:CmpOp}{r:R2}(ho:gT X (compareOp op) r)(ha:PE X a ta)(hb:PE X b tb)(hm:behindInMarks op b=false):PT X (.Compare a [op] [b] pos) (Uq (Ln r ta tb)):=by
 intro pins s σ H Q I h
 refine wpAny_isTrue_Compare1 (bh (ha pins s σ H _ I h) λv s1 ⟨x,H1,I1,r1,q1⟩=>bh (hb pins s1 σ H1 _ I1 q1) λu s2 ⟨y,H2,I2,r2,q2⟩=>
  bh (ho pins s2 σ H2 x y v u _ I2 r1 r2 q2) λc s3 ⟨z,H3,I3,r3,k,e,q3⟩=>?_) hm
 subst e;cases r3;exact agy ⟨H3,I3,q3⟩
def Pt (K:PySem.W.Frag)(x:V)(H:Hp)(k:Bool):Prop:=
 match x with
 |.non=>k=false
 |.bl b=>k=b
 |.int i=>k=(i !=0)
 |.str y=>y.length<=sizeLine/\k=((y.length:Int) !=0)
 |.pQ y=>y.size<=sizeLine/\k=((y.size:Int) !=0)
 |.ref p=>(∃xs,aI K H p xs/\k=!xs.isEmpty)\/(∃xs,bV K H p xs/\k=!xs.isEmpty)\/∃kvs,H p=some (.dK kvs)/\k=!kvs.isEmpty
 |_=>False
theorem FI {κ:Type}{kvs:List (κ×V)}{vs:List (κ×Value)}(r:KV kvs vs):(!vs.isEmpty)=!kvs.isEmpty:=by
 cases r <;> rfl
theorem xu {xs:List V}{its:List Value}(r:Vals xs its):(!its.toArray.isEmpty)=!xs.isEmpty:=by
 cases r <;> simp
theorem tO:(sizeLine:Nat)<2 ^ 63:=by rw[sizeLine_eq];decide
theorem Pu:YN X (λx H Q=>∃k,Pt X.K x H k/\Q k H):=by
 intro pins s σ H x v Q I rx h;obtain⟨k,e,q⟩:=h;have hl:=tO;have hs:sizeLine=16777216:=sizeLine_eq
 cases x with
 |non=>
  cases rx;have e':k=false:=e;subst e';exact truthy_none ⟨H,I,q⟩
 |bl b=>
  cases rx;have e':k=b:=e;subst e';exact agy ⟨H,I,q⟩
 |int i=>
  obtain⟨t,rfl⟩:=rx;have e':k=(i !=0):=e;subst e';exact PySem.P.truthy_int ⟨H,I,q⟩
 |str y=>
  obtain⟨t,rfl⟩:=rx;obtain⟨hy,e'⟩:y.length<=sizeLine/\k=((y.length:Int) !=0):=e;subst e';exact PySem.P.truthy_str (by omega) ⟨H,I.tok _,q⟩
 |pQ y=>
  obtain⟨t,rfl⟩:=rx;obtain⟨hy,e'⟩:y.size<=sizeLine/\k=((y.size:Int) !=0):=e;subst e';exact PySem.W.truthy_bytes (by omega) ⟨H,I.tok _,q⟩
 |ref p=>
  cases rx;have e':(∃xs,aI X.K H p xs/\k=!xs.isEmpty)\/(∃xs,bV X.K H p xs/\k=!xs.isEmpty)\/∃kvs,H p=some (.dK kvs)/\k=!kvs.isEmpty:=e;rcases e' with ⟨xs,hx,e'⟩|⟨xs,hx,e'⟩|⟨kvs,hx,e'⟩
  ·subst e';obtain⟨its,r,pl,hz⟩:=I.list hx;have hlen:=r.length;exact wpAny_truthy_list pl.isList (by simp only[ad9];omega) ⟨H,I.tok _,by rw[xu r];exact q⟩
  ·subst e';obtain⟨its,r,pl,hz⟩:=I.tuple hx;have hlen:=r.length;exact truthy_tuple pl (by simp only[ad9];omega) ⟨H,I.tok _,by rw[xu r];exact q⟩
  ·subst e';obtain⟨hz,hS,vs,r,m⟩:kvs.length<=sizeLine/\(p==sysModules)=false/\∃vs,KV kvs vs/\s.heap.DictOf (b9 X.prog X.w) p vs:=I.aO p _ hx;have hlen:kvs.length=vs.length:=Paired.length r;exact wpAny_truthy_dict hS m (by omega) ⟨H,I.tok _,by rw[FI r];exact q⟩
 |_=>exact(show False from e).elim
theorem A7 (ha:PE X a ta)(he:∀whole,isTrue a X.env whole=(do let v ←whole;standAt a.pos;holding [v] (truthy v))):
 PT X a (λ σ H Q=>ta σ H λx H'=>∃k,Pt X.K x H' k/\Q k H'):=by
 intro pins s σ H Q I h;exact isTrue_plain (bh (ha pins s σ H _ I h) λv s1 ⟨x,H1,I1,r1,q1⟩=>Pu pins s1 σ H1 x v Q I1 r1 q1) (he _)
theorem vals1 {x:V}{us:List Value}(r:Vals [x] us):∃u,us=[u]/\RelV x u:=by
 cases r with
 |cons r1 r2=>cases r2;exact⟨_,rfl,r1⟩
theorem vals2 {x y:V}{us:List Value}(r:Vals [x,y] us):∃u w',us=[u,w']/\RelV x u/\RelV y w':=by
 cases r with
 |cons r1 r2=>
  cases r2 with
  |cons r3 r4=>cases r4;exact⟨_,_,rfl,r1,r3⟩
theorem G4 (hc:X.calm=true):mH X (.builtin "max") (λxs H Q=>∃i j,xs=[.int i,.int j]/\Q (.int (if j > i then j else i)) H):=by
 intro pins s σ H xs us Q I r h;obtain⟨i,j,rfl,q⟩:=h;obtain⟨u,w',rfl,⟨t,rfl⟩,⟨t',rfl⟩⟩:=vals2 r;refine max_two_ints (I.ok.hd hc) λh' tk k=>⟨_,H,I.kept k,?_,q⟩
 by_cases hj:j > i
 ·rw[ael hj,ael hj];exact⟨_,rfl⟩
 ·rw[aed hj,aed hj];exact⟨_,rfl⟩
theorem G5 (hc:X.calm=true):mH X (.builtin "min") (λxs H Q=>∃i j,xs=[.int i,.int j]/\Q (.int (if j<i then j else i)) H):=by
 intro pins s σ H xs us Q I r h;obtain⟨i,j,rfl,q⟩:=h;obtain⟨u,w',rfl,⟨t,rfl⟩,⟨t',rfl⟩⟩:=vals2 r;refine min_two_ints (I.ok.hd hc) λh' tk k=>⟨_,H,I.kept k,?_,q⟩
 by_cases hj:j<i
 ·rw[ael hj,ael hj];exact⟨_,rfl⟩
 ·rw[aed hj,aed hj];exact⟨_,rfl⟩
end
end L2
namespace L2
open PySem PySem.Spec PyProof.Rows
structure vV (h:Heap) (x dx C:Addr) (mA:Str->Option Value):Prop where
 obj:h.get? x=some (PySem.W.instObj C dx)
 ns:h.Ns1 dx mA
 ne:dx≠x
theorem G6 {h:Heap}{dx:Addr}{mA:Str->Option Value}(n:h.Ns1 dx mA):∃od,h.get? dx=some od/\∀name,PySem.W.lookIn name od=some (mA name):=by
 obtain⟨o,es,ep,ho,hd,hk,_,hm⟩:=n;refine⟨o,ho,λname=>?_⟩;have e:=hm name;unfold nsFind findBy at e;rw[←Array.find?_toList]at e;unfold PySem.W.lookIn;rw[hd];dsimp only;split
 ·rename_i y q;rw[q]at e;exact afh some e
 ·rename_i q;rw[q]at e
  have a:es.toList.any (·.refKey)=false:=by
   rw[List.any_eq_false];intro y hy;obtain⟨z,t,rV⟩:=hk y (Array.mem_toList_iff.mp hy);simp[DictEntry.refKey,rV]
  have a':¬es.toList.any (·.refKey)=true:=by rw[a];exact aeE
  rw[aed a'];exact afh some e
theorem vV.look {h:Heap}{x dx C:Addr}{mA:Str->Option Value}(I:vV h x dx C mA):∃od,PySem.W.InstAt h x (PySem.W.instObj C dx) C (some od)/\∀name,PySem.W.lookIn name od=some (mA name):=
 let ⟨od,ho,hl⟩:=G6 I.ns
 ⟨od,⟨I.obj,rfl,rfl,ho⟩,hl⟩
section
variable {prog:Program} {w:World} {A:Around} {E:Value->Shared->Prop} {s:Shared} {K:PySem.W.Frag} {x dx C f:Addr} {mA:Str->Option Value} {name:Str} {v:Value}
theorem get_map {expr:Bool}{Q:Value->Shared->Prop}(X:K.In s.heap)(I:vV s.heap x dx C mA)(hg:PySem.W.plainGet K C name=true)(hh:PySem.W.hasDictIn K C=true)
 (ha:PySem.W.findIn K (.ref C) name=some none) (hv:mA name=some v) (Lp:PySem.W.handedIn v=true) (h:Q v { s with toks:=s.toks+ 1 }):
 wpAny (model prog w) A (getAttr (.ref x) name expr) Q E s:=by
 obtain⟨od,J,hl⟩:=I.look;exact PySem.W.get_value X J (PySem.W.plainGet_of hg).1 (PySem.W.findObj_own hh ha rfl (by rw[hl,hv])) Lp h
theorem JK {pl:Sem Bool}{Q:Value×List Value->Shared->Prop}(X:K.In s.heap)(I:vV s.heap x dx C mA)(hg:PySem.W.plainGet K C name=true)
 (hf:PySem.W.findIn K (.ref C) name=some (some (.ref f))) (ht:PySem.W.isFn K (.ref f)=true) (hv:mA name=none) (h:Q (.ref f,[.ref x]) s):
 wpAny (model prog w) A (getMethod (.ref x) name pl) Q E s:=by
 obtain⟨od,J,hl⟩:=I.look;exact PySem.W.method_fn X J (PySem.W.plainGet_of hg).1 (PySem.W.plainGet_of hg).2 hf (agK.mp ht) (by show (PySem.W.lookIn name od).map (·.isSome)=some false;rw[hl,hv];rfl) h
theorem Nx {ns:List Str}{Q:Unit->Shared->Prop}(X:K.In s.heap)(I:vV s.heap x dx C mA)
 (hs:PySem.W.findIn K (.ref C) "__setattr__"=some (some (.builtin "object.__setattr__"))) (hp:PySem.W.plainOver K C=true) (ht:PySem.W.takerIn K C name=some none) (hh:PySem.W.hasDictIn K C=true)
 (hw:PySem.Within mA ns) (hsz:ns.length<=sizeLine)
 (h:∀h',vV h' x dx C (λy=>if y=name then some v else mA y)->Heap.SameBut dx s.heap h'->Q () { s with heap:=h',toks:=s.toks+ 2 }):
 wpAny (model prog w) A (setAttr (.ref x) name v) Q E s:=by
 obtain⟨od,J,hl⟩:=I.look;refine PySem.W.set_plain X J hs (PySem.W.osa_open (s:={ s with toks:=s.toks+ 1 }) (r:=none) X J hp ht λb=>?_);obtain⟨cd,hc,eZ⟩:=PySem.W.any_some hh;have hx:s.heap.get? x=some ⟨.ref C,some dx,.plain,#[]⟩:=I.obj;refine adW (ad8 (adW (adW (wpAny_loadPart hx (adW (PySem.W.Looks.here (s:={ s with toks:=s.toks+ 1 }) (PySem.W.looks_clsIn X hc) ?_))))));rw[eZ];refine ad8 (a:=some dx) (adW (ad8 (adW ?_)));refine wpAny_nsSet1 (s:={ s with toks:=s.toks+ 1 }) I.ns λh' xx sO=>?_
 obtain⟨oD,esD,epD,Z5,Z6,Z7⟩:=xx.count (PySem.Within.cons name v hw);refine adW (wpAny_lookBehind Z5 (by rw[Z6];exact pastItsLine_dict (aep Z7 (by rw[aes];omega))) ?_);exact ad8 (h _ ⟨(sO.2 _ (afe I.ne)).trans I.obj,xx,I.ne⟩ sO)
theorem JL {R:Result->Shared->Prop}{vs:List Value}{kw:List (Str×Value)}(X:K.In s.heap)(hm:PySem.W.makesIn K C=true)
 (hi:PySem.W.findIn K (.ref C) "__init__"=some (some (.ref f))) (hf:PySem.W.typeIn K (.ref f)=some (.type "function"))
 (h:codeAny (model prog w) (A.under (.builtin "type.__call__" ⟨.ref C::vs,kw⟩)) (.call (.ref f) ⟨.ref (s.heap.objs.size+ 1)::vs,kw⟩) (PySem.W.InitBack (s.heap.objs.size+ 1) R)
  { s with heap:=(s.heap.push PySem.W.emptyDict).push (PySem.W.instObj C s.heap.objs.size) }):
 codeAny (model prog w) A (.call (.ref C) ⟨vs,kw⟩) R s:=by
 obtain⟨hh,g,d,t,os⟩:=s;exact PySem.W.make_core (PySem.W.makes_of X hm) (PySem.W.looks_findIn X hi) (λself=>PySem.W.bind_fn X self hf) (.inl rfl) h
end
def bW (f:Str)(v:V):List (Str×V)->List (Str×V)
 |[]=>[(f,v)]
 |(g,x)::r=>if g=f then (g,v)::r else (g,x)::bW f v r
theorem vw (f g:Str)(v:V):∀fs:List (Str×V),(bW f v fs).lookup g=if g=f then some v else fs.lookup g
 |[]=>by
  show List.lookup g [(f,v)]=_;by_cases h:g=f
  ·have hb:(g==f)=true:=agK.mpr h;simp only[List.lookup,hb,ael h]
  ·have hb:(g==f)=false:=aef.mpr h;simp only[List.lookup,hb,aed h]
 |(k,x)::r=>by
  have ih:=vw f g v r;rw[show bW f v ((k,x)::r)=(if k=f then (k,v)::r else (k,x)::bW f v r) from rfl];by_cases hk:k=f
  ·rw[ael hk];by_cases h:g=k
   ·have hb:(g==k)=true:=agK.mpr h;simp only[List.lookup,hb,ael (h.trans hk)]
   ·have hb:(g==k)=false:=aef.mpr h;simp only[List.lookup,hb,aed (λe:g=f=>h (e.trans hk.symm))]
  ·rw[aed hk];by_cases h:g=k
   ·have hb:(g==k)=true:=agK.mpr h;simp only[List.lookup,hb,aed (λe:g=f=>hk (h.symm.trans e))]
   ·have hb:(g==k)=false:=aef.mpr h;simp only[List.lookup,hb];exact ih
theorem tQ (f:Str)(v:V):∀fs:List (Str×V),f∈(bW f v fs).map (·.1)/\∀g,g∈fs.map (·.1)->g∈(bW f v fs).map (·.1)
 |[]=>⟨by simp[bW],λg h=>by simp at h⟩
 |(k,x)::r=>by
  obtain⟨i1,i2⟩:=tQ f v r;rw[show bW f v ((k,x)::r)=(if k=f then (k,v)::r else (k,x)::bW f v r) from rfl];by_cases hk:k=f
  ·rw[ael hk];subst hk;exact⟨by simp,λg h=>by simpa using h⟩
  ·rw[aed hk];refine⟨?_,λg h=>?_⟩
   ·rw[aeN];exact aek _ i1
   ·rw[aeN]at h ⊢;rcases aea.mp h with e|e
    ·exact aea.mpr (.inl e)
    ·exact aek _ (i2 g e)
theorem vx (f:Str)(v:V):∀fs:List (Str×V),(bW f v fs).length<=fs.length+ 1
 |[]=>by simp[bW]
 |(k,x)::r=>by
  have ih:=vx f v r;rw[show bW f v ((k,x)::r)=(if k=f then (k,v)::r else (k,x)::bW f v r) from rfl];by_cases hk:k=f
  ·rw[ael hk,aes,aes];omega
  ·rw[aed hk,aes,aes];omega
theorem gq.some_of {v:V}{o:Option Value}(r:gq (some v) o):∃u,o=some u/\RelV v u:=by
 cases o with
 |none=>exact(show False from r).elim
 |some u=>exact⟨u,rfl,r⟩
theorem gq.none_of {o:Option Value}(r:gq none o):o=none:=by
 cases o with
 |none=>rfl
 |some u=>exact(show False from r).elim
theorem G7 {v:V}{u:Value}(r:RelV v u):PySem.W.handedIn u=true:=by
 cases v with
 |non=>cases (show u=Value.none from r);rfl
 |bl b=>cases (show u=Value.bool b from r);rfl
 |int i=>obtain⟨t,e⟩:=(show ∃t,u=Value.int i t from r);cases e;rfl
 |str x=>obtain⟨t,e⟩:=(show ∃t,u=Value.str x t from r);cases e;rfl
 |pQ b=>obtain⟨t,e⟩:=(show ∃t,u=Value.bytes b t from r);cases e;rfl
 |AX b=>obtain⟨t,e⟩:=(show ∃t,u=Value.float b t from r);cases e;rfl
 |ref a=>cases (show u=Value.ref a from r);rfl
 |ty n=>cases (show u=Value.type n from r);rfl
section
variable {P:Program} {w:World} {H H':Hp} {h h':Heap} {a C dx:Addr} {fs ZV:List (Str×V)}
theorem uR (aO:dS P w H h)(e:H a=some (.ins C dx fs)):∃mA,vV h a dx C mA/\(∀f,gq (fs.lookup f) (mA f))/\PySem.Within mA (fs.map (·.1))/\fs.length<=1000/\H dx=some (.own a):=by
 obtain⟨d,z,ne,ob,mA,n,r,q⟩:=(show cG P w H h a (.ins C dx fs) from aO a _ e);exact⟨mA,⟨ob,n,ne⟩,r,q,z,d⟩
end
structure qO (K:PySem.W.Frag) (C:Addr):Prop where
 pg:PySem.W.plainGet K C Str.empty=true
 hd:PySem.W.hasDictIn K C=true
 po:PySem.W.plainOver K C=true
 sa:PySem.W.findIn K (.ref C) "__setattr__"=some (some (.builtin "object.__setattr__"))
theorem qO.get {K:PySem.W.Frag}{C:Addr}(c:qO K C)(f:Str):PySem.W.plainGet K C f=true:=c.pg
def qQ (K:PySem.W.Frag)(C:Addr)(f:Str):Prop:=PySem.W.findIn K (.ref C) f=some none
theorem qQ.Ur {K:PySem.W.Frag}{C:Addr}{f:Str}(n:qQ K C f):PySem.W.takerIn K C f=some none:=by
 unfold PySem.W.takerIn;rw[show PySem.W.findIn K (.ref C) f=some none from n];rfl
structure Con (K:PySem.W.Frag) (C:Addr) (f:Str) (v:V) (u:Value):Prop where
 at_:PySem.W.findIn K (.ref C) f=some (some u)
 rel:RelV v u
 get:PySem.W.specialIn K u "__get__"=some none
 cp:PySem.W.copiedNames.contains f=false
structure Meth (K:PySem.W.Frag) (C:Addr) (m:Str) (f:Addr):Prop where
 at_:PySem.W.findIn K (.ref C) m=some (some (.ref f))
 fn:PySem.W.isFn K (.ref f)=true
 kp:PySem.W.keepIn K (.ref f)=true
section
variable {X:Cx} {pins:List (Addr×Obj)} {σ:St} {H:Hp} {s:Shared} {a C dx:Addr} {fs:List (Str×V)} {f:Str} {v:V} {A:Around} {E:Value->Shared->Prop}
theorem FJ {b:Bool}{Q:Value->Shared->Prop}(I:Inv X pins σ H s)(e:H a=some (.ins C dx fs))(c:qO X.K C)(n:qQ X.K C f)(l:fs.lookup f=some v)
 (h:∀u s',Inv X pins σ H s'->RelV v u->Q u s'):wpAny (model X.prog X.w) A (getAttr (.ref a) f b) Q E s:=by
 obtain⟨mA,O,r,_,_,_⟩:=uR I.aO e;obtain⟨u,hu,ru⟩:=gq.some_of (v:=v) (o:=mA f) (by rw[←l];exact r f);exact get_map I.ip O (c.get f) c.hd n hu (G7 ru) (h u _ (I.tok _) ru)
theorem xA {m:Str}{g:Addr}{pl:Sem Bool}{Q:Value×List Value->Shared->Prop}(I:Inv X pins σ H s)(e:H a=some (.ins C dx fs))(c:qO X.K C)(k:Meth X.K C m g)(l:fs.lookup m=none)
 (h:Q (.ref g,[.ref a]) s):wpAny (model X.prog X.w) A (getMethod (.ref a) m pl) Q E s:=by
 obtain⟨mA,O,r,_,_,_⟩:=uR I.aO e;have hn:mA m=none:=gq.none_of (by rw[←l];exact r m);exact JK I.ip O (c.get m) k.at_ k.fn hn h
theorem FK {y:V}{u:Value}{Q:Unit->Shared->Prop}(I:Inv X pins σ H s)(e:H a=some (.ins C dx fs))(c:qO X.K C)(n:qQ X.K C f)(hl:fs.length<1000)(ry:RelV y u)
 (h:∀s',Inv X pins σ (upd H a (.ins C dx (bW f y fs))) s'->Q () s'):wpAny (model X.prog X.w) A (setAttr (.ref a) f u) Q E s:=by
 obtain⟨mA,O,r,wi,_,ho⟩:=uR I.aO e;have hz:(fs.map (·.1)).length<=sizeLine:=by rw[ad6,sizeLine_eq];omega
 refine Nx I.ip O c.sa c.po n.Ur c.hd wi hz λh' O' sb=>h _ ?_
 have hd:∃o,h'.get? dx=some o:=let ⟨o,_,_,e',_⟩:=O'.ns;⟨o,e'⟩
 refine I.write (x:=a) (e:=dx) (by rw[e];exact True.intro) (.inr ho) (λb q hb z=>(sb.2 b hb).trans z) hd ?_;refine⟨by rw[ao O.ne];exact ho,?_,O.ne,O'.obj,_,O'.ns,λg=>?_,λg hg=>?_⟩
 ·have:=vx f y fs;omega
 ·show gq ((bW f y fs).lookup g) (if g=f then some u else mA g);rw[vw];by_cases q:g=f
  ·rw[ael q,ael q];exact ry
  ·rw[aed q,aed q];exact r g
 ·by_cases q:g=f
  ·rw[q];exact(tQ f y fs).1
  ·refine(tQ f y fs).2 g (wi g λz=>hg ?_);show (if g=f then some u else mA g)=none;rw[aed q];exact z
theorem Inv.made (I:Inv X pins σ H s):Inv X pins σ (upd (upd H s.heap.objs.size (.own (s.heap.objs.size+ 1))) (s.heap.objs.size+ 1) (.ins C s.heap.objs.size []))
 { s with heap:=(s.heap.push PySem.W.emptyDict).push (PySem.W.instObj C s.heap.objs.size) }:=by
 have e1:(s.heap.push PySem.W.emptyDict).get? s.heap.objs.size=some PySem.W.emptyDict:=aem s.heap rfl
 have e2:((s.heap.push PySem.W.emptyDict).push (PySem.W.instObj C s.heap.objs.size)).get? (s.heap.objs.size+ 1)=some (PySem.W.instObj C s.heap.objs.size):=by
  have:=aem (s.heap.push PySem.W.emptyDict) (o:=PySem.W.instObj C s.heap.objs.size) rfl
  rwa [afD]at this
 have e3:(s.heap.push PySem.W.emptyDict).Ns s.heap.objs.size (λ_=>none):=⟨PySem.W.emptyDict,#[],_,e1,rfl,(λe he=>absurd he (by simp)),λ_=>rfl⟩;have I1:=I.laid (a:=s.heap.objs.size) (o:=.own (s.heap.objs.size+ 1)) (h':=s.heap.push PySem.W.emptyDict) (t':=s.toks) (λb u q=>ad3 _ q) (ad7 _) ⟨_,e1⟩;refine I1.laid (a:=s.heap.objs.size+ 1) (o:=.ins C s.heap.objs.size []) (t':=s.toks) (λb u q=>ad3 _ q) (afW (afD _ _)) ?_;have ne:s.heap.objs.size≠s.heap.objs.size+ 1:=aen (afV _);refine⟨by rw[ao ne,aj],aeA _,ne,e2,λ_=>none,(Heap.Ns1.of_empty e3).at λo q=>ad3 _ q,λ_=>True.intro,λy hy=>absurd rfl hy⟩
theorem Ny {prog:Program}{w:World}{env:Env}{e:Expr}{f:Str}{pos:Pos}{s:Shared}{Q:Value->Shared->Prop}(hb:attributeBase e f env (eval e env)=eval e env)
 (h:wpAny (model prog w) A (eval e env) (λo bF=>wpAny (model prog w) A (getAttr o f true) Q E bF) E s):wpAny (model prog w) A (eval (.Attribute e f pos) env) Q E s:=
 Attribute_any_ h (by rw[arm_eval_Attribute,hb])
end
def Pw (K:PySem.W.Frag)(ta:TE)(f:Str):TE:=λ σ H Q=>ta σ H λx H1=>∃a C dx fs v,x=.ref a/\H1 a=some (.ins C dx fs)/\qO K C/\qQ K C f/\fs.lookup f=some v/\Q v H1
def YR (K:PySem.W.Frag)(ta tv:TE)(f:Str):TS:=λD σ H=>tv σ H λy H1=>ta σ H1 λx H2=>∃a C dx fs,x=.ref a/\H2 a=some (.ins C dx fs)/\qO K C/\qQ K C f/\fs.length<1000/\
 D.nx σ (upd H2 a (.ins C dx (bW f y fs)))
section
variable {X:Cx} {o e value:Expr} {f:Str} {pos pos' YS:Pos} {ta tv:TE}
theorem aF (he:PE X e ta)(hb:attributeBase e f X.env (eval e X.env)=eval e X.env):PE X (.Attribute e f pos) (Pw X.K ta f):=by
 intro pins s σ H Q I h;refine Ny hb (bh (he pins s σ H _ I h) λu s1 ⟨x,H1,I1,rx,a,C,dx,fs,v,ex,ea,c,n,l,q⟩=>?_);subst ex;obtain rfl:u=Value.ref a:=rx;exact FJ I1 ea c n l λu' s2 I2 ru=>⟨v,H1,I2,ru,q⟩
theorem cu (ha:PE X o ta)(hv:PE X value tv)(hs:swapsWith value (some (.Attribute o f pos')) pos.line X.env=pure false):PS X (.Assign [.Attribute o f pos'] value pos) (YR X.K ta tv f):=by
 intro pins s σ H D I h;refine plainObj_wpAny_Assign_Attribute (bh (hv pins s σ H _ I h) λu s1 ⟨y,H1,I1,ry,q⟩=>bh (ha pins s1 σ H1 _ I1 q) λov s2 ⟨x,H2,I2,rx,a,C,dx,fs,ex,ea,c,n,l,q2⟩=>?_) hs;subst ex;obtain rfl:ov=Value.ref a:=rx;exact FK I2 ea c n l ry λs3 I3=>⟨σ,_,I3,q2⟩
end
section
variable {X:Cx} {pins:List (Addr×Obj)} {σ:St} {H:Hp} {s:Shared} {A:Around} {E:Value->Shared->Prop} {Q:Value->Shared->Prop} {c:Value} {b:Bool}
inductive lM (K:PySem.W.Frag) (H:Hp):V->Value->Prop where
 |non:lM K H .non (.type "NoneType")
 |bl (x:Bool):lM K H (.bl x) (.type "bool")
 |int (i:Int):lM K H (.int i) (.type "int")
 |str (x:Str):lM K H (.str x) (.type "str")
 |AX (x:UInt64):lM K H (.AX x) (.type "float")
 |lst {a:Addr} {xs:List V} (e:H a=some (.lst xs)):lM K H (.ref a) (.type "list")
 |fB {a:Addr} {o:Obj} {xs:List V} (e:H a=some (.fB o (.lst xs))):lM K H (.ref a) (.type "list")
 |tup {a:Addr} {xs:List V} (e:H a=some (.tup xs)):lM K H (.ref a) (.type "tuple")
 |dK {a:Addr} {kvs:List (Key×V)} (e:H a=some (.dK kvs)):lM K H (.ref a) (.type "dict")
 |dT {a:Addr} {kvs:List (List Key×V)} (e:H a=some (.dT kvs)):lM K H (.ref a) (.type "dict")
 |ins {a C dx:Addr} {fs:List (Str×V)} (e:H a=some (.ins C dx fs)) (cl:qO K C) (ha:PySem.W.findIn K (.ref C) "__class__"=some (some (.builtin "object.__class__")))
  (hn:PySem.W.specialIn K (.builtin "object.__class__") "__get__"=some (some (.builtin "getset_descriptor.__get__"))) (Vp:PySem.W.takesIn K (.builtin "object.__class__")=some true)
  (hm:PySem.W.mroIn K C (.type "object")=some true):lM K H (.ref a) (.ref C)
theorem G8 {x:V}{u t:Value}(I:Inv X pins σ H s)(rx:RelV x u)(ty:lM X.K H x t)(e:PySem.W.kitOne X.K t c=some b)(h:∀tk,Q (.bool b) { s with toks:=tk }):
 wpAny (model X.prog X.w) A (call (.builtin "isinstance") [u,c]) Q E s:=by
 cases ty with
 |non=>cases (show u=Value.none from rx);exact afk PySem.W.kitx_none I.ip True.intro e (λz=>nomatch z) h
 |bl y=>cases (show u=Value.bool y from rx);exact afk PySem.W.kitx_bool I.ip True.intro e (λz=>nomatch z) h
 |int i=>obtain⟨t,q⟩:=(show ∃t,u=Value.int i t from rx);cases q;exact afk PySem.W.kitx_int I.ip True.intro e (λz=>nomatch z) h
 |str y=>obtain⟨t,q⟩:=(show ∃t,u=Value.str y t from rx);cases q;exact afk PySem.W.kitx_str I.ip True.intro e (λz=>nomatch z) h
 |AX y=>obtain⟨t,q⟩:=(show ∃t,u=Value.float y t from rx);cases q;exact afk PySem.W.kitx_float I.ip True.intro e (λz=>nomatch z) h
 | @lst a xs ea=>
   cases (show u=Value.ref a from rx);obtain⟨_,_,n,_,h1⟩:=(show cG X.prog X.w H s.heap a (.lst xs) from I.aO a _ ea);exact afk PySem.W.kitx_list I.ip ⟨_,h1,rfl⟩ e (λz=>nomatch z) h
 | @fB a ob xs ea=>
   cases (show u=Value.ref a from rx);obtain⟨_,_,_,n,_,h1⟩:=(show cG X.prog X.w H s.heap a (.fB ob (.lst xs)) from I.aO a _ ea);exact afk PySem.W.kitx_list I.ip ⟨_,h1,rfl⟩ e (λz=>nomatch z) h
 | @tup a xs ea=>
   cases (show u=Value.ref a from rx);obtain⟨_,_,_,p⟩:=(show cG X.prog X.w H s.heap a (.tup xs) from I.aO a _ ea);obtain⟨o,h1,h2,_⟩:=p;exact afk PySem.W.kitx_tuple I.ip ⟨o,h1,h2⟩ e (λz=>nomatch z) h
 | @dK a kvs ea=>
   cases (show u=Value.ref a from rx);obtain⟨_,_,vs,_,p⟩:=(show cG X.prog X.w H s.heap a (.dK kvs) from I.aO a _ ea);obtain⟨o,es,ep,h1,h2,_⟩:=p;exact afk PySem.W.kitx_dict I.ip ⟨o,h1,h2.1⟩ e (λz=>nomatch z) h
 | @dT a kvs ea=>
   cases (show u=Value.ref a from rx);obtain⟨_,_,xs,_,o,es,ep,h1,h2,_⟩:=(show cG X.prog X.w H s.heap a (.dT kvs) from I.aO a _ ea);exact afk PySem.W.kitx_dict I.ip ⟨o,h1,h2.1⟩ e (λz=>nomatch z) h
 | @ins a C dx fs ea cl ha hn Vp hm=>
   cases (show u=Value.ref a from rx);obtain⟨mA,O,_⟩:=uR I.aO ea;obtain⟨od,J,_⟩:=O.look;exact afk (PySem.W.kitx_own (cl.get _) cl.hd ha hn Vp hm) I.ip J e (λz=>nomatch z) h
end
end L2
namespace L2
open PySem PySem.Spec PyProof.Rows
structure eK (k:Nat) (A:Around):Prop where
 hd:A.handled=none
 dp:A.depth+ 3* k+ 5<recursionLimit
 un:A.units+ 16* k+ 200<cLine
theorem eK.mono {j k:Nat}{A:Around}(r:eK k A)(h:j<=k):eK j A:=⟨r.hd,by have:=r.dp;omega,by have:=r.un;omega⟩
theorem eK.deeper {k:Nat}{A:Around}(r:eK (k+ 1) A)(env:Env):eK k (A.deeper env):=
 ⟨r.hd,by have:=r.dp;show A.depth+ 1+ 3* k+ 5<_;omega,by have:=r.un;show A.units+ 3+ 16* k+ 200<_;omega⟩
theorem FL {A:Around}{C:Addr}{us:List Value}{kw:List (Str×Value)}:(A.under (.builtin "type.__call__" ⟨.ref C::us,kw⟩)).depth=A.depth+ 1:=by
 first|rfl|simp[Around.under,Code.weight,Code.isCreation,Code.isGuard,Code.isCaller,Code.frames,Code.isFrame,guardIds]
theorem FN {A:Around}{C:Addr}{us:List Value}{kw:List (Str×Value)}:(A.under (.builtin "type.__call__" ⟨.ref C::us,kw⟩)).units=A.units+ 1:=by
 first|rfl|simp[Around.under,Code.cUnits,Code.frames,Code.isFrame]
theorem eK.make {k:Nat}{A:Around}(r:eK (k+ 1) A)(C:Addr)(us:List Value)(kw:List (Str×Value)):eK k (A.under (.builtin "type.__call__" ⟨.ref C::us,kw⟩)):=
 ⟨r.hd,by have:=r.dp;rw[FL];omega,by have:=r.un;rw[FN];omega⟩
theorem eK.depth {k:Nat}{A:Around}(r:eK k A):A.depth<recursionLimit:=by have:=r.dp;omega
theorem eK.units {k:Nat}{A:Around}(r:eK k A):A.units+ 64<cLine:=by have:=r.un;omega
def A8:TA:=λ_ H Q=>Q [] H
def AG (ta:TE)(tr:TA):TA:=λ σ H Q=>ta σ H λx H1=>tr σ H1 λxs H2=>Q (x::xs) H2
section
variable {X:Cx} {e:Expr} {es:List Expr} {te:TE} {t:TA} {pos:Pos}
theorem ah:PA X [] A8:=λ_ _ _ _ H Q I h=>afy ⟨[],H,I,.nil,h⟩
theorem ae (ha:PE X e te)(hr:PA X es t)(hs:starEach (e::es) X.env=(false,eval e X.env)::starEach es X.env:=by rfl):PA X (e::es) (AG te t):=by
 intro pos pins s σ H Q I h;rw[hs];show wpAny _ _ (spliced ((false,eval e X.env)::backTo pos (starEach es X.env))) _ _ s;refine aeZ (bh (ha pins s σ H _ I h) λu s1 ⟨x,H1,I1,r1,q1⟩=>?_);exact bh (hr pos pins s1 σ H1 _ I1 q1) λus s2 ⟨xs,H2,I2,r2,q2⟩=>⟨x::xs,H2,I2,.cons r1 r2,q2⟩
def YT (t:TA):TE:=λ σ H Q=>t σ H λxs H1=>xs.length<=sizeLine/\∀p,H1 p=none->Q (.ref p) (upd H1 p (.tup xs))
def YV (t:TA):TE:=λ σ H Q=>t σ H λxs H1=>xs.length<=sizeLine/\∀p,H1 p=none->Q (.ref p) (upd H1 p (.lst xs))
theorem cM {x1}(h:PA X es t):PE X (.Tuple es x1 pos) (YT t):=by
 intro pins s σ H Q I hq;refine wpAny_Tuple_spliced (bh (h pos pins s σ H _ I hq) λus s1 ⟨xs,H1,I1,r,z,q⟩=>⟨by rw[←r.length];exact z,?_⟩);have hf:H1 s1.heap.objs.size=none:=I1.aO.fresh (ad7 _);refine⟨.ref s1.heap.objs.size,upd H1 s1.heap.objs.size (.tup xs),I1.laid (t':=s1.toks) (λb u e=>ad3 _ e) (ad7 _) ?_,rfl,q _ hf⟩;exact⟨z,us,r,⟨_,aem _ rfl,rfl,_,rfl⟩⟩
theorem cR (h:PA X es t):PE X (.List es pos) (YV t):=by
 intro pins s σ H Q I hq;refine wpAny_List_spliced (bh (h pos pins s σ H _ I hq) λus s1 ⟨xs,H1,I1,r,z,q⟩=>⟨by rw[←r.length];exact z,?_⟩);have hf:H1 s1.heap.objs.size=none:=I1.aO.fresh (ad7 _);refine⟨.ref s1.heap.objs.size,upd H1 s1.heap.objs.size (.lst xs),I1.laid (t':=s1.toks) (λb u e=>ad3 _ e) (ad7 _) ?_,rfl,q _ hf⟩;exact⟨z,us,0,r,aem _ rfl⟩
end
abbrev Sp:=List V->Hp->VK->XK->Prop
abbrev qS:=List Env->Hp->Shared->XK->Value->Shared->Prop
structure vW (P:Program) (w:World) (K:PySem.W.Frag) (mg:Str->Option Value) (base:Heap) (A:Around) (outer:List Env) (s:Shared) (H:Hp):Prop where
 frames:A.frames=some outer
 mod:Mod K mg base
 bs:∀b o,base.get? b=some o->s.heap.get? b=some o/\H b=none
 om:base.objs.size<=s.heap.objs.size
 jv:s.heap.FunFrames base outer
 tH:∀b∈ik outer,H b=none
 aO:dS P w H s.heap
 bare:AllBare s.gens
def CE (outer:List Env)(P:Program)(w:World)(H:Hp)(s:Shared)(Q:VK)(u:Value)(s':Shared):Prop:=
 ∃v H',s'.os=s.os/\AllBare s'.gens/\Un (ik outer) [] H H' s.heap s'.heap/\dS P w H' s'.heap/\RelV v u/\Q v H'
def CR (CX:qS)(outer:List Env)(P:Program)(w:World)(H:Hp)(s:Shared)(Q:VK)(E:XK)(r:Result)(s':Shared):Prop:=
 match r with
 |.ok (.ret u)=>CE outer P w H s Q u s'
 |.ok _=>False
 |.error e=>CX outer H s E e s'
structure aK (P:Program) (w:World) (K:PySem.W.Frag) (mg:Str->Option Value) (base:Heap) (CX:qS) (k:Nat) (f:Addr) (fd:FuncData) (ps:List Str) (sp:Sp):Prop where
 len:∀vs H Q E,sp vs H Q E->vs.length=ps.length
 run:∀(A:Around) (outer:List Env) (s:Shared) (H:Hp) (args:Args) (us:List Value) (vs:List V) (Q:VK) (E:XK),eK k A->vW P w K mg base A outer s H->BindsTo s fd args (ps.zip us)->Vals vs us->sp vs H Q E->
  codeAny (model P w) A (.call (.ref f) args) (CR CX outer P w H s Q E) s
theorem vW.make {P:Program}{w:World}{K:PySem.W.Frag}{mg:Str->Option Value}{base:Heap}{A:Around}{outer:List Env}{s:Shared}{H:Hp}(e:vW P w K mg base A outer s H)(C:Addr)(us:List Value)(kw:List (Str×Value)):
 vW P w K mg base (A.under (.builtin "type.__call__" ⟨.ref C::us,kw⟩)) outer s H:=⟨by first|exact e.frames|(simpa [Around.under,Code.envs,Code.isFrame,pushEnvs] using e.frames),e.mod,e.bs,e.om,e.jv,e.tH,e.aO,e.bare⟩
section
variable {X:Cx} {pins:List (Addr×Obj)} {σ:St} {H:Hp} {s s':Shared}
theorem Inv.Px (I:Inv X pins σ H s):vW X.prog X.w X.K X.mg X.base X.A X.stack s H:=
 ⟨I.ok.frames,I.ok.mod,I.bs,aep I.ok.om I.sz,I.stack,I.qI,I.aO,I.bare⟩
theorem Inv.after {Q:VK}{u:Value}(I:Inv X pins σ H s)(h:CE X.stack X.prog X.w H s Q u s'):EP X pins σ Q u s':=by
 obtain⟨v,H',os,bare,un,aO,r,q⟩:=h;obtain⟨hh,g,d,t,Z8⟩:=s';obtain rfl:Z8=s.os:=os;exact⟨v,H',I.call (h':=hh) (g':=g) (d':=d) (t':=t) (ch:=[]) un aO bare (λb z=>absurd z (by simp)),r,q⟩
end
def Us (sp:Sp)(jA:List V)(E:XK)(t:TA):TE:=λ σ H Q=>t σ H λvs H1=>sp (vs++jA) H1 Q E
def Lq (C:Addr)(m:Str)(sp:Sp)(jA:List V)(E:XK)(ta:TE)(t:TA):TE:=λ σ H Q=>ta σ H λx H1=>∃a dx fs,x=.ref a/\H1 a=some (.ins C dx fs)/\fs.lookup m=none/\
 t σ H1 λvs H2=>sp (x::(vs++jA)) H2 Q E
def Ut (C:Addr)(sp:Sp)(jA:List V)(E:XK)(t:TA):TE:=λ σ H Q=>t σ H λvs H1=>∀x dx,H1 x=none->H1 dx=none->dx≠x->
 sp (.ref x::(vs++jA)) (upd (upd H1 dx (.own x)) x (.ins C dx [])) (λv H2=>v=.non/\Q (.ref x) H2) E
def Binds (K:PySem.W.Frag)(fd:FuncData)(ps:List Str)(ds:List Value):Prop:=
 ∀(s:Shared) (us:List Value),K.In s.heap->(us++ds).length=ps.length->BindsTo s fd ⟨us,[]⟩ (ps.zip (us++ds))
theorem Binds.all {K:PySem.W.Frag}{fd:FuncData}{ps:List Str}(h:∀us:List Value,us.length=ps.length->bindArgs fd ⟨us,[]⟩=pure (ps.zip us)):Binds K fd ps []:=λs us _ hl=>by
 rw[aeP]at hl ⊢;exact .of_eq (h us hl)
def Passes (CX:qS)(X:Cx)(E:XK):Prop:=∀(pins:List (Addr×Obj)) (σ:St) (H:Hp) (s:Shared) (e:Value) (s':Shared),Inv X pins σ H s->CX X.stack H s E e s'->X.xe e s'
section
variable {X:Cx} {CX:qS} {k:Nat} {f C:Addr} {fd:FuncData} {ps:List Str} {sp:Sp} {jA:List V} {ds:List Value} {E:XK} {x m:Str} {p pos apos:Pos} {e o:Expr} {es:List Expr} {ta:TE} {t:TA}
theorem A9 {pins:List (Addr×Obj)}{σ:St}{H:Hp}{s:Shared}{Q:VK}{us:List Value}{vs:List V}(F:aK X.prog X.w X.K X.mg X.base CX k f fd ps sp)(hr:eK k X.A)(hb:Binds X.K fd ps ds)(hd:Vals jA ds)(hx:Passes CX X E)
 (I:Inv X pins σ H s) (r:Vals vs us) (h:sp (vs++jA) H Q E):wpAny (model X.prog X.w) X.A (call (.ref f) us) (EP X pins σ Q) X.xe s:=by
 have r2:Vals (vs++jA) (us++ds):=r.append hd;have hl:(us++ds).length=ps.length:=by rw[←r2.length];exact F.len _ _ _ _ h
 refine wpAny_call (aha (F.run X.A X.stack s H ⟨us,[]⟩ (us++ds) (vs++jA) Q E hr I.Px (hb s us I.ip hl) r2 h) λr s' hq=>?_)
 cases r with
 |error e=>exact hx pins σ H s e s' I hq
 |ok fl=>
  cases fl with
  |ret u=>exact I.after hq
  |next=>exact False.elim hq
  |brk=>exact False.elim hq
  |cont=>exact False.elim hq
theorem bp (F:aK X.prog X.w X.K X.mg X.base CX k f fd ps sp)(hr:eK k X.A)(hg:Gl X x)(hm:X.mg x=some (.ref f))(hk:PySem.W.keepIn X.K (.ref f)=true)(hb:Binds X.K fd ps ds)(hd:Vals jA ds)(hx:Passes CX X E)
 (ha:PA X (e::es) t) (vy:(x==("__debug__":Str))=false:=by decide) (he:starEach (e::es) X.env=(false,eval e X.env)::starEach es X.env:=by rfl) (dU:(backTo pos (starEach es X.env)).any (·.1)=false:=by rfl):
 PE X (.Call (.Name x p) (e::es) [] pos) (Us sp jA E t):=by
 intro pins s σ H Q I h;refine afX (Ef I hg hm ?_ vy);refine PySem.W.callWith_K (h₀:=X.base) I.ok.mod.GQ hk (bh (ha pos pins s σ H _ I h) λus s1 ⟨vs,H1,I1,r,q⟩=>⟨I1.ip,?_⟩) he dU;exact A9 F hr hb hd hx I1 r q
theorem bH {pl:Sem Bool}(he:PE X o ta)(c:qO X.K C)(hm:Meth X.K C m f)(F:aK X.prog X.w X.K X.mg X.base CX k f fd ps sp)(hr:eK k X.A)(hb:Binds X.K fd ps ds)(hd:Vals jA ds)(hx:Passes CX X E)(ha:PA X (e::es) t)
 (dF:starEach (e::es) X.env=(false,eval e X.env)::starEach es X.env:=by rfl) (dU:(backTo pos (starEach es X.env)).any (·.1)=false:=by rfl)
 (ht:eval (.Call (.Attribute o m apos) (e::es) [] pos) X.env=(do
  let ov ←eval o X.env
  standAt apos.atName
  let (f,first) ←holding [ov] (getMethod ov m pl)
  callWith pos f first (backTo pos (starEach (e::es) X.env)) (backToKw pos (keywordEach [] X.env))):=by rfl):
 PE X (.Call (.Attribute o m apos) (e::es) [] pos) (Lq C m sp jA E ta t):=by
 intro pins s σ H Q I h;refine PySem.W.methodCall_KW (pl:=pl) (bh (he pins s σ H _ I h) λu s1 ⟨x,H1,I1,rx,a,dx,fs,ex,ea,l,q⟩=>?_) ht;subst ex;obtain rfl:u=Value.ref a:=rx;refine xA I1 ea c hm l ?_;refine PySem.W.callWith_K (first:=[.ref a]) (h₀:=X.base) I.ok.mod.GQ hm.kp (bh (ha pos pins s1 σ H1 _ I1 q) λus s2 ⟨vs,H2,I2,r,q2⟩=>⟨I2.ip,?_⟩) dF dU;exact A9 (us:=.ref a::us) (vs:=.ref a::vs) F hr hb hd hx I2 (.cons rfl r) q2
theorem oy {pl:Sem Bool}(he:PE X o ta)(c:qO X.K C)(hm:Meth X.K C m f)(F:aK X.prog X.w X.K X.mg X.base CX k f fd ps sp)(hr:eK k X.A)(hb:Binds X.K fd ps ds)(hd:Vals jA ds)(hx:Passes CX X E)
 (ht:eval (.Call (.Attribute o m apos) [] [] pos) X.env=(do
  let ov ←eval o X.env
  standAt apos.atName
  let (f,first) ←holding [ov] (getMethod ov m pl)
  callWith pos f first (backTo pos (starEach [] X.env)) (backToKw pos (keywordEach [] X.env))):=by rfl):
 PE X (.Call (.Attribute o m apos) [] [] pos) (Lq C m sp jA E ta A8):=by
 intro pins s σ H Q I h;refine PySem.W.methodCall_KW (pl:=pl) (bh (he pins s σ H _ I h) λu s1 ⟨x,H1,I1,rx,a,dx,fs,ex,ea,l,q⟩=>?_) ht;subst ex;obtain rfl:u=Value.ref a:=rx;refine xA I1 ea c hm l ?_;exact PySem.W.callWith_K0 (first:=[.ref a]) I1.ip hm.kp (A9 (us:=[.ref a]) (vs:=[.ref a]) F hr hb hd hx I1 (.cons rfl .nil) q)
structure Mk (K:PySem.W.Frag) (C f:Addr):Prop where
 makes:PySem.W.makesIn K C=true
 init:PySem.W.findIn K (.ref C) "__init__"=some (some (.ref f))
 fn:PySem.W.isFn K (.ref f)=true
 kp:PySem.W.keepIn K (.ref C)=true
theorem JM {pins:List (Addr×Obj)}{σ:St}{H:Hp}{s:Shared}{Q:VK}{us:List Value}{vs:List V}(M:Mk X.K C f)(F:aK X.prog X.w X.K X.mg X.base CX k f fd ps sp)(hr:eK (k+ 1) X.A)(hb:Binds X.K fd ps ds)(hd:Vals jA ds)
 (hx:Passes CX X E) (I:Inv X pins σ H s) (r:Vals vs us)
 (h:∀x dx,H x=none->H dx=none->dx≠x->sp (.ref x::(vs++jA)) (upd (upd H dx (.own x)) x (.ins C dx [])) (λv H2=>v=.non/\Q (.ref x) H2) E):
 wpAny (model X.prog X.w) X.A (call (.ref C) us) (EP X pins σ Q) X.xe s:=by
 have hq:=h (s.heap.objs.size+ 1) s.heap.objs.size (I.aO.fresh (agh _)) (I.aO.fresh (ad7 _)) (aen (afV _));have I2:=Inv.made (C:=C) I;have r2:Vals (V.ref (s.heap.objs.size+ 1)::(vs++jA)) (Value.ref (s.heap.objs.size+ 1)::(us++ds)):=.cons rfl (r.append hd)
 have hl:(Value.ref (s.heap.objs.size+ 1)::us++ds).length=ps.length:=by
  have e:=r2.length;rw[F.len _ _ _ _ hq]at e;exact e.symm
 refine wpAny_call (JL (f:=f) I.ip M.makes M.init (agK.mp M.fn) (aha (F.run _ X.stack _ _ ⟨Value.ref (s.heap.objs.size+ 1)::us,[]⟩ (Value.ref (s.heap.objs.size+ 1)::(us++ds)) _ _ E (hr.make C us [])
  (I2.Px.make C us []) (hb _ (Value.ref (s.heap.objs.size+ 1)::us) I2.ip hl) r2 hq) λr s' zt=>?_))
 cases r with
 |error e=>exact hx pins σ _ _ e s' I2 zt
 |ok fl=>
  cases fl with
  |ret u=>
   obtain⟨v,H',I3,rv,ev,q3⟩:=I2.after zt;subst ev;exact⟨rv,⟨V.ref (s.heap.objs.size+ 1),H',I3,rfl,q3⟩⟩
  |next=>exact False.elim zt
  |brk=>exact False.elim zt
  |cont=>exact False.elim zt
theorem yJ (M:Mk X.K C f)(F:aK X.prog X.w X.K X.mg X.base CX k f fd ps sp)(hr:eK (k+ 1) X.A)(hg:Gl X x)(hm:X.mg x=some (.ref C))(hb:Binds X.K fd ps ds)(hd:Vals jA ds)(hx:Passes CX X E)
 (ha:PA X (e::es) t) (vy:(x==("__debug__":Str))=false:=by decide) (he:starEach (e::es) X.env=(false,eval e X.env)::starEach es X.env:=by rfl) (dU:(backTo pos (starEach es X.env)).any (·.1)=false:=by rfl):
 PE X (.Call (.Name x p) (e::es) [] pos) (Ut C sp jA E t):=by
 intro pins s σ H Q I h;refine afX (Ef I hg hm ?_ vy);refine PySem.W.callWith_K (h₀:=X.base) I.ok.mod.GQ M.kp (bh (ha pos pins s σ H _ I h) λus s1 ⟨vs,H1,I1,r,q⟩=>⟨I1.ip,?_⟩) he dU;exact JM M F hr hb hd hx I1 r q
end
def PK (X:Cx)(kws:List Keyword)(t:TA):Prop:=
 ∀(pos:Pos) (pins:List (Addr×Obj)) (s:Shared) (σ:St) (H:Hp) (Q:List V->Hp->Prop),Inv X pins σ H s->t σ H Q->wpAny (model X.prog X.w) X.A (evalAll ((backToKw pos (keywordEach kws X.env)).map (·.2))) (AP X pins σ Q) X.xe s
section
variable {X:Cx} {CX:qS} {k:Nat} {f C:Addr} {fd:FuncData} {ps ks:List Str} {sp:Sp} {E:XK} {x m:Str} {p pos apos YW:Pos} {e o:Expr} {es:List Expr} {kws:List Keyword} {te ta:TE} {t tk:TA} {nm:Option Str}
theorem Py:PK X [] A8:=λ_ _ _ _ H Q I h=>wpAny_evalAll_nil ⟨[],H,I,.nil,h⟩
theorem Nz (ha:PE X e te)(hr:PK X kws t):PK X (⟨nm,e,YW⟩::kws) (AG te t):=by
 intro pos pins s σ H Q I h;show wpAny _ _ (evalAll ((do let v ←eval e X.env;standAt pos;pure v)::(backToKw pos (keywordEach kws X.env)).map (·.2))) _ _ s;refine wpAny_evalAll_cons (adW (bh (ha pins s σ H _ I h) λu s1 ⟨x,H1,I1,r1,q1⟩=>adW (agR (ad8 ?_))));exact bh (hr pos pins s1 σ H1 _ I1 q1) λus s2 ⟨xs,H2,I2,r2,q2⟩=>⟨x::xs,H2,I2,.cons r1 r2,q2⟩
structure Z9 (K:PySem.W.Frag) (fd:FuncData) (ps ks:List Str) (g:List Value->List Value->List Value) (gV:List V->List V->List V):Prop where
 to:∀(s:Shared) (us ws:List Value),K.In s.heap->(g us ws).length=ps.length->BindsTo s fd ⟨us,ks.zip ws⟩ (ps.zip (g us ws))
 rel:∀{vs:List V} {us:List Value} {zs:List V} {ws:List Value},Vals vs us->Vals zs ws->Vals (gV vs zs) (g us ws)
variable {g:List Value->List Value->List Value} {gV:List V->List V->List V}
end
structure bx (N P:List Str) (sc:Scope):Prop where
 kind:sc.kind=.function
 co:sc.isCoroutine=false
 gen:sc.isGenerator=false
 nd:N.Nodup
 pre:N.take P.length=P
 par:∀x∈P,sc.names.lookup x=some .local\/sc.names.lookup x=some .cell
 Pz:∀y∈sc.names,y.2≠.free
theorem zu {kindOf:Str->Option NameKind}{x:Str}:∀{binds:List (Str×Value)} {m:Str->Option Value},(∀v,(x,v)∉binds)->bindL kindOf binds m x=m x
 |[],_,_=>rfl
 |(n,v)::r,m,h=>by
  unfold bindL;rw[zu λw hw=>h w (aek _ hw)];split
  ·have:x≠n:=by rintro rfl;exact h v aeb
   simp[this]
  ·rfl
theorem zv {kindOf:Str->Option NameKind}{x:Str}:∀{binds:List (Str×Value)} {m:Str->Option Value},(∀v,(x,v)∉binds)->bindC kindOf binds m x=m x
 |[],_,_=>rfl
 |(n,v)::r,m,h=>by
  unfold bindC;rw[zv λw hw=>h w (aek _ hw)];split
  ·rfl
  ·have:x≠n:=by rintro rfl;exact h v aeb
   simp[this]
theorem zx {kindOf:Str->Option NameKind}{x:Str}{v:Value}:∀{P:List Str} {vs:List Value} {i:Nat} {m:Str->Option Value},P.Nodup->P[i]?=some x->vs[i]?=some v->kindOf x=some .local->
 bindL kindOf (P.zip vs) m x=some v
 |[],_,_,_,_,h,_,_=>by simp at h
 |_::_,[],_,_,_,_,h,_=>by simp at h
 |p::P,w::vs,0,m,nd,h1,h2,hk=>by
  simp at h1 h2;subst h1;subst h2;show bindL kindOf ((p,w)::P.zip vs) m p=_;unfold bindL;rw[zu λv hv=>(aeJ.mp nd).1 (List.of_mem_zip hv).1,ael hk];simp
 |p::P,w::vs,i+ 1,m,nd,h1,h2,hk=>by
  show bindL kindOf ((p,w)::P.zip vs) m x=_;unfold bindL;exact zx (i:=i) (aeJ.mp nd).2 (by simpa using h1) (by simpa using h2) hk
theorem zy {kindOf:Str->Option NameKind}{x:Str}{v:Value}:∀{P:List Str} {vs:List Value} {i:Nat} {m:Str->Option Value},P.Nodup->P[i]?=some x->vs[i]?=some v->kindOf x≠some .local->
 bindC kindOf (P.zip vs) m x=some v
 |[],_,_,_,_,h,_,_=>by simp at h
 |_::_,[],_,_,_,_,h,_=>by simp at h
 |p::P,w::vs,0,m,nd,h1,h2,hk=>by
  simp at h1 h2;subst h1;subst h2;show bindC kindOf ((p,w)::P.zip vs) m p=_;unfold bindC;rw[zv λv hv=>(aeJ.mp nd).1 (List.of_mem_zip hv).1,aed hk];simp
 |p::P,w::vs,i+ 1,m,nd,h1,h2,hk=>by
  show bindC kindOf ((p,w)::P.zip vs) m x=_;unfold bindC;exact zy (i:=i) (aeJ.mp nd).2 (by simpa using h1) (by simpa using h2) hk
def start (N:List Str)(vs:List V):St:=vs.map some++List.replicate (N.length - vs.length) none
def tS (CX:qS)(P:Program)(w:World)(K:PySem.W.Frag)(mg:Str->Option Value)(base:Heap)(N:List Str)(qual:Str)(scope:Scope)(f:Addr)(cd:Value)(A:Around)(outer:List Env)(s:Shared)(H:Hp)(E:XK):Cx where
 prog:=P
 w:=w
 K:=K
 mg:=mg
 base:=base
 A:=A.deeper (envOfC qual scope s.heap.objs.size f cd)
 N:=N
 dG:=s
 vR:=H
 env:=envOfC qual scope s.heap.objs.size f cd
 outer:=outer
 stack:=envOfC qual scope s.heap.objs.size f cd::outer
 ex:=[]
 calm:=true
 fn:=λ_=>true
 pn:=[]
 xe:=λe s'=>wpAny (model P w) (A.deeper (envOfC qual scope s.heap.objs.size f cd)) (leaving (envOfC qual scope s.heap.objs.size f cd) e) (λ_ PB=>CX outer H s E e PB) (λe' PB=>CX outer H s E e' PB) s'
theorem Ba {sc:Scope}{n:Nat}{x:Str}(h:sc.names.lookup x=some .cell):∃c,(cellsFrom n sc.names []).lookup x=some c:=by
 have q:=PySem.W.cellsFrom_some sc.names n [] (.inl h);exact agL.mp q
theorem G9 {CX:qS}{P:Program}{w:World}{K:PySem.W.Frag}{mg:Str->Option Value}{base:Heap}{N ps:List Str}{qual:Str}{scope:Scope}{f:Addr}{cd:Value}{A:Around}{outer:List Env}{s s1:Shared}{H:Hp}{E:XK}{us:List Value}{vs:List V}
 (S:bx N ps scope) (hd:A.handled=none) (e0:vW P w K mg base A outer s H) (hl:vs.length=ps.length) (r:Vals vs us)
 (x:InCallC s s.heap.objs.size (bindL (envOfC qual scope s.heap.objs.size f cd).kindOf (ps.zip us) λ_=>none) (cellsFrom (s.heap.objs.size+ 1) scope.names []) (bindC (envOfC qual scope s.heap.objs.size f cd).kindOf (ps.zip us) λ_=>none) s1):
 Inv (tS CX P w K mg base N qual scope f cd A outer s H E) [] (start N vs) H s1:=by
 have dU:ps.length<=N.length:=by have:=afh List.length S.pre;rw[aeG]at this;omega
 obtain⟨h1,tk,rfl,hk⟩:=x.done;have Bb:∀b:Addr,b∉(tS CX P w K mg base N qual scope f cd A outer s H E).ex:=λb z=>absurd (show b∈([]:List Addr) from z) (by simp)
 refine⟨⟨e0.mod,S.kind,rfl,rfl,ad7 _,λy z c h1 h2=>?_,λy hy=>?_,λy c _ h=>?_,λ_=>hd,Around.frames_deeper e0.frames,.inr ⟨rfl,rfl⟩,λb z=>absurd z (Bb b),e0.bs,e0.om,λb _ _=>Bb b,λb z=>absurd z (Bb b),e0.jv,e0.tH⟩,
  rfl,e0.bare,Un.kept hk,⟨_,x.toInCall.ns,λi y v h1 h2 h3=>?_⟩,λy c h=>⟨_,x.cell y c h⟩,e0.aO.fresh (ad7 _),λy c h=>?_,λp hp=>absurd (show p∈([]:List (Addr×Obj)) from hp) (by simp),e0.aO.kept hk,?_⟩
 ·exact name_of_addr x.apart (afm h1) (afm h2)
 ·have hy:scope.names.lookup y=some .cell\/scope.names.lookup y=some .free:=hy;rcases hy with hy|hy
  ·exact Ba hy
  ·exact absurd rfl (S.Pz _ (afm hy))
 ·exact ag9 (x.above y c (afm h))
 ·have hi:i<vs.length:=by
   unfold start at h2;by_cases hi:i<vs.length
   ·exact hi
   ·rw[aee (by simpa using hi)]at h2;rw[List.getElem?_replicate]at h2;split at h2 <;> cases h2
  have ha:vs[i]?=some v:=by
   unfold start at h2;rw[aej (by simpa using hi),aeo]at h2
   cases e:vs[i]? with
   |none=>rw[e]at h2;cases h2
   |some a=>rw[e]at h2;cases h2;rfl
  obtain⟨u,hu,rv⟩:=r.get ha
  have hp:ps[i]?=some y:=by
   rw[←S.pre,List.getElem?_take_of_lt (by omega)];exact h1
  have Vq:ps.Nodup:=by rw[←S.pre];exact S.nd.sublist (List.take_sublist _ _)
  refine⟨u,rv,?_⟩;rcases S.par y (adY hp) with k|k
  ·exact .inl ⟨k,zx Vq hp hu k⟩
  ·obtain⟨c,e⟩:=Ba (n:=s.heap.objs.size+ 1) k;refine .inr ⟨.inl k,c,e,?_⟩;have q:=x.cell y c e;rw[zy Vq hp hu (by show scope.names.lookup y≠_;rw[k];decide)]at q;exact q
 ·exact e0.aO.fresh (ag9 (x.above y c (afm h)))
 ·unfold start;show _=N.length;rw[adZ,ad6,List.length_replicate];omega
theorem Uu {CX:qS}{P:Program}{w:World}{K:PySem.W.Frag}{mg:Str->Option Value}{base:Heap}{k:Nat}{f:Addr}{name qual:Str}{params:Arguments}{body:List Stmt}{scope:Scope}{dV kV doc pm bK ct oc:Value}{an od:Option Addr}
 {sP:Array (Option Value)} {N ps:List Str} {sp:Sp} (lk:K.lookup f=some ⟨oc,od,.func (PySem.W.fnOf name qual params body scope dV kV doc pm an bK ct),sP⟩) (oq:PySem.W.codeIn K bK qual=true) (S:bx N ps scope)
 (len:∀vs H Q E,sp vs H Q E->vs.length=ps.length)
 (FP:∀(A:Around) (outer:List Env) (s:Shared) (H:Hp) (vs:List V) (Q:VK) (E:XK),eK k (A.deeper (envOfC qual scope s.heap.objs.size f bK))->sp vs H Q E->
  ∃t,qJ (tS CX P w K mg base N qual scope f bK A outer s H E) body t/\t { nx:=λ_ H'=>Q .non H',rt:=Q } (start N vs) H):
 aK P w K mg base CX (k+ 1) f (PySem.W.fnOf name qual params body scope dV kV doc pm an bK ct) ps sp:=by
 refine⟨len,λA outer s H args us vs Q E hr e0 hb r nJ=>?_⟩;have hl:=len _ _ _ _ nJ;have KX:K.In s.heap:=e0.mod.GQ.keeps λb o e=>(e0.bs b o e).1
 have lim:s.heap.NoLimit:=e0.mod.nolimit.keeps λb o e=>(e0.bs b o e).1
 have Uv:∀y∈ps.zip us,scope.names.lookup y.1=some .local\/(scope.names.lookup y.1=some .cell/\((cellsFrom (s.heap.objs.size+ 1) scope.names []).lookup y.1).isSome=true):=λ⟨n,v⟩ hy=>by
  rcases S.par n (List.of_mem_zip hy).1 with q|q
  ·exact .inl q
  ·exact .inr ⟨q,PySem.W.cellsFrom_some _ _ _ (.inl q)⟩
 refine codeAny_call_function hr.depth (KX _ _ lk) rfl S.co S.gen rfl (PySem.W.codeRec_of KX oq) (hb _ _ _ _ ?_);refine wpAny_newFunctionEnv_cells S.kind Uv λenv he s1 x=>?_
 subst he;refine⟨lim.keeps x.toInCall.keep,codeAny_func ?_⟩;obtain⟨t,ht,hq⟩:=FP A outer s H vs Q E (hr.deeper _) nJ;have I:Inv (tS CX P w K mg base N qual scope f bK A outer s H E) [] (start N vs) H s1:=G9 S hr.hd e0 hl r x;refine afi (ht [] s1 (start N vs) H _ I hq) (λfl s' hs=>?_) λe s' hs=>hs
 have fin:∀{aJ:St} {H':Hp} {v:V} {u:Value},Inv (tS CX P w K mg base N qual scope f bK A outer s H E) [] aJ H' s'->RelV v u->Q v H'->CE outer P w H s Q u s':=
  λ{aJ H' v u} J rv q=>⟨v,H',J.os,J.bare,J.base,J.aO,rv,q⟩
 cases fl with
 |ret u=>
  obtain⟨v,aJ,H',J,rv,q⟩:=hs;exact fin J rv q
 |next=>
  obtain⟨aJ,H',J,q⟩:=hs;exact fin (v:=V.non) (u:=Value.none) J rfl q
 |brk=>
  obtain⟨_,_,_,q⟩:=hs;exact False.elim q
 |cont=>
  obtain⟨_,_,_,q⟩:=hs;exact False.elim q
end L2
namespace L2
open PySem PySem.Spec PyProof.Rows
section
variable {X:Cx} {x:Str} {p pos:Pos} {e:Expr} {es:List Expr} {t:TA} {id T:String} {r:List V->Hp->VK->Prop}
def Vr (r:List V->Hp->VK->Prop)(t:TA):TE:=λ σ H Q=>t σ H λvs H1=>r vs H1 Q
theorem bL (hc:mH X (.builtin id) r)(hg:Gl X x)(hm:X.mg x=none)(hv:bootBuiltins x=some (.builtin id))(ha:PA X (e::es) t)(hn:x≠"__name__":=by decide)(vy:(x==("__debug__":Str))=false:=by decide)
 (he:starEach (e::es) X.env=(false,eval e X.env)::starEach es X.env:=by rfl) (dU:(backTo pos (starEach es X.env)).any (·.1)=false:=by rfl):PE X (.Call (.Name x p) (e::es) [] pos) (Vr r t):=by
 intro pins s σ H Q I h;refine afX (ky I hg hm hv ?_ hn vy);exact PyProof.Rows.callWith_builtin1 (bh (ha pos pins s σ H _ I h) λus s1 ⟨vs,H1,I1,r1,q1⟩=>hc pins s1 σ H1 vs us Q I1 r1 q1) he dU
theorem di (hc:mH X (.type T) r)(hg:Gl X x)(hm:X.mg x=none)(hv:bootBuiltins x=some (.type T))(ha:PA X (e::es) t)(hn:x≠"__name__":=by decide)(vy:(x==("__debug__":Str))=false:=by decide)
 (he:starEach (e::es) X.env=(false,eval e X.env)::starEach es X.env:=by rfl) (dU:(backTo pos (starEach es X.env)).any (·.1)=false:=by rfl):PE X (.Call (.Name x p) (e::es) [] pos) (Vr r t):=by
 intro pins s σ H Q I h;refine afX (ky I hg hm hv ?_ hn vy);exact afb (bh (ha pos pins s σ H _ I h) λus s1 ⟨vs,H1,I1,r1,q1⟩=>hc pins s1 σ H1 vs us Q I1 r1 q1) he dU
end
end L2
namespace HT
open PySem PyProof.Rows
section
open PySem.SeqAt
open PySem.AutoSeq1 (wpAny_loadPart')
open PySem.MeetsSeq PySem.MeetsSeq2 PySem.MeetsSeq3
end
section
variable {prog:Program} {w:World} {A:Around} {E:Value->Shared->Prop} {s:Shared}
theorem NB {t b:Addr}{vs ws:List Value}{Q:Value->Shared->Prop}(ht:IsTup s.heap t vs.toArray)(hb:IsTup s.heap b ws.toArray)(hv:vs≠[])
 (h1:ws=[]->Q (.ref t) s) (h2:ws≠[]->Q (.ref s.heap.objs.size) { s with heap:=s.heap.push { cls:=.type "tuple",data:=.seq (vs++ws).toArray } })
 (hsz:vs.length+ ws.length<=sizeLine):wpAny (model prog w) A (binaryOp .Add (.ref t) (.ref b)) Q E s:=by
 obtain⟨⟨cls,dd,data,sl⟩,ho,hc,n,hd⟩:=id ht;obtain⟨⟨YX,Lr,data2,Ls⟩,jB,gU,n2,hd2⟩:=id hb;simp only at hc hd gU hd2;subst hc hd gU hd2;have e:vs.toArray++ws.toArray=(vs++ws).toArray:=by simp
 by_cases hw:ws=[]
 ·exact concat_meets ⟨_,ho,rfl⟩ ⟨_,jB,rfl⟩ noFill_tuple_add seq_tuple_add agX agS (agM _ _)
   (tuple_addW1 t b vs.toArray ws.toArray n n2 dd Lr sl Ls (by simpa using hv) (by simp[hw])) ⟨ho,jB,h1 hw⟩
 ·refine concat_meets ⟨_,ho,rfl⟩ ⟨_,jB,rfl⟩ noFill_tuple_add seq_tuple_add agX agS (agM _ _)
   (tuple_addW2 t b vs.toArray ws.toArray n n2 dd Lr sl Ls (by simpa using hv) (by simpa using hw) (by rw[ad9,ad9];exact hsz)) ⟨ho,jB,?_⟩
  rw[e];exact h2 hw
def bZ (n d:Nat):Option Int->Nat
 |none=>d
 |some v=>if v<0 then (v+ (n:Int)).toNat else min v.toNat n
theorem qT (n d k:Nat):bZ n d (some (k:Int))=min k n:=by
 show (if (k:Int)<0 then ((k:Int)+ (n:Int)).toNat else min (k:Int).toNat n)=min k n;rw[aed (by omega),aeC]
theorem PC (n d:Nat)(hd:d<=n)(o:Option Int):bZ n d o<=n:=by
 cases o with
 |none=>exact hd
 |some v=>
  show (if v<0 then (v+ (n:Int)).toNat else min v.toNat n)<=n;by_cases hv:v<0
  ·rw[ael hv];omega
  ·rw[aed hv];exact Nat.min_le_right _ _
theorem Em (v:Int)(n d:Nat):(if v<0 then max (v+ (n:Int)) 0 else min v (n:Int))=((bZ n d (some v):Nat):Int):=by
 show (if v<0 then max (v+ (n:Int)) 0 else min v (n:Int))=(((if v<0 then (v+ (n:Int)).toNat else min v.toNat n):Nat):Int);by_cases hv:v<0
 ·simp only[ael hv];omega
 ·simp only[aed hv];omega
theorem FQ (lo hi:Option Int)(n:Nat):Builtin.Slice.sliceAdjust lo hi 1 (n:Int)=(((bZ n 0 lo:Nat):Int),((bZ n n hi:Nat):Int)):=by
 have h1:¬((1:Int)<0):=by omega
 unfold Builtin.Slice.sliceAdjust;simp only[h1,ago];refine Prod.ext ?_ ?_
 ·cases lo with
  |none=>rfl
  |some v=>exact Em v n 0
 ·cases hi with
  |none=>rfl
  |some v=>exact Em v n n
theorem FT (i j:Nat):Builtin.Slice.slicePlaces (i:Int) (j:Int) 1=j - i:=by
 unfold Builtin.Slice.slicePlaces;have h1:(1:Int) > 0:=by omega
 simp only[h1,agH,Int.ediv_one];split <;> omega
theorem xB {v:Value}{o:Option Int}{Q:Option Int->Shared->Prop}(p:IsPart v o)(h:Q o s):wpAny (model prog w) A (Builtin.Slice.slicePartIndex v) Q E s:=by
 cases p with
 |none=>exact slicePart_none h
 |int i t=>exact slicePart_int h
theorem oz {sl:Addr}{vl vu:Value}{lo hi:Option Int}{n:Nat}{Q:Int×Int×Nat->Shared->Prop}(hs:s.heap.IsSliceOf sl vl vu .none)(pl:IsPart vl lo)(pu:IsPart vu hi)
 (h:Q (((bZ n 0 lo:Nat):Int),1,bZ n n hi - bZ n 0 lo) s):wpAny (model prog w) A (Builtin.Slice.sliceApplied (.ref sl) (pure (n:Int))) Q E s:=by
 obtain⟨os,Bc,xC,lH⟩:=id hs;unfold Builtin.Slice.sliceApplied Builtin.Slice.sliceFields;refine adW (adW (afn Bc lH (x:=vl) rfl (adW (afn Bc lH (x:=vu) rfl (adW (afn Bc lH (x:=.none) rfl (ad8 ?_)))))));refine adW (slicePart_none ?_);show wpAny _ _ (if ((1:Int)==0)=true then _ else _) _ _ s;rw[aed (by decide)];refine adW (xB pl (adW (xB pu (adW (ad8 ?_)))));show wpAny _ _ (match Builtin.Slice.sliceAdjust lo hi 1 (n:Int) with|(lo,hi)=>pure (lo,(1:Int),Builtin.Slice.slicePlaces lo hi 1)) _ _ s;rw[FQ lo hi n];show wpAny _ _ (pure (((bZ n 0 lo:Nat):Int),(1:Int),Builtin.Slice.slicePlaces ((bZ n 0 lo:Nat):Int) ((bZ n n hi:Nat):Int) 1)) _ _ s;rw[FT];exact ad8 h
theorem JN (xs:Array Value)(i k:Nat):((List.range k).filterMap λ(m:Nat)=>xs[((i:Int)+ (m:Int)* 1).toNat]?).toArray=((xs.toList.drop i).take k).toArray:=by
 have e:(λ(m:Nat)=>xs[((i:Int)+ (m:Int)* 1).toNat]?)=λm=>xs[i+ m]?:=by
  funext m
  have:((i:Int)+ (m:Int)* 1).toNat=i+ m:=by omega
  rw[this]
 rw[e];have:=pick_run xs i k;rw[List.filterMap_map]at this;have e2:((λx=>xs[x]?) ∘ λx=>i+ x)=λm=>xs[i+ m]?:=rfl
 rw[e2]at this;rw[this]
theorem vg {t sl:Addr}{items:Array Value}{vl vu:Value}{lo hi:Option Int}{Q:Value->Shared->Prop}(ht:IsTup s.heap t items)(hs:s.heap.IsSliceOf sl vl vu .none)(pl:IsPart vl lo)(pu:IsPart vu hi)
 (hw:¬(bZ items.size 0 lo=0/\bZ items.size items.size hi=items.size))
 (h:Q (.ref s.heap.objs.size) { s with heap:=s.heap.push { cls:=.type "tuple",data:=.seq ((items.toList.drop (bZ items.size 0 lo)).take (bZ items.size items.size hi - bZ items.size 0 lo)).toArray } })
 (hsz:items.size<=sizeLine):wpAny (model prog w) A (getItem (.ref t) (.ref sl)) Q E s:=by
 have AH:sizeOk (.seq ((items.toList.drop (bZ items.size 0 lo)).take (bZ items.size items.size hi - bZ items.size 0 lo)).toArray):=by
  show ((items.toList.drop (bZ items.size 0 lo)).take (bZ items.size items.size hi - bZ items.size 0 lo)).toArray.size<=sizeLine;rw[ad9,aeG,aeU,agg];omega
 have hj:bZ items.size items.size hi<=items.size:=PC _ _ (ad7 _) hi;obtain⟨os,Bc,xC,lH⟩:=id hs;have PD:s.TypeIs (.ref sl) "slice":=⟨os,Bc,xC⟩;unfold getItem
 try with_reducible refine afC ?_
 first|refine adW (ad8 ?_)|skip
 refine adW (wpAny_sequenceKey ht.typeIs (by decide) ?_)
 refine adW (ae0 (name:=Str.ofString "__getitem__") ht.typeIs ae5
  (ae4 ae5 ht.typeIs entry_tuple_getitem ?_ (args_tuple_getitem _ _)))
 show wpAny _ _ (Builtin.Tuple.tupleItemsOf (.ref t) >>=_) _ _ s;refine adW (tupleItemsOf_ ht ?_);refine adW (agN PD ?_);rw[ael (by decide)];refine adW (oz hs pl pu ?_)
 have Eo:¬((((bZ items.size 0 lo:Nat):Int)==0 && (1:Int)==1 && (bZ items.size items.size hi - bZ items.size 0 lo)==items.size)=true):=by
  intro q;rw[afv,afv]at q;have q1:((bZ items.size 0 lo:Nat):Int)=0:=eq_of_beq q.1.1;have q2:bZ items.size items.size hi - bZ items.size 0 lo=items.size:=eq_of_beq q.2;exact hw ⟨by omega,by omega⟩
 show wpAny _ _ (if (((bZ items.size 0 lo:Nat):Int)==0 && (1:Int)==1 && (bZ items.size items.size hi - bZ items.size 0 lo)==items.size)=true then _ else _) _ _ s;rw[aed Eo,JN]
 first
  |exact adW (m:=Builtin.Tuple.tupleExact _) (aeO (ad8 ⟨_,rfl,ad8 h⟩) AH)
  |exact adW (m:=Builtin.Tuple.tupleExact _) (aeO (adW (ad8 (ad8 ⟨_,rfl,ad8 h⟩))) AH)
  |exact adW (adW (m:=Builtin.Tuple.tupleExact _) (aeO (ad8 (ad8 ⟨_,rfl,ad8 h⟩)) AH))
  |exact adW (adW (m:=Builtin.Tuple.tupleExact _) (aeO (ad8 ⟨_,rfl,ad8 h⟩) AH))
end
end HT
namespace L2
open PySem PySem.Spec PyProof.Rows
abbrev TO:=St->Hp->(Option Int->Hp->Prop)->Prop
def PO (X:Cx)(e:Option Expr)(t:TO):Prop:=
 ∀(pins:List (Addr×Obj)) (s:Shared) (σ:St) (H:Hp) (Q:Option Int->Hp->Prop),Inv X pins σ H s->t σ H Q->
  wpAny (model X.prog X.w) X.A (evalPart e X.env) (λu s'=>∃o H',Inv X pins σ H' s'/\IsPart u o/\Q o H') X.xe s
def NC:TO:=λ_ H Q=>Q none H
def Uw (t:TE):TO:=λ σ H Q=>t σ H λx H1=>∃i,x=.int i/\Q (some i) H1
section
variable {X:Cx} {e:Expr} {te:TE} {lo hi:Option Expr} {tl th:TO} {pos p2:Pos}
theorem yK:PO X none NC:=by
 intro pins s σ H Q I h;rw[evalPart_none];exact ad8 ⟨none,H,I,.none,h⟩
theorem lO (h:PE X e te):PO X (some e) (Uw te):=by
 intro pins s σ H Q I hw;rw[evalPart_some];refine bh (h pins s σ H _ I hw) λu s1 ⟨x,H1,I1,r1,q1⟩=>?_
 obtain⟨i,rfl,q⟩:=q1;obtain⟨t,rfl⟩:=r1;exact⟨some i,H1,I1,.int i t,q⟩
def Lv (X:Cx)(r:V->Option Int->Option Int->Hp->VK->Prop):Prop:=
 ∀(pins:List (Addr×Obj)) (s:Shared) (σ:St) (H:Hp) (x:V) (v vl vu:Value) (lo hi:Option Int) (sl:Addr) (Q:VK),Inv X pins σ H s->RelV x v->s.heap.IsSliceOf sl vl vu .none->IsPart vl lo->IsPart vu hi->r x lo hi H Q->
  ∃T id,typeLookup (.type T) "__getitem__"=pure (some (.builtin id))/\s.TypeIs v T/\wpAny (model X.prog X.w) X.A (getItem v (.ref sl)) (EP X pins σ Q) X.xe s
def tSl (r:V->Option Int->Option Int->Hp->VK->Prop)(te:TE)(tl th:TO):TE:=λ σ H Q=>te σ H λx H1=>tl σ H1 λl H2=>th σ H2 λu H3=>r x l u H3 Q
theorem oB {r:V->Option Int->Option Int->Hp->VK->Prop}(hr:Lv X r)(he:PE X e te)(hl:PO X lo tl)(hu:PO X hi th):PE X (.Subscript e (.Slice lo hi none p2) pos) (tSl r te tl th):=by
 intro pins s σ H Q I h;refine Subscript_ (bh (he pins s σ H _ I h) λv s1 ⟨x,H1,I1,r1,q1⟩=>?_);refine wpAny_Slice (bh (hl pins s1 σ H1 _ I1 q1) λvl s2 ⟨l,H2,I2,pl,q2⟩=>bh (hu pins s2 σ H2 _ I2 q2) λvu s3 ⟨u,H3,I3,pu,q3⟩=>?_);rw[evalPart_none];refine ad8 ?_;have I4:Inv X pins σ H3 { s3 with heap:=s3.heap.push { cls:=.type "slice",data:=.fields #[vl,vu,.none] } }:=I3.kept (t':=s3.toks) λb ob q=>ad3 _ q
 obtain⟨T,id,hT,ht,hg⟩:=hr pins { s3 with heap:=s3.heap.push { cls:=.type "slice",data:=.fields #[vl,vu,.none] } } σ H3 x v vl vu l u s3.heap.objs.size Q I4 r1 (Heap.IsSliceOf.new ..) pl pu q3;show wpAny (model X.prog X.w) X.A (subscriptTail e (.Slice lo hi none p2) v (.ref s3.heap.objs.size)) (EP X pins σ Q) X.xe { s3 with heap:=s3.heap.push { cls:=.type "slice",data:=.fields #[vl,vu,.none] } };exact tail_any (ops:=[.ref s3.heap.objs.size,v]) ht hT hg (by with_unfolding_all rfl)
def fV (xs:List V)(lo hi:Option Int):List V:=(xs.drop (HT.bZ xs.length 0 lo)).take (HT.bZ xs.length xs.length hi - HT.bZ xs.length 0 lo)
theorem vz (xs:List V)(lo hi:Option Int):(fV xs lo hi).length<=xs.length:=by
 unfold fV;rw[aeG,aeU];omega
def YY (K:PySem.W.Frag):V->Option Int->Option Int->Hp->VK->Prop:=λx lo hi H Q=>∃a xs,x=.ref a/\bV K H a xs/\
 ¬(HT.bZ xs.length 0 lo=0/\HT.bZ xs.length xs.length hi=xs.length)/\∀p,H p=none->Q (.ref p) (upd H p (.tup (fV xs lo hi)))
theorem PF:Lv X (YY X.K):=by
 intro pins s σ H x v vl vu lo hi sl Q I rx hs pl pu h;obtain⟨a,xs,rfl,hx,hw,q⟩:=h;cases rx;obtain⟨its,r,ht,hz⟩:=I.tuple hx;have hlen:its.toArray.size=xs.length:=by rw[ad9];exact r.length.symm
 refine⟨"tuple",_,ae5.lookup,ht.typeIs,?_⟩;refine HT.vg ht hs pl pu (by rw[hlen];exact hw) ?_ (by rw[hlen];exact hz);rw[hlen];refine⟨.ref s.heap.objs.size,_,I.laid (t':=s.toks) (o:=.tup (fV xs lo hi)) (λb ob q=>ad3 _ q) (ad7 _) ?_,rfl,q _ (I.aO.fresh (ad7 _))⟩;exact⟨aep (vz xs lo hi) hz,_,(r.drop (HT.bZ xs.length 0 lo)).take (HT.bZ xs.length xs.length hi - HT.bZ xs.length 0 lo),IsTup.new _ _⟩
def Ux (K:PySem.W.Frag):R2:=λx y H Q=>∃a b xs ys,x=.ref a/\y=.ref b/\bV K H a xs/\bV K H b ys/\xs≠[]/\xs.length+ ys.length<=sizeLine/\
 (ys=[]->Q (.ref a) H)/\(ys≠[]->∀p,H p=none->Q (.ref p) (upd H p (.tup (xs++ys))))
theorem Vals.uS {xs:List V}{us:List Value}(r:Vals xs us):us=[]↔xs=[]:=by
 cases r with
 |nil=>simp
 |cons _ _=>simp
theorem ND:gT X (binaryOp .Add) (Ux X.K):=by
 intro pins s σ H x y v u Q I rx ry h;obtain⟨a,b,xs,ys,rfl,rfl,ha,hb,hx,hz,q1,q2⟩:=h;cases rx;cases ry;obtain⟨its,r1,p1,_⟩:=I.tuple ha;obtain⟨dh,r2,p2,_⟩:=I.tuple hb;refine HT.NB p1 p2 (λz=>hx (r1.uS.mp z)) (λz=>⟨.ref a,H,I,rfl,q1 (r2.uS.mp z)⟩) (λz=>?_) (by rw[←r1.length,←r2.length];exact hz);refine⟨.ref s.heap.objs.size,_,I.laid (t':=s.toks) (o:=.tup (xs++ys)) (λb ob q=>ad3 _ q) (ad7 _) ?_,rfl,q2 (λw=>z (r2.uS.mpr w)) _ (I.aO.fresh (ad7 _))⟩;exact⟨by rw[adZ];exact hz,_,r1.append r2,IsTup.new _ _⟩
end
end L2
namespace L2
open PySem PySem.Spec PyProof.Rows
def xD (n:Nat)(i:Int):Option Nat:=if 0<=i then (if i<n then some i.toNat else none) else if -(n:Int)<=i then some (i+ n).toNat else none
def lI {α:Type}(xs:List α)(i:Int):Option α:=(xD xs.length i).bind λj=>xs[j]?
theorem yL {n:Nat}{i:Int}{j:Nat}(h:xD n i=some j):seqIndex? i n=some j/\j<n/\-(n:Int)<=i/\i<n:=by
 unfold xD at h;by_cases h0:0<=i
 ·rw[ael h0]at h;by_cases h1:i<n
  ·rw[ael h1]at h;have e:i.toNat=j:=Option.some.inj h;exact⟨by rw[seqIndex_of h0 h1,e],by omega,by omega,h1⟩
  ·rw[aed h1]at h;cases h
 ·rw[aed h0]at h;by_cases h1: -(n:Int)<=i
  ·rw[ael h1]at h;have e:(i+ n).toNat=j:=Option.some.inj h;exact⟨by rw[seqIndex_neg (by omega) h1,e],by omega,h1,by omega⟩
  ·rw[aed h1]at h;cases h
theorem Ep {α:Type}{xs:List α}{i:Int}{v:α}(h:lI xs i=some v):∃j,seqIndex? i xs.length=some j/\xs[j]?=some v/\j<xs.length/\-(xs.length:Int)<=i/\i<xs.length:=by
 unfold lI at h
 cases e:xD xs.length i with
 |none=>rw[e]at h;cases h
 |some j=>
  rw[e]at h;obtain⟨h1,h2,h3,h4⟩:=yL e;exact⟨j,h1,h,h2,h3,h4⟩
theorem c9 {α:Type}{xs:List α}{j:Nat}{v:α}(h:xs[j]?=some v):lI xs (j:Int)=some v:=by
 have hj:j<xs.length:=(ad4.mp h).1
 have e:xD xs.length (j:Int)=some j:=by
  unfold xD;rw[ael (by omega),ael (by omega)];simp
 unfold lI;rw[e];exact h
def NF (b:Expr):Prop:=∀o i,subscripted b false o i=operate [o,i] (getItem o i)
def Hc (X:Cx)(r:R2):Prop:=
 ∀(value slice:Expr) (pins:List (Addr×Obj)) (s:Shared) (σ:St) (H:Hp) (x y:V) (v u:Value) (Q:VK),Inv X pins σ H s->RelV x v->RelV y u->r x y H Q->
  subscripted slice false v u=operate [v,u] (getItem v u)->wpAny (model X.prog X.w) X.A (subscriptTail value slice v u) (EP X pins σ Q) X.xe s
def PH (X:Cx)(id:String)(r:V->List V->Hp->VK->Prop):Prop:=
 ∀(pins:List (Addr×Obj)) (s:Shared) (σ:St) (H:Hp) (x:V) (xs:List V) (v:Value) (us:List Value) (Q:VK),Inv X pins σ H s->RelV x v->Vals xs us->r x xs H Q->
  wpAny (model X.prog X.w) X.A (call (.builtin id) (v::us)) (EP X pins σ Q) X.xe s
section
variable {X:Cx} {a b:Expr} {ta tb:TE} {pos:Pos}
theorem bJ {r:R2}(hr:Hc X r)(ha:PE X a ta)(hb:PE X b tb)(hs:NF b):PE X (.Subscript a b pos) (Ln r ta tb):=by
 intro pins s σ H Q I h;exact Subscript_ (JD ha hb I h λv u s2 x y H2 I2 rx ry q=>hr a b pins s2 σ H2 x y v u Q I2 rx ry q (hs _ _))
def PJ (K:PySem.W.Frag):R2:=λx y H Q=>∃p xs i v,x=.ref p/\y=.int i/\aI K H p xs/\lI xs i=some v/\Q v H
def PL (K:PySem.W.Frag):R2:=λx y H Q=>∃p xs i v,x=.ref p/\y=.int i/\bV K H p xs/\lI xs i=some v/\Q v H
theorem bR:Hc X (PJ X.K):=by
 intro value slice pins s σ H x y v u Q I rx ry h hs;obtain⟨p,xs,i,z,rfl,rfl,hq,he,q⟩:=h;cases rx;obtain⟨t,rfl⟩:=ry;obtain⟨its,r,pl,hz⟩:=I.list hq;obtain⟨j,h1,h2,h3,h4,h5⟩:=Ep he;obtain⟨w,ew,jC⟩:=r.get h2;have hl:=r.length;have hn:=tO;have fin:EP X pins σ Q w s:=⟨z,H,I,jC,q⟩;by_cases h0:0<=i
 ·have hj:i.toNat=j:=by
   rw[seqIndex_of h0 h5]at h1;exact Option.some.inj h1
  exact item_listR pl.isList h0 (by omega) (by rw[hj];simpa using ew) fin hs
 ·have hj:(i+ (its.toArray.size:Int)).toNat=j:=by
   rw[seqIndex_neg (by omega) h4]at h1;rw[ad9,←hl];exact Option.some.inj h1
  exact subscriptTail_builtinR (x:=w) pl.isList.typeIs slot_list_getitem.lookup
   (wpAny_getItem_list_neg (Q:=λr s'=>r=w/\EP X pins σ Q r s') pl.isList (by omega) (by rw[ad9] <;> omega) (by omega) (by rw[hj];simpa using ew) ⟨rfl,fin⟩) hs
theorem fL:Hc X (PL X.K):=by
 intro value slice pins s σ H x y v u Q I rx ry h hs;obtain⟨p,xs,i,z,rfl,rfl,hq,he,q⟩:=h;cases rx;obtain⟨t,rfl⟩:=ry;obtain⟨its,r,pl,hz⟩:=I.tuple hq;obtain⟨j,h1,h2,h3,h4,h5⟩:=Ep he;obtain⟨w,ew,jC⟩:=r.get h2;have hl:=r.length;have hn:=tO;have fin:EP X pins σ Q w s:=⟨z,H,I,jC,q⟩
 exact subscriptTail_builtinR (x:=w) pl.typeIs slot_tuple_getitem.lookup
  (getItem_tuple (j:=j) (Q:=λr s'=>r=w/\EP X pins σ Q r s') pl (by omega) (by omega) (by rw[ad9,←hl];exact h1) (by simpa using ew) ⟨rfl,fin⟩) hs
theorem FU (its:List Value)(n j:Nat)(u:Value):Obj.mapSeq (·.setIfInBounds j u) { cls:=.type "list",data:=.seq its.toArray n }={ cls:=.type "list",data:=.seq (its.set j u).toArray n }:=by
 simp[Obj.mapSeq]
theorem Inv.lst {pins:List (Addr×Obj)}{σ:St}{H:Hp}{s:Shared}{p:Addr}{xs:List V}(I:Inv X pins σ H s)(h:H p=some (.lst xs)):
 ∃(its:List Value) (n:Nat),Vals xs its/\s.heap.get? p=some { cls:=.type "list",data:=.seq its.toArray n }/\xs.length<=sizeLine:=by
 obtain⟨z,its,n,r,e⟩:=I.aO p _ h;exact⟨its,n,r,e,z⟩
theorem Inv.PN {pins:List (Addr×Obj)}{σ:St}{H:Hp}{s:Shared}{p:Addr}{xs ys:List V}{its its':List Value}{n n':Nat}{f:Obj->Obj}(I:Inv X pins σ H s)(h:H p=some (.lst xs))
 (ho:s.heap.get? p=some { cls:=.type "list",data:=.seq its.toArray n }) (hf:f { cls:=.type "list",data:=.seq its.toArray n }={ cls:=.type "list",data:=.seq its'.toArray n' }) (r:Vals ys its') (hz:ys.length<=sizeLine) (t:Nat):
 Inv X pins σ (upd H p (.lst ys)) { s with heap:=s.heap.update p f,toks:=t }:=by
 have e:(s.heap.update p f).get? p=some { cls:=.type "list",data:=.seq its'.toArray n' }:=by
  rw[afp f ho (by rw[hf] <;> rfl),hf]
 refine I.write (x:=p) (e:=p) (by rw[h];trivial) (.inl rfl) (λb u hb q=>(afR _ _ (afe hb)).trans q) ⟨_,e⟩ ?_;exact⟨hz,its',n',r,e⟩
def Uy:V->V->V->Hp->(Hp->Prop)->Prop:=λo i v H Q=>∃p xs k j,o=.ref p/\i=.int k/\H p=some (.lst xs)/\xD xs.length k=some j/\Q (upd H p (.lst (xs.set j v)))
theorem set_list:Pj X Uy:=by
 intro pins s σ H o i v ov iv u Q I ro ri rv h;obtain⟨p,xs,k,j,rfl,rfl,hp,hj,q⟩:=h;cases ro;obtain⟨t,rfl⟩:=ri;obtain⟨its,n,r,ho,hz⟩:=I.lst hp;obtain⟨h1,h2,h3,h4⟩:=yL hj;have hl:=r.length;have hn:=tO
 have I':Inv X pins σ (upd H p (.lst (xs.set j v))) { s with heap:=s.heap.update p (Obj.mapSeq (·.setIfInBounds j u)) }:=
  I.PN hp ho (FU its n j u) (r.set rv j) (by rw[aew];exact hz) s.toks
 by_cases h0:0<=k
 ·have hk:k.toNat=j:=by
   rw[seqIndex_of h0 h4]at h1;exact Option.some.inj h1
  exact PySem.W.ki_setAt ho h0 (by omega) (by rw[ad9,←hl];exact h4) (by rw[hk];exact⟨_,I',q⟩)
 ·have hk:(k+ (its.toArray.size:Int)).toNat=j:=by
   rw[seqIndex_neg (by omega) h3]at h1;rw[ad9,←hl];exact Option.some.inj h1
  exact PySem.W.ki_setBack ho (by omega) (by rw[ad9,←hl];exact h3) (by omega) (by rw[hk];exact⟨_,I',q⟩)
theorem Bd (lo hi:Option Int)(n:Nat):(sliceBounds lo hi none n).1=((HT.bZ n 0 lo:Nat):Int)/\(sliceBounds lo hi none n).2.1=((HT.bZ n n hi:Nat):Int)/\(sliceBounds lo hi none n).2.2=1:=by
 refine⟨?_,?_,rfl⟩
 ·cases lo with
  |none=>simp[sliceBounds,HT.bZ]
  |some i=>
   simp only[sliceBounds,HT.bZ,Option.getD_none,show (1:Int) > 0 by decide,agH];by_cases h:i<0
   ·simp only[h,agH] <;> omega
   ·simp only[h,ago] <;> omega
 ·cases hi with
  |none=>simp[sliceBounds,HT.bZ]
  |some i=>
   simp only[sliceBounds,HT.bZ,Option.getD_none,show (1:Int) > 0 by decide,agH];by_cases h:i<0
   ·simp only[h,agH] <;> omega
   ·simp only[h,ago] <;> omega
theorem Ap (its:List Value)(lo hi:Option Int):slicePick its.toArray lo hi none=((its.drop (HT.bZ its.length 0 lo)).take (HT.bZ its.length its.length hi - HT.bZ its.length 0 lo)).toArray:=by
 obtain⟨h1,h2,h3⟩:=Bd lo hi its.toArray.size;unfold slicePick;rw[h1,h2,h3];simp only[sliceRange_one,pick_run,ad9] <;> rfl
def YZ (K:PySem.W.Frag):V->Option Int->Option Int->Hp->VK->Prop:=λx lo hi H Q=>∃a xs,x=.ref a/\aI K H a xs/\∀p,H p=none->Q (.ref p) (upd H p (.lst (fV xs lo hi)))
theorem yM:Lv X (YZ X.K):=by
 intro pins s σ H x v vl vu lo hi sl Q I rx hs pl pu h;obtain⟨a,xs,rfl,hx,q⟩:=h;cases rx;obtain⟨its,r,ht,hz⟩:=I.list hx;have hlen:=r.length;refine⟨"list",_,slot_list_getitem.lookup,ht.isList.typeIs,?_⟩;refine wpAny_getItem_list_slice ht.isList hs pl pu .none (by simp) ?_ (by rw[ad9] <;> omega);rw[Ap,←hlen];refine⟨.ref s.heap.objs.size,_,I.laid (t':=s.toks) (o:=.lst (fV xs lo hi)) (λb ob q=>ad3 _ q) (ad7 _) ?_,rfl,q _ (I.aO.fresh (ad7 _))⟩;exact⟨aep (vz xs lo hi) hz,_,0,(r.drop (HT.bZ xs.length 0 lo)).take (HT.bZ xs.length xs.length hi - HT.bZ xs.length 0 lo),aem _ rfl⟩
theorem bX:mH X (.builtin "len") (λxs H Q=>∃p ys,xs=[.ref p]/\(aI X.K H p ys\/bV X.K H p ys)/\Q (.int ys.length) H):=by
 intro pins s σ H xs us Q I r h;obtain⟨p,ys,rfl,hq,q⟩:=h;obtain⟨u,rfl,rx⟩:=vals1 r;cases rx;have hn:=tO;rcases hq with hq|hq
 ·obtain⟨its,r',pl,hz⟩:=I.list hq;have hlen:=r'.length;exact Calls.call_len_list pl.isList (by simp only[ad9] <;> omega) ⟨.int ys.length,H,I.tok _,⟨s.toks+ 1,by rw[ad9,hlen]⟩,q⟩
 ·obtain⟨its,r',pl,hz⟩:=I.tuple hq;have hlen:=r'.length;exact len_tuple pl (by simp only[ad9] <;> omega) ⟨.int ys.length,H,I.tok _,⟨s.toks+ 1,by rw[ad9,hlen]⟩,q⟩
theorem tT:mH X (.type "list") (λxs H Q=>∃p ys,xs=[.ref p]/\(aI X.K H p ys\/bV X.K H p ys)/\∀l,H l=none->Q (.ref l) (upd H l (.lst ys))):=by
 intro pins s σ H xs us Q I r h;obtain⟨p,ys,rfl,hq,q⟩:=h;obtain⟨u,rfl,rx⟩:=vals1 r;cases rx
 have fin:∀(its:List Value),Vals ys its->ys.length<=sizeLine->∀(h':Heap) (c':Nat),(∀b o',s.heap.get? b=some o'->h'.get? b=some o')->
  h'.get? s.heap.objs.size=some { cls:=.type "list",dict:=none,data:=.seq its.toArray c',slots:=#[] }->EP X pins σ Q (.ref s.heap.objs.size) { s with heap:=h' }:=λits r' hz h' c' kp e=>
  ⟨.ref s.heap.objs.size,_,I.laid (t':=s.toks) kp (ad7 _) (show cG X.prog X.w _ h' _ (.lst ys) from ⟨hz,its,c',r',e⟩),rfl,q _ (I.aO.fresh (ad7 _))⟩
 rcases hq with hq|hq
 ·obtain⟨its,r',pl,hz⟩:=I.list hq;have hlen:=r'.length;obtain⟨o,ho,hc,n,hd⟩:=pl.isList;exact call_list_seq p (.inl rfl) ho hc hd (λh' c' kp e=>fin its r' hz h' c' kp e) (by simp only[ad9] <;> omega)
 ·obtain⟨its,r',pl,hz⟩:=I.tuple hq;have hlen:=r'.length;obtain⟨o,ho,hc,n,hd⟩:=pl;exact call_list_seq p (.inr rfl) ho hc hd (λh' c' kp e=>fin its r' hz h' c' kp e) (by simp only[ad9] <;> omega)
theorem jI:mH X (.type "tuple") (λxs H Q=>∃p ys,xs=[.ref p]/\((aI X.K H p ys/\∀l,H l=none->Q (.ref l) (upd H l (.tup ys)))\/(bV X.K H p ys/\Q (.ref p) H))):=by
 intro pins s σ H xs us Q I r h;obtain⟨p,ys,rfl,h⟩:=h;obtain⟨u,rfl,rx⟩:=vals1 r;cases rx;rcases h with ⟨hq,q⟩|⟨hq,q⟩
 ·obtain⟨its,r',pl,hz⟩:=I.list hq;have hlen:=r'.length;refine call_tuple_list pl.isList (λh' kp=>?_) (by simp only[ad9] <;> omega);have I1:Inv X pins σ H { s with heap:=h' }:=I.kept (t':=s.toks) kp
  have I2:Inv X pins σ (upd H h'.objs.size (.tup ys)) { s with heap:=h'.push { cls:=.type "tuple",data:=.seq its.toArray } }:=
   I1.laid (t':=s.toks) (λb o e=>ad3 _ e) (ad7 _) (show cG X.prog X.w _ _ _ (.tup ys) from ⟨hz,its,r',IsTup.new _ _⟩)
  exact⟨.ref h'.objs.size,_,I2,rfl,q _ (I1.aO.fresh (ad7 _))⟩
 ·obtain⟨its,r',pl,hz⟩:=I.tuple hq;exact call_tuple_same pl ⟨.ref p,H,I,rfl,q⟩
def Lx (K:PySem.W.Frag)(T:String)(x:V)(H:Hp):Prop:=match x with
 |.str _=>T="str"
 |.int _=>T="int"
 |.ref p=>(T="list"/\∃xs,aI K H p xs)\/(T="tuple"/\∃o,K.lookup p=some o/\o.cls=.type "tuple"/\o.dict=none)\/
  (T="dict"/\((∃kvs,H p=some (.dK kvs))\/∃kvs,H p=some (.dT kvs)))\/(T="set"/\∃S n,H p=some (.set S n))
 |_=>False
theorem Hd {pins:List (Addr×Obj)}{σ:St}{H:Hp}{s:Shared}{T:String}{x:V}{v:Value}(I:Inv X pins σ H s)(r:RelV x v)(ty:Lx X.K T x H):
 s.TypeIs v T/\∀a,v=.ref a->∃ob,s.heap.get? a=some ob/\ob.dict=none:=by
 cases x with
 |str z=>
  obtain⟨t,rfl⟩:=r;cases (show T="str" from ty);exact⟨typeIs_str s z t,λ_ e=>nomatch e⟩
 |int i=>
  obtain⟨t,rfl⟩:=r;cases (show T="int" from ty);exact⟨typeIs_int s i t,λ_ e=>nomatch e⟩
 |ref p=>
  cases r;rcases ty with ⟨rfl,xs,hq⟩|⟨rfl,o,hk,hc,hd⟩|⟨rfl,hk⟩|⟨rfl,S,n,hk⟩
  ·obtain⟨its,_,pl,_⟩:=I.list hq;refine⟨pl.isList.typeIs,λa e=>?_⟩;cases e;obtain⟨o,n,e,c,hd,_⟩:=pl;exact⟨o,e,hd⟩
  ·refine⟨⟨o,I.ip p o hk,hc⟩,λa e=>?_⟩;cases e;exact⟨o,I.ip _ o hk,hd⟩
  ·have z:∃o,s.heap.get? p=some o/\o.ExactDict:=by
    rcases hk with ⟨kvs,hk⟩|⟨kvs,hk⟩
    ·obtain⟨_,_,_,_,o,_,_,e,ex,_⟩:=I.aO p _ hk;exact⟨o,e,ex⟩
    ·obtain⟨_,_,_,_,o,_,_,e,ex,_⟩:=I.aO p _ hk;exact⟨o,e,ex⟩
   obtain⟨o,e,ex⟩:=z;refine⟨⟨o,e,ex.1⟩,λa e2=>?_⟩;cases e2;exact⟨o,e,ex.2.1⟩
  ·obtain⟨o,_,_,_,e,ex,_⟩:=I.aO p _ hk;refine⟨⟨o,e,ex.1⟩,λa e2=>?_⟩;cases e2;exact⟨o,e,ex.2.1⟩
 |_=>exact False.elim ty
def Y0 (K:PySem.W.Frag)(T:String)(r:V->List V->Hp->VK->Prop)(to:TE):TE:=λ σ H Q=>to σ H λx H1=>Lx K T x H1/\r x [] H1 Q
def tBM (K:PySem.W.Frag)(T:String)(r:V->List V->Hp->VK->Prop)(to:TE)(t:TA):TE:=λ σ H Q=>to σ H λx H1=>Lx K T x H1/\t σ H1 λxs H2=>r x xs H2 Q
variable {o e:Expr} {es:List Expr} {to:TE} {t:TA} {name:Str} {apos cN:Pos} {T id:String} {r:V->List V->Hp->VK->Prop}
theorem He (pa:PlainAttrs T)(slot:Slot T name id)(PQ:typeOf (.builtin id)=pure (.type "method_descriptor"))(hm:PH X id r)(ho:PE X o to)
 (xE:attributeBase o name X.env (eval o X.env)=eval o X.env:=by rfl) (hline:(apos.endLine==cN.line)=true:=by rfl):PE X (.Call (.Attribute o name apos) [] [] cN) (Y0 X.K T r to):=by
 intro pins s σ H Q I h;refine wpAny_Call_method0_late xE hline (bh (ho pins s σ H _ I h) λv s1 ⟨x,H1,I1,r1,ty,q1⟩=>?_);obtain⟨h1,h2⟩:=Hd I1 r1 ty;exact⟨T,id,pa,slot,PQ,h1,h2,ae1 rfl (PySem.evalArgs_none (hm pins s1 σ H1 x [] v [] Q I1 r1 .nil q1))⟩
theorem dk (pa:PlainAttrs T)(slot:Slot T name id)(PQ:typeOf (.builtin id)=pure (.type "method_descriptor"))(hm:PH X id r)(ho:PE X o to)(ha:PA X (e::es) t)
 (xE:attributeBase o name X.env (eval o X.env)=eval o X.env:=by rfl)
 (Y1:((backTo cN (starEach (e::es) X.env)).all (λx=>!x.1) && (backToKw cN (keywordEach [] X.env)).all (λx=>x.1.isSome)
  && decide ((e::es).length+ ([]:List Keyword).length+ (if ([]:List Keyword).isEmpty then 0 else 1)<30))=true:=by rfl)
 (hline:(apos.endLine==cN.line)=true:=by rfl) (hs:starEach (e::es) X.env=(false,eval e X.env)::starEach es X.env:=by rfl) (PR:(backTo cN (starEach es X.env)).any (·.1)=false:=by rfl):
 PE X (.Call (.Attribute o name apos) (e::es) [] cN) (tBM X.K T r to t):=by
 intro pins s σ H Q I h;refine wpAny_Call_method_late xE Y1 hline rfl (bh (ho pins s σ H _ I h) λv s1 ⟨x,H1,I1,r1,ty,q1⟩=>?_);obtain⟨h1,h2⟩:=Hd I1 r1 ty;refine⟨T,id,pa,slot,PQ,h1,h2,?_⟩;have hA:=ha cN pins s1 σ H1 _ I1 q1;rw[hs]at hA ⊢;refine ae1 (by show (false || (backTo cN (starEach es X.env)).any (·.1))=false;rw[PR] <;> rfl) (aft ?_);exact bh hA λus s2 ⟨vs,H2,I2,r2,q2⟩=>hm pins s2 σ H2 x vs v us Q I2 r1 r2 q2
/- xs.append(e),list.index on a module's tuple .. are PH facts of 06m -/
end
end L2
namespace L2
open PySem PySem.Spec PyProof.Rows
def Er (X:Cx)(id:String)(r:V->List V->Hp->VK->Prop):Prop:=
 ∀(pins:List (Addr×Obj)) (s:Shared) (σ:St) (H:Hp) (x:V) (xs:List V) (v:Value) (us:List Value) (Q:VK),Inv X pins σ H s->RelV x v->Vals xs us->r x xs H Q->
  wpAny (model X.prog X.w) X.A (call (.builtin id) (v::us)) (EP X pins σ Q) X.xe s
theorem Vals.one:∀{x:V} {us:List Value},Vals [x] us->∃u,us=[u]/\RelV x u
 |_,_,.cons r .nil=>⟨_,rfl,r⟩
theorem Vals.zero:∀{us:List Value},Vals [] us->us=[]
 |_,.nil=>rfl
theorem Vals.dropLast {xs:List V}{us:List Value}(h:Vals xs us):Vals xs.dropLast us.dropLast:=by
 induction h with
 |nil=>exact .nil
 |cons r t ih=>
  cases t with
  |nil=>exact .nil
  |cons q t'=>exact .cons r ih
theorem Vals.eraseIdx:∀{xs:List V} {us:List Value} (i:Nat),Vals xs us->Vals (xs.eraseIdx i) (us.eraseIdx i)
 |_,_,_,.nil=>.nil
 |_,_,0,.cons _ t=>t
 |_,_,i+ 1,.cons r t=>.cons r (Vals.eraseIdx i t)
theorem Vals.rep {xs:List V}{us:List Value}(h:Vals xs us):∀k:Nat,Vals (List.replicate k xs).flatten (List.replicate k us).flatten
 |0=>.nil
 |k+ 1=>by
  rw[afc,afc,afz,afz];exact Vals.append h (Vals.rep h k)
theorem FV {α:Type}(l:List α):l.eraseIdx (l.length - 1)=l.dropLast:=by
 induction l with
 |nil=>rfl
 |cons a r ih=>
  cases r with
  |nil=>rfl
  |cons b r=>
   have e:(a::b::r).length - 1=((b::r).length - 1)+ 1:=by
    have h1:(a::b::r).length=r.length+ 2:=rfl;have h2:(b::r).length=r.length+ 1:=rfl;omega
   rw[e,List.eraseIdx_cons_succ,ih]
   all_goals rfl
theorem zz {α:Type}:∀(l:List α) (i:Nat),(l.eraseIdx i).length<=l.length
 |[],_=>ad7 _
 |_::_,0=>agh _
 |_::r,i+ 1=>Nat.succ_le_succ (zz r i)
theorem foldl_rep (its:List Value):∀(k:Nat) (acc:List Value),
 List.foldl (λx1 x2=>x1++x2) acc.toArray (List.replicate k its.toArray)=(acc++(List.replicate k its).flatten).toArray
 |0,acc=>by simp
 |k+ 1,acc=>by
  have e:acc.toArray++its.toArray=(acc++its).toArray:=by simp
  have e2:(acc++its)++(List.replicate k its).flatten=acc++(List.replicate (k+ 1) its).flatten:=by
   rw[afc,afz,ae6]
  rw[←e2,←foldl_rep its k (acc++its),←e,afc,agq]
section
variable {X:Cx} {pins:List (Addr×Obj)} {σ:St} {H:Hp} {s:Shared} {l b:Addr} {xs ys zs:List V}
theorem Inv.Be {its its':List Value}{n:Nat}{f:Array Value->Array Value}{t':Nat}(I:Inv X pins σ H s)(hH:H l=some (.lst xs))
 (e:s.heap.get? l=some { cls:=.type "list",data:=.seq its.toArray n }) (hf:f its.toArray=its'.toArray) (hv:Vals ys its') (hz:ys.length<=sizeLine):
 Inv X pins σ (upd H l (.lst ys)) { s with heap:=s.heap.update l (Obj.mapSeq f),toks:=t' }:=by
 have q:=PySem.IsL.update e f;rw[hf]at q;refine I.write (x:=l) (e:=l) (by rw[hH];exact trivial) (.inl rfl) (λb' u hb hu=>(afR s.heap (Obj.mapSeq f) (afe hb)).trans hu) ⟨_,q⟩ ?_;exact⟨hz,its',_,hv,q⟩
theorem Inv.Y2 {its:List Value}{t':Nat}(I:Inv X pins σ H s)(hv:Vals ys its)(hz:ys.length<=sizeLine):
 Inv X pins σ (upd H s.heap.objs.size (.lst ys)) { s with heap:=s.heap.push { cls:=.type "list",data:=.seq its.toArray },toks:=t' }:=
 I.laid (λ_ _ q=>ad3 _ q) (ad7 _) ⟨hz,its,0,hv,aem _ rfl⟩
theorem Inv.fresh (I:Inv X pins σ H s):H s.heap.objs.size=none:=I.aO.fresh (ad7 _)
theorem Inv.rX (I:Inv X pins σ H s)(hH:H l=some (.lst xs)):xs.length<=sizeLine/\∃(its:List Value) (n:Nat),Vals xs its/\xs.length=its.length/\s.heap.get? l=some { cls:=.type "list",data:=.seq its.toArray n }:=by
 obtain⟨z,its,n,r,e⟩:=I.aO l _ hH;exact⟨z,its,n,r,r.length,e⟩
theorem JP {n:Nat}(h:n<=sizeLine):Builtin.List.listTooLong n=false:=by
 unfold Builtin.List.listTooLong;exact aeK (by omega)
end
section
variable {X:Cx}
def NK:V->List V->Hp->VK->Prop:=λx vs H Q=>∃l xs y,x=.ref l/\vs=[y]/\H l=some (.lst xs)/\xs.length<sizeLine/\Q .non (upd H l (.lst (xs++[y])))
theorem b6:Er X "list.append" NK:=by
 intro pins s σ H x vs v us Q I rx rv h;obtain⟨l,xs,y,rfl,rfl,hH,hz,q⟩:=h;cases rx;obtain⟨u,rfl,ru⟩:=rv.one;obtain⟨z,its,n,r,hl,e⟩:=I.rX hH;refine agO F.slot_list_append ⟨_,e,rfl⟩ F.entry_list_append (F.args_list_append_2 _ _) (PySem.list_append l its.toArray n u (by rw[ad9];omega)) ⟨e,?_⟩;refine⟨.non,_,I.Be (its':=its++[u]) hH e (by simp) (r.append (.cons ru .nil)) ?_,rfl,q⟩;rw[adZ,List.length_singleton];omega
def NM:V->List V->Hp->VK->Prop:=λx vs H Q=>∃l b xs zs,x=.ref l/\vs=[.ref b]/\H l=some (.lst xs)/\H b=some (.lst zs)/\xs.length+ zs.length<=sizeLine/\Q .non (upd H l (.lst (xs++zs)))
theorem zA:Er X "list.extend" NM:=by
 intro pins s σ H x vs v us Q I rx rv h;obtain⟨l,b,xs,zs,rfl,rfl,hH,hB,hz,q⟩:=h;cases rx;obtain⟨u,rfl,ru⟩:=rv.one;cases ru;obtain⟨z,its,n,r,hl,e⟩:=I.rX hH;obtain⟨z2,dh,n2,r2,iu,e2⟩:=I.rX hB;have hsz:its.toArray.size+ dh.toArray.size<=sizeLine:=by rw[ad9,ad9];omega
 have Uz:¬(!its.toArray.isEmpty && Builtin.List.listTooLong (its.toArray.size+ dh.toArray.size))=true:=by
  rw[JP hsz,Bool.and_false];exact aeE
 refine agO F.slot_list_extend ⟨_,e,rfl⟩ F.entry_list_extend (F.args_list_extend_2 _ _)
  (AutoSeq1.list_extend_list_list_0 l its.toArray n b dh.toArray n2 Uz (by rw[ad9];omega) (by omega)) ⟨e,e2,?_⟩
 refine⟨.non,_,I.Be (its':=its++dh) hH e (by simp) (r.append r2) ?_,rfl,q⟩;rw[adZ];omega
def Y3:V->List V->Hp->VK->Prop:=λx vs H Q=>∃l xs y,x=.ref l/\vs=[]/\H l=some (.lst xs)/\xs[xs.length - 1]?=some y/\Q y (upd H l (.lst xs.dropLast))
theorem Hf:Er X "list.pop" Y3:=by
 intro pins s σ H x vs v us Q I rx rv h;obtain⟨l,xs,y,rfl,rfl,hH,hy,q⟩:=h;cases rx;have hus:=rv.zero;subst hus;obtain⟨z,its,n,r,hl,e⟩:=I.rX hH;obtain⟨u,hu,ru⟩:=r.get hy
 have hy':its.toArray[its.toArray.size - 1]?=some u:=by
  show its.toArray[its.length - 1]?=some u
  rw[←afY,←hl];exact hu
 refine agO F.slot_list_pop ⟨_,e,rfl⟩ F.entry_list_pop (F.args_list_pop_1 _) (MeetsSeq.list_pop_last l its.toArray n u hy' (by rw[ad9];omega)) ⟨e,?_⟩;refine⟨y,_,I.Be (its':=its.dropLast) hH e ?_ r.dropLast ?_,ru,q⟩
 ·show its.toArray.eraseIdxIfInBounds (its.toArray.size - 1)=its.dropLast.toArray;rw[ad9,List.eraseIdxIfInBounds_toArray,FV]
 ·rw[List.length_dropLast];omega
def PV:V->List V->Hp->VK->Prop:=λx vs H Q=>∃l xs i k y,x=.ref l/\vs=[.int i]/\H l=some (.lst xs)/\-(2 ^ 63)<=i/\i<2 ^ 63/\seqIndex? i xs.length=some k/\xs[k]?=some y/\Q y (upd H l (.lst (xs.eraseIdx k)))
theorem JQ:Er X "list.pop" PV:=by
 intro pins s σ H x vs v us Q I rx rv h;obtain⟨l,xs,i,k,y,rfl,rfl,hH,h1,h2,hk,hy,q⟩:=h;cases rx;obtain⟨u,rfl,ru⟩:=rv.one;obtain⟨t,rfl⟩:=ru;obtain⟨z,its,n,r,hl,e⟩:=I.rX hH;obtain⟨w,hw,jC⟩:=r.get hy
 refine agO F.slot_list_pop ⟨_,e,rfl⟩ F.entry_list_pop (F.args_list_pop_2 _ _)
  (MeetsSeq.list_pop_at l its.toArray n i t k w (fitsIndex_both h1 h2) (by rw[ad9,←hl];exact hk) (by rw[←afY];exact hw) (by rw[ad9];omega)) ⟨e,?_⟩
 refine⟨y,_,I.Be (its':=its.eraseIdx k) hH e ?_ (r.eraseIdx k) ?_,jC,q⟩
 ·show its.toArray.eraseIdxIfInBounds k=(its.eraseIdx k).toArray;rw[List.eraseIdxIfInBounds_toArray]
 ·have:=zz xs k;omega
def Y4:R2:=λx y H Q=>∃l b xs zs,x=.ref l/\y=.ref b/\H l=some (.lst xs)/\H b=some (.lst zs)/\xs.length+ zs.length<=sizeLine/\∀p,H p=none->Q (.ref p) (upd H p (.lst (xs++zs)))
theorem Bf:gT X (binaryOp .Add) Y4:=by
 intro pins s σ H x y v u Q I rx ry h;obtain⟨l,b,xs,zs,rfl,rfl,hH,hB,hz,q⟩:=h;cases rx;cases ry;obtain⟨z,its,n,r,hl,e⟩:=I.rX hH;obtain⟨z2,dh,n2,r2,iu,e2⟩:=I.rX hB;refine PySem.P.add_list e e2 ?_ (by rw[ad9,ad9];omega);have ea:its.toArray++dh.toArray=(its++dh).toArray:=by simp
 rw[ea];exact⟨.ref _,_,I.Y2 (t':=s.toks) (r.append r2) (by rw[adZ];omega),rfl,q _ I.fresh⟩
theorem len_rep {α:Type}(xs:List α)(k:Nat):(List.replicate k xs).flatten.length=k* xs.length:=by
 induction k with
 |zero=>simp
 |succ k ih=>rw[afc,afz,adZ,ih,Nat.succ_mul,Nat.add_comm]
end
section
variable {prog:Program} {w:World} {A:Around} {E:Value->Shared->Prop} {s:Shared}
end
section
variable {X:Cx}
end
end L2
namespace Att
open PySem PySem.W PySem.Calls PyProof.Rows
theorem xF {P:Params}{h:Heap}:∀(ns:List Int) (vs:List Value),WellAll P h vs (ns.map WData.int)->IntsAre vs ns:=by
 intro ns
 induction ns with
 |nil=>
  intro vs w;rw[List.map_nil]at w;cases w;exact .nil
 |cons n ns ih=>
  intro vs w;rw[aeN]at w
  cases w with
  |cons a b=>
   cases a;exact .cons _ _ (ih _ b)
theorem Hg {l:OpenLaw}{n:Nat}(hn:l.most=some n){P:Params}{h:Heap}{args:List WData}{vals:List Value}
 (FW:l.row.toRowW.claim.pre args=true) (oC:WellAll P h vals args):
 ∃a vs ns,vals=[Value.ref a]/\args=[WData.list (ns.map WData.int)]/\h.get? a=some { cls:=.type "list",data:=.seq vs.toArray }/\IntsAre vs ns/\ns.length<=n:=by
 have hsh:WShape.hasAll [] args [.list .int]=true:=(pre_splitW FW).1;have hc:l.pre.holds [] { args:=args }=true:=(pre_splitW FW).2;obtain⟨d,r,rfl,h1,h2⟩:=hasAllW_cons hsh;obtain rfl:=hasAllW_nil h2;obtain⟨xs,rfl,h3⟩:=hasW_list h1;obtain⟨ns,rfl⟩:=items_int h3
 have hlen:ns.length<=n:=by
  unfold OpenLaw.pre at hc
  have h4:(WTm.not (.lt (.lit (.int (n:Int))) (.len (.arg 0)))).holds [] { args:=[.list (ns.map .int)] }=true:=by
   have h4:=(holds_andW hc).1;rw[hn]at h4;exact h4
  have h5:=condW_of h4 (w_not (w_lt w_lit (w_len_list (w_arg rfl))));rw[ad6]at h5;refine Nat.le_of_not_lt λq=>?_
  have q':(n:Int)<((ns.length:Nat):Int):=by omega
  first
   |(rw[aey q']at h5;exact absurd h5 (by decide))
   |(simp at h5;omega)
 cases oC with
 |cons w1 w2=>
  cases w2
  cases w1 with
  |list ho Y5=>exact⟨_,_,ns,rfl,rfl,ho,xF ns _ Y5,hlen⟩
theorem Hh (l:OpenLaw)(args:List WData):l.row.toRowW.claim.post args (.bool true) args=true:=
 postW_of (r:=l.row.toRowW) (X:=(true==true))
  (show WShape.has [] (.bool true) .bool=true by first|rfl|decide|simp[WShape.has,WShape.arms,WShape.armsAll])
  (show (WTm.eq .res (.lit (.bool true))).value [] { args:=args,res:=some (.bool true),after:=args }=some (.bool (true==true)) from w_eq_bool (w_res rfl) w_lit) rfl
theorem DR {l:OpenLaw}{n:Nat}{q:Program}{loose:List Str}{XP:(Str->Option Value)->Heap->Prop}{YP:World->Heap->Prop}{d:DefRec}
 (hn:l.most=some n) (Hi:d.params.defaults=[])
 (call:∀(w:World) (dG bF:Shared) (mg mb:Str->Option Value) (fa:Addr) (o:Obj) (pm cd doc:Value) (a:Addr) (vs:List Value) (ns:List Int),
  Ground q loose [] XP w dG mg mb bF.heap->YP w bF.heap->
  bF.heap.get? fa=some o->o.data=.func (docDef d.name d.params d.body d.scope pm cd doc)->bF.heap.CodeRec cd d.name->mg d.name=some (.ref fa)->
  bF.heap.get? a=some { cls:=.type "list",data:=.seq vs.toArray }->IntsAre vs ns->ns.length<=n->bF.gens=#[]->
  codeAny (model l.prog w) callerA (.call (.ref fa) ⟨[.ref a],[]⟩) (λr s'=>r=.ok (.ret (.bool true))/\OldK bF.heap s'.heap/\s'.os=bF.os/\AllBare s'.gens) bF):
 WalkO q loose XP YP l.row.toRowW d [] (λf vs=>PySem.call f vs):=by
 intro w dG bF mg mb G Y fa o pm cd doc dV kV ho hd oq hD hmg hg args vals as FW hlay hrd oC hlo;obtain rfl:dV=.none:=Dflts.none hD Hi;obtain rfl:kV=.none:=Dflts.noKw hD;obtain⟨a,vs,ns,rfl,rfl,JR,hints,hlen⟩:=Hg hn FW oC;refine enter_call (aha (call w dG bF mg mb fa o pm cd doc a vs ns G Y ho (fd_plain hd) oq hmg JR hints hlen hg) λr s' hq=>?_);obtain⟨rfl,h2,h3,h4⟩:=hq;exact⟨.inl ⟨.bool true,.bool true,[],rfl,λ_=>rfl,.bool true,Hh l _,λ_=>⟨List.Pairwise.nil,λ_ hm=>(nomatch hm)⟩⟩,h2,h3,h4⟩
section
variable {prog:Program} {w:World} {A:Around} {E:Value->Shared->Prop} {s:Shared} {K:Frag}
end
end Att
namespace L2
open PySem PySem.Spec PyProof.Rows
theorem zB:∀{vs:List Value} {ns:List Int},IntsAre vs ns->Vals (ns.map V.int) vs
 |_,_,.nil=>.nil
 |_,_,.cons n t h=>.cons ⟨t,rfl⟩ (zB h)
def Only (H:Hp):Prop:=∀b,H b=none\/∃o xs,H b=some (.fB o (.lst xs))
theorem JS {P:Program}{w:World}{K:PySem.W.Frag}{mg mb:Str->Option Value}{CX:qS}{k:Nat}{fa a:Addr}{fd:FuncData}{x:Str}{sp:Sp}{bF:Shared}{vs:List Value}{ns:List Int}
 (KX:K.In bF.heap) (Hj:bF.heap.Ns mainGlobals mg) (hb:bF.heap.Ns builtinsNs mb) (PX:∀x:Str,x≠"__name__"->mb x=bootBuiltins x) (Y6:bF.heap.NoLimit) (hg:bF.gens=#[])
 (ha:bF.heap.get? a=some { cls:=.type "list",data:=.seq vs.toArray }) (hi:IntsAre vs ns) (hl:ns.length<=sizeLine) (hr:eK k callerA)
 (F:∀base:Heap,K.In base->base.Ns mainGlobals mg->aK P w K mg base CX k fa fd [x] sp) (UA:∀(s:Shared) (u:Value),BindsTo s fd ⟨[u],[]⟩ [(x,u)])
 (nJ:∀H:Hp,Only H->aI K H a (ns.map V.int)->sp [.ref a] H (λv _=>v=.bl true) λ_ _ _=>False)
 (PY:∀H e s',CX [] H bF (λ_ _ _=>False) e s'->False):
 codeAny (model P w) callerA (.call (.ref fa) ⟨[.ref a],[]⟩) (λr s'=>r=.ok (.ret (.bool true))/\OldK bF.heap s'.heap/\s'.os=bF.os/\AllBare s'.gens) bF:=by
 have rv:=zB hi;have Y7:=hi.length
 -- from an abstract heap in which nothing but the script may be tracked
 have core:∀H:Hp,Only H->aI K H a (ns.map V.int)->dS P w H bF.heap->(∀b,H b≠none->b=a)->(H a≠none->K.lookup a=none)->
  codeAny (model P w) callerA (.call (.ref fa) ⟨[.ref a],[]⟩) (λr s'=>r=.ok (.ret (.bool true))/\OldK bF.heap s'.heap/\s'.os=bF.os/\AllBare s'.gens) bF:=by
  intro H hO hS aO hA hK;have Es:∀{b:Addr} {o:Obj},bF.heap.get? b=some o->H b=none->(rS bF.heap H).get? b=some o:=λe n=>JB e n
  have Bb:∀{b:Addr} {o:Obj} {es:Array DictEntry} {ep:Nat},bF.heap.get? b=some o->o.data=.dict es ep->H b=none:=λ{b o es ep} e d=>by
   cases q:H b with
   |none=>rfl
   |some u=>
    have e':b=a:=hA b (by rw[q];simp);subst e';rw[ha]at e;cases e;have d':Data.seq vs.toArray _=Data.dict es ep:=d;cases d'
  have Ly:∀{b:Addr} {m:Str->Option Value},bF.heap.Ns b m->(rS bF.heap H).Ns b m:=λ{b m} ⟨o,es,ep,e,d,r⟩=>⟨o,es,ep,Es e (Bb e d),d,r⟩
  have Vs:K.In (rS bF.heap H):=λb o e=>Es (KX b o e) (by
   cases q:H b with
   |none=>rfl
   |some u=>
    have e':b=a:=hA b (by rw[q];simp);subst e';rw[hK (by rw[q];simp)]at e;cases e)
  have hM:Mod K mg (rS bF.heap H):=⟨Vs,Ly Hj,⟨mb,Ly hb,PX⟩,let ⟨mc,h1,h2⟩:=Y6;⟨mc,Ly h1,h2⟩⟩;have e0:vW P w K mg (rS bF.heap H) callerA [] bF H:=⟨rfl,hM,λb o e=>Nu e,afW (GP _ _),trivial,λb hb=>absurd (show b∈([]:List Addr) from hb) (by simp),aO,.of_eq hg⟩;refine aha ((F _ Vs (Ly Hj)).run callerA [] bF H ⟨[.ref a],[]⟩ [.ref a] [.ref a] _ _ hr e0 (UA bF (.ref a)) (.cons rfl .nil) (nJ H hO hS)) λr s' h=>?_
  cases r with
  |error e=>exact(PY H e s' h).elim
  |ok fl=>
   cases fl with
   |next=>exact False.elim h
   |brk=>exact False.elim h
   |cont=>exact False.elim h
   |ret u=>
    obtain⟨v,H',os,bare,un,Y8,r',q⟩:=h;have q':v=.bl true:=q;subst q';obtain rfl:u=Value.bool true:=r';refine⟨rfl,OldK.of_keep λb o e=>?_,os,bare⟩
    cases q:H b with
    |none=>exact un.keep b o e q (by intro z;exact absurd (show b∈([]:List Addr) from z) (by simp)) (by simp)
    |some u=>
     rcases hO b with z|⟨ob,xs,z⟩
     ·rw[q]at z;cases z
     ·have z2:=un.gW b ob _ z;obtain⟨e1,_⟩:=aO b _ z;obtain⟨e2,_⟩:=Y8 b _ z2;rw[e]at e1;cases e1;exact e2
 cases hk:K.lookup a with
 |some o=>
  -- the script is one of the module's own objects
  have e:=KX a o hk;rw[ha]at e;cases e;refine core (λ_=>none) (λ_=>.inl rfl) (.inr ⟨_,vs.toArray,_,hk,rfl,rfl,rfl,by rw[ad9,Y7];exact hl,by simpa using rv⟩) (λb u z=>by have z':(none:Option HO)=some u:=z;cases z') (λb z=>absurd rfl z) λz=>absurd rfl z
 |none=>
  refine core (λb=>if b=a then some (.fB { cls:=.type "list",data:=.seq vs.toArray } (.lst (ns.map V.int))) else none) (λb=>?_) (.inl (.inr ⟨{ cls:=.type "list",data:=.seq vs.toArray },ael rfl⟩)) (λb u z=>?_) (λb z=>?_) λ_=>hk
  ·by_cases hb:b=a
   ·exact .inr ⟨_,_,ael hb⟩
   ·exact .inl (aed hb)
  ·by_cases hb:b=a
   ·have z':=(ael hb).symm.trans z;cases z';subst hb;exact⟨ha,by rw[ad6];exact hl,vs,_,rv,ha⟩
   ·have z':=(aed hb).symm.trans z;cases z'
  ·by_cases hb:b=a
   ·exact hb
   ·exact absurd (aed hb) z
end L2
namespace L2
open PySem PySem.Spec PyProof.Rows
theorem NP {l:PySem.W.OpenLaw}{n k:Nat}{q:Program}{loose:List Str}{XP:(Str->Option Value)->Heap->Prop}{YP:World->Heap->Prop}{d:DefRec}{K:Params->PySem.W.Frag}{CX:World->qS}{sp:World->Sp}{x:Str}
 (hn:l.most=some n) (xx:n<=sizeLine) (Hi:d.params.defaults=[]) (hr:eK k callerA)
 (hY:∀(w:World) (h:Heap),YP w h->(K w.params).In h)
 (F:∀(w:World) (mg:Str->Option Value) (fa:Addr) (h:Heap),(K w.params).In h->h.Ns mainGlobals mg->mg d.name=some (.ref fa)->
  ∃fd:FuncData,(∀(s:Shared) (u:Value),BindsTo s fd ⟨[u],[]⟩ [(x,u)])/\
   ∀base:Heap,(K w.params).In base->base.Ns mainGlobals mg->aK l.prog w (K w.params) mg base (CX w) k fa fd [x] (sp w))
 (nJ:∀(w:World) (H:Hp) (a:Addr) (ns:List Int),ns.length<=n->Only H->aI (K w.params) H a (ns.map V.int)->sp w [.ref a] H (λv _=>v=.bl true) λ_ _ _=>False)
 (PY:∀(w:World) (H:Hp) (s:Shared) (e:Value) (s':Shared),CX w [] H s (λ_ _ _=>False) e s'->False):
 PySem.W.WalkO q loose XP YP l.row.toRowW d [] (λf vs=>PySem.call f vs):=by
 refine Att.DR hn Hi λw dG bF mg mb fa o pm cd doc a vs ns G Y ho hd oq hmg JR hints hlen hg=>?_
 have KX:=hY w _ Y;obtain⟨fd,hb,hF⟩:=F w mg fa _ KX G.T.g hmg;exact JS KX G.T.g G.T.b G.T.builtins G.T.nolimit hg JR hints (aep hlen xx) hr hF hb (λH hO hS=>nJ w H a ns hlen hO hS) λH e s'=>PY w H bF e s'
end L2
namespace L2
open PySem PySem.Spec PyProof.Rows
def inClass (s:Stmt)(j:Nat):Stmt:=match s with
 |.ClassDef _ _ _ body _ _ _ _ _ _ _=>body.getD j (.Pass ⟨0,0,0,0⟩)
 |_=>.Pass ⟨0,0,0,0⟩
def gw (s:Stmt):Arguments:=match s with
 |.FunctionDef _ a _ _ _ _ _ _ _ _=>a
 |_=>{ posonlyargs:=[],args:=[],vararg:=none,kwonlyargs:=[],kw_defaults:=[],kwarg:=none,defaults:=[] }
def fH (s:Stmt):List Stmt:=match s with
 |.FunctionDef _ _ b _ _ _ _ _ _ _=>b
 |_=>[]
def aU (s:Stmt):Scope:=match s with
 |.FunctionDef _ _ _ _ _ _ sc _ _ _=>sc
 |_=>{ kind:=.function,names:=[],isGenerator:=false,isCoroutine:=false }
abbrev bq:qS:=λ_ _ _ _ _ _=>False
abbrev E0:XK:=λ_ _ _=>False
theorem aP {X:Cx}:Passes bq X E0:=λ_ _ _ _ _ _ _ h=>h.elim
structure Bg (K:PySem.W.Frag) (x qual:Str) (st:Stmt) (f:Addr) (fd:FuncData):Prop where
 ex:∃(oc:Value) (od:Option Addr) (kV doc pm:Value) (an:Option Addr) (bK ct:Value) (sP:Array (Option Value)),
  fd=PySem.W.fnOf x qual (gw st) (fH st) (aU st) .none kV doc pm an bK ct/\K.lookup f=some ⟨oc,od,.func fd,sP⟩/\PySem.W.codeIn K bK qual=true
 kp:PySem.W.keepIn K (.ref f)=true
section
variable {P:Program} {w:World} {K:PySem.W.Frag} {mg:Str->Option Value} {base:Heap}
theorem Bg.ok {x qual:Str}{st:Stmt}{f:Addr}{fd:FuncData}{N ps:List Str}{k:Nat}{sp:Sp}(F:Bg K x qual st f fd)(S:bx N ps (aU st))(len:∀vs H Q E,sp vs H Q E->vs.length=ps.length)
 (FP:∀(bK:Value) (A:Around) (outer:List Env) (s:Shared) (H:Hp) (vs:List V) (Q:VK) (E:XK),eK k (A.deeper (envOfC qual (aU st) s.heap.objs.size f bK))->sp vs H Q E->
  ∃t,qJ (tS bq P w K mg base N qual (aU st) f bK A outer s H E).GX (fH st) t/\t { nx:=λ_ H'=>Q .non H',rt:=Q } (start N vs) H):aK P w K mg base bq (k+ 1) f fd ps sp:=by
 obtain⟨oc,od,kV,doc,pm,an,bK,ct,sP,rfl,lk,oq⟩:=F.ex;refine Uu lk oq S len λA outer s H vs Q E hr nJ=>?_
 obtain⟨t,h,q⟩:=FP bK A outer s H vs Q E hr nJ;exact⟨t,h.GX,q⟩
theorem Bg.binds {x qual:Str}{st:Stmt}{f:Addr}{fd:FuncData}{ps:List Str}(F:Bg K x qual st f fd)
 (h:∀(kV doc pm:Value) (an:Option Addr) (bK ct:Value) (us:List Value),us.length=ps.length->bindArgs (PySem.W.fnOf x qual (gw st) (fH st) (aU st) .none kV doc pm an bK ct) ⟨us,[]⟩=pure (ps.zip us)):Binds K fd ps []:=by
 obtain⟨oc,od,kV,doc,pm,an,bK,ct,sP,rfl,lk,oq⟩:=F.ex;exact .all (h kV doc pm an bK ct)
theorem Hk {x qual:Str}{st:Stmt}{f:Addr}{oc:Value}{od an:Option Addr}{sP:Array (Option Value)}{kV doc pm bK ct:Value}(l:K.lookup f=some ⟨oc,od,.func (PySem.W.fnOf x qual (gw st) (fH st) (aU st) .none kV doc pm an bK ct),sP⟩)
 (c:PySem.W.codeIn K bK qual=true) (k:PySem.W.keepIn K (.ref f)=true):Bg K x qual st f (PySem.W.fnOf x qual (gw st) (fH st) (aU st) .none kV doc pm an bK ct):=⟨⟨oc,od,kV,doc,pm,an,bK,ct,sP,rfl,l,c⟩,k⟩
end
theorem jJ {A:Around}{k:Nat}(hr:eK k A):A.units+ 1<cLine:=aec (Nat.add_le_add_left (by decide:1<=64) _) hr.units
section
variable {X:Cx}
theorem pv (i:Nat){x:Str}{pos:Pos}(hN:X.N[i]?=some x:=by rfl)(hv:OX X.env.scope x:=by first|exact Or.inl rfl|exact Or.inr (Or.inl rfl)|exact Or.inr (Or.inr rfl))(hd:(x==("__debug__":Str))=false:=by decide)
 (oq:(x==("__classdict__":Str))=false:=by decide):PE X (.Name x pos) (O9 i):=Pa hN hv hd oq
end
theorem cU {A B:Prop}(h:B):if false=true then A else B:=by
 rw[aed aeE];exact h
theorem lP {A B:Prop}(h:A):if true=true then A else B:=by
 rw[ael rfl];exact h
theorem cO {c A B:Prop} [Decidable c](h1:c->A)(h2:¬c->B):if c then A else B:=by
 by_cases h:c
 ·rw[ael h];exact h1 h
 ·rw[aed h];exact h2 h
theorem xG {c A B:Prop} [Decidable c](hc:c)(h:B):if (!decide c)=true then A else B:=by
 rw[aey hc];exact cU h
def au (H H':Hp):Prop:=∀b o,H b=some o->H' b=some o
theorem au.refl (H:Hp):au H H:=λ_ _ h=>h
theorem au.trans {H H1 H2:Hp}(a:au H H1)(b:au H1 H2):au H H2:=λc o h=>b c o (a c o h)
theorem au.free {H H':Hp}(e:au H H'){l:Addr}(h:H' l=Option.none):H l=Option.none:=by
 cases q:H l with
 |none=>rfl
 |some o=>
  rw[e l o q]at h;cases h
theorem au.seq {K:PySem.W.Frag}{H H':Hp}{a:Addr}{xs:List V}(e:au H H')(h:aI K H a xs):aI K H' a xs:=by
 rcases h with (h|⟨o,h⟩)|h
 ·exact .inl (.inl (e _ _ h))
 ·exact .inl (.inr ⟨o,e _ _ h⟩)
 ·exact .inr h
end L2
set_option maxHeartbeats 4000000
namespace L2
open PySem PySem.Spec PyProof.Rows
section
variable {prog:Program} {w:World} {A:Around} {R:Result->Shared->Prop} {s:Shared}
theorem vA {elt target iter:Expr}{scope:Scope}{pos:Pos}{it acc:Value}{env:Env}(I:Nat->Shared->Prop)
 (turn:∀n s,I n s->wpAny (model prog w) A (pyNext it) (λr bF=>match r with
  |none=>R (.ok .next) bF
  |some v=>wpAny (model prog w) A (letOwnedTupleGo target it v) (λ_ dG=>wpAny (model prog w) A (assign target env v) (λ_ jR=>wpAny (model prog w) A (eval elt env) (λx tU=>
   wpAny (model prog w) A (call (.builtin "list.append") [acc,x]) (λ_ Bh=>∃m,m<n/\I m Bh) (λ_ _=>False) tU) (λ_ _=>False) jR) (λ_ _=>False) dG) (λ_ _=>False) bF) (λ_ _=>False) s)
 (n:Nat) (h:I n s):codeAny (model prog w) A (.compLoop (.ListComp elt [⟨target,iter,[],0⟩] scope pos) 0 it acc env) R s:=by
 refine codeAny_loop rfl I (λn s hI=>?_) n h;show wpAny _ _ ((compTurn (.ListComp elt [⟨target,iter,[],0⟩] scope pos) 0 it acc env).onRaise (λx=>do noteFrame x env;theTreesLotGoes x)) _ _ s;refine wpAny_noted ?_;rw[compTurn_list1];refine adW (agR (adW (afi (turn n s hI) (λr bF da=>?_) λ_ _ h'=>h'.elim)))
 cases r with
 |none=>exact ad8 da
 |some v=>
  refine adW (afi da (λ_ dG h₀=>?_) λ_ _ h'=>h'.elim)
  exact adW (afi h₀ (λ_ jR lQ=>adW (adW (afi lQ (λx tU kA=>adW (afi kA
   (λ_ Bh rY=>ad8 (ad8 ⟨rfl,rY⟩)) λ_ _ h'=>h'.elim)) λ_ _ h'=>h'.elim))) λ_ _ h'=>h'.elim)
end
def b8 (X:Cx)(Nc:List Str)(scope:Scope)(cl:List (Str×Addr))(C:Addr)(s:Shared)(H:Hp)(ex:List Addr):Cx where
 prog:=X.prog
 w:=X.w
 K:=X.K
 mg:=X.mg
 base:=X.base
 A:=X.A
 N:=Nc
 dG:=s
 vR:=H
 env:=compEnvC scope cl C X.env
 outer:=X.stack
 stack:=X.stack
 ex:=ex
 fn:=λ_=>false
 calm:=X.calm
 pn:=[]
 xe:=λ_ _=>False
def tV (te:TE)(fv:St)(Q:VK)(J:It)(H1:Hp):Prop:=∃W:Nat->Nat->List V->Hp->Prop,(∃m,W 0 m [] H1)/\∀i m ys H2,W i m ys H2->
 (J.stop i H2/\ys.length<=sizeLine/\∀D,H2 D=none->Q (.ref D) (upd H2 D (.lst ys)))\/
 (J.go i H2/\ys.length<sizeLine/\∀x H3,J.pS i H2 x H3->te (some x::fv) H3 λy H4=>∃m',m'<m/\W (i+ 1) m' (ys++[y]) H4)
def Lz (wi:TI)(fv:St->St)(te:TE):TE:=λ σ H Q=>wi σ H (tV te (fv σ) Q)
structure iP (X:Cx) (x:Str) (fns:List Str) (ixs:List Nat) (scope:Scope) (cl:List (Str×Addr)):Prop where
 vX:closureFor scope X.env=pure cl
 sub:∀y c,cl.lookup y=some c->X.env.cells.lookup y=some c
 cell:∀y∈scope.names,y.2≠.cell
 kind:scope.kind=.function
 names:∀y∈scope.names,y.2=.local->scope.names.lookup y.1=some .local
 own:scope.names.lookup x=some .local
 has:∀y,((relabel scope X.env).names.lookup y=some .cell\/(relabel scope X.env).names.lookup y=some .free)->∃c,cl.lookup y=some c
 nd:(x::fns).Nodup
 len:ixs.length=fns.length
 at_:∀(j:Nat) (y:Str),fns[j]?=some y->∃i:Nat,ixs[j]?=some i/\X.N[i]?=some y/\(X.env.kindOf y=some .cell\/X.env.kindOf y=some .free)/\∃c,cl.lookup y=some c/\((relabel scope X.env).names.lookup y=some .cell\/(relabel scope X.env).names.lookup y=some .free)
def cJ (ixs:List Nat):St->St:=λ σ=>ixs.map λi=>(σ[i]?).join
section
variable {X:Cx} {elt iter:Expr} {x:Str} {px pos:Pos} {scope:Scope} {cl:List (Str×Addr)} {fns:List Str} {ixs:List Nat} {wi:TI} {te:TE}
theorem e9 (hx:scope.names.lookup x=some .local):(relabel scope X.env).names.lookup x=some .local:=lookup_relabel_local hx
theorem fb (hc:X.calm=true)(hi:PI X (.Name x px) iter wi)(S:iP X x fns ixs scope cl)
 (he:∀(C:Addr) (s:Shared) (H:Hp) (ex:List Addr),PE (b8 X (x::fns) scope cl C s H ex) elt te)
 (hs:∀x,foldedSetIterable iter X.env x=pure x:=by intro _;rfl):
 PE X (.ListComp elt [⟨.Name x px,iter,[],0⟩] scope pos) (Lz wi (cJ ixs) te):=by
 intro pins s σ H Q I h;rw[eval_ListComp];refine af7 (use:=none) rfl hs S.vX S.kind S.names (bh (hi pins s σ H _ I h) λv s1 h1=>bh h1 λEh s2 h2=>?_);obtain⟨it,fp,tn,J,H2,e,I2,T,kz,f2,W,⟨m0,w0⟩,turn⟩:=h2;subst e
 have dH:∀b∈fp,b<s2.heap.objs.size:=λb hb=>by
  obtain⟨o,ho,_⟩:=T.obj _ _ kz b hb;exact aeh ho
 refine aeO (agB S.cell (by intro y hy;simp at hy) (λda dI dJ=>?_) S.kind);dsimp only at dI dJ ⊢;generalize oE:s2.heap.push { cls:=.type "list",dict:=none,data:=.seq ([]:List Value).toArray }=dm at dI dJ ⊢;generalize hD:s2.heap.objs.size=D at dH ⊢;have hC:dm.objs.size=D+ 1:=by rw[←oE,afD,hD]
 generalize Bi:dm.objs.size=C at hC dI dJ ⊢;have dc:D<C:=by omega
 have gx:D≠C:=aen dc;have dv:∀b u,s2.heap.get? b=some u->dm.get? b=some u:=λb u q=>by rw[←oE];exact ad3 _ q
 have oF:∀{b u},s2.heap.get? b=some u->b<D:=λq=>by rw[←hD];exact aeh q
 have fe:∀b u,dm.get? b=some u->da.get? b=some u:=λb u q=>
  dJ.extBut b u (aen (aev (aeh q) (afW Bi))) (ad3 _ q)
 have Bj:dm.get? D=some { cls:=.type "list",dict:=none,data:=.seq ([]:List Value).toArray }:=by rw[←oE,←hD];exact aem _ rfl
 have I3:Inv X pins σ H2 { s2 with heap:=dm }:=I2.kept (t':=s2.toks) dv;have kB:H2 D=none:=I2.aO.fresh (by omega);have Bk:H2 C=none:=I2.aO.fresh (by omega)
 have fW:∀b∈D::fp,b∉ik X.stack:=λb hb z=>by
  rcases aea.mp (I2.qH b z) with e|z
  ·rcases aea.mp hb with e2|hb
   ·exact absurd I2.lt (by rw[←e,e2,←hD];exact aeD _)
   ·exact(f2 b hb).2.1 e
  ·rcases aea.mp hb with e2|hb
   ·exact I2.AZ (by rw[e2,←hD];exact ad7 _) z
   ·exact(f2 b hb).2.2.1 z
 have iM:∀y c,cl.lookup y=some c->∀b∈D::fp,c≠b:=λy c q b hb z=>by
  obtain⟨v,hv⟩:=I2.cell y c (S.sub y c q);rcases aea.mp hb with e2|hb
  ·exact absurd hv.lt (by rw[z,e2,←hD];exact aeD _)
  ·exact(f2 b hb).2.2.2.2.1 y c (S.sub y c q) z
 -- the block's context
 let Xc:Cx:=b8 X (x::fns) scope cl C { s2 with heap:=dm } H2 (D::fp)
 have ok:Xc.Ok:={
  mod:=I2.ok.mod
  kind:=S.kind
  glob:=I2.ok.glob
  blt:=I2.ok.blt
  above:=by show dm.objs.size<=C;omega
  inj:=λy z c q1 q2=>I2.ok.inj y z c (S.sub _ _ q1) (S.sub _ _ q2)
  has:=S.has
  xk:=λy c q=>nomatch q
  hd:=I2.ok.hd
  frames:=I2.ok.frames
  zo:=.inl rfl
  Ee:=λb hb=>⟨by
   rcases aea.mp hb with e2|hb
   ·rw[e2];exact gx
   ·exact aen (aeV (dH b hb) dc),λy c q=>iM y c q b hb⟩
  bs:=I3.bs
  om:=aep I3.ok.om I3.sz
  mY:=λb o q hb=>by
   rcases aea.mp hb with e2|hb
   ·exact absurd (oF (I2.bs b o q).1) (by rw[e2];exact aeD _)
   ·rcases (f2 b hb).2.2.2.1 with z|z
    ·exact I2.ok.mY b o q z
    ·exact absurd (aeh (I2.ok.bs b o q).1) (Nat.not_lt.mpr z)
  tG:=fW
  jv:=I3.stack
  tH:=I3.qI }
 have start:∀(v0:Option V),v0=none->Inv Xc [(D,{ cls:=.type "list",dict:=none,data:=.seq ([]:List Value).toArray })] (v0::cJ ixs σ) H2 { s2 with heap:=da,toks:=s2.toks+ ([]:List (Str×Value)).length }:=λv0 Bl=>{
  ok:=ok
  os:=rfl
  bare:=I2.bare
  base:=Un.kept fe
  loc:=⟨_,dI,λi y v e1 e2 e3=>by
   cases i with
   |zero=>rw[Bl]at e2;cases e2
   |succ j=>
    have qU:fns[j]?=some y:=e1
    have kc:(cJ ixs σ)[j]?=some (some v):=e2
    obtain⟨i,Bm,vB,hk,c,gy,gU⟩:=S.at_ j y qU;unfold cJ at kc;rw[aeo,Bm]at kc
    have Bn:σ[i]?=some (some v):=by
     have z:(σ[i]?).join=some v:=Option.some.inj kc
     cases q:σ[i]? with
     |none=>rw[q]at z;cases z
     |some o=>rw[q]at z;rw[show o=some v from z]
    obtain⟨m,_,hl⟩:=I2.loc;obtain⟨u,r,l⟩:=hl i y v vB Bn (hk.elim (λz=>.inr (.inl z)) λz=>.inr (.inr z));refine⟨u,r,.inr ⟨gU,c,gy,?_⟩⟩;rcases l with ⟨z,_⟩|⟨_,c',vt,mG⟩
    ·rcases hk with hk|hk <;> (rw[hk]at z;cases z)
    ·have:c'=c:=Option.some.inj (vt.symm.trans (S.sub _ _ gy));subst this;obtain⟨o,ho,hd⟩:=mG;exact⟨o,fe _ _ (dv _ _ ho),hd⟩⟩
  cell:=λy c q=>by
   obtain⟨v,o,ho,hd⟩:=I2.cell y c (S.sub y c q);exact⟨v,o,fe _ _ (dv _ _ ho),hd⟩
  free:=Bk
  fw:=λy c q=>I2.fw y c (S.sub y c q)
  pin:=λp hp=>by
   have xH:p=(D,{ cls:=.type "list",dict:=none,data:=.seq ([]:List Value).toArray }):=by simpa [Xc,b8] using hp
   subst xH;exact⟨fe _ _ Bj,kB,gx,fW D (aeb ..),λv z=>nomatch z⟩
  aO:=(I2.aO.kept dv).kept fe
  len:=by show (v0::cJ ixs σ).length=(x::fns).length;simp[cJ,S.len] }
 -- what stays true of the iterator's objects
 have oH:∀{H':Hp} {dR:List (Addr×Obj)},(∀b∈fp,H' b=none)->(∀p∈dR,p.1=D)->∀b∈fp,mZ Xc dR H' b:=λ{H' dR} hn hp b hb=>
  ⟨hn b hb,aen (aeV (dH b hb) dc),fW b (aek _ hb),.inl (aek _ hb),λy c q=>iM y c q b (aek _ hb),λp q=>by
   have q':p∈dR:=by simpa [Xc,b8] using q
   rw[hp p q'];exact afu (dH b hb)⟩
 have loop:codeAny (model X.prog X.w) X.A (.compLoop (.ListComp elt [⟨.Name x px,iter,[],0⟩] scope pos) 0 (.ref it) (.ref D) (compEnvC scope cl C X.env))
  (compPost (model X.prog X.w) X.A X.xe none (EP X pins σ Q) (.ref D) C) { s2 with heap:=da,toks:=s2.toks+ ([]:List (Str×Value)).length }:=by
  refine vA (λn s'=>∃(i:Nat) (ys:List V) (its:List Value) (nn:Nat) (v0:Option V) (H':Hp),Inv Xc [(D,{ cls:=.type "list",dict:=none,data:=.seq its.toArray nn })] (v0::cJ ixs σ) H' s'/\tn i s'.heap/\(∀b∈fp,H' b=none)/\Vals ys its/\W i n ys H') ?_ m0
   ⟨0,[],[],0,none,H2,start none rfl,T.keep _ _ _ kz λb _ o q=>fe _ _ (dv _ _ q),λb hb=>(f2 b hb).1,.nil,w0⟩
  rintro n s3 ⟨i,ys,its,nn,v0,H3,J3,tW,pT,vv,w3⟩
  have jS:∀p∈([(D,({ cls:=.type "list",dict:=none,data:=.seq its.toArray nn }:Obj))]:List (Addr×Obj)),p.1=D:=λp hp=>by
   have:p=(D,{ cls:=.type "list",dict:=none,data:=.seq its.toArray nn }):=by simpa using hp
   rw[this]
  rcases turn i n ys H3 w3 with ⟨stop,hlen,q⟩|⟨go,hlen,step⟩
  ·-- the end
   refine bh (T.done Xc rfl rfl rfl hc i _ s3 _ H3 _ J3 (oH pT jS) tW stop) λr s4 ⟨hr,J4⟩=>?_
   subst hr;obtain⟨m,hn,_⟩:=J4.loc;refine⟨m,hn,λgA Bo=>?_⟩;obtain⟨gD,nD,_,_,_⟩:=J4.pin (D,{ cls:=.type "list",dict:=none,data:=.seq its.toArray nn }) (by simp[Xc,b8]);have B:=J4.base;have kC:∀b u,b≠C->s4.heap.get? b=some u->gA.get? b=some u:=λb u hb q=>(Bo.2 b hb).trans q
   have ne:∀{b o},s2.heap.get? b=some o->b≠C/\b≠D:=λq=>⟨aen (aeV (oF q) dc),aen (oF q)⟩
   have iD:∀{b o},s2.heap.get? b=some o->b∉fp->b∉D::fp:=λq hx z=>(aea.mp z).elim (ne q).2 hx
   have uu:Un (ik X.stack) fp H2 (upd H3 D (.lst ys)) s2.heap gA:={
    keep:=λb o q n hb hx=>kC b o (ne q).1 (B.keep b o (dv b o q) n hb (iD q hx))
    slot:=λb o q n hb hx=>by
     obtain⟨sl,e⟩:=B.slot b o (dv b o q) n hb (iD q hx);exact⟨sl,kC b _ (ne q).1 e⟩
    free:=λb o q n hx=>by rw[ao (ne q).2];exact B.free b o (dv b o q) n (iD q hx)
    there:=λb o q hx=>by
     obtain⟨o',e⟩:=B.there b o (dv b o q) (iD q hx);exact⟨o',kC b _ (ne q).1 e⟩
    iK:=λb xs q=>by rw[ao (av q kB)];exact B.iK b xs q
    gW:=λb o xs q=>by rw[ao (av q kB)];exact B.gW b o xs q
    iL:=λb ps q=>by
     obtain⟨more,e⟩:=B.iL b ps q;exact⟨more,by rw[ao (av q kB)];exact e⟩ }
   have aO:dS X.prog X.w (upd H3 D (.lst ys)) gA:=λb u e=>by
    by_cases hb:b=D
    ·subst hb;rw[aj]at e;cases e;exact⟨hlen,its,nn,vv,kC _ _ gx gD⟩
    ·rw[ao hb]at e;refine(J4.aO b u e).lK (λc v hc q=>kC c v ?_ q) (λc q=>by rw[ao (av q nD)];exact q) λc xs q=>by rw[ao (av q nD)];exact q
     have fC:H3 C=none:=J4.free;rcases hc with rfl|hc
     ·exact av e fC
     ·exact av hc fC
   exact⟨.ref D,_,I2.Az (s':={ s4 with heap:=gA }) J4.os uu aO J4.bare (λb hb=>⟨(f2 b hb).2.2.2.1,(f2 b hb).2.1,(f2 b hb).2.2.2.2.1,(f2 b hb).2.2.2.2.2⟩),rfl,q D nD⟩
  ·-- a turn
   refine bh (T.item Xc rfl rfl rfl hc i _ s3 _ H3 _ J3 (oH pT jS) tW go) λr s4 ⟨u,hr,h4⟩=>?_
   subst hr;refine bh h4 λ_ s5 ⟨xv,H5,J5,r5,y5,kD,xr⟩=>?_
   have Bp:=J5.pinned (oH xr jS) (T.obj _ _ kD);have hg:PG Xc (.Name x px) (dE 0):=bN (X:=Xc) (i:=0) S.nd rfl (.inl (e9 S.own)) (.inr (e9 S.own));refine bh (hg _ s5 _ H5 xv u (λ aJ H'=>aJ=some xv::cJ ixs σ/\H'=H5) Bp r5 ⟨rfl,rfl⟩) λ_ s6 ⟨G0,H6,J6,e6,Bq⟩=>?_
   subst e6 Bq;refine bh (he C { s2 with heap:=dm } H2 (D::fp) _ s6 _ H6 _ J6 (step xv H6 y5)) λyv s7 ⟨y,H7,J7,r7,m',iQ,w7⟩=>?_
   obtain⟨gD,nD,_,_,_⟩:=J7.pin (D,{ cls:=.type "list",dict:=none,data:=.seq its.toArray nn }) (by simp[Xc,b8]);have tX:tn (i+ 1) s7.heap:=T.keep _ _ _ kD λb hb o e=>(J7.pin (b,o) (ad5 _ (ad5 _ (cQ hb e)))).1
   have tY:∀b∈fp,H7 b=none:=λb hb=>by
    obtain⟨o,e,d⟩:=T.obj _ _ kD b hb;exact(J7.pin (b,o) (ad5 _ (ad5 _ (cQ hb e)))).2.1
   have Br:Inv Xc [] (some xv::cJ ixs σ) H7 s7:=J7.fF λp hp=>nomatch hp
   refine agi (hsz:=by rw[ad9,←vv.length];omega) ⟨nn,gD⟩ λh8 Bs tZ=>?_
   obtain⟨n8,g8⟩:=Bs
   have J8:Inv Xc [] (some xv::cJ ixs σ) H7 { s7 with heap:=h8 }:=Br.turned (t':=s7.toks) (it:=D) (λb o hb e=>(tZ.2 b hb).trans e) nD (gx) (.inl (aeb ..))
    (λy c q=>iM y c q D (aeb ..)) (λp hp=>by simp[Xc,b8]at hp)
   refine⟨m',iQ,i+ 1,ys++[y],its++[yv],n8,some xv,H7,J8.fF λp hp=>?_,?_,tY,vv.append (.cons r7 .nil),w7⟩
   ·have:p=(D,{ cls:=.type "list",dict:=none,data:=.seq (its++[yv]).toArray n8 }):=by simpa using hp
    subst this;refine⟨?_,nD,gx,fW D (aeb ..),λv z=>nomatch z⟩;have:its.toArray.push yv=(its++[yv]).toArray:=by simp
    rw[this]at g8;exact g8
   ·exact T.keep _ _ _ tX λb hb o e=>(tZ.2 b (aen (dH b hb))).trans e
 exact agm loop (T.self _ 0 _ _ _ (T.keep _ _ _ kz λb _ o q=>fe _ _ (dv _ _ q)) loop)
end
theorem fM {X:Cx}{x:Str}{scope:Scope}(hf:∀y∈scope.names,y.2≠.free)(hc:∀y∈scope.names,y.2≠.cell)(hk:scope.kind=.function)
 (hn:∀y∈scope.names,y.2=.local->scope.names.lookup y.1=some .local) (hx:scope.names.lookup x=some .local):iP X x [] [] scope [] where
 vX:=closureFor_none hf
 sub:=λy c h=>nomatch h
 cell:=hc
 kind:=hk
 names:=hn
 own:=hx
 has:=λy h=>by
  have e:(relabel scope X.env).names=scope.names:=by
   unfold relabel;refine map_eq_self λz hz=>?_
   obtain⟨n,k⟩:=z;have:(k==NameKind.free)=false:=by simpa using hf _ hz
   simp[this]
  rw[e]at h;rcases h with h|h
  ·exact absurd rfl (hc _ (afm h))
  ·exact absurd rfl (hf _ (afm h))
 nd:=by simp
 len:=rfl
 at_:=λj y h=>by simp at h
theorem t6 {J:It}{H1:Hp}{fv:St}{te:TE}{Q:VK}(xs:List V)(g:V->V)(xI:∀i:Nat,i<xs.length->J.go i H1)(hy:∀(i:Nat) (x:V) (H3:Hp),i<xs.length->J.pS i H1 x H3->H3=H1/\xs[i]?=some x)
 (dF:J.stop xs.length H1) (Bu:xs.length<=sizeLine) (he:∀(i:Nat) (x:V),xs[i]?=some x->∀R:VK,R (g x) H1->te (some x::fv) H1 R) (hQ:∀D,H1 D=none->Q (.ref D) (upd H1 D (.lst (xs.map g)))):
 tV te fv Q J H1:=by
 refine⟨λi m ys H2=>m=xs.length - i/\i<=xs.length/\ys=(xs.take i).map g/\H2=H1,⟨xs.length,by simp,aeA _,by simp,rfl⟩,?_⟩;rintro i m ys H2 ⟨rfl,hi,rfl,rfl⟩;by_cases bG:i<xs.length
 ·refine .inr ⟨xI i bG,by rw[ad6,aeG];omega,λx H3 t9=>?_⟩;obtain⟨e3,hx⟩:=hy i x H3 bG t9;subst e3;refine he i x hx _ ⟨xs.length - (i+ 1),by omega,rfl,bG,?_,rfl⟩;rw[af0,hx];simp
 ·have e:i=xs.length:=by omega
  subst e;refine .inl ⟨dF,by rw[ad6,aeG];omega,λD hD=>?_⟩;rw[afL];exact hQ D hD
theorem Hl {K:PySem.W.Frag}{H:Hp}{a:Addr}{xs:List V}(h:bV K H a xs):∀i,i<xs.length->(zq K a).go i H:=λi hi=>⟨xs,xs[i],h,adX hi⟩
theorem Eu {K:PySem.W.Frag}{H:Hp}{a:Addr}{xs:List V}(h:bV K H a xs):∀i x H3,i<xs.length->(zq K a).pS i H x H3->H3=H/\xs[i]?=some x:=λi x H3 _ y=>⟨y.1,y.2 xs h⟩
theorem Bv {K:PySem.W.Frag}{H:Hp}{a:Addr}{xs:List V}(h:bV K H a xs):(zq K a).stop xs.length H:=⟨xs,h,ad7 _⟩
theorem ua {K:PySem.W.Frag}{H:Hp}{a:Addr}{xs:List V}(h:aI K H a xs):∀i,i<xs.length->(xn K a).go i H:=λi hi=>⟨xs,xs[i],h,adX hi⟩
theorem qV {K:PySem.W.Frag}{H:Hp}{a:Addr}{xs:List V}(h:aI K H a xs):∀i x H3,i<xs.length->(xn K a).pS i H x H3->H3=H/\xs[i]?=some x:=λi x H3 _ y=>⟨y.1,y.2 xs h⟩
theorem oI {K:PySem.W.Frag}{H:Hp}{a:Addr}{xs:List V}(h:aI K H a xs):(xn K a).stop xs.length H:=⟨xs,h,ad7 _⟩
def Y9 (t:TS):TS:=λD σ H=>∃G:St->Hp->Prop,t { D with nx:=G } σ H/\∀ aJ H',G aJ H'->D.nx aJ H'
theorem cj {X:Cx}{st:Stmt}{t:TS}(h:PS X st t):PS X st (Y9 t):=by
 intro pins s σ H D I ⟨G,h1,h2⟩;refine bh (h pins s σ H { D with nx:=G } I h1) λf s' q=>?_
 cases f with
 |next=>obtain⟨aJ,H',I',g⟩:=q;exact⟨aJ,H',I',h2 aJ H' g⟩
 |_=>exact q
theorem mI {scope:Scope}{env:Env}{y:Str}{k:NameKind}(h:(relabel scope env).names.lookup y=some k)(hk:k=.cell\/k=.free)(hc:∀z∈scope.names,z.2≠.cell):(y,NameKind.free)∈scope.names:=by
 have hm:=afm h;unfold relabel at hm;obtain⟨⟨n,k'⟩,hz,e⟩:=aeL.mp hm;dsimp only at e;by_cases hf:(k'==NameKind.free && env.scope.kind==.function && env.kindOf n==some .cell)=true
 ·rw[ael hf]at e;have e1:n=y:=afh Prod.fst e;rw[afv,afv]at hf;have e2:k'=.free:=eq_of_beq hf.1.1;rw[←e1,←e2];exact hz
 ·rw[aed hf]at e;have e1:n=y:=afh Prod.fst e;have e2:k'=k:=afh Prod.snd e;subst e1 e2;rcases hk with rfl|rfl
  ·exact absurd rfl (hc _ hz)
  ·exact hz
theorem fx {env:Env}(hf:env.scope.kind=.function){y:Str}(hy:env.kindOf y=some .cell):∀{names:List (Str×NameKind)},names.lookup y=some .free->
 (names.map λ(n,k)=>if (k==NameKind.free && env.scope.kind==.function && env.kindOf n==some .cell) then (n,NameKind.cell) else (n,k)).lookup y=some .cell
 |[],h=>by simp at h
 |(n,k)::r,h=>by
  have ih:=@fx env hf y hy r;show List.lookup y ((if (k==NameKind.free && env.scope.kind==.function && env.kindOf n==some .cell)=true then (n,NameKind.cell) else (n,k))::_)=_
  cases hx:y==n with
  |true=>
   simp only[aeS,hx]at h;have e:y=n:=eq_of_beq hx;subst e;cases h;have hc:(NameKind.free==NameKind.free && env.scope.kind==.function && env.kindOf y==some .cell)=true:=by rw[hf,hy];rfl
   rw[ael hc];simp only[aeS,hx]
  |false=>
   simp only[aeS,hx]at h;by_cases hc:(k==NameKind.free && env.scope.kind==.function && env.kindOf n==some .cell)=true
   ·rw[ael hc];simp only[aeS,hx];exact ih h
   ·rw[aed hc];simp only[aeS,hx];exact ih h
theorem nM {X:Cx}{x y:Str}{scope:Scope}{c:Addr}{i:Nat}(FX:closureFor scope X.env=pure [(y,c)])(hy:X.env.cells.lookup y=some c)(hc:∀z∈scope.names,z.2≠.cell)(hk:scope.kind=.function)
 (hn:∀z∈scope.names,z.2=.local->scope.names.lookup z.1=some .local) (hx:scope.names.lookup x=some .local) (pR:∀z∈scope.names,z.2=.free->z.1=y) (qW:x≠y) (hi:X.N[i]?=some y)
 (Hm:X.env.kindOf y=some .cell) (LC:X.env.scope.kind=.function) (PZ:scope.names.lookup y=some .free):iP X x [y] [i] scope [(y,c)] where
 vX:=FX
 sub:=λz d h=>by
  by_cases e:z=y
  ·subst e;have:c=d:=by simpa [aeS] using h
   rw[←this];exact hy
  ·have hb:(z==y)=false:=aef.mpr e;simp[aeS,hb]at h
 cell:=hc
 kind:=hk
 names:=hn
 own:=hx
 has:=λz h=>by
  have e:z=y:=by
   rcases h with h|h
   ·exact pR _ (mI h (.inl rfl) hc) rfl
   ·exact pR _ (mI h (.inr rfl) hc) rfl
  subst e;exact⟨c,by simp[aeS]⟩
 nd:=by simp[qW]
 len:=rfl
 at_:=λj z h=>by
  cases j with
  |zero=>
   have e:y=z:=by simpa using h
   subst e;exact⟨i,rfl,hi,.inl Hm,c,by simp[aeS],.inl (fx LC Hm PZ)⟩
  |succ j=>simp at h
end L2
namespace L2
open PySem PySem.Spec PyProof.Rows
namespace Rv
theorem Hn:Slot "reversed" "__init__" "object.__init__":=
 .of (owner:="object") (n:="__init__") (by rw[typeLookup_type,builtinLookup_eq_fast];kernel_rfl) (by decide +kernel) (by decide +kernel) (by decide +kernel)
  (by first|exact .inl (by decide +kernel)|exact .inr (by decide +kernel)) (by rw[isSubtype_type];kernel_rfl)
theorem called:TypeCalled "reversed" "reversed.__new__" "object.__init__":=
 ⟨by decide +kernel,by decide +kernel,⟨_,_,PySem.F.mro_reversed⟩,PySem.F.made_reversed,by decide +kernel,by rw[isSubtype_type];kernel_rfl,Hn⟩
def ada (h:Heap)(it t:Addr)(i:Int):Prop:=∃o,h.get? it=some o/\o.cls=.type "reversed"/\o.data=.fields #[.ref t,rawInt i]
section
variable {prog:Program} {w:World} {A:Around} {E:Value->Shared->Prop} {s:Shared}
end
end Rv
section
variable {X:Cx} {tg:Expr}
end
end L2
namespace L2
open PySem PySem.Spec PyProof.Rows
def ak (ns:List Int):List V:=ns.map V.int
theorem cI {ns:List Int}{i:Nat}{z:Int}(h:ns[i]?=some z):(ak ns)[i]?=some (V.int z):=by
 unfold ak;rw[aeo,h];rfl
theorem aL (ns:List Int):(ak ns).length=ns.length:=ad6 ..
theorem cS {ns:List Int}{i:Nat}{v:V}(h:(ak ns)[i]?=some v):∃z,v=V.int z/\ns[i]?=some z:=by
 unfold ak at h;rw[aeo]at h
 cases e:ns[i]? with
 |none=>rw[e]at h;cases h
 |some z=>rw[e]at h;exact⟨z,(Option.some.inj h).symm,rfl⟩
theorem ints_app (a b:List Int):ak (a++b)=ak a++ak b:=aeu ..
theorem all_eq (ns ms:List Int):((List.range (min ns.length ms.length)).all (λj=>decide (ns[j]?=ms[j]?)) && ns.length==ms.length)=decide (ns=ms):=by
 rw[aeY,afv,List.all_eq_true,aeB,agK];constructor
 ·rintro ⟨h1,h2⟩;refine agZ λi=>?_
  by_cases hi:i<ns.length
  ·exact aeI (h1 i (aeQ.mpr (by omega)))
  ·rw[aeM (by omega),aeM (by omega)]
 ·rintro rfl;exact⟨λj _=>aey rfl,rfl⟩
section
variable {X:Cx}
def UB (K:PySem.W.Frag):R2:=λx y H Q=>∃a b ns ms,x=.ref a/\y=.ref b/\bV K H a (ak ns)/\bV K H b (ak ms)/\Q (.bl (!decide (ns=ms))) H
theorem Ew {A:Around}{s:Shared}{ns ms:List Int}{its dh:List Value}(r1:Vals (ak ns) its)(r2:Vals (ak ms) dh)(j:Nat)(h1:j<its.toArray.size)(h2:j<dh.toArray.size):
 SeqAt.EqAt A s its.toArray[j] dh.toArray[j] (decide (ns[j]?=ms[j]?)):=by
 have l1:=r1.length;have l2:=r2.length;rw[aL]at l1 l2;have g1:j<its.length:=by simpa using h1
 have g2:j<dh.length:=by simpa using h2
 have e1:ns[j]?=some ns[j]:=adX (by omega)
 have e2:ms[j]?=some ms[j]:=adX (by omega)
 obtain⟨u,hu,t,rfl⟩:=r1.get (cI e1);obtain⟨v,hv,t',rfl⟩:=r2.get (cI e2)
 have f1:its.toArray[j]=Value.int ns[j] t:=by
  rw[ae7];exact Option.some.inj ((adX g1).symm.trans hu)
 have f2:dh.toArray[j]=Value.int ms[j] t':=by
  rw[ae7];exact Option.some.inj ((adX g2).symm.trans hv)
 rw[f1,f2,e1,e2];have:=SeqAt.EqAt.int_int (A:=A) (s:=s) ns[j] t ms[j] t'
 have e:decide (some ns[j]=some ms[j])=(ns[j]==ms[j]):=by
  rw[aeY,aeB,agK];exact⟨Option.some.inj,afh some⟩
 rw[e];exact this
theorem NQ (hu:X.A.units<cLine):gT X (compareOp .NotEq) (UB X.K):=by
 intro pins s σ H x y v u Q I rx ry h;obtain⟨a,b,ns,ms,rfl,rfl,ha,hb,q⟩:=h;cases rx;cases ry;obtain⟨its,r1,p1,_⟩:=I.tuple ha;obtain⟨dh,r2,p2,_⟩:=I.tuple hb;refine SeqAt.RcNeAt.tuples (e:=λj=>decide (ns[j]?=ms[j]?)) (show s.heap.IsTuple a its.toArray from p1) (show s.heap.IsTuple b dh.toArray from p2) hu (λj h1 h2=>Ew r1 r2 j h1 h2) X.prog X.w X.xe _ ⟨.bl (!decide (ns=ms)),H,I,?_,q⟩;have l1:=r1.length;have l2:=r2.length;rw[aL]at l1 l2;show _=Value.bool (!decide (ns=ms));rw[←all_eq,ad9,ad9,←l1,←l2]
def Za (K:PySem.W.Frag):List V->Hp->VK->Prop:=λxs H Q=>∃x T t b,xs=[x,.ty T]/\lM K H x t/\PySem.W.kitOne K t (.type T)=some b/\Q (.bl b) H
theorem fh:mH X (.builtin "isinstance") (Za X.K):=by
 intro pins s σ H xs us Q I r h;obtain⟨x,T,t,b,rfl,ty,e,q⟩:=h;obtain⟨u,w',rfl,rx,ry⟩:=vals2 r;cases ry;exact G8 I rx ty e λtk=>⟨.bl b,H,I.tok tk,rfl,q⟩
theorem vY (K:PySem.W.Frag)(T:String):PySem.W.kitOne K (.type T) (.type T)=some true:=by
 unfold PySem.W.kitOne;rw[ael (beq_self_eq_true _)]
theorem Bw (K:PySem.W.Frag):PySem.W.kitOne K (.type "int") (.type "bool")=some false:=by
 first|rfl|kernel_rfl|decide +kernel
end
end L2
namespace L2
open PySem PySem.Spec PyProof.Rows
theorem au.upd {H:Hp}{a:Addr}{o:HO}(h:H a=Option.none):au H (upd H a o):=λb u e=>by
 rw[ao (av e h)];exact e
section
variable {X:Cx}
def P1:R2:=λx y H Q=>∃a b xs ys,x=.ref a/\y=.ref b/\H a=some (.tup xs)/\H b=some (.tup ys)/\xs.length+ ys.length<=sizeLine/\
 ∀p H',au H H'->H' p=some (.tup (xs++ys))->Q (.ref p) H'
theorem JT {prog:Program}{w:World}{A:Around}{E:Value->Shared->Prop}{s:Shared}{t b:Addr}{ws:List Value}{Q:Value->Shared->Prop}(ht:IsTup s.heap t ([]:List Value).toArray)(hb:IsTup s.heap b ws.toArray)
 (h:Q (.ref b) s):wpAny (model prog w) A (binaryOp .Add (.ref t) (.ref b)) Q E s:=by
 obtain⟨⟨cls,dd,data,sl⟩,ho,hc,n,hd⟩:=id ht;obtain⟨⟨YX,Lr,data2,Ls⟩,jB,gU,n2,hd2⟩:=id hb;simp only at hc hd gU hd2;subst hc hd gU hd2
 exact concat_meets ⟨_,ho,rfl⟩ ⟨_,jB,rfl⟩ noFill_tuple_add seq_tuple_add agX agS (agM _ _)
  (tuple_addW0 t b ([]:List Value).toArray ws.toArray n n2 dd Lr sl Ls rfl) ⟨ho,jB,h⟩
theorem JV:gT X (binaryOp .Add) P1:=by
 intro pins s σ H x y v u Q I rx ry h;obtain⟨a,b,xs,ys,rfl,rfl,ha,hb,hz,q⟩:=h;by_cases hx:xs=[]
 ·subst hx;cases rx;cases ry;obtain⟨its,r1,p1,_⟩:=I.tuple (bV.of ha);obtain⟨dh,r2,p2,_⟩:=I.tuple (bV.of hb);have e:its=[]:=r1.uS.mpr rfl;subst e;exact JT p1 p2 ⟨.ref b,H,I,rfl,q b H (au.refl H) hb⟩
 ·refine ND pins s σ H (.ref a) (.ref b) v u Q I rx ry ⟨a,b,xs,ys,rfl,rfl,bV.of ha,bV.of hb,hx,hz,λe=>?_,λ_ p hp=>q p _ (au.upd hp) aj⟩;subst e;exact q a H (au.refl H) (by rw[aeP];exact ha)
def UC:V->Option Int->Option Int->Hp->VK->Prop:=λx lo hi H Q=>∃a xs,x=.ref a/\H a=some (.tup xs)/\∀p H',au H H'->H' p=some (.tup (fV xs lo hi))->Q (.ref p) H'
end
end L2
namespace HT
open PySem PyProof.Rows
section
variable {prog:Program} {w:World} {A:Around} {E:Value->Shared->Prop} {s:Shared}
theorem tD {t sl:Addr}{items:Array Value}{vl vu:Value}{lo hi:Option Int}{Q:Value->Shared->Prop}(ht:IsTup s.heap t items)(hs:s.heap.IsSliceOf sl vl vu .none)(pl:IsPart vl lo)(pu:IsPart vu hi)
 (hw:bZ items.size 0 lo=0/\bZ items.size items.size hi=items.size) (h:Q (.ref t) s):wpAny (model prog w) A (getItem (.ref t) (.ref sl)) Q E s:=by
 obtain⟨os,Bc,xC,lH⟩:=id hs;have PD:s.TypeIs (.ref sl) "slice":=⟨os,Bc,xC⟩;unfold getItem
 try with_reducible refine afC ?_
 first|refine adW (ad8 ?_)|skip
 refine adW (wpAny_sequenceKey ht.typeIs (by decide) ?_)
 refine adW (ae0 (name:=Str.ofString "__getitem__") ht.typeIs ae5
  (ae4 ae5 ht.typeIs entry_tuple_getitem ?_ (args_tuple_getitem _ _)))
 show wpAny _ _ (Builtin.Tuple.tupleItemsOf (.ref t) >>=_) _ _ s;refine adW (tupleItemsOf_ ht ?_);refine adW (agN PD ?_);rw[ael (by decide)];refine adW (oz hs pl pu ?_);rw[hw.1,hw.2];have Zb:((((0:Nat):Int)==0 && (1:Int)==1 && (items.size - 0)==items.size)=true):=by simp
 show wpAny _ _ (if (((0:Nat):Int)==0 && (1:Int)==1 && (items.size - 0)==items.size)=true then _ else _) _ _ s;rw[ael Zb];obtain⟨ot,hot,hct,_⟩:=id ht;refine adW (m:=Builtin.Tuple.tupleIsExact _) ?_;unfold Builtin.Tuple.tupleIsExact;refine adW (agN ht.typeIs (ad8 ?_));show wpAny _ _ (if (Value.type "tuple"==Value.type "tuple")=true then _ else _) _ _ s;rw[ael (by decide)];exact adW (wpAny_rule (ad8 ⟨_,rfl,ad8 h⟩))
end
theorem vZ:fillsNumberSlot (.type "tuple") "mul"=pure false:=
 PySem.fillsNumberSlot_seq (id:="tuple.__mul__") (r:=some (.builtin "tuple.__rmul__")) PySem.F.slot_tuple_mul.lookup (by decide +kernel) PySem.F.slot_tuple_rmul.lookup (by decide +kernel)
theorem Bx:seqRepeat? (.type "tuple")=pure (some (.builtin "tuple.__mul__")):=by
 unfold seqRepeat?;rw[PySem.seqSlot_of (T:="tuple") (name:="__mul__") (id:="tuple.__mul__") PySem.F.slot_tuple_mul.lookup (by decide +kernel),PySem.seqSlot_of (T:="tuple") (name:="__rmul__") (id:="tuple.__rmul__") PySem.F.slot_tuple_rmul.lookup (by decide +kernel)];rfl
theorem yN (a:Int)(t:Tok)(l:Addr)(items:Array Value)(n:Nat)(dd:Option Addr)(sl:Array (Option Value)):
 Meets (Builtin.«int.__rmul__» ⟨[.int a t,.ref l],[]⟩) (λ_ R s=>s.heap.get? l=some { cls:=.type "tuple",dict:=dd,data:=.seq items n,slots:=sl }/\R (.ok (.ret Value.notImplemented)) s):=
 .of_wp λprog w A R s h=>by obtain⟨hp,g,d,tk,os⟩:=s;obtain⟨hl,h⟩:=h;wp_walk;exact⟨_,rfl,h⟩
theorem yO (l:Addr)(items:Array Value)(n:Nat)(dd:Option Addr)(sl:Array (Option Value))(x:Int)(u:Tok)(h0:¬(decide (x < -(2 ^ 63)) || decide (x>=2 ^ 63))=true)(hc:(items.isEmpty || x==1)=true):
 Meets (Builtin.«tuple.__mul__» ⟨[.ref l,.int x u],[]⟩) (λ_ R s=>s.heap.get? l=some { cls:=.type "tuple",dict:=dd,data:=.seq items n,slots:=sl }/\R (.ok (.ret (.ref l))) s):=
 .of_wp λprog w A R s h=>by
  obtain⟨hp,g,d,tk,os⟩:=s;obtain⟨hl,h⟩:=h;have hT:(⟨hp,g,d,tk,os⟩:Shared).TypeIs (.ref l) "tuple":=⟨_,hl,rfl⟩
  wp_walk
  refine wpAny_ite_false (aeK h0) ?_
  wp_walk
  exact⟨_,rfl,h⟩
theorem yP (l:Addr)(items:Array Value)(n:Nat)(dd:Option Addr)(sl:Array (Option Value))(x:Int)(u:Tok)(h0:¬(decide (x < -(2 ^ 63)) || decide (x>=2 ^ 63))=true)(hc:¬(items.isEmpty || x==1)=true)(hx:(decide (x<=0) || items.isEmpty)=true):
 Meets (Builtin.«tuple.__mul__» ⟨[.ref l,.int x u],[]⟩) (λ_ R s=>s.heap.get? l=some { cls:=.type "tuple",dict:=dd,data:=.seq items n,slots:=sl }/\R (.ok (.ret (.ref s.heap.objs.size))) { s with heap:=s.heap.push { cls:=.type "tuple",data:=.seq #[] } }):=
 .of_wp λprog w A R s h=>by
  obtain⟨hp,g,d,tk,os⟩:=s;obtain⟨hl,h⟩:=h;have hT:(⟨hp,g,d,tk,os⟩:Shared).TypeIs (.ref l) "tuple":=⟨_,hl,rfl⟩
  wp_walk
  refine wpAny_ite_false (aeK h0) ?_
  wp_walk
  exact⟨_,rfl,h⟩
theorem yQ (l:Addr)(items:Array Value)(n:Nat)(dd:Option Addr)(sl:Array (Option Value))(x:Int)(u:Tok)(h0:¬(decide (x < -(2 ^ 63)) || decide (x>=2 ^ 63))=true)(hc:¬(items.isEmpty || x==1)=true)(hx:¬(decide (x<=0) || items.isEmpty)=true)
 (h1:¬((items.size:Int)* x > (2 ^ 63 - 1) / 8)) (h2:¬(Builtin.Tuple.tupleTooMany ((items.size:Int)* x))=true) (hz:(List.foldl (λx1 x2=>x1++x2) #[] (List.replicate x.toNat items)).size<=sizeLine):
 Meets (Builtin.«tuple.__mul__» ⟨[.ref l,.int x u],[]⟩) (λ_ R s=>s.heap.get? l=some { cls:=.type "tuple",dict:=dd,data:=.seq items n,slots:=sl }/\R (.ok (.ret (.ref s.heap.objs.size))) { s with heap:=s.heap.push { cls:=.type "tuple",data:=.seq (List.foldl (λx1 x2=>x1++x2) #[] (List.replicate x.toNat items)) } }):=
 .of_wp λprog w A R s h=>by
  obtain⟨hp,g,d,tk,os⟩:=s;obtain⟨hl,h⟩:=h;have hT:(⟨hp,g,d,tk,os⟩:Shared).TypeIs (.ref l) "tuple":=⟨_,hl,rfl⟩
  wp_walk
  refine wpAny_ite_false (aeK h0) ?_
  wp_walk
  refine wpAny_ite_false (aeK h1) ?_
  wp_walk
  exact⟨_,rfl,h⟩
end HT
namespace L2
open PySem PySem.Spec PyProof.Rows
section
variable {X:Cx} {e:Expr} {te:TE} {lo hi:Option Expr} {st:Expr} {tl th ts:TO} {pos p2:Pos}
theorem By:Lv X UC:=by
 intro pins s σ H x v vl vu lo hi sl Q I rx hs pl pu h;obtain⟨a,xs,rfl,hx,q⟩:=h;by_cases hw:HT.bZ xs.length 0 lo=0/\HT.bZ xs.length xs.length hi=xs.length
 ·cases rx;obtain⟨its,r,ht,hz⟩:=I.tuple (bV.of hx);have hlen:its.toArray.size=xs.length:=by rw[ad9];exact r.length.symm
  refine⟨"tuple",_,ae5.lookup,ht.typeIs,?_⟩;refine HT.tD ht hs pl pu (by rw[hlen];exact hw) ⟨.ref a,H,I,rfl,q a H (au.refl H) ?_⟩;unfold fV;rw[hw.1,hw.2,List.drop_zero,Nat.sub_zero,afL];exact hx
 ·exact PF pins s σ H (.ref a) v vl vu lo hi sl Q I rx hs pl pu ⟨a,xs,rfl,bV.of hx,hw,λp hp=>q p _ (au.upd hp) aj⟩
def UD:R2:=λx y H Q=>∃a k xs,x=.ref a/\y=.int k/\H a=some (.tup xs)/\-(2 ^ 63)<=k/\k<2 ^ 63/\xs.length* k.toNat<=sizeLine/\
 ∀p H',au H H'->H' p=some (.tup (List.replicate k.toNat xs).flatten)->Q (.ref p) H'
theorem Ey:gT X (binaryOp .Mult) UD:=by
 intro pins s σ H x y v u Q I rx ry h;obtain⟨l,k,xs,rfl,rfl,hH,h1,h2,hz,q⟩:=h;cases rx;obtain⟨t,rfl⟩:=ry;obtain⟨its,r,p1,hzx⟩:=I.tuple (bV.of hH);have hl:=r.length;obtain⟨⟨cls,dd,data,sl⟩,ho,hc,n,hd⟩:=id p1;simp only at hc hd;subst hc hd
 have h0:¬(decide (k < -(2 ^ 63)) || decide (k>=2 ^ 63))=true:=by
  rw[agr,aeB,aeB];omega
 have go:∀{S:PySem.Spec},Meets (Builtin.«tuple.__mul__» ⟨[.ref l,.int k t],[]⟩) (λA' R s'=>s'.heap.get? l=some { cls:=.type "tuple",dict:=dd,data:=.seq its.toArray n,slots:=sl }/\S A' R s')->
  S X.A (wants (EP X pins σ Q) X.xe) s->wpAny (model X.prog X.w) X.A (binaryOp .Mult (.ref l) (.int k t)) (EP X pins σ Q) X.xe s:=λ{S} m hS=>
  wpAny_binaryOp_repeat_ref (T:="tuple") (U:="int") (by decide) ⟨_,ho,rfl⟩ (λs'=>typeIs_int s' k t) HT.vZ F.fills_int_mul F.slot_int_rmul HT.Bx F.slot_int_index.lookup
   (agO F.slot_int_rmul (typeIs_int s k t) F.entry_int_rmul (F.args_int_rmul_2 _ _) (HT.yN k t l its.toArray n dd sl)
    ⟨ho,rfl,⟨_,ho,rfl⟩,agO F.slot_tuple_mul ⟨_,ho,rfl⟩ F.entry_tuple_mul (F.args_tuple_mul_2 _ _) m ⟨ho,hS⟩⟩)
 by_cases hc:(its.toArray.isEmpty || k==1)=true
 ·refine go (S:=λ_ R s'=>R (.ok (.ret (.ref l))) s') (HT.yO l its.toArray n dd sl k t h0 hc) ⟨.ref l,H,I,rfl,q l H (au.refl H) ?_⟩
  have e:(List.replicate k.toNat xs).flatten=xs:=by
   rw[agr]at hc;rcases hc with hc|hc
   ·have:its=[]:=by simpa using hc
    have:xs=[]:=by
     have LD:=hl;rw[this]at LD;exact agk LD
    subst this;simp
   ·have:k=1:=by simpa using hc
    subst this;simp
  rw[e];exact hH
 ·by_cases hx:(decide (k<=0) || its.toArray.isEmpty)=true
  ·refine go (S:=λ_ R s'=>R (.ok (.ret (.ref s'.heap.objs.size))) { s' with heap:=s'.heap.push { cls:=.type "tuple",data:=.seq #[] } }) (HT.yP l its.toArray n dd sl k t h0 hc hx) ?_;refine⟨.ref s.heap.objs.size,_,I.laid (t':=s.toks) (o:=.tup []) (λb ob q=>ad3 _ q) (ad7 _) ?_,rfl,q _ _ (au.upd (I.aO.fresh (ad7 _))) ?_⟩
   ·exact⟨aeA _,[],.nil,IsTup.new _ _⟩
   ·have e:k.toNat=0:=by
     rw[agr,aeB]at hx;rcases hx with hx|hx
     ·omega
     ·exact absurd (by rw[agr];exact .inl hx) hc
    rw[e,aj];rfl
  ·have hk:0<k:=by
    rw[agr,aeB]at hx;omega
   have LJ:List.foldl (λx1 x2=>x1++x2) #[] (List.replicate k.toNat its.toArray)=(List.replicate k.toNat its).flatten.toArray:=by
    have:=foldl_rep its k.toNat [];rw[List.nil_append]at this;exact this
   have hlen:(List.replicate k.toNat its).flatten.length<=sizeLine:=by rw[len_rep,Nat.mul_comm,←hl];exact hz
   have hsz:((its.toArray.size:Int)* k)=((xs.length* k.toNat:Nat):Int):=by
    rw[ad9,←hl,Int.natCast_mul,Int.toNat_of_nonneg (by omega)]
   have hline:(sizeLine:Nat)<=(2 ^ 63 - 1) / 8:=by decide
   refine go (S:=λ_ R s'=>R (.ok (.ret (.ref s'.heap.objs.size))) { s' with heap:=s'.heap.push { cls:=.type "tuple",data:=.seq (List.foldl (λx1 x2=>x1++x2) #[] (List.replicate k.toNat its.toArray)) } })
    (HT.yQ l its.toArray n dd sl k t h0 hc hx (by rw[hsz];omega) (by unfold Builtin.Tuple.tupleTooMany;rw[aeB,hsz];omega) (by rw[LJ,ad9];exact hlen)) ?_
   rw[LJ];refine⟨.ref s.heap.objs.size,_,I.laid (t':=s.toks) (o:=.tup (List.replicate k.toNat xs).flatten) (λb ob q=>ad3 _ q) (ad7 _) ?_,rfl,q _ _ (au.upd (I.aO.fresh (ad7 _))) aj⟩;exact⟨by rw[len_rep,Nat.mul_comm];exact hz,_,r.rep k.toNat,IsTup.new _ _⟩
end
end L2
namespace L2
open PySem PySem.Spec PyProof.Rows
def tx (l:List Nat):Str:=⟨l.toArray⟩
section
variable {X:Cx} {pos:Pos}
theorem uT {x:Str}{l:List Nat}{j}(h:x=tx l):PE X (.Constant (.str x) j pos) (tC (.str (tx l))):=by
 rw[←h];exact Pb
end
end L2
namespace L2
open PySem PySem.Spec PyProof.Rows
structure Def (K:PySem.W.Frag) (mg:Str->Option Value) (x:Str) (st:Stmt) (ps:List Str) (f:Addr) (fd:FuncData):Prop where
 F:Bg K x x st f fd
 m:mg x=some (.ref f)
 b:Binds K fd ps []
section
variable {X:Cx}
end
theorem Bz (ns:List Int)(lo hi:Option Int):fV (ak ns) lo hi=ak ((ns.drop (HT.bZ ns.length 0 lo)).take (HT.bZ ns.length ns.length hi - HT.bZ ns.length 0 lo)):=by
 unfold fV ak;rw[ad6,ahg,ahh]
theorem lS (r:Int){n:Nat}(h:0<n):∃j:Nat,r % (n:Int)=(j:Int)/\j<n:=by
 have h1:=afF r (show (n:Int)≠0 by omega);have h2:=afs r (show (0:Int)<(n:Int) by omega);exact⟨(r % (n:Int)).toNat,by omega,by omega⟩
end L2
namespace L2
open PySem PySem.Spec PyProof.Rows
section
variable {κ:Type} [DecidableEq κ]
def bD (kvs:List (κ×V))(k:κ):Option V:=(kvs.find? λkv=>decide (kv.1=k)).map (·.2)
def putK (kvs:List (κ×V))(k:κ)(v:V):List (κ×V):=
 if (kvs.any λkv=>decide (kv.1=k))=true then kvs.map (λkv=>if kv.1=k then (kv.1,v) else kv) else kvs++[(k,v)]
def eT (kvs:List (κ×V))(k:κ):List (κ×V):=kvs.filter λkv=>decide (kv.1≠k)
theorem cW {p:κ×V}{r:List (κ×V)}{k:κ}(e:p.1=k):bD (p::r) k=some p.2:=by simp[bD,ags,e]
theorem cP {p:κ×V}{r:List (κ×V)}{k:κ}(e:¬p.1=k):bD (p::r) k=bD r k:=by simp[bD,ags,e]
theorem oJ (k:κ):∀kvs:List (κ×V),(kvs.any λkv=>decide (kv.1=k))=(bD kvs k).isSome
 |[]=>rfl
 |p::r=>by
  rw[List.any_cons];by_cases e:p.1=k
  ·simp only[cW e,aey e,Bool.true_or,Option.isSome_some]
  ·rw[cP e,aeK e,Bool.false_or];exact oJ k r
theorem BD (k j:κ)(y:V):∀kvs:List (κ×V),bD (kvs.map λkv=>if kv.1=k then (kv.1,y) else kv) j=(bD kvs j).map λx=>if j=k then y else x
 |[]=>rfl
 |p::r=>by
  have ih:=BD k j y r;rw[aeN];by_cases h:p.1=k
  ·rw[ael h];by_cases e:p.1=j
   ·rw[cW (p:=(p.1,y)) e,cW e,Option.map_some,ael (e.symm.trans h)]
   ·rw[cP (p:=(p.1,y)) e,cP e,ih]
  ·rw[aed h];by_cases e:p.1=j
   ·rw[cW (p:=p) e,cW e,Option.map_some,aed (λz=>h (e.trans z))]
   ·rw[cP (p:=p) e,cP e,ih]
theorem zC (k j:κ)(y:V):∀kvs:List (κ×V),bD kvs k=none->bD (kvs++[(k,y)]) j=if j=k then some y else bD kvs j
 |[],_=>by
  by_cases e:k=j
  ·rw[ael e.symm];exact cW (p:=(k,y)) e
  ·rw[aed (λz=>e z.symm)];exact cP (p:=(k,y)) e
 |p::r,hn=>by
  rw[List.cons_append];have hk:¬p.1=k:=λz=>by rw[cW z]at hn;cases hn
  rw[cP hk]at hn;have ih:=zC k j y r hn;by_cases e:p.1=j
  ·rw[cW e,cW e,aed (λz=>hk (e.trans z))]
  ·rw[cP e,cP e,ih]
theorem BE (kvs:List (κ×V))(k j:κ)(y:V):bD (putK kvs k y) j=if j=k then some y else bD kvs j:=by
 unfold putK;by_cases a:(kvs.any λkv=>decide (kv.1=k))=true
 ·rw[ael a,BD];rw[oJ]at a;by_cases e:j=k
  ·obtain⟨x,hx⟩:=agL.mp a;rw[ael e,e,hx,Option.map_some,ael rfl]
  ·rw[aed e]
   cases bD kvs j with
   |none=>rfl
   |some x=>rw[Option.map_some,aed e]
 ·rw[aed a];refine zC k j y kvs ?_;rw[oJ]at a
  cases q:bD kvs k with
  |none=>rfl
  |some x=>rw[q]at a;exact(a rfl).elim
theorem jD (kvs:List (κ×V))(k:κ)(v:V):(putK kvs k v).length<=kvs.length+ 1:=by
 unfold putK;split
 ·rw[ad6];omega
 ·rw[adZ,aes,afG];omega
theorem BF {kvs:List (κ×V)}{k:κ}(v:V)(h:bD kvs k=none):putK kvs k v=kvs++[(k,v)]:=by
 unfold putK;rw[oJ,h];exact aed (by decide)
theorem gq.Ho {o:Option V}{u:Option Value}(r:gq o u):o.isSome=u.isSome:=by
 cases o with
 |none=>cases u with
  |none=>rfl
  |some _=>exact(show False from r).elim
 |some _=>cases u with
  |none=>exact(show False from r).elim
  |some _=>rfl
theorem gq.getD {o:Option V}{u:Option Value}{d:V}{d':Value}(r:gq o u)(rd:RelV d d'):RelV (o.getD d) (u.getD d'):=by
 cases o with
 |none=>cases u with
  |none=>exact rd
  |some _=>exact(show False from r).elim
 |some _=>cases u with
  |none=>exact(show False from r).elim
  |some _=>exact r
theorem KV.val {kvs:List (κ×V)}{vs:List (κ×Value)}(r:KV kvs vs)(k:κ):gq (bD kvs k) (valueAt vs k):=by
 unfold KV at r
 induction r with
 |nil=>exact True.intro
 | @cons p q ps qs h t ih=>
   obtain⟨h1,h2⟩:=h;by_cases e:p.1=k
   ·have e':q.1=k:=h1.symm.trans e;have b:valueAt (q::qs) k=some q.2:=by simp[valueAt,ags,e']
    rw[cW e,b];exact h2
   ·have e':¬q.1=k:=λz=>e (h1.trans z)
    have b:valueAt (q::qs) k=valueAt qs k:=by simp[valueAt,ags,e']
    rw[cP e,b];exact ih
theorem KV.any {kvs:List (κ×V)}{vs:List (κ×Value)}(r:KV kvs vs)(k:κ):(kvs.any λkv=>decide (kv.1=k))=vs.any λkv=>decide (kv.1=k):=by
 unfold KV at r
 induction r with
 |nil=>rfl
 |cons h t ih=>rw[List.any_cons,List.any_cons,ih,h.1]
theorem KV.repl {kvs:List (κ×V)}{vs:List (κ×Value)}(r:KV kvs vs)(k:κ){y:V}{u:Value}(ry:RelV y u):
 KV (kvs.map λkv=>if kv.1=k then (kv.1,y) else kv) (vs.map λkv=>if kv.1=k then (kv.1,u) else kv):=by
 unfold KV at r ⊢
 induction r with
 |nil=>exact .nil
 | @cons p q ps qs h t ih=>
   rw[aeN,aeN];refine .cons ?_ ih;obtain⟨h1,h2⟩:=h;by_cases e:p.1=k
   ·rw[ael e,ael (h1.symm.trans e)];exact⟨h1,ry⟩
   ·rw[aed e,aed (λz=>e (h1.trans z))];exact⟨h1,h2⟩
theorem KV.put {kvs:List (κ×V)}{vs:List (κ×Value)}(r:KV kvs vs)(k:κ){y:V}{u:Value}(ry:RelV y u):KV (putK kvs k y) (stored vs k u):=by
 unfold putK stored;rw[r.any k];by_cases e:(vs.any λkv=>decide (kv.1=k))=true
 ·rw[ael e,ael e];exact r.repl k ry
 ·rw[aed e,aed e];exact Paired.snoc r ⟨rfl,ry⟩
theorem KV.drop {kvs:List (κ×V)}{vs:List (κ×Value)}(r:KV kvs vs)(k:κ):KV (eT kvs k) (without vs k):=by
 unfold KV at r ⊢;unfold eT without
 induction r with
 |nil=>exact .nil
 | @cons p q ps qs h t ih=>
   obtain⟨h1,h2⟩:=h;rw[List.filter_cons,List.filter_cons];by_cases e:p.1=k
   ·have a:¬decide (p.1≠k)=true:=by simp[e]
    have b:¬decide (q.1≠k)=true:=by simp[h1.symm.trans e]
    rw[aed a,aed b];exact ih
   ·have e':¬q.1=k:=λz=>e (h1.trans z)
    have a:decide (p.1≠k)=true:=by simp[e]
    have b:decide (q.1≠k)=true:=by simp[e']
    rw[ael a,ael b];exact .cons ⟨h1,h2⟩ ih
theorem KV.length {kvs:List (κ×V)}{vs:List (κ×Value)}(r:KV kvs vs):kvs.length=vs.length:=Paired.length r
theorem JW (kvs:List (κ×V))(k:κ):(eT kvs k).length<=kvs.length:=afZ _ _
end
theorem nO {P:Program}{w:World}{k:Key}{u:Value}(r:RelV (kV k) u):(b9 P w).is k u=true:=by
 cases k with
 |inl i=>obtain⟨t,e⟩:=(show ∃t,u=Value.int i t from r);subst e;exact DN P w i t
 |inr x=>obtain⟨t,e⟩:=(show ∃t,u=Value.str x t from r);subst e;exact DP P w x t
theorem zD {P:Program}{w:World}:∀{ks:List Key} {us:List Value},Vals (ks.map kV) us->ItemsAre (b9 P w) ks us
 |[],_,r=>by rw[List.map_nil]at r;cases r;exact .nil
 |k::ks,_,r=>by
  rw[aeN]at r
  cases r with
  |cons h t=>exact .cons (nO h) (zD t)
abbrev KT (H:Hp):List (List Key×V)->List (List Key×Addr×Value)->Prop:=Paired λp q=>p.1=q.1/\H q.2.1=some (.tup (p.1.map kV))/\RelV p.2 q.2.2
theorem KT.val {H:Hp}{kvs:List (List Key×V)}{xs:List (List Key×Addr×Value)}(r:KT H kvs xs)(k:List Key):gq (bD kvs k) ((atKey xs k).map (·.2)):=by
 induction r with
 |nil=>exact True.intro
 | @cons p q ps qs h t ih=>
   obtain⟨h1,_,h2⟩:=h;by_cases e:p.1=k
   ·have e':q.1=k:=h1.symm.trans e;have b:atKey (q::qs) k=some q.2:=by simp[atKey,ags,e']
    rw[cW e,b];exact h2
   ·have e':¬q.1=k:=λz=>e (h1.trans z)
    have b:atKey (q::qs) k=atKey qs k:=by simp[atKey,ags,e']
    rw[cP e,b];exact ih
theorem KT.repl {H:Hp}{kvs:List (List Key×V)}{xs:List (List Key×Addr×Value)}(r:KT H kvs xs)(k:List Key){y:V}{u:Value}(ry:RelV y u):
 KT H (kvs.map λkv=>if kv.1=k then (kv.1,y) else kv) (xs.map (putAt k u)):=by
 induction r with
 |nil=>exact .nil
 | @cons p q ps qs h t ih=>
   rw[aeN,aeN];refine .cons ?_ ih;obtain⟨h1,h2,h3⟩:=h;unfold putAt;by_cases e:p.1=k
   ·rw[ael e,ael (h1.symm.trans e)];exact⟨h1,h2,ry⟩
   ·rw[aed e,aed (λz=>e (h1.trans z))];exact⟨h1,h2,h3⟩
theorem KT.put {H:Hp}{kvs:List (List Key×V)}{xs:List (List Key×Addr×Value)}(r:KT H kvs xs)(k:List Key){b:Addr}{y:V}{u:Value}(hb:H b=some (.tup (k.map kV)))(ry:RelV y u):
 KT H (putK kvs k y) (storedH xs k b u):=by
 have e:(kvs.any λkv=>decide (kv.1=k))=(atKey xs k).isSome:=by
  rw[oJ,(r.val k).Ho,Option.isSome_map]
 unfold putK storedH;rw[e];by_cases q:(atKey xs k).isSome=true
 ·rw[ael q,ael q];exact r.repl k ry
 ·rw[aed q,aed q];exact Paired.snoc r ⟨rfl,hb,ry⟩
theorem KT.keeps {H H':Hp}{kvs:List (List Key×V)}{xs:List (List Key×Addr×Value)}(r:KT H kvs xs)(ht:∀b ys,H b=some (.tup ys)->H' b=some (.tup ys)):KT H' kvs xs:=
 Paired.JA r λ_ _ z=>⟨z.1,ht _ _ z.2.1,z.2.2⟩
section
variable {P:Program} {w:World} {H:Hp} {h:Heap} {a:Addr}
theorem LK {u:HO}(ok:dS P w H h)(e:Rd H a u):cG P w H h a u:=e.ok ok
theorem uU {kvs:List (Key×V)}(ok:dS P w H h)(e:Rd H a (.dK kvs)):kvs.length<=sizeLine/\(a==sysModules)=false/\∃vs,KV kvs vs/\h.DictOf (b9 P w) a vs:=
 show cG P w H h a (.dK kvs) from LK ok e
theorem xJ {kvs:List (Key×V)}(ok:dS P w H h)(e:H a=some (.dK kvs)):kvs.length<=sizeLine/\(a==sysModules)=false/\∃vs,KV kvs vs/\h.DictOf (b9 P w) a vs:=uU ok (.inl e)
theorem qX {ks:List Key}(ok:dS P w H h)(e:H a=some (.tup (ks.map kV))):(tupleKind (b9 P w)).is h ks a:=by
 obtain⟨_,its,r,o,h1,h2,n,h3⟩:=(show cG P w H h a (.tup (ks.map kV)) from ok a _ e);exact⟨o,its.toArray,n,h1,h2,h3,by simpa using zD r⟩
theorem uV {kvs:List (List Key×V)}(ok:dS P w H h)(e:Rd H a (.dT kvs)):kvs.length<=sizeLine/\(a==sysModules)=false/\
 ∃xs,KT H kvs xs/\h.DictOfH (tupleKind (b9 P w)) a xs:=by
 obtain⟨z,y,xs,r,o,es,ep,h1,h2,h3,h4,h5⟩:=(show cG P w H h a (.dT kvs) from LK ok e);refine⟨z,y,xs,r,o,es,ep,h1,h2,h3,h4,λx hx=>?_,h5⟩
 have all:∀{l:List (List Key×V)} {m:List (List Key×Addr×Value)},KT H l m->∀x∈m,(tupleKind (b9 P w)).is h x.1 x.2.1:=by
  intro l m q
  induction q with
  |nil=>intro x hx;exact nomatch hx
  | @cons p q ps qs hq t ih=>
    intro x hx;rcases aea.mp hx with e|hx
    ·subst e;exact qX ok (by rw[←hq.1];exact hq.2.1)
    ·exact ih x hx
 exact all r x hx
theorem LN {kvs:List (List Key×V)}(ok:dS P w H h)(e:H a=some (.dT kvs)):kvs.length<=sizeLine/\(a==sysModules)=false/\
 ∃xs,KT H kvs xs/\h.DictOfH (tupleKind (b9 P w)) a xs:=uV ok (.inl e)
end
def jw (H:Hp)(a:Addr)(y:V)(r:Option V):Prop:=
 (∃kvs k,Rd H a (.dK kvs)/\y=kV k/\r=bD kvs k)\/∃kvs k b,Rd H a (.dT kvs)/\y=.ref b/\H b=some (.tup (k.map kV))/\r=bD kvs k
def wc (H:Hp)(a:Addr)(y v:V)(H':Hp):Prop:=
 (∃kvs k,H a=some (.dK kvs)/\y=kV k/\kvs.length<sizeLine/\H'=upd H a (.dK (putK kvs k v)))\/
 ∃kvs k b,H a=some (.dT kvs)/\y=.ref b/\H b=some (.tup (k.map kV))/\kvs.length<sizeLine/\H'=upd H a (.dT (putK kvs k v))
theorem jw.k {H:Hp}{a:Addr}{kvs:List (Key×V)}{k:Key}(e:H a=some (.dK kvs)):jw H a (kV k) (bD kvs k):=.inl ⟨kvs,k,.inl e,rfl,rfl⟩
theorem wc.k {H:Hp}{a:Addr}{kvs:List (Key×V)}{k:Key}{v:V}(e:H a=some (.dK kvs))(hl:kvs.length<sizeLine):wc H a (kV k) v (upd H a (.dK (putK kvs k v))):=.inl ⟨kvs,k,e,rfl,hl,rfl⟩
section
variable {X:Cx} {pins:List (Addr×Obj)} {σ:St} {H:Hp} {s:Shared} {a:Addr} {y v:V} {u r:Value} {o:Option V} {A:Around} {E:Value->Shared->Prop}
theorem Inv.big (I:Inv X pins σ H s):sysModules<s.heap.objs.size:=by
 have h:mainGlobals<s.heap.objs.size:=(I.mod.glob.keeps I.bk).lt;exact aeV (by decide) h
theorem Hq {Q:Value->Shared->Prop}(hu:A.units+ 1<cLine)(I:Inv X pins σ H s)(g:jw H a y (some v))(ry:RelV y u)(h:∀w' s',Inv X pins σ H s'->RelV v w'->Q w' s'):
 wpAny (model X.prog X.w) A (getItem (.ref a) u) Q E s:=by
 rcases g with ⟨kvs,k,e,ey,l⟩|⟨kvs,k,b,e,ey,eb,l⟩
 ·subst ey;obtain⟨z,hd,vs,rel,dd⟩:=uU I.aO e;obtain⟨w',hw,jC⟩:=gq.some_of (v:=v) (o:=valueAt vs k) (by rw[l];exact rel.val k);exact wpAny_getItem_of (nO ry) dd.mapOf hw (h w' _ (I.tok _) jC)
 ·subst ey;cases (show u=Value.ref b from ry);obtain⟨z,hd,xs,rel,dd⟩:=uV I.aO e;obtain⟨w',hw,jC⟩:=gq.some_of (v:=v) (o:=(atKey xs k).map (·.2)) (by rw[l];exact rel.val k);obtain⟨p,hp,Hr⟩:=afw.mp hw;refine wpAny_getItem_heap (agp hu) (qX I.aO eb) dd hp ?_;rw[Hr];exact h w' _ (I.tok _) jC
theorem oi {h':Heap}{t':Nat}{ob:HO}(I:Inv X pins σ H s)(mu:vp (H a))(hs:Heap.SameBut a s.heap h')(he:∃q,h'.get? a=some q)(new:cG X.prog X.w (upd H a ob) h' a ob):
 Inv X pins σ (upd H a ob) { s with heap:=h',toks:=t' }:=
 I.write (x:=a) (e:=a) mu (.inl rfl) (λb q hb z=>(hs.2 b hb).trans z) he new
theorem xK {P:Program}{w:World}{H':Hp}{h':Heap}{kvs:List (Key×V)}{vs:List (Key×Value)}(z:kvs.length<=sizeLine)(hd:(a==sysModules)=false)(rel:KV kvs vs)(dd:h'.DictOf (b9 P w) a vs):
 cG P w H' h' a (.dK kvs):=⟨z,hd,vs,rel,dd⟩
theorem Hs {H':Hp}{Q:Unit->Shared->Prop}(hu:A.units+ 1<cLine)(I:Inv X pins σ H s)(g:wc H a y v H')(ry:RelV y u)(rv:RelV v r)(h:∀s',Inv X pins σ H' s'->Q () s'):
 wpAny (model X.prog X.w) A (setItem (.ref a) u r) Q E s:=by
 rcases g with ⟨kvs,k,e,ey,l,eH⟩|⟨kvs,k,b,e,ey,eb,l,eH⟩
 ·subst ey eH;obtain⟨z,hd,vs,rel,dd⟩:=xJ I.aO e;have hz:vs.length<=sizeLine:=by rw[←rel.length];exact z
  have hl:(putK kvs k v).length<=sizeLine:=by have:=jD kvs k v;omega
  refine wpAny_setItem_pairs (hsz:=hz) (nO ry) dd λh' sQ hs=>h _ ?_
  have he:∃q,h'.get? a=some q:=let ⟨q,_,_,hq,_⟩:=sQ;⟨q,hq⟩
  exact oi I (by rw[e];exact True.intro) hs he (xK hl hd (rel.put k rv) sQ)
 ·subst ey eH;cases (show u=Value.ref b from ry);obtain⟨z,hd,xs,rel,dd⟩:=LN I.aO e;have hz:xs.length<=sizeLine:=by rw[←Paired.length rel];exact z
  have hl:(putK kvs k v).length<=sizeLine:=by have:=jD kvs k v;omega
  refine wpAny_setItem_heap (hsz:=hz) (agp hu) (qX I.aO eb) dd λh' sQ hs=>h _ ?_
  obtain⟨q,es,ep,hq,h2,h3,h4,_,h5⟩:=sQ;refine oi I (by rw[e];exact True.intro) hs ⟨q,hq⟩ ⟨hl,hd,_,(rel.put k eb rv).keeps λc ys ec=>?_,q,es,ep,hq,h2,h3,h4,h5⟩;rw[ao (cF ec e (λz=>nomatch z))];exact ec
end
section
variable {X:Cx} {pins:List (Addr×Obj)} {σ:St} {H:Hp} {s:Shared} {a:Addr} {kvs:List (Key×V)} {k:Key} {u:Value} {A:Around} {E:Value->Shared->Prop}
theorem LQ {v:V}{more:List Value}{Q:Value->Shared->Prop}(I:Inv X pins σ H s)(e:H a=some (.dK kvs))(ry:RelV (kV k) u)(l:bD kvs k=some v)(hm:more=[]\/∃x,more=[x])
 (h:∀w' s',Inv X pins σ (upd H a (.dK (eT kvs k))) s'->RelV v w'->Q w' s'):wpAny (model X.prog X.w) A (call (.builtin "dict.pop") (.ref a::u::more)) Q E s:=by
 obtain⟨z,hd,vs,rel,dd⟩:=xJ I.aO e;obtain⟨w',hw,jC⟩:=gq.some_of (v:=v) (o:=valueAt vs k) (by rw[←l];exact rel.val k)
 have hp:(keyPart u).isSome=true:=by
  cases k with
  |inl i=>obtain⟨t,q⟩:=(show ∃t,u=Value.int i t from ry);subst q;rfl
  |inr x=>obtain⟨t,q⟩:=(show ∃t,u=Value.str x t from ry);subst q;rfl
 have ha:argsOk "dict.pop" ⟨.ref a::u::more,[]⟩:=by
  rcases hm with q|⟨x,q⟩
  ·subst q;exact PySem.F.args_dict_pop_2 _ _
  ·subst q;exact PySem.F.args_dict_pop_3 _ _ _
 refine agf agt dd.typeIs PySem.F.entry_dict_pop ha (meets_dict_pop_there (b9 X.prog X.w) a (nO ry) more hm hp)
  ⟨vs,w',dd,by rw[←rel.length];exact z,hw,λh' sQ hs=>h w' _ ?_ jC⟩
 have he:∃q,h'.get? a=some q:=let ⟨q,_,_,hq,_⟩:=sQ;⟨q,hq⟩
 exact oi I (by rw[e];exact True.intro) hs he (xK (aep (JW kvs k) z) hd (rel.drop k) sQ)
theorem P8 {r:Value}{Q:Value->Shared->Prop}(I:Inv X pins σ H s)(e:H a=some (.dK kvs))(ry:RelV (kV k) u)(l:bD kvs k=none)(h:∀s',Inv X pins σ H s'->Q r s'):
 wpAny (model X.prog X.w) A (call (.builtin "dict.pop") [.ref a,u,r]) Q E s:=by
 obtain⟨z,hd,vs,rel,dd⟩:=xJ I.aO e;have hn:valueAt vs k=none:=gq.none_of (by rw[←l];exact rel.val k)
 have hp:(keyPart u).isSome=true:=by
  cases k with
  |inl i=>obtain⟨t,q⟩:=(show ∃t,u=Value.int i t from ry);subst q;rfl
  |inr x=>obtain⟨t,q⟩:=(show ∃t,u=Value.str x t from ry);subst q;rfl
 exact agf agt dd.typeIs PySem.F.entry_dict_pop (PySem.F.args_dict_pop_3 _ _ _) (meets_dict_pop_default (b9 X.prog X.w) a (nO ry) hd hp r) ⟨vs,dd,hn,h _ (I.tok _)⟩
end
def P9 (i:Expr):Prop:=∀ov iv,subscripted i false ov iv=operate [ov,iv] (getItem ov iv)
theorem NR {prog:Program}{w:World}{A:Around}{E:Value->Shared->Prop}{s:Shared}{env:Env}{value slice:Expr}{pos:Pos}{T id:String}{Q:Value->Shared->Prop}
 (hl:typeLookup (.type T) "__getitem__"=pure (some (.builtin id))) (hs:P9 slice)
 (h:wpAny (model prog w) A (eval value env) (λo bF=>wpAny (model prog w) A (eval slice env) (λi jR=>jR.TypeIs o T/\wpAny (model prog w) A (getItem o i) Q E jR) E bF) E s):
 wpAny (model prog w) A (eval (.Subscript value slice pos) env) Q E s:=by
 refine Subscript_ (afi h (λo bF da=>afi da (λi jR lQ=>?_) λ_ _ x=>x) λ_ _ x=>x);obtain⟨hT,lQ⟩:=lQ;unfold subscriptTail;refine adW ?_;rw[getitemInPython_of_ne hT.not_modules];refine adW (wpAny_specialOf hT hl ?_)
 have fin:wpAny (model prog w) A (subscripted slice false o i) (λr tU=>wpAny (model prog w) A (letTemporaryGo value o r >>=λ_=>pure r) Q E tU) E jR:=by
  rw[hs o i];exact wpAny_operating (afi lQ (λr tU kA=>adW (wpAny_letTemporaryGo (ad8 kA))) λ_ _ x=>x)
 first
  |exact ad8 (adW fin)
  |exact adW (ad8 (adW fin))
  |exact adW fin
theorem DS {X:Cx}{pins:List (Addr×Obj)}{σ:St}{H:Hp}{s:Shared}{a:Addr}{y:V}{o:Option V}(I:Inv X pins σ H s)(g:jw H a y o):s.TypeIs (.ref a) "dict":=by
 rcases g with ⟨kvs,k,e,_,_⟩|⟨kvs,k,b,e,_,_,_⟩
 ·obtain⟨_,_,vs,_,dd⟩:=uU I.aO e;exact dd.typeIs
 ·obtain⟨_,_,xs,_,dd⟩:=uV I.aO e;exact dd.typeIs
def UE (td ty:TE):TE:=λ σ H Q=>td σ H λx H1=>ty σ H1 λy H2=>∃a v,x=.ref a/\jw H2 a y (some v)/\Q v H2
def UG (td ty tv:TE):TS:=λD σ H=>tv σ H λv H1=>td σ H1 λx H2=>ty σ H2 λy H3=>∃a H4,x=.ref a/\wc H3 a y v H4/\D.nx σ H4
section
variable {X:Cx} {o i e value:Expr} {pos pos' YS:Pos} {td ty tv:TE}
theorem NS (hu:X.A.units+ 1<cLine)(ho:PE X o td)(hi:PE X i ty)(hs:P9 i):PE X (.Subscript o i pos) (UE td ty):=by
 intro pins s σ H Q I h;refine NR PySem.F.slot_dict_getitem.lookup hs (bh (ho pins s σ H _ I h) λu s1 ⟨x,H1,I1,rx,q1⟩=>bh (hi pins s1 σ H1 _ I1 q1) λiv s2 ⟨y,H2,I2,ry,a,v,ex,g,q2⟩=>?_);subst ex;obtain rfl:u=Value.ref a:=rx;exact⟨DS I2 g,Hq hu I2 g ry λw' s3 I3 jC=>⟨v,H2,I3,jC,q2⟩⟩
theorem yR (hu:X.A.units+ 1<cLine)(ho:PE X o td)(hi:PE X i ty)(hv:PE X value tv)(hs:swapsWith value (some (.Subscript o i pos')) pos.line X.env=pure false):
 PS X (.Assign [.Subscript o i pos'] value pos) (UG td ty tv):=by
 intro pins s σ H D I h;refine wpAny_Assign_Subscript (bh (hv pins s σ H _ I h) λr s1 ⟨v,H1,I1,rv,q1⟩=>bh (ho pins s1 σ H1 _ I1 q1) λu s2 ⟨x,H2,I2,rx,q2⟩=>bh (hi pins s2 σ H2 _ I2 q2) λiv s3 ⟨y,H3,I3,ry,a,H4,ex,g,q3⟩=>?_) hs;subst ex;obtain rfl:u=Value.ref a:=rx;exact Hs hu I3 g ry rv λs4 I4=>⟨σ,H4,I4,q3⟩
end
theorem JX {P:Program}{w:World}{H:Hp}(h:Heap)(hb:sysModules<h.objs.size):cG P w H (h.push { cls:=.type "dict",data:=.dict #[] }) h.objs.size (.dK []):=
 ⟨aeA _,aef.mpr (afe (aen hb)),[],.nil,Heap.DictOf.new h⟩
theorem JY {P:Program}{w:World}{H:Hp}(h:Heap)(hb:sysModules<h.objs.size):cG P w H (h.push { cls:=.type "dict",data:=.dict #[] }) h.objs.size (.dT []):=
 ⟨aeA _,aef.mpr (afe (aen hb)),[],.nil,_,#[],0,aem _ rfl,⟨rfl,rfl,rfl⟩,rfl,rfl,afE⟩
def Qa:TE:=λ_ H Q=>∀p,H p=none->Q (.ref p) (upd H p (.dK []))
def Qb:TE:=λ_ H Q=>∀p,H p=none->Q (.ref p) (upd H p (.dT []))
section
variable {X:Cx} {pos:Pos}
theorem fX:PE X (.Dict [] [] pos) Qa:=λpins s σ H Q I h=>
 wpAny_Dict_empty ⟨.ref s.heap.objs.size,_,I.laid (a:=s.heap.objs.size) (o:=.dK []) (t':=s.toks) (λ_ _ q=>ad3 _ q) (ad7 _) (JX s.heap I.big),rfl,h _ (I.aO.fresh (ad7 _))⟩
theorem JZ:PE X (.Dict [] [] pos) Qb:=λpins s σ H Q I h=>
 wpAny_Dict_empty ⟨.ref s.heap.objs.size,_,I.laid (a:=s.heap.objs.size) (o:=.dT []) (t':=s.toks) (λ_ _ q=>ad3 _ q) (ad7 _) (JY s.heap I.big),rfl,h _ (I.aO.fresh (ad7 _))⟩
end
def mP (kvs more:List (Key×V)):List (Key×V):=more.foldl (λacc kv=>putK acc kv.1 kv.2) kvs
theorem KV.merge:∀{more:List (Key×V)} {rs:List (Key×Value)} {kvs:List (Key×V)} {vs:List (Key×Value)},KV more rs->KV kvs vs->KV (mP kvs more) (merged vs rs):=by
 intro more rs kvs vs r;unfold KV at r
 induction r generalizing kvs vs with
 |nil=>intro q;exact q
 | @cons p q ps qs h t ih=>
   intro r0
   have e:KV (putK kvs p.1 p.2) (stored vs q.1 q.2):=by
    have:=r0.put p.1 h.2;rw[←h.1];exact this
   exact ih e
theorem sR:∀(more kvs:List (Key×V)),(mP kvs more).length<=kvs.length+ more.length
 |[],kvs=>by show kvs.length<=kvs.length+ 0;omega
 |p::r,kvs=>by
  have h1:=sR r (putK kvs p.1 p.2);have h2:=jD kvs p.1 p.2;show (mP (putK kvs p.1 p.2) r).length<=_;rw[aes];omega
structure M1 (X:Cx) (o:Expr) (m:Str) (apos:Pos) (e:Expr) (cN:Pos):Prop where
 base:attributeBase o m X.env (eval o X.env)=eval o X.env
 few:((backTo cN (starEach [e] X.env)).all (λx=>!x.1) && (backToKw cN (keywordEach [] X.env)).all (λx=>x.1.isSome)
  && decide (([e]:List Expr).length+ ([]:List Keyword).length+ (if ([]:List Keyword).isEmpty then 0 else 1)<30))=true
 line:(apos.endLine==cN.line)=true
 trees:backTo cN (starEach [e] X.env)=[(false,eval e X.env)]
structure M2 (X:Cx) (o:Expr) (m:Str) (apos:Pos) (e f:Expr) (cN:Pos):Prop where
 base:attributeBase o m X.env (eval o X.env)=eval o X.env
 few:((backTo cN (starEach [e,f] X.env)).all (λx=>!x.1) && (backToKw cN (keywordEach [] X.env)).all (λx=>x.1.isSome)
  && decide (([e,f]:List Expr).length+ ([]:List Keyword).length+ (if ([]:List Keyword).isEmpty then 0 else 1)<30))=true
 line:(apos.endLine==cN.line)=true
 trees:backTo cN (starEach [e,f] X.env)=[(false,eval e X.env),(false,eval f X.env)]
def vC (H:Hp)(a:Addr):Prop:=(∃kvs,Rd H a (.dK kvs))\/∃kvs,Rd H a (.dT kvs)
theorem oK {X:Cx}{pins:List (Addr×Obj)}{σ:St}{H:Hp}{s:Shared}{a:Addr}(I:Inv X pins σ H s)(d:vC H a):
 s.TypeIs (.ref a) "dict"/\(∀b,Value.ref a=.ref b->∃ob,s.heap.get? b=some ob/\ob.dict=none)/\(a==sysModules)=false:=by
 rcases d with ⟨kvs,e⟩|⟨kvs,e⟩
 ·obtain⟨_,hd,vs,_,dd⟩:=uU I.aO e;refine⟨dd.typeIs,λb q=>?_,hd⟩;cases q;obtain⟨ob,_,_,h1,h2,_⟩:=dd;exact⟨ob,h1,h2.2.1⟩
 ·obtain⟨_,hd,xs,_,dd⟩:=uV I.aO e;refine⟨dd.typeIs,λb q=>?_,hd⟩;cases q;obtain⟨ob,_,_,h1,h2,_⟩:=dd;exact⟨ob,h1,h2.2.1⟩
section
variable {X:Cx} {pins:List (Addr×Obj)} {σ:St} {H:Hp} {s:Shared} {a:Addr} {y d:V} {u r:Value} {o:Option V} {A:Around} {E:Value->Shared->Prop}
theorem Qc {Q:Value->Shared->Prop}(hu:A.units+ 1<cLine)(I:Inv X pins σ H s)(g:jw H a y o)(ry:RelV y u)(h:∀w' s',Inv X pins σ H s'->RelV (o.getD .non) w'->Q w' s'):
 wpAny (model X.prog X.w) A (call (.builtin "dict.get") [.ref a,u]) Q E s:=by
 rcases g with ⟨kvs,k,e,ey,l⟩|⟨kvs,k,b,e,ey,eb,l⟩
 ·subst ey;obtain⟨z,hd,vs,rel,dd⟩:=uU I.aO e;refine agf afH dd.typeIs agn (PySem.F.args_dict_get_2 _ _) (meets_dict_get (b9 X.prog X.w) a (nO ry) hd) ⟨_,dd.mapOf,h _ _ (I.tok _) ?_⟩;rw[l];exact(rel.val k).getD rfl
 ·subst ey;cases (show u=Value.ref b from ry);obtain⟨z,hd,xs,rel,dd⟩:=uV I.aO e;refine agf afH dd.typeIs agn (PySem.F.args_dict_get_2 _ _) (meetsH_dict_get (tupleKind (b9 X.prog X.w)) a b hd) ⟨agp hu,k,xs,qX I.aO eb,dd,h _ _ (I.tok _) ?_⟩;rw[l];exact(rel.val k).getD rfl
theorem Qd {Q:Value->Shared->Prop}(hu:A.units+ 1<cLine)(I:Inv X pins σ H s)(g:jw H a y o)(ry:RelV y u)(rd:RelV d r)(h:∀w' s',Inv X pins σ H s'->RelV (o.getD d) w'->Q w' s'):
 wpAny (model X.prog X.w) A (call (.builtin "dict.get") [.ref a,u,r]) Q E s:=by
 rcases g with ⟨kvs,k,e,ey,l⟩|⟨kvs,k,b,e,ey,eb,l⟩
 ·subst ey;obtain⟨z,hd,vs,rel,dd⟩:=uU I.aO e;refine agf afH dd.typeIs agn (PySem.F.args_dict_get_3 _ _ _) (meets_dict_get_default (b9 X.prog X.w) a (nO ry) hd r) ⟨_,dd.mapOf,h _ _ (I.tok _) ?_⟩;rw[l];exact(rel.val k).getD rd
 ·subst ey;cases (show u=Value.ref b from ry);obtain⟨z,hd,xs,rel,dd⟩:=uV I.aO e;refine agf afH dd.typeIs agn (PySem.F.args_dict_get_3 _ _ _) (meetsH_dict_get_default (tupleKind (b9 X.prog X.w)) a b hd r) ⟨agp hu,k,xs,qX I.aO eb,dd,h _ _ (I.tok _) ?_⟩;rw[l];exact(rel.val k).getD rd
end
def Qe (td ty:TE):TE:=λ σ H Q=>td σ H λx H1=>∃a,x=.ref a/\vC H1 a/\ty σ H1 λy H2=>∃o,jw H2 a y o/\Q (o.getD .non) H2
def Qf (td ty tx:TE):TE:=λ σ H Q=>td σ H λx H1=>∃a,x=.ref a/\vC H1 a/\ty σ H1 λy H2=>tx σ H2 λz H3=>∃o,jw H3 a y o/\Q (o.getD z) H3
def Qg (td ty:TE):TE:=λ σ H Q=>td σ H λx H1=>∃a,x=.ref a/\vC H1 a/\ty σ H1 λy H2=>∃kvs k v,H2 a=some (.dK kvs)/\y=kV k/\bD kvs k=some v/\Q v (upd H2 a (.dK (eT kvs k)))
def Qh (td ty tx:TE):TE:=λ σ H Q=>td σ H λx H1=>∃a,x=.ref a/\vC H1 a/\ty σ H1 λy H2=>tx σ H2 λz H3=>∃kvs k,H3 a=some (.dK kvs)/\y=kV k/\
 (∀v,bD kvs k=some v->Q v (upd H3 a (.dK (eT kvs k))))/\(bD kvs k=none->Q z H3)
section
variable {X:Cx} {o e f:Expr} {apos cN:Pos} {td ty tx:TE}
theorem J0 (hu:X.A.units+ 1<cLine)(ho:PE X o td)(he:PE X e ty)(m:M1 X o "get" apos e cN):PE X (.Call (.Attribute o "get" apos) [e] [] cN) (Qe td ty):=by
 intro pins s σ H Q I h;refine af8 m.base m.few m.line aff afH PySem.F.type_dict_get (bh (ho pins s σ H _ I h) λu s1 ⟨x,H1,I1,rx,a,ex,d,q1⟩=>?_);subst ex;obtain rfl:u=Value.ref a:=rx;obtain⟨t1,t2,_⟩:=oK I1 d;refine⟨t1,t2,?_⟩;rw[m.trees];refine ae1 rfl (aft (aeZ (bh (he pins s1 σ H1 _ I1 q1) λiv s2 ⟨y,H2,I2,ry,ov,g,q2⟩=>afy ?_)));exact Qc hu I2 g ry λw' s3 I3 jC=>⟨_,H2,I3,jC,q2⟩
theorem oM (hu:X.A.units+ 1<cLine)(ho:PE X o td)(he:PE X e ty)(hf:PE X f tx)(m:M2 X o "get" apos e f cN):PE X (.Call (.Attribute o "get" apos) [e,f] [] cN) (Qf td ty tx):=by
 intro pins s σ H Q I h;refine af8 m.base m.few m.line aff afH PySem.F.type_dict_get (bh (ho pins s σ H _ I h) λu s1 ⟨x,H1,I1,rx,a,ex,d,q1⟩=>?_);subst ex;obtain rfl:u=Value.ref a:=rx;obtain⟨t1,t2,_⟩:=oK I1 d;refine⟨t1,t2,?_⟩;rw[m.trees]
 refine ae1 rfl (aft (aeZ (bh (he pins s1 σ H1 _ I1 q1) λiv s2 ⟨y,H2,I2,ry,q2⟩=>
  aeZ (bh (hf pins s2 σ H2 _ I2 q2) λfv s3 ⟨z,H3,I3,rz,ov,g,q3⟩=>afy ?_))))
 exact Qd hu I3 g ry rz λw' s4 I4 jC=>⟨_,H3,I4,jC,q3⟩
theorem J1 (ho:PE X o td)(he:PE X e ty)(m:M1 X o "pop" apos e cN):PE X (.Call (.Attribute o "pop" apos) [e] [] cN) (Qg td ty):=by
 intro pins s σ H Q I h;refine af8 m.base m.few m.line aff agt PySem.F.type_dict_pop (bh (ho pins s σ H _ I h) λu s1 ⟨x,H1,I1,rx,a,ex,d,q1⟩=>?_);subst ex;obtain rfl:u=Value.ref a:=rx;obtain⟨t1,t2,_⟩:=oK I1 d;refine⟨t1,t2,?_⟩;rw[m.trees];refine ae1 rfl (aft (aeZ (bh (he pins s1 σ H1 _ I1 q1) λiv s2 ⟨y,H2,I2,ry,kvs,k,v,ea,ey,l,q2⟩=>afy ?_)));subst ey;exact LQ I2 ea ry l (.inl rfl) λw' s3 I3 jC=>⟨v,_,I3,jC,q2⟩
theorem wg (ho:PE X o td)(he:PE X e ty)(hf:PE X f tx)(m:M2 X o "pop" apos e f cN):PE X (.Call (.Attribute o "pop" apos) [e,f] [] cN) (Qh td ty tx):=by
 intro pins s σ H Q I h;refine af8 m.base m.few m.line aff agt PySem.F.type_dict_pop (bh (ho pins s σ H _ I h) λu s1 ⟨x,H1,I1,rx,a,ex,d,q1⟩=>?_);subst ex;obtain rfl:u=Value.ref a:=rx;obtain⟨t1,t2,_⟩:=oK I1 d;refine⟨t1,t2,?_⟩;rw[m.trees]
 refine ae1 rfl (aft (aeZ (bh (he pins s1 σ H1 _ I1 q1) λiv s2 ⟨y,H2,I2,ry,q2⟩=>
  aeZ (bh (hf pins s2 σ H2 _ I2 q2) λfv s3 ⟨z,H3,I3,rz,kvs,k,ea,ey,q3,q4⟩=>afy ?_))))
 subst ey
 cases l:bD kvs k with
 |some v=>exact LQ I3 ea ry l (.inr ⟨fv,rfl⟩) λw' s4 I4 jC=>⟨v,_,I4,jC,q3 v l⟩
 |none=>exact P8 I3 ea ry l λs4 I4=>⟨z,H3,I4,rz,q4 l⟩
end
section
variable {X:Cx} {pins:List (Addr×Obj)} {σ:St} {H:Hp} {s:Shared} {a:Addr} {kvs:List (Key×V)} {A:Around} {E:Value->Shared->Prop}
end
section
variable {X:Cx} {pins:List (Addr×Obj)} {σ:St} {H:Hp} {s:Shared} {a:Addr} {y:V} {u:Value} {A:Around} {E:Value->Shared->Prop}
end
end L2
namespace L2
open PySem PySem.Spec PyProof.Rows
section
variable {X:Cx} {pos:Pos}
end
end L2
namespace L2
open PySem PySem.Spec PyProof.Rows
section
variable {X:Cx} {pins:List (Addr×Obj)} {σ:St} {H:Hp} {s:Shared} {h':Heap}
theorem Inv.wj {fp:List Addr}{a:Addr}{o:HO}{t':Nat}(I:Inv X pins σ H s)(k:∀b u,b∉fp->s.heap.get? b=some u->h'.get? b=some u)(hf:∀b∈fp,mZ X pins H b)
 (hp:s.heap.objs.size<=a) (new:cG X.prog X.w (upd H a o) h' a o):Inv X pins σ (upd H a o) { s with heap:=h',toks:=t' }:=by
 have hn:=I.aO.fresh hp;have nf:∀b u,H b=some u->b∉fp:=λb u e z=>by rw[(hf b z).1]at e;cases e
 refine I.step (g':=s.gens) (d':=s.drawn) (ch:=fp) (λb hb=>⟨(hf b hb).2.2.2.1,(hf b hb).2.1,(hf b hb).2.2.2.2.1,(hf b hb).2.2.2.2.2⟩) (λb o _ _ hc e _=>k b o hc e) (λb o _ _ hc e _=>⟨o.slots,k b o hc e⟩)
  (λb o _ e n=>by rw[ao (aen (aev (aeh e) hp))];exact n) (λb o hc e=>⟨o,k b o hc e⟩) (λb xs e=>by rw[ao (av e hn)];exact e)
  (λb o u e=>by rw[ao (av e hn)];exact e) (λb ps e=>⟨#[],by rw[ao (av e hn),e];simp⟩) (λm hm=>?_) (λb u e=>?_) I.bare
 ·obtain⟨o,es,ep,ho,r⟩:=hm;exact⟨o,es,ep,k _ o (λz=>(hf _ z).2.1 rfl) ho,r⟩
 ·by_cases hb:b=a
  ·subst hb;rw[aj]at e;cases e;exact new
  ·rw[ao hb]at e;refine(I.aO b u e).lK (λc v hc q=>k c v ?_ q) (λc q=>by rw[ao (av q hn)];exact q) λc xs q=>by rw[ao (av q hn)];exact q
   rcases hc with z|z
   ·rw[z];exact nf b u e
   ·exact nf c _ z
theorem Inv.yS {fp:List Addr}{t':Nat}(I:Inv X pins σ H s)(k:∀b u,b∉fp->s.heap.get? b=some u->h'.get? b=some u)(hf:∀b∈fp,mZ X pins H b):Inv X pins σ H { s with heap:=h',toks:=t' }:=by
 have nf:∀b u,H b=some u->b∉fp:=λb u e z=>by rw[(hf b z).1]at e;cases e
 refine I.step (g':=s.gens) (d':=s.drawn) (ch:=fp) (λb hb=>⟨(hf b hb).2.2.2.1,(hf b hb).2.1,(hf b hb).2.2.2.2.1,(hf b hb).2.2.2.2.2⟩) (λb o _ _ hc e _=>k b o hc e) (λb o _ _ hc e _=>⟨o.slots,k b o hc e⟩)
  (λb o _ e n=>n) (λb o hc e=>⟨o,k b o hc e⟩) (λb xs e=>e) (λb o u e=>e) (λb ps e=>⟨#[],by rw[e];simp⟩) (λm hm=>?_) (λb u e=>?_) I.bare
 ·obtain⟨o,es,ep,ho,r⟩:=hm;exact⟨o,es,ep,k _ o (λz=>(hf _ z).2.1 rfl) ho,r⟩
 ·refine(I.aO b u e).lK (λc v hc q=>k c v ?_ q) (λc q=>q) λc xs q=>q
  rcases hc with z|z
  ·rw[z];exact nf b u e
  ·exact nf c _ z
end
namespace En
section
variable {prog:Program} {w:World} {A:Around} {E:Value->Shared->Prop} {s:Shared}
theorem zE {e it:Addr}{fp:List Addr}{n i:Nat}{j:Int}{P:Nat->Value->Prop}{St:Nat->Heap->Prop}{old:Value}{Q:Option Value->Shared->Prop}(D:Draws prog w A.in1 it fp n P St)
 (he:IsEnum s.heap e it j old) (dF:St i s.heap) (bG:i<n) (cK:e≠it) (Vt:e∉fp)
 (hQ:∀x h' tk,P i x->IsEnumOut h' e it (j+ 1) x s.heap.objs.size->St (i+ 1) h'->h'.get? s.heap.objs.size=some { cls:=.type "tuple",data:=.seq #[.int j tk,x] }->
  (∀b o,b≠e->b≠it->s.heap.get? b=some o->h'.get? b=some o)->Q (some (.ref s.heap.objs.size)) { s with heap:=h',toks:=tk+ 1 }):
 wpAny (model prog w) A (pyNext (.ref e)) Q E s:=by
 have hT:s.TypeIs (.ref e) "enumerate":=⟨_,he,rfl⟩;unfold pyNext;refine adW (wpAny_attempt (ae0 (name:=Str.ofString "__next__") hT agu (ae4 agu hT F.entry_enumerate_next ?_ (F.args_enumerate_next_1 _))));obtain⟨hp,g,d,ac2,os⟩:=s;show wpAny _ _ (field (.ref e) 2 >>=_) _ _ _;refine adW (afn he rfl (x:=.ref it) rfl (adW (D.item i _ _ _ bG dF λx da tk Ht Hu uW=>?_)));replace uW:Heap.SameBut it hp da:=uW;have AI:IsEnum da e it j old:=(uW.2 e cK).trans he;show wpAny _ _ (field (.ref e) 3 >>=_) _ _ ⟨da,g,d,tk,os⟩;refine adW (afn AI rfl (x:=rawInt j) rfl ?_);show wpAny _ _ (field (.ref e) 4 >>=_) _ _ ⟨da,g,d,tk,os⟩;refine adW (afn AI rfl (x:=.none) rfl ?_);show wpAny _ _ (mkInt j >>=_) _ _ ⟨da,g,d,tk,os⟩;refine adW (wpAny_mkInt ?_);show wpAny _ _ (setField (.ref e) 3 (rawInt (j+ 1)) >>=_) _ _ ⟨da,g,d,tk+ 1,os⟩;refine adW (afa AI (by simp) λlQ AJ uX=>?_);replace uX:Heap.SameBut e da lQ:=uX;replace AJ:IsEnum lQ e it (j+ 1) old:=AJ;show wpAny _ _ (setField (.ref e) 4 .none >>=_) _ _ ⟨lQ,g,d,tk+ 1,os⟩;refine adW (afa AJ (by simp) λkA AK uY=>?_);replace uY:Heap.SameBut e lQ kA:=uY;replace AK:IsEnum kA e it (j+ 1) old:=AK;show wpAny _ _ (newTuple [.int j tk,x] >>=_) _ _ ⟨kA,g,d,tk+ 1,os⟩;refine adW (wpAny_newTuple ?_);have AO:IsEnum (kA.push { cls:=.type "tuple",data:=.seq #[.int j tk,x] }) e it (j+ 1) old:=ad3 _ AK;generalize AQ:kA.push { cls:=.type "tuple",data:=.seq #[.int j tk,x] }=rY at AO;have hsz:kA.objs.size=hp.objs.size:=by rw[uY.1,uX.1,uW.1]
 have kF:e<hp.objs.size:=aeh he;have UH:rY.get? hp.objs.size=some { cls:=.type "tuple",data:=.seq #[.int j tk,x] }:=by rw[←AQ,←hsz];exact aem _ rfl
 have UI:∀b o,b≠e->b≠it->hp.get? b=some o->rY.get? b=some o:=λb o jq LR hb=>by
  rw[←AQ];exact ad3 _ (uY.extBut b o jq (uX.extBut b o jq (uW.extBut b o LR hb)))
 have Qi:St (i+ 1) rY:=D.frame _ _ _ Hu λb hb o y=>by
  have jq:b≠e:=λq=>Vt (q ▸ hb)
  rw[←AQ];exact ad3 _ (uY.extBut b o jq (uX.extBut b o jq y))
 show wpAny _ _ (Builtin.SmallTypes.ownedTupleIsFree (.ref e) >>=_) _ _ ⟨rY,g,d,tk+ 1,os⟩;rw[hsz];clear AQ AK uY AJ uX AI uW Hu hsz kA lQ da;refine adW ?_;unfold Builtin.SmallTypes.ownedTupleIsFree;refine adW (afn AO rfl (x:=.none) rfl (ad8 ?_));simp only[agH];refine adW (wpAny_rule (adW (afn AO rfl (x:=old) rfl (adW (afa AO (by simp) λyT FY xM=>?_)))));replace xM:Heap.SameBut e rY yT:=xM;replace FY:IsEnum yT e it (j+ 1) x:=FY;show wpAny _ _ (Builtin.SmallTypes.ownedTupleHandOut (.ref e) (.ref hp.objs.size) >>=_) _ _ ⟨yT,g,d,tk+ 1,os⟩;refine adW ?_;unfold Builtin.SmallTypes.ownedTupleHandOut;refine adW (afa FY (by simp) λJ2 FZ xN=>?_);replace xN:Heap.SameBut e yT J2:=xN;replace FZ:IsEnumOut J2 e it (j+ 1) x hp.objs.size:=FZ;refine afa FZ (by simp) λJ9 F0 xO=>?_
 replace xO:Heap.SameBut e J2 J9:=xO;replace F0:IsEnumOut J9 e it (j+ 1) x hp.objs.size:=F0;refine adW (wpAny_letGo (ad8 ⟨_,rfl,ad8 (hQ x J9 tk Ht F0 ?_ ?_ ?_)⟩))
 ·exact D.frame _ _ _ Qi λb hb o y=>by
   have jq:b≠e:=λq=>Vt (q ▸ hb)
   exact xO.extBut b o jq (xN.extBut b o jq (xM.extBut b o jq y))
 ·exact xO.extBut _ _ (afu kF) (xN.extBut _ _ (afu kF) (xM.extBut _ _ (afu kF) UH))
 ·exact λb o jq LR hb=>xO.extBut b o jq (xN.extBut b o jq (xM.extBut b o jq (UI b o jq LR hb)))
theorem NT {T newId:String}{self a:Value}{kw:List (Str×Value)}(hl:typeLookup (.type T) "__init__"=pure (some (.builtin "object.__init__")))(hm:Bind.madeBy (.type T)=pure (some newId))(cK:(some newId !=some "object.__new__")=true):
 Meets (Builtin.«object.__init__» ⟨[self,a],kw⟩) (λ_ R s=>s.TypeIs self T/\R (.ok (.ret .none)) s):=by
 refine Meets.of_wp λprog w A R s hs=>?_
 obtain⟨hT,hq⟩:=hs
 repeat (any_goals (first|assumption|wp_step))
 exact⟨_,rfl,hq⟩
theorem UJ (a b:Value):checkTypeCall "enumerate" ⟨[a],[("start",b)]⟩=pure ():=by kernel_rfl
theorem UK (a b:Value):checkBuiltinCall "enumerate.__new__" ⟨[.type "enumerate",a],[("start",b)]⟩=pure ():=by kernel_rfl
theorem UL (a b c:Value):argsOk "object.__init__" ⟨[a,b],[("start",c)]⟩:=by
 unfold argsOk;rw[signature?_of (id:="object.__init__") (n:=['_','_','t','i','n','i','_','_']) (o:=['t','c','e','j','b','o']) (by kernel_rfl) F.owner_object]
 kernel_rfl
end
end En
end L2
namespace L2
open PySem PySem.Spec PyProof.Rows
section
variable {X:Cx}
end
end L2
namespace L2
open PySem PySem.Spec PyProof.Rows
section
variable {X:Cx}
end
end L2
namespace L2
open PySem PySem.Spec PyProof.Rows
def CXw (P:Program)(w:World):qS:=λouter H s E e s'=>∃(x C:Addr) (B:Heap) (H':Hp) (a0:Value),e=.ref x/\s'.os=s.os/\AllBare s'.gens/\Heap.FlyingW B outer x (.ref C) a0 s'.heap/\
 Un (ik outer) [] H H' s.heap s'.heap/\dS P w H' B/\(∀b o,s.heap.get? b=some o->H b=none->b∉ik outer->B.get? b=some o)/\(∀b o,s.heap.get? b=some o->b∉ik outer->∃o',B.get? b=some o')/\E (.ref C) none H'
section
variable {P:Program} {w:World} {K:PySem.W.Frag} {mg:Str->Option Value} {base:Heap} {N:List Str} {qual:Str} {scope:Scope} {f:Addr} {cd:Value} {A:Around} {outer:List Env} {s:Shared} {H:Hp} {E:XK}
 {pins:List (Addr×Obj)} {σ:St} {H1:Hp} {s1:Shared}
end
end L2
namespace L2
open PySem PySem.Spec PyProof.Rows
section
variable {X:Cx} {pos:Pos}
end
section
variable {P:Program} {w:World} {K:PySem.W.Frag} {mg:Str->Option Value} {base:Heap}
end
end L2
namespace L2
open PySem PySem.Spec PyProof.Rows
def adb (x C:Addr)(h:Heap):Prop:=∃ob vs,h.get? x=some ob/\ob.cls=.ref C/\ob.data=.fields vs
def Thr (X:Cx)(pins:List (Addr×Obj))(σ:St)(H':Hp)(x C:Addr)(s:Shared):Prop:=
 ∃(B:Heap) (H1:Hp) (s1:Shared) (a0:Value),Inv X pins σ H1 s1/\s.os=s1.os/\AllBare s.gens/\Heap.FlyingW B X.stack x (.ref C) a0 s.heap/\Un (ik X.stack) [] H1 H' s1.heap s.heap/\dS X.prog X.w H' B/\
  (∀b o,s1.heap.get? b=some o->H1 b=none->b∉ik X.stack->B.get? b=some o)/\(∀b o,s1.heap.get? b=some o->b∉ik X.stack->∃o',B.get? b=some o')
section
variable {X:Cx} {pins:List (Addr×Obj)} {σ:St} {H':Hp} {x C:Addr} {s:Shared}
end
abbrev XR:=Addr->St->Hp->Prop
def XP (X:Cx)(pins:List (Addr×Obj))(R:XR)(e:Value)(s:Shared):Prop:=∃x C σ H,e=.ref x/\Thr X pins σ H x C s/\R C σ H
section
variable {X:Cx} {k:Nat} {f:Addr} {fd:FuncData} {ps:List Str} {sp:Sp} {x:Str} {p pos:Pos} {e:Expr} {es:List Expr} {t:TA}
end
abbrev TH:=Ends->Addr->St->Hp->Prop
section
variable {X:Cx} {y n:Str} {Y:Addr} {np pos:Pos} {ade:Stmt} {suite:List Stmt} {rest:List ExceptHandler} {tb:TS} {tr:TH} {i:Nat}
end
end L2
namespace L2
open PySem PySem.Spec PyProof.Rows PySem.Calls PySem.W Builtin Builtin.ObjectAttr Builtin.Getset_descriptor
structure adf (K:PySem.W.Frag) (C:Addr):Prop where
 ga:findIn K (.ref C) "__getattribute__"=some (some (.builtin "BaseException.__getattribute__"))
 gt:findIn K (.ref C) "__getattr__"=some none
 cl:isClsIn K C=true
 at_:findIn K (.ref C) "__class__"=some (some (.builtin "object.__class__"))
 gs:specialIn K (.builtin "object.__class__") "__get__"=some (some (.builtin "getset_descriptor.__get__"))
 tk:takesIn K (.builtin "object.__class__")=some true
 mo:mroIn K C (.type "object")=some true
 be:subIn K (.ref C) (.type "BaseException")=some true
section
variable {prog:Program} {w:World} {A:Around} {E:Value->Shared->Prop} {s:Shared} {K:PySem.W.Frag} {x C:Addr}
end
section
variable {X:Cx}
end
end L2
namespace L2
open PySem PySem.Spec PyProof.Rows
section
variable {P:Program} {w:World} {K:PySem.W.Frag} {mg:Str->Option Value} {base:Heap}
end
end L2
namespace L2
open PySem PySem.Spec PyProof.Rows
section
variable {X:Cx}
end
end L2
namespace L2
open PySem PySem.Spec PyProof.Rows
section
variable {prog:Program} {w:World} {A:Around} {R:Result->Shared->Prop} {s:Shared}
theorem sS {elt target iter c:Expr}{scope:Scope}{pos:Pos}{it acc:Value}{env:Env}(I:Nat->Shared->Prop)
 (turn:∀n s,I n s->wpAny (model prog w) A (pyNext it) (λr bF=>match r with
  |none=>R (.ok .next) bF
  |some v=>wpAny (model prog w) A (letOwnedTupleGo target it v) (λ_ dG=>wpAny (model prog w) A (assign target env v) (λ_ jR=>wpAny (model prog w) A (isTrue c env (eval c env)) (λb Ka=>
   match b with
   |true=>wpAny (model prog w) A (eval elt env) (λx tU=>wpAny (model prog w) A (call (.builtin "list.append") [acc,x]) (λ_ Bh=>∃m,m<n/\I m Bh) (λ_ _=>False) tU) (λ_ _=>False) Ka
   |false=>∃m,m<n/\I m Ka) (λ_ _=>False) jR) (λ_ _=>False) dG) (λ_ _=>False) bF) (λ_ _=>False) s)
 (n:Nat) (h:I n s):codeAny (model prog w) A (.compLoop (.ListComp elt [⟨target,iter,[c],0⟩] scope pos) 0 it acc env) R s:=by
 refine codeAny_loop rfl I (λn s hI=>?_) n h;show wpAny _ _ ((compTurn (.ListComp elt [⟨target,iter,[c],0⟩] scope pos) 0 it acc env).onRaise (λx=>do noteFrame x env;theTreesLotGoes x)) _ _ s;refine wpAny_noted ?_;rw[compTurn_list];refine adW (agR (adW (afi (turn n s hI) (λr bF da=>?_) λ_ _ h'=>h'.elim)))
 cases r with
 |none=>exact ad8 da
 |some v=>
  refine adW (afi da (λ_ dG h₀=>?_) λ_ _ h'=>h'.elim);refine adW (afi h₀ (λ_ jR lQ=>adW (wpAny_tests_one (afi lQ (λok tU kA=>?_) λ_ _ h'=>h'.elim))) λ_ _ h'=>h'.elim)
  cases ok with
  |false=>exact ad8 ⟨rfl,kA⟩
  |true=>
   exact adW (adW (afi kA (λx Bh rY=>adW (afi rY (λ_ Ka yT=>ad8 (ad8 ⟨rfl,yT⟩)) λ_ _ h'=>h'.elim)) λ_ _ h'=>h'.elim))
end
def BG (tt:TT)(te:TE)(fv:St)(Q:VK)(J:It)(H1:Hp):Prop:=∃W:Nat->Nat->List V->Hp->Prop,(∃m,W 0 m [] H1)/\∀i m ys H2,W i m ys H2->
 (J.stop i H2/\ys.length<=sizeLine/\∀D,H2 D=none->Q (.ref D) (upd H2 D (.lst ys)))\/
 (J.go i H2/\ys.length<sizeLine/\∀x H3,J.pS i H2 x H3->tt (some x::fv) H3 λb H4=>match b with
  |true=>te (some x::fv) H4 λy H5=>∃m',m'<m/\W (i+ 1) m' (ys++[y]) H5
  |false=>∃m',m'<m/\W (i+ 1) m' ys H4)
def Ez (wi:TI)(fv:St->St)(tt:TT)(te:TE):TE:=λ σ H Q=>wi σ H (BG tt te (fv σ) Q)
section
variable {X:Cx} {elt iter xP:Expr} {x:Str} {px pos:Pos} {scope:Scope} {cl:List (Str×Addr)} {fns:List Str} {ixs:List Nat} {wi:TI} {tt:TT} {te:TE}
theorem Hv (hc:X.calm=true)(hi:PI X (.Name x px) iter wi)(S:iP X x fns ixs scope cl)
 (ht:∀(C:Addr) (s:Shared) (H:Hp) (ex:List Addr),PT (b8 X (x::fns) scope cl C s H ex) xP tt) (he:∀(C:Addr) (s:Shared) (H:Hp) (ex:List Addr),PE (b8 X (x::fns) scope cl C s H ex) elt te)
 (hs:∀x,foldedSetIterable iter X.env x=pure x:=by intro _;rfl):
 PE X (.ListComp elt [⟨.Name x px,iter,[xP],0⟩] scope pos) (Ez wi (cJ ixs) tt te):=by
 intro pins s σ H Q I h;rw[eval_ListComp];refine af7 (use:=none) rfl hs S.vX S.kind S.names (bh (hi pins s σ H _ I h) λv s1 h1=>bh h1 λEh s2 h2=>?_);obtain⟨it,fp,tn,J,H2,e,I2,T,kz,f2,W,⟨m0,w0⟩,turn⟩:=h2;subst e
 have dH:∀b∈fp,b<s2.heap.objs.size:=λb hb=>by
  obtain⟨o,ho,_⟩:=T.obj _ _ kz b hb;exact aeh ho
 refine aeO (agB S.cell (by intro y hy;simp at hy) (λda dI dJ=>?_) S.kind);dsimp only at dI dJ ⊢;generalize oE:s2.heap.push { cls:=.type "list",dict:=none,data:=.seq ([]:List Value).toArray }=dm at dI dJ ⊢;generalize hD:s2.heap.objs.size=D at dH ⊢;have hC:dm.objs.size=D+ 1:=by rw[←oE,afD,hD]
 generalize Bi:dm.objs.size=C at hC dI dJ ⊢;have dc:D<C:=by omega
 have gx:D≠C:=aen dc;have dv:∀b u,s2.heap.get? b=some u->dm.get? b=some u:=λb u q=>by rw[←oE];exact ad3 _ q
 have oF:∀{b u},s2.heap.get? b=some u->b<D:=λq=>by rw[←hD];exact aeh q
 have fe:∀b u,dm.get? b=some u->da.get? b=some u:=λb u q=>
  dJ.extBut b u (aen (aev (aeh q) (afW Bi))) (ad3 _ q)
 have Bj:dm.get? D=some { cls:=.type "list",dict:=none,data:=.seq ([]:List Value).toArray }:=by rw[←oE,←hD];exact aem _ rfl
 have I3:Inv X pins σ H2 { s2 with heap:=dm }:=I2.kept (t':=s2.toks) dv;have kB:H2 D=none:=I2.aO.fresh (by omega);have Bk:H2 C=none:=I2.aO.fresh (by omega)
 have fW:∀b∈D::fp,b∉ik X.stack:=λb hb z=>by
  rcases aea.mp (I2.qH b z) with e|z
  ·rcases aea.mp hb with e2|hb
   ·exact absurd I2.lt (by rw[←e,e2,←hD];exact aeD _)
   ·exact(f2 b hb).2.1 e
  ·rcases aea.mp hb with e2|hb
   ·exact I2.AZ (by rw[e2,←hD];exact ad7 _) z
   ·exact(f2 b hb).2.2.1 z
 have iM:∀y c,cl.lookup y=some c->∀b∈D::fp,c≠b:=λy c q b hb z=>by
  obtain⟨v,hv⟩:=I2.cell y c (S.sub y c q);rcases aea.mp hb with e2|hb
  ·exact absurd hv.lt (by rw[z,e2,←hD];exact aeD _)
  ·exact(f2 b hb).2.2.2.2.1 y c (S.sub y c q) z
 -- the block's context
 let Xc:Cx:=b8 X (x::fns) scope cl C { s2 with heap:=dm } H2 (D::fp)
 have ok:Xc.Ok:={
  mod:=I2.ok.mod
  kind:=S.kind
  glob:=I2.ok.glob
  blt:=I2.ok.blt
  above:=by show dm.objs.size<=C;omega
  inj:=λy z c q1 q2=>I2.ok.inj y z c (S.sub _ _ q1) (S.sub _ _ q2)
  has:=S.has
  xk:=λy c q=>nomatch q
  hd:=I2.ok.hd
  frames:=I2.ok.frames
  zo:=.inl rfl
  Ee:=λb hb=>⟨by
   rcases aea.mp hb with e2|hb
   ·rw[e2];exact gx
   ·exact aen (aeV (dH b hb) dc),λy c q=>iM y c q b hb⟩
  bs:=I3.bs
  om:=aep I3.ok.om I3.sz
  mY:=λb o q hb=>by
   rcases aea.mp hb with e2|hb
   ·exact absurd (oF (I2.bs b o q).1) (by rw[e2];exact aeD _)
   ·rcases (f2 b hb).2.2.2.1 with z|z
    ·exact I2.ok.mY b o q z
    ·exact absurd (aeh (I2.ok.bs b o q).1) (Nat.not_lt.mpr z)
  tG:=fW
  jv:=I3.stack
  tH:=I3.qI }
 have start:∀(v0:Option V),v0=none->Inv Xc [(D,{ cls:=.type "list",dict:=none,data:=.seq ([]:List Value).toArray })] (v0::cJ ixs σ) H2 { s2 with heap:=da,toks:=s2.toks+ ([]:List (Str×Value)).length }:=λv0 Bl=>{
  ok:=ok
  os:=rfl
  bare:=I2.bare
  base:=Un.kept fe
  loc:=⟨_,dI,λi y v e1 e2 e3=>by
   cases i with
   |zero=>rw[Bl]at e2;cases e2
   |succ j=>
    have qU:fns[j]?=some y:=e1
    have kc:(cJ ixs σ)[j]?=some (some v):=e2
    obtain⟨i,Bm,vB,hk,c,gy,gU⟩:=S.at_ j y qU;unfold cJ at kc;rw[aeo,Bm]at kc
    have Bn:σ[i]?=some (some v):=by
     have z:(σ[i]?).join=some v:=Option.some.inj kc
     cases q:σ[i]? with
     |none=>rw[q]at z;cases z
     |some o=>rw[q]at z;rw[show o=some v from z]
    obtain⟨m,_,hl⟩:=I2.loc;obtain⟨u,r,l⟩:=hl i y v vB Bn (hk.elim (λz=>.inr (.inl z)) λz=>.inr (.inr z));refine⟨u,r,.inr ⟨gU,c,gy,?_⟩⟩;rcases l with ⟨z,_⟩|⟨_,c',vt,mG⟩
    ·rcases hk with hk|hk <;> (rw[hk]at z;cases z)
    ·have:c'=c:=Option.some.inj (vt.symm.trans (S.sub _ _ gy));subst this;obtain⟨o,ho,hd⟩:=mG;exact⟨o,fe _ _ (dv _ _ ho),hd⟩⟩
  cell:=λy c q=>by
   obtain⟨v,o,ho,hd⟩:=I2.cell y c (S.sub y c q);exact⟨v,o,fe _ _ (dv _ _ ho),hd⟩
  free:=Bk
  fw:=λy c q=>I2.fw y c (S.sub y c q)
  pin:=λp hp=>by
   have xH:p=(D,{ cls:=.type "list",dict:=none,data:=.seq ([]:List Value).toArray }):=by simpa [Xc,b8] using hp
   subst xH;exact⟨fe _ _ Bj,kB,gx,fW D (aeb ..),λv z=>nomatch z⟩
  aO:=(I2.aO.kept dv).kept fe
  len:=by show (v0::cJ ixs σ).length=(x::fns).length;simp[cJ,S.len] }
 -- what stays true of the iterator's objects
 have oH:∀{H':Hp} {dR:List (Addr×Obj)},(∀b∈fp,H' b=none)->(∀p∈dR,p.1=D)->∀b∈fp,mZ Xc dR H' b:=λ{H' dR} hn hp b hb=>
  ⟨hn b hb,aen (aeV (dH b hb) dc),fW b (aek _ hb),.inl (aek _ hb),λy c q=>iM y c q b (aek _ hb),λp q=>by
   have q':p∈dR:=by simpa [Xc,b8] using q
   rw[hp p q'];exact afu (dH b hb)⟩
 have loop:codeAny (model X.prog X.w) X.A (.compLoop (.ListComp elt [⟨.Name x px,iter,[xP],0⟩] scope pos) 0 (.ref it) (.ref D) (compEnvC scope cl C X.env))
  (compPost (model X.prog X.w) X.A X.xe none (EP X pins σ Q) (.ref D) C) { s2 with heap:=da,toks:=s2.toks+ ([]:List (Str×Value)).length }:=by
  refine sS (λn s'=>∃(i:Nat) (ys:List V) (its:List Value) (nn:Nat) (v0:Option V) (H':Hp),Inv Xc [(D,{ cls:=.type "list",dict:=none,data:=.seq its.toArray nn })] (v0::cJ ixs σ) H' s'/\tn i s'.heap/\(∀b∈fp,H' b=none)/\Vals ys its/\W i n ys H') ?_ m0
   ⟨0,[],[],0,none,H2,start none rfl,T.keep _ _ _ kz λb _ o q=>fe _ _ (dv _ _ q),λb hb=>(f2 b hb).1,.nil,w0⟩
  rintro n s3 ⟨i,ys,its,nn,v0,H3,J3,tW,pT,vv,w3⟩
  have jS:∀p∈([(D,({ cls:=.type "list",dict:=none,data:=.seq its.toArray nn }:Obj))]:List (Addr×Obj)),p.1=D:=λp hp=>by
   have:p=(D,{ cls:=.type "list",dict:=none,data:=.seq its.toArray nn }):=by simpa using hp
   rw[this]
  rcases turn i n ys H3 w3 with ⟨stop,hlen,q⟩|⟨go,hlen,step⟩
  ·-- the end
   refine bh (T.done Xc rfl rfl rfl hc i _ s3 _ H3 _ J3 (oH pT jS) tW stop) λr s4 ⟨hr,J4⟩=>?_
   subst hr;obtain⟨m,hn,_⟩:=J4.loc;refine⟨m,hn,λgA Bo=>?_⟩;obtain⟨gD,nD,_,_,_⟩:=J4.pin (D,{ cls:=.type "list",dict:=none,data:=.seq its.toArray nn }) (by simp[Xc,b8]);have B:=J4.base;have kC:∀b u,b≠C->s4.heap.get? b=some u->gA.get? b=some u:=λb u hb q=>(Bo.2 b hb).trans q
   have ne:∀{b o},s2.heap.get? b=some o->b≠C/\b≠D:=λq=>⟨aen (aeV (oF q) dc),aen (oF q)⟩
   have iD:∀{b o},s2.heap.get? b=some o->b∉fp->b∉D::fp:=λq hx z=>(aea.mp z).elim (ne q).2 hx
   have uu:Un (ik X.stack) fp H2 (upd H3 D (.lst ys)) s2.heap gA:={
    keep:=λb o q n hb hx=>kC b o (ne q).1 (B.keep b o (dv b o q) n hb (iD q hx))
    slot:=λb o q n hb hx=>by
     obtain⟨sl,e⟩:=B.slot b o (dv b o q) n hb (iD q hx);exact⟨sl,kC b _ (ne q).1 e⟩
    free:=λb o q n hx=>by rw[ao (ne q).2];exact B.free b o (dv b o q) n (iD q hx)
    there:=λb o q hx=>by
     obtain⟨o',e⟩:=B.there b o (dv b o q) (iD q hx);exact⟨o',kC b _ (ne q).1 e⟩
    iK:=λb xs q=>by rw[ao (av q kB)];exact B.iK b xs q
    gW:=λb o xs q=>by rw[ao (av q kB)];exact B.gW b o xs q
    iL:=λb ps q=>by
     obtain⟨more,e⟩:=B.iL b ps q;exact⟨more,by rw[ao (av q kB)];exact e⟩ }
   have aO:dS X.prog X.w (upd H3 D (.lst ys)) gA:=λb u e=>by
    by_cases hb:b=D
    ·subst hb;rw[aj]at e;cases e;exact⟨hlen,its,nn,vv,kC _ _ gx gD⟩
    ·rw[ao hb]at e;refine(J4.aO b u e).lK (λc v hc q=>kC c v ?_ q) (λc q=>by rw[ao (av q nD)];exact q) λc xs q=>by rw[ao (av q nD)];exact q
     have fC:H3 C=none:=J4.free;rcases hc with rfl|hc
     ·exact av e fC
     ·exact av hc fC
   exact⟨.ref D,_,I2.Az (s':={ s4 with heap:=gA }) J4.os uu aO J4.bare (λb hb=>⟨(f2 b hb).2.2.2.1,(f2 b hb).2.1,(f2 b hb).2.2.2.2.1,(f2 b hb).2.2.2.2.2⟩),rfl,q D nD⟩
  ·-- a turn
   refine bh (T.item Xc rfl rfl rfl hc i _ s3 _ H3 _ J3 (oH pT jS) tW go) λr s4 ⟨u,hr,h4⟩=>?_
   subst hr;refine bh h4 λ_ s5 ⟨xv,H5,J5,r5,y5,kD,xr⟩=>?_
   have Bp:=J5.pinned (oH xr jS) (T.obj _ _ kD);have hg:PG Xc (.Name x px) (dE 0):=bN (X:=Xc) (i:=0) S.nd rfl (.inl (e9 S.own)) (.inr (e9 S.own));refine bh (hg _ s5 _ H5 xv u (λ aJ H'=>aJ=some xv::cJ ixs σ/\H'=H5) Bp r5 ⟨rfl,rfl⟩) λ_ s6 ⟨G0,H6,J6,e6,Bq⟩=>?_
   subst e6 Bq;refine bh (ht C { s2 with heap:=dm } H2 (D::fp) _ s6 _ H6 _ J6 (step xv H6 y5)) λbt Hw ⟨BH,ub,q6⟩=>?_
   cases bt with
   |true=>
    refine bh (he C { s2 with heap:=dm } H2 (D::fp) _ Hw _ BH _ ub q6) λyv s7 ⟨y,H7,J7,r7,m',iQ,w7⟩=>?_
    obtain⟨gD,nD,_,_,_⟩:=J7.pin (D,{ cls:=.type "list",dict:=none,data:=.seq its.toArray nn }) (by simp[Xc,b8]);have tX:tn (i+ 1) s7.heap:=T.keep _ _ _ kD λb hb o e=>(J7.pin (b,o) (ad5 _ (ad5 _ (cQ hb e)))).1
    have tY:∀b∈fp,H7 b=none:=λb hb=>by
     obtain⟨o,e,d⟩:=T.obj _ _ kD b hb;exact(J7.pin (b,o) (ad5 _ (ad5 _ (cQ hb e)))).2.1
    have Br:Inv Xc [] (some xv::cJ ixs σ) H7 s7:=J7.fF λp hp=>nomatch hp
    refine agi (hsz:=by rw[ad9,←vv.length];omega) ⟨nn,gD⟩ λh8 Bs tZ=>?_
    obtain⟨n8,g8⟩:=Bs
    have J8:Inv Xc [] (some xv::cJ ixs σ) H7 { s7 with heap:=h8 }:=Br.turned (t':=s7.toks) (it:=D) (λb o hb e=>(tZ.2 b hb).trans e) nD (gx) (.inl (aeb ..))
     (λy c q=>iM y c q D (aeb ..)) (λp hp=>by simp[Xc,b8]at hp)
    refine⟨m',iQ,i+ 1,ys++[y],its++[yv],n8,some xv,H7,J8.fF λp hp=>?_,?_,tY,vv.append (.cons r7 .nil),w7⟩
    ·have:p=(D,{ cls:=.type "list",dict:=none,data:=.seq (its++[yv]).toArray n8 }):=by simpa using hp
     subst this;refine⟨?_,nD,gx,fW D (aeb ..),λv z=>nomatch z⟩;have:its.toArray.push yv=(its++[yv]).toArray:=by simp
     rw[this]at g8;exact g8
    ·exact T.keep _ _ _ tX λb hb o e=>(tZ.2 b (aen (dH b hb))).trans e
   |false=>
    obtain⟨m',iQ,w7⟩:=q6;obtain⟨gD,nD,_,_,_⟩:=ub.pin (D,{ cls:=.type "list",dict:=none,data:=.seq its.toArray nn }) (by simp[Xc,b8]);have tX:tn (i+ 1) Hw.heap:=T.keep _ _ _ kD λb hb o e=>(ub.pin (b,o) (ad5 _ (ad5 _ (cQ hb e)))).1
    have tY:∀b∈fp,BH b=none:=λb hb=>by
     obtain⟨o,e,d⟩:=T.obj _ _ kD b hb;exact(ub.pin (b,o) (ad5 _ (ad5 _ (cQ hb e)))).2.1
    refine⟨m',iQ,i+ 1,ys,its,nn,some xv,BH,ub.fF λp hp=>?_,tX,tY,vv,w7⟩;have:p=(D,{ cls:=.type "list",dict:=none,data:=.seq its.toArray nn }):=by simpa using hp
    subst this;exact⟨gD,nD,gx,fW D (aeb ..),λv z=>nomatch z⟩
 exact agm loop (T.self _ 0 _ _ _ (T.keep _ _ _ kz λb _ o q=>fe _ _ (dv _ _ q)) loop)
end
end L2
set_option maxRecDepth 10000
set_option maxHeartbeats 400000
namespace L2
open PySem PySem.Spec PyProof.Rows
theorem Kb {x:Int}(h0:0<=x)(h1:x<=100000):¬(!Builtin.List.listFitsIndex x)=true:=by
 have:Builtin.List.listFitsIndex x=true:=by
  unfold Builtin.List.listFitsIndex;simp;omega
 rw[this];decide
def Qj (x:Int)(w':Value):Array Value->Array Value:=λxs=>have k:=if x<0 then (x+ ((xs.size:Nat):Int)).toNat else min x.toNat xs.size;(xs.extract 0 k).push w'++xs.extract k
theorem Hx (l:Addr)(its:List Value)(n:Nat)(x:Int)(t:Tok)(w':Value)(h0:0<=x)(h1:x<=100000)(hsz:its.toArray.size<=sizeLine):
 Meets (Builtin.«list.insert» ⟨[.ref l,.int x t,w'],[]⟩) (λ_ R s=>s.heap.get? l=some { cls:=.type "list",dict:=none,data:=.seq its.toArray n,slots:=#[] }/\R (.ok (.ret Value.none)) { s with heap:=s.heap.update l (Obj.mapSeq (Qj x w')),toks:=s.toks }):=
 PySem.AutoListH.list_insert_list_int_val_1 l its.toArray n x t w' (Kb h0 h1) hsz
theorem NV {its:List Value}{i:Nat}{w':Value}(hi:i<=its.length):Qj (i:Int) w' its.toArray=(its.take i++[w']++its.drop i).toArray:=by
 have ek:(if (i:Int)<0 then ((i:Int)+ ((its.toArray.size:Nat):Int)).toNat else min (i:Int).toNat its.toArray.size)=i:=by
  rw[aed (by omega),ad9,aeC];omega
 show (its.toArray.extract 0 (if (i:Int)<0 then ((i:Int)+ ((its.toArray.size:Nat):Int)).toNat else min (i:Int).toNat its.toArray.size)).push w'++its.toArray.extract (if (i:Int)<0 then ((i:Int)+ ((its.toArray.size:Nat):Int)).toNat else min (i:Int).toNat its.toArray.size)=_;rw[ek];apply Array.ext';simp[List.extract_eq_take_drop];exact afx (by rw[aeU];exact ad7 _)
section
variable {X:Cx}
def NW:V->List V->Hp->VK->Prop:=λx vs H Q=>∃(l:Addr) (xs:List V) (i:Nat) (y:V),x=.ref l/\vs=[.int i,y]/\H l=some (.lst xs)/\xs.length<sizeLine/\i<=xs.length/\i<=100000/\Q .non (upd H l (.lst (xs.take i++[y]++xs.drop i)))
theorem yU:Er X "list.insert" NW:=by
 intro pins s σ H x vs v us Q I rx rv h;obtain⟨l,xs,i,y,rfl,rfl,hH,hz,hi,vB,q⟩:=h;cases rx;obtain⟨u,w',rfl,⟨t,rfl⟩,ry⟩:=vals2 rv;obtain⟨z,its,n,r,hl,e⟩:=I.rX hH;have rl:=r.length
 have hsz:its.toArray.size<=sizeLine:=by
  rw[ad9,←rl];exact ag9 hz
 have hv:Vals (xs.take i++[y]++xs.drop i) (its.take i++[w']++its.drop i):=((r.take i).append (.cons ry .nil)).append (r.drop i)
 have hlen:(xs.take i++[y]++xs.drop i).length<=sizeLine:=by
  simp only[adZ,aeG,aeU,aes,afG];omega
 have J:=I.Be (t':=s.toks) hH e (NV (w':=w') (show i<=its.length by omega)) hv hlen;have h0:(0:Int)<=(i:Int):=Int.natCast_nonneg i;have h1:(i:Int)<=100000:=by omega
 generalize (i:Int)=xi at h0 h1 J ⊢;have M:=Hx l its n xi t w' h0 h1 hsz;refine agO F.slot_list_insert ⟨_,e,rfl⟩ F.entry_list_insert (F.args_list_insert_3 _ _ _) M ⟨e,?_⟩;exact⟨.non,_,J,rfl,q⟩
end
end L2
set_option maxRecDepth 100000
set_option maxHeartbeats 4000000
namespace L2
open PySem PySem.Spec PyProof.Rows
section
variable {X:Cx}
end
end L2
namespace L2
open PySem PySem.Spec PyProof.Rows
section
variable {X:Cx} {tg:Expr}
end
end L2
namespace L2
open PySem PySem.Spec PyProof.Rows
section
variable {X:Cx} {elt iter xP:Expr} {x:Str} {px pos:Pos} {scope:Scope} {cl:List (Str×Addr)} {fns:List Str} {ixs:List Nat} {wi:TI} {tt:TT} {te:TE}
theorem rZ {iy:Nat}{y:Str}{py BI:Pos}(hN:X.N.Nodup)(Qk:X.N[iy]?=some y)(hy:Loc X.env.scope y)(hc:X.calm=true)(hi:PI X (.Name x px) iter wi)(S:iP X x fns ixs scope cl)
 (he:∀(C:Addr) (s:Shared) (H:Hp) (ex:List Addr),PE (b8 X (x::fns) scope cl C s H ex) elt te)
 (hs:∀x,foldedSetIterable iter X.env x=pure x:=by intro _;rfl) (Ql:swapsWith (.ListComp elt [⟨.Name x px,iter,[],0⟩] scope pos) (some (.Name y py)) BI.line X.env=pure true:=by rfl)
 (Qm:X.fn y=true\/X.env.scope.names.lookup y=some .local:=by first|exact .inl rfl|exact .inr rfl|assumption):
 PS X (.Assign [.Name y py] (.ListComp elt [⟨.Name x px,iter,[],0⟩] scope pos) BI) (FD (Lz wi (cJ ixs) te) (dE iy)):=by
 intro pins s σ H DD I h;rw[exec_Assign_Name_used _ _ _ _ Ql];refine adW (agR (adW ?_));show wpAny _ X.A (do let _ ←comprehension (.ListComp elt [⟨.Name x px,iter,[],0⟩] scope pos) scope X.env _ (newList []) false (eval iter X.env) (some (assign (.Name y py) X.env))) _ _ s;refine adW (afi (af7 (use:=some (assign (.Name y py) X.env)) (Q:=λ_ s'=>SP X pins DD .next s') rfl hs S.vX S.kind S.names (bh (hi pins s σ H _ I h) λv s1 h1=>bh h1 λEh s2 h2=>?_)) (λ_ s' hq=>ad8 (ad8 hq)) λ_ _ e=>e);obtain⟨it,fp,tn,J,H2,e,I2,T,kz,f2,W,⟨m0,w0⟩,turn⟩:=h2;subst e
 have dH:∀b∈fp,b<s2.heap.objs.size:=λb hb=>by
  obtain⟨o,ho,_⟩:=T.obj _ _ kz b hb;exact aeh ho
 refine aeO (agB S.cell (by intro y hy;simp at hy) (λda dI dJ=>?_) S.kind);dsimp only at dI dJ ⊢;generalize oE:s2.heap.push { cls:=.type "list",dict:=none,data:=.seq ([]:List Value).toArray }=dm at dI dJ ⊢;generalize hD:s2.heap.objs.size=D at dH ⊢;have hC:dm.objs.size=D+ 1:=by rw[←oE,afD,hD]
 generalize Bi:dm.objs.size=C at hC dI dJ ⊢;have dc:D<C:=by omega
 have gx:D≠C:=aen dc;have dv:∀b u,s2.heap.get? b=some u->dm.get? b=some u:=λb u q=>by rw[←oE];exact ad3 _ q
 have oF:∀{b u},s2.heap.get? b=some u->b<D:=λq=>by rw[←hD];exact aeh q
 have fe:∀b u,dm.get? b=some u->da.get? b=some u:=λb u q=>
  dJ.extBut b u (aen (aev (aeh q) (afW Bi))) (ad3 _ q)
 have Bj:dm.get? D=some { cls:=.type "list",dict:=none,data:=.seq ([]:List Value).toArray }:=by rw[←oE,←hD];exact aem _ rfl
 have I3:Inv X pins σ H2 { s2 with heap:=dm }:=I2.kept (t':=s2.toks) dv;have kB:H2 D=none:=I2.aO.fresh (by omega);have Bk:H2 C=none:=I2.aO.fresh (by omega)
 have fW:∀b∈D::fp,b∉ik X.stack:=λb hb z=>by
  rcases aea.mp (I2.qH b z) with e|z
  ·rcases aea.mp hb with e2|hb
   ·exact absurd I2.lt (by rw[←e,e2,←hD];exact aeD _)
   ·exact(f2 b hb).2.1 e
  ·rcases aea.mp hb with e2|hb
   ·exact I2.AZ (by rw[e2,←hD];exact ad7 _) z
   ·exact(f2 b hb).2.2.1 z
 have iM:∀y c,cl.lookup y=some c->∀b∈D::fp,c≠b:=λy c q b hb z=>by
  obtain⟨v,hv⟩:=I2.cell y c (S.sub y c q);rcases aea.mp hb with e2|hb
  ·exact absurd hv.lt (by rw[z,e2,←hD];exact aeD _)
  ·exact(f2 b hb).2.2.2.2.1 y c (S.sub y c q) z
 -- the block's context
 let Xc:Cx:=b8 X (x::fns) scope cl C { s2 with heap:=dm } H2 (D::fp)
 have ok:Xc.Ok:={
  mod:=I2.ok.mod
  kind:=S.kind
  glob:=I2.ok.glob
  blt:=I2.ok.blt
  above:=by show dm.objs.size<=C;omega
  inj:=λy z c q1 q2=>I2.ok.inj y z c (S.sub _ _ q1) (S.sub _ _ q2)
  has:=S.has
  xk:=λy c q=>nomatch q
  hd:=I2.ok.hd
  frames:=I2.ok.frames
  zo:=.inl rfl
  Ee:=λb hb=>⟨by
   rcases aea.mp hb with e2|hb
   ·rw[e2];exact gx
   ·exact aen (aeV (dH b hb) dc),λy c q=>iM y c q b hb⟩
  bs:=I3.bs
  om:=aep I3.ok.om I3.sz
  mY:=λb o q hb=>by
   rcases aea.mp hb with e2|hb
   ·exact absurd (oF (I2.bs b o q).1) (by rw[e2];exact aeD _)
   ·rcases (f2 b hb).2.2.2.1 with z|z
    ·exact I2.ok.mY b o q z
    ·exact absurd (aeh (I2.ok.bs b o q).1) (Nat.not_lt.mpr z)
  tG:=fW
  jv:=I3.stack
  tH:=I3.qI }
 have start:∀(v0:Option V),v0=none->Inv Xc [(D,{ cls:=.type "list",dict:=none,data:=.seq ([]:List Value).toArray })] (v0::cJ ixs σ) H2 { s2 with heap:=da,toks:=s2.toks+ ([]:List (Str×Value)).length }:=λv0 Bl=>{
  ok:=ok
  os:=rfl
  bare:=I2.bare
  base:=Un.kept fe
  loc:=⟨_,dI,λi y v e1 e2 e3=>by
   cases i with
   |zero=>rw[Bl]at e2;cases e2
   |succ j=>
    have qU:fns[j]?=some y:=e1
    have kc:(cJ ixs σ)[j]?=some (some v):=e2
    obtain⟨i,Bm,vB,hk,c,gy,gU⟩:=S.at_ j y qU;unfold cJ at kc;rw[aeo,Bm]at kc
    have Bn:σ[i]?=some (some v):=by
     have z:(σ[i]?).join=some v:=Option.some.inj kc
     cases q:σ[i]? with
     |none=>rw[q]at z;cases z
     |some o=>rw[q]at z;rw[show o=some v from z]
    obtain⟨m,_,hl⟩:=I2.loc;obtain⟨u,r,l⟩:=hl i y v vB Bn (hk.elim (λz=>.inr (.inl z)) λz=>.inr (.inr z));refine⟨u,r,.inr ⟨gU,c,gy,?_⟩⟩;rcases l with ⟨z,_⟩|⟨_,c',vt,mG⟩
    ·rcases hk with hk|hk <;> (rw[hk]at z;cases z)
    ·have:c'=c:=Option.some.inj (vt.symm.trans (S.sub _ _ gy));subst this;obtain⟨o,ho,hd⟩:=mG;exact⟨o,fe _ _ (dv _ _ ho),hd⟩⟩
  cell:=λy c q=>by
   obtain⟨v,o,ho,hd⟩:=I2.cell y c (S.sub y c q);exact⟨v,o,fe _ _ (dv _ _ ho),hd⟩
  free:=Bk
  fw:=λy c q=>I2.fw y c (S.sub y c q)
  pin:=λp hp=>by
   have xH:p=(D,{ cls:=.type "list",dict:=none,data:=.seq ([]:List Value).toArray }):=by simpa [Xc,b8] using hp
   subst xH;exact⟨fe _ _ Bj,kB,gx,fW D (aeb ..),λv z=>nomatch z⟩
  aO:=(I2.aO.kept dv).kept fe
  len:=by show (v0::cJ ixs σ).length=(x::fns).length;simp[cJ,S.len] }
 -- what stays true of the iterator's objects
 have oH:∀{H':Hp} {dR:List (Addr×Obj)},(∀b∈fp,H' b=none)->(∀p∈dR,p.1=D)->∀b∈fp,mZ Xc dR H' b:=λ{H' dR} hn hp b hb=>
  ⟨hn b hb,aen (aeV (dH b hb) dc),fW b (aek _ hb),.inl (aek _ hb),λy c q=>iM y c q b (aek _ hb),λp q=>by
   have q':p∈dR:=by simpa [Xc,b8] using q
   rw[hp p q'];exact afu (dH b hb)⟩
 have loop:codeAny (model X.prog X.w) X.A (.compLoop (.ListComp elt [⟨.Name x px,iter,[],0⟩] scope pos) 0 (.ref it) (.ref D) (compEnvC scope cl C X.env))
  (compPost (model X.prog X.w) X.A X.xe (some (assign (.Name y py) X.env)) (λ_ s'=>SP X pins DD .next s') (.ref D) C) { s2 with heap:=da,toks:=s2.toks+ ([]:List (Str×Value)).length }:=by
  refine vA (λn s'=>∃(i:Nat) (ys:List V) (its:List Value) (nn:Nat) (v0:Option V) (H':Hp),Inv Xc [(D,{ cls:=.type "list",dict:=none,data:=.seq its.toArray nn })] (v0::cJ ixs σ) H' s'/\tn i s'.heap/\(∀b∈fp,H' b=none)/\Vals ys its/\W i n ys H') ?_ m0
   ⟨0,[],[],0,none,H2,start none rfl,T.keep _ _ _ kz λb _ o q=>fe _ _ (dv _ _ q),λb hb=>(f2 b hb).1,.nil,w0⟩
  rintro n s3 ⟨i,ys,its,nn,v0,H3,J3,tW,pT,vv,w3⟩
  have jS:∀p∈([(D,({ cls:=.type "list",dict:=none,data:=.seq its.toArray nn }:Obj))]:List (Addr×Obj)),p.1=D:=λp hp=>by
   have:p=(D,{ cls:=.type "list",dict:=none,data:=.seq its.toArray nn }):=by simpa using hp
   rw[this]
  rcases turn i n ys H3 w3 with ⟨stop,hlen,q⟩|⟨go,hlen,step⟩
  ·-- the end
   refine bh (T.done Xc rfl rfl rfl hc i _ s3 _ H3 _ J3 (oH pT jS) tW stop) λr s4 ⟨hr,J4⟩=>?_
   subst hr;obtain⟨m,hn,_⟩:=J4.loc;generalize BJ:s4.heap=gA;have Bo:Heap.SameBut C s4.heap gA:=by rw[←BJ];exact⟨rfl,λ_ _=>rfl⟩
   obtain⟨gD,nD,_,_,_⟩:=J4.pin (D,{ cls:=.type "list",dict:=none,data:=.seq its.toArray nn }) (by simp[Xc,b8]);have B:=J4.base;have kC:∀b u,b≠C->s4.heap.get? b=some u->gA.get? b=some u:=λb u hb q=>(Bo.2 b hb).trans q
   have ne:∀{b o},s2.heap.get? b=some o->b≠C/\b≠D:=λq=>⟨aen (aeV (oF q) dc),aen (oF q)⟩
   have iD:∀{b o},s2.heap.get? b=some o->b∉fp->b∉D::fp:=λq hx z=>(aea.mp z).elim (ne q).2 hx
   have uu:Un (ik X.stack) fp H2 (upd H3 D (.lst ys)) s2.heap gA:={
    keep:=λb o q n hb hx=>kC b o (ne q).1 (B.keep b o (dv b o q) n hb (iD q hx))
    slot:=λb o q n hb hx=>by
     obtain⟨sl,e⟩:=B.slot b o (dv b o q) n hb (iD q hx);exact⟨sl,kC b _ (ne q).1 e⟩
    free:=λb o q n hx=>by rw[ao (ne q).2];exact B.free b o (dv b o q) n (iD q hx)
    there:=λb o q hx=>by
     obtain⟨o',e⟩:=B.there b o (dv b o q) (iD q hx);exact⟨o',kC b _ (ne q).1 e⟩
    iK:=λb xs q=>by rw[ao (av q kB)];exact B.iK b xs q
    gW:=λb o xs q=>by rw[ao (av q kB)];exact B.gW b o xs q
    iL:=λb ps q=>by
     obtain⟨more,e⟩:=B.iL b ps q;exact⟨more,by rw[ao (av q kB)];exact e⟩ }
   have aO:dS X.prog X.w (upd H3 D (.lst ys)) gA:=λb u e=>by
    by_cases hb:b=D
    ·subst hb;rw[aj]at e;cases e;exact⟨hlen,its,nn,vv,kC _ _ gx gD⟩
    ·rw[ao hb]at e;refine(J4.aO b u e).lK (λc v hc q=>kC c v ?_ q) (λc q=>by rw[ao (av q nD)];exact q) λc xs q=>by rw[ao (av q nD)];exact q
     have fC:H3 C=none:=J4.free;rcases hc with rfl|hc
     ·exact av e fC
     ·exact av hc fC
   have I5:Inv X pins σ (upd H3 D (.lst ys)) s4:=I2.Az (s':=s4) J4.os (by rw[BJ];exact uu) (by rw[BJ];exact aO) J4.bare (λb hb=>⟨(f2 b hb).2.2.2.1,(f2 b hb).2.1,(f2 b hb).2.2.2.2.1,(f2 b hb).2.2.2.2.2⟩);show wpAny _ X.A (assign (.Name y py) X.env (.ref D)) _ _ _
   have cL:X.env.locals≠C:=λz=>by
    have h1:=I2.lt;rw[hD,z]at h1;exact absurd (aeV h1 dc) (aeD _)
   have cC:∀z c,X.env.cells.lookup z=some c->c≠C:=λz c hz e=>by
    obtain⟨v,hv⟩:=I2.cell z c hz;have h1:=hv.lt;rw[hD,e]at h1;exact absurd (aeV h1 dc) (aeD _)
   have Qn:upd H3 D (.lst ys) C=none:=by
    rw[ao (afe gx)];exact J4.free
   refine wpAny_assign_Name (tI I5 hN Qk hy (v:=.ref D) rfl (λs5 I6 F1=>?_) Qm);obtain⟨a5,Qo,Qp⟩:=F1
   have zp:C≠a5:=by
    rcases Qp with e|e
    ·rw[e];exact afe cL
    ·exact afe (cC y a5 e)
   refine⟨m,hn.sameBut Qo zp,λh6 Qq=>?_⟩
   refine⟨_,_,I6.turned (t':=s5.toks) (it:=C) (λb o hb e=>(Qq.2 b hb).trans e) Qn (afe cL) (.inr (by
    have:=I2.sz;rw[hD]at this;exact aep this (ag9 dc))) cC (λp hp z=>?_),q D nD⟩
   have bG:=aeh (I2.pin p hp).1;rw[hD,z]at bG;exact absurd (aeV bG dc) (aeD _)
  ·-- a turn
   refine bh (T.item Xc rfl rfl rfl hc i _ s3 _ H3 _ J3 (oH pT jS) tW go) λr s4 ⟨u,hr,h4⟩=>?_
   subst hr;refine bh h4 λ_ s5 ⟨xv,H5,J5,r5,y5,kD,xr⟩=>?_
   have Bp:=J5.pinned (oH xr jS) (T.obj _ _ kD);have hg:PG Xc (.Name x px) (dE 0):=bN (X:=Xc) (i:=0) S.nd rfl (.inl (e9 S.own)) (.inr (e9 S.own));refine bh (hg _ s5 _ H5 xv u (λ aJ H'=>aJ=some xv::cJ ixs σ/\H'=H5) Bp r5 ⟨rfl,rfl⟩) λ_ s6 ⟨G0,H6,J6,e6,Bq⟩=>?_
   subst e6 Bq;refine bh (he C { s2 with heap:=dm } H2 (D::fp) _ s6 _ H6 _ J6 (step xv H6 y5)) λyv s7 ⟨y,H7,J7,r7,m',iQ,w7⟩=>?_
   obtain⟨gD,nD,_,_,_⟩:=J7.pin (D,{ cls:=.type "list",dict:=none,data:=.seq its.toArray nn }) (by simp[Xc,b8]);have tX:tn (i+ 1) s7.heap:=T.keep _ _ _ kD λb hb o e=>(J7.pin (b,o) (ad5 _ (ad5 _ (cQ hb e)))).1
   have tY:∀b∈fp,H7 b=none:=λb hb=>by
    obtain⟨o,e,d⟩:=T.obj _ _ kD b hb;exact(J7.pin (b,o) (ad5 _ (ad5 _ (cQ hb e)))).2.1
   have Br:Inv Xc [] (some xv::cJ ixs σ) H7 s7:=J7.fF λp hp=>nomatch hp
   refine agi (hsz:=by rw[ad9,←vv.length];omega) ⟨nn,gD⟩ λh8 Bs tZ=>?_
   obtain⟨n8,g8⟩:=Bs
   have J8:Inv Xc [] (some xv::cJ ixs σ) H7 { s7 with heap:=h8 }:=Br.turned (t':=s7.toks) (it:=D) (λb o hb e=>(tZ.2 b hb).trans e) nD (gx) (.inl (aeb ..))
    (λy c q=>iM y c q D (aeb ..)) (λp hp=>by simp[Xc,b8]at hp)
   refine⟨m',iQ,i+ 1,ys++[y],its++[yv],n8,some xv,H7,J8.fF λp hp=>?_,?_,tY,vv.append (.cons r7 .nil),w7⟩
   ·have:p=(D,{ cls:=.type "list",dict:=none,data:=.seq (its++[yv]).toArray n8 }):=by simpa using hp
    subst this;refine⟨?_,nD,gx,fW D (aeb ..),λv z=>nomatch z⟩;have:its.toArray.push yv=(its++[yv]).toArray:=by simp
    rw[this]at g8;exact g8
   ·exact T.keep _ _ _ tX λb hb o e=>(tZ.2 b (aen (dH b hb))).trans e
 exact agm loop (T.self _ 0 _ _ _ (T.keep _ _ _ kz λb _ o q=>fe _ _ (dv _ _ q)) loop)
theorem BK {iy:Nat}{y:Str}{py BI:Pos}(hN:X.N.Nodup)(Qk:X.N[iy]?=some y)(hy:Loc X.env.scope y)(hc:X.calm=true)(hi:PI X (.Name x px) iter wi)(S:iP X x fns ixs scope cl)
 (ht:∀(C:Addr) (s:Shared) (H:Hp) (ex:List Addr),PT (b8 X (x::fns) scope cl C s H ex) xP tt) (he:∀(C:Addr) (s:Shared) (H:Hp) (ex:List Addr),PE (b8 X (x::fns) scope cl C s H ex) elt te)
 (hs:∀x,foldedSetIterable iter X.env x=pure x:=by intro _;rfl) (Ql:swapsWith (.ListComp elt [⟨.Name x px,iter,[xP],0⟩] scope pos) (some (.Name y py)) BI.line X.env=pure true:=by rfl)
 (Qm:X.fn y=true\/X.env.scope.names.lookup y=some .local:=by first|exact .inl rfl|exact .inr rfl|assumption):
 PS X (.Assign [.Name y py] (.ListComp elt [⟨.Name x px,iter,[xP],0⟩] scope pos) BI) (FD (Ez wi (cJ ixs) tt te) (dE iy)):=by
 intro pins s σ H DD I h;rw[exec_Assign_Name_used _ _ _ _ Ql];refine adW (agR (adW ?_));show wpAny _ X.A (do let _ ←comprehension (.ListComp elt [⟨.Name x px,iter,[xP],0⟩] scope pos) scope X.env _ (newList []) false (eval iter X.env) (some (assign (.Name y py) X.env))) _ _ s;refine adW (afi (af7 (use:=some (assign (.Name y py) X.env)) (Q:=λ_ s'=>SP X pins DD .next s') rfl hs S.vX S.kind S.names (bh (hi pins s σ H _ I h) λv s1 h1=>bh h1 λEh s2 h2=>?_)) (λ_ s' hq=>ad8 (ad8 hq)) λ_ _ e=>e);obtain⟨it,fp,tn,J,H2,e,I2,T,kz,f2,W,⟨m0,w0⟩,turn⟩:=h2;subst e
 have dH:∀b∈fp,b<s2.heap.objs.size:=λb hb=>by
  obtain⟨o,ho,_⟩:=T.obj _ _ kz b hb;exact aeh ho
 refine aeO (agB S.cell (by intro y hy;simp at hy) (λda dI dJ=>?_) S.kind);dsimp only at dI dJ ⊢;generalize oE:s2.heap.push { cls:=.type "list",dict:=none,data:=.seq ([]:List Value).toArray }=dm at dI dJ ⊢;generalize hD:s2.heap.objs.size=D at dH ⊢;have hC:dm.objs.size=D+ 1:=by rw[←oE,afD,hD]
 generalize Bi:dm.objs.size=C at hC dI dJ ⊢;have dc:D<C:=by omega
 have gx:D≠C:=aen dc;have dv:∀b u,s2.heap.get? b=some u->dm.get? b=some u:=λb u q=>by rw[←oE];exact ad3 _ q
 have oF:∀{b u},s2.heap.get? b=some u->b<D:=λq=>by rw[←hD];exact aeh q
 have fe:∀b u,dm.get? b=some u->da.get? b=some u:=λb u q=>
  dJ.extBut b u (aen (aev (aeh q) (afW Bi))) (ad3 _ q)
 have Bj:dm.get? D=some { cls:=.type "list",dict:=none,data:=.seq ([]:List Value).toArray }:=by rw[←oE,←hD];exact aem _ rfl
 have I3:Inv X pins σ H2 { s2 with heap:=dm }:=I2.kept (t':=s2.toks) dv;have kB:H2 D=none:=I2.aO.fresh (by omega);have Bk:H2 C=none:=I2.aO.fresh (by omega)
 have fW:∀b∈D::fp,b∉ik X.stack:=λb hb z=>by
  rcases aea.mp (I2.qH b z) with e|z
  ·rcases aea.mp hb with e2|hb
   ·exact absurd I2.lt (by rw[←e,e2,←hD];exact aeD _)
   ·exact(f2 b hb).2.1 e
  ·rcases aea.mp hb with e2|hb
   ·exact I2.AZ (by rw[e2,←hD];exact ad7 _) z
   ·exact(f2 b hb).2.2.1 z
 have iM:∀y c,cl.lookup y=some c->∀b∈D::fp,c≠b:=λy c q b hb z=>by
  obtain⟨v,hv⟩:=I2.cell y c (S.sub y c q);rcases aea.mp hb with e2|hb
  ·exact absurd hv.lt (by rw[z,e2,←hD];exact aeD _)
  ·exact(f2 b hb).2.2.2.2.1 y c (S.sub y c q) z
 -- the block's context
 let Xc:Cx:=b8 X (x::fns) scope cl C { s2 with heap:=dm } H2 (D::fp)
 have ok:Xc.Ok:={
  mod:=I2.ok.mod
  kind:=S.kind
  glob:=I2.ok.glob
  blt:=I2.ok.blt
  above:=by show dm.objs.size<=C;omega
  inj:=λy z c q1 q2=>I2.ok.inj y z c (S.sub _ _ q1) (S.sub _ _ q2)
  has:=S.has
  xk:=λy c q=>nomatch q
  hd:=I2.ok.hd
  frames:=I2.ok.frames
  zo:=.inl rfl
  Ee:=λb hb=>⟨by
   rcases aea.mp hb with e2|hb
   ·rw[e2];exact gx
   ·exact aen (aeV (dH b hb) dc),λy c q=>iM y c q b hb⟩
  bs:=I3.bs
  om:=aep I3.ok.om I3.sz
  mY:=λb o q hb=>by
   rcases aea.mp hb with e2|hb
   ·exact absurd (oF (I2.bs b o q).1) (by rw[e2];exact aeD _)
   ·rcases (f2 b hb).2.2.2.1 with z|z
    ·exact I2.ok.mY b o q z
    ·exact absurd (aeh (I2.ok.bs b o q).1) (Nat.not_lt.mpr z)
  tG:=fW
  jv:=I3.stack
  tH:=I3.qI }
 have start:∀(v0:Option V),v0=none->Inv Xc [(D,{ cls:=.type "list",dict:=none,data:=.seq ([]:List Value).toArray })] (v0::cJ ixs σ) H2 { s2 with heap:=da,toks:=s2.toks+ ([]:List (Str×Value)).length }:=λv0 Bl=>{
  ok:=ok
  os:=rfl
  bare:=I2.bare
  base:=Un.kept fe
  loc:=⟨_,dI,λi y v e1 e2 e3=>by
   cases i with
   |zero=>rw[Bl]at e2;cases e2
   |succ j=>
    have qU:fns[j]?=some y:=e1
    have kc:(cJ ixs σ)[j]?=some (some v):=e2
    obtain⟨i,Bm,vB,hk,c,gy,gU⟩:=S.at_ j y qU;unfold cJ at kc;rw[aeo,Bm]at kc
    have Bn:σ[i]?=some (some v):=by
     have z:(σ[i]?).join=some v:=Option.some.inj kc
     cases q:σ[i]? with
     |none=>rw[q]at z;cases z
     |some o=>rw[q]at z;rw[show o=some v from z]
    obtain⟨m,_,hl⟩:=I2.loc;obtain⟨u,r,l⟩:=hl i y v vB Bn (hk.elim (λz=>.inr (.inl z)) λz=>.inr (.inr z));refine⟨u,r,.inr ⟨gU,c,gy,?_⟩⟩;rcases l with ⟨z,_⟩|⟨_,c',vt,mG⟩
    ·rcases hk with hk|hk <;> (rw[hk]at z;cases z)
    ·have:c'=c:=Option.some.inj (vt.symm.trans (S.sub _ _ gy));subst this;obtain⟨o,ho,hd⟩:=mG;exact⟨o,fe _ _ (dv _ _ ho),hd⟩⟩
  cell:=λy c q=>by
   obtain⟨v,o,ho,hd⟩:=I2.cell y c (S.sub y c q);exact⟨v,o,fe _ _ (dv _ _ ho),hd⟩
  free:=Bk
  fw:=λy c q=>I2.fw y c (S.sub y c q)
  pin:=λp hp=>by
   have xH:p=(D,{ cls:=.type "list",dict:=none,data:=.seq ([]:List Value).toArray }):=by simpa [Xc,b8] using hp
   subst xH;exact⟨fe _ _ Bj,kB,gx,fW D (aeb ..),λv z=>nomatch z⟩
  aO:=(I2.aO.kept dv).kept fe
  len:=by show (v0::cJ ixs σ).length=(x::fns).length;simp[cJ,S.len] }
 -- what stays true of the iterator's objects
 have oH:∀{H':Hp} {dR:List (Addr×Obj)},(∀b∈fp,H' b=none)->(∀p∈dR,p.1=D)->∀b∈fp,mZ Xc dR H' b:=λ{H' dR} hn hp b hb=>
  ⟨hn b hb,aen (aeV (dH b hb) dc),fW b (aek _ hb),.inl (aek _ hb),λy c q=>iM y c q b (aek _ hb),λp q=>by
   have q':p∈dR:=by simpa [Xc,b8] using q
   rw[hp p q'];exact afu (dH b hb)⟩
 have loop:codeAny (model X.prog X.w) X.A (.compLoop (.ListComp elt [⟨.Name x px,iter,[xP],0⟩] scope pos) 0 (.ref it) (.ref D) (compEnvC scope cl C X.env))
  (compPost (model X.prog X.w) X.A X.xe (some (assign (.Name y py) X.env)) (λ_ s'=>SP X pins DD .next s') (.ref D) C) { s2 with heap:=da,toks:=s2.toks+ ([]:List (Str×Value)).length }:=by
  refine sS (λn s'=>∃(i:Nat) (ys:List V) (its:List Value) (nn:Nat) (v0:Option V) (H':Hp),Inv Xc [(D,{ cls:=.type "list",dict:=none,data:=.seq its.toArray nn })] (v0::cJ ixs σ) H' s'/\tn i s'.heap/\(∀b∈fp,H' b=none)/\Vals ys its/\W i n ys H') ?_ m0
   ⟨0,[],[],0,none,H2,start none rfl,T.keep _ _ _ kz λb _ o q=>fe _ _ (dv _ _ q),λb hb=>(f2 b hb).1,.nil,w0⟩
  rintro n s3 ⟨i,ys,its,nn,v0,H3,J3,tW,pT,vv,w3⟩
  have jS:∀p∈([(D,({ cls:=.type "list",dict:=none,data:=.seq its.toArray nn }:Obj))]:List (Addr×Obj)),p.1=D:=λp hp=>by
   have:p=(D,{ cls:=.type "list",dict:=none,data:=.seq its.toArray nn }):=by simpa using hp
   rw[this]
  rcases turn i n ys H3 w3 with ⟨stop,hlen,q⟩|⟨go,hlen,step⟩
  ·-- the end
   refine bh (T.done Xc rfl rfl rfl hc i _ s3 _ H3 _ J3 (oH pT jS) tW stop) λr s4 ⟨hr,J4⟩=>?_
   subst hr;obtain⟨m,hn,_⟩:=J4.loc;generalize BJ:s4.heap=gA;have Bo:Heap.SameBut C s4.heap gA:=by rw[←BJ];exact⟨rfl,λ_ _=>rfl⟩
   obtain⟨gD,nD,_,_,_⟩:=J4.pin (D,{ cls:=.type "list",dict:=none,data:=.seq its.toArray nn }) (by simp[Xc,b8]);have B:=J4.base;have kC:∀b u,b≠C->s4.heap.get? b=some u->gA.get? b=some u:=λb u hb q=>(Bo.2 b hb).trans q
   have ne:∀{b o},s2.heap.get? b=some o->b≠C/\b≠D:=λq=>⟨aen (aeV (oF q) dc),aen (oF q)⟩
   have iD:∀{b o},s2.heap.get? b=some o->b∉fp->b∉D::fp:=λq hx z=>(aea.mp z).elim (ne q).2 hx
   have uu:Un (ik X.stack) fp H2 (upd H3 D (.lst ys)) s2.heap gA:={
    keep:=λb o q n hb hx=>kC b o (ne q).1 (B.keep b o (dv b o q) n hb (iD q hx))
    slot:=λb o q n hb hx=>by
     obtain⟨sl,e⟩:=B.slot b o (dv b o q) n hb (iD q hx);exact⟨sl,kC b _ (ne q).1 e⟩
    free:=λb o q n hx=>by rw[ao (ne q).2];exact B.free b o (dv b o q) n (iD q hx)
    there:=λb o q hx=>by
     obtain⟨o',e⟩:=B.there b o (dv b o q) (iD q hx);exact⟨o',kC b _ (ne q).1 e⟩
    iK:=λb xs q=>by rw[ao (av q kB)];exact B.iK b xs q
    gW:=λb o xs q=>by rw[ao (av q kB)];exact B.gW b o xs q
    iL:=λb ps q=>by
     obtain⟨more,e⟩:=B.iL b ps q;exact⟨more,by rw[ao (av q kB)];exact e⟩ }
   have aO:dS X.prog X.w (upd H3 D (.lst ys)) gA:=λb u e=>by
    by_cases hb:b=D
    ·subst hb;rw[aj]at e;cases e;exact⟨hlen,its,nn,vv,kC _ _ gx gD⟩
    ·rw[ao hb]at e;refine(J4.aO b u e).lK (λc v hc q=>kC c v ?_ q) (λc q=>by rw[ao (av q nD)];exact q) λc xs q=>by rw[ao (av q nD)];exact q
     have fC:H3 C=none:=J4.free;rcases hc with rfl|hc
     ·exact av e fC
     ·exact av hc fC
   have I5:Inv X pins σ (upd H3 D (.lst ys)) s4:=I2.Az (s':=s4) J4.os (by rw[BJ];exact uu) (by rw[BJ];exact aO) J4.bare (λb hb=>⟨(f2 b hb).2.2.2.1,(f2 b hb).2.1,(f2 b hb).2.2.2.2.1,(f2 b hb).2.2.2.2.2⟩);show wpAny _ X.A (assign (.Name y py) X.env (.ref D)) _ _ _
   have cL:X.env.locals≠C:=λz=>by
    have h1:=I2.lt;rw[hD,z]at h1;exact absurd (aeV h1 dc) (aeD _)
   have cC:∀z c,X.env.cells.lookup z=some c->c≠C:=λz c hz e=>by
    obtain⟨v,hv⟩:=I2.cell z c hz;have h1:=hv.lt;rw[hD,e]at h1;exact absurd (aeV h1 dc) (aeD _)
   have Qn:upd H3 D (.lst ys) C=none:=by
    rw[ao (afe gx)];exact J4.free
   refine wpAny_assign_Name (tI I5 hN Qk hy (v:=.ref D) rfl (λs5 I6 F1=>?_) Qm);obtain⟨a5,Qo,Qp⟩:=F1
   have zp:C≠a5:=by
    rcases Qp with e|e
    ·rw[e];exact afe cL
    ·exact afe (cC y a5 e)
   refine⟨m,hn.sameBut Qo zp,λh6 Qq=>?_⟩
   refine⟨_,_,I6.turned (t':=s5.toks) (it:=C) (λb o hb e=>(Qq.2 b hb).trans e) Qn (afe cL) (.inr (by
    have:=I2.sz;rw[hD]at this;exact aep this (ag9 dc))) cC (λp hp z=>?_),q D nD⟩
   have bG:=aeh (I2.pin p hp).1;rw[hD,z]at bG;exact absurd (aeV bG dc) (aeD _)
  ·-- a turn
   refine bh (T.item Xc rfl rfl rfl hc i _ s3 _ H3 _ J3 (oH pT jS) tW go) λr s4 ⟨u,hr,h4⟩=>?_
   subst hr;refine bh h4 λ_ s5 ⟨xv,H5,J5,r5,y5,kD,xr⟩=>?_
   have Bp:=J5.pinned (oH xr jS) (T.obj _ _ kD);have hg:PG Xc (.Name x px) (dE 0):=bN (X:=Xc) (i:=0) S.nd rfl (.inl (e9 S.own)) (.inr (e9 S.own));refine bh (hg _ s5 _ H5 xv u (λ aJ H'=>aJ=some xv::cJ ixs σ/\H'=H5) Bp r5 ⟨rfl,rfl⟩) λ_ s6 ⟨G0,H6,J6,e6,Bq⟩=>?_
   subst e6 Bq;refine bh (ht C { s2 with heap:=dm } H2 (D::fp) _ s6 _ H6 _ J6 (step xv H6 y5)) λbt Hw ⟨BH,ub,q6⟩=>?_
   cases bt with
   |true=>
    refine bh (he C { s2 with heap:=dm } H2 (D::fp) _ Hw _ BH _ ub q6) λyv s7 ⟨y,H7,J7,r7,m',iQ,w7⟩=>?_
    obtain⟨gD,nD,_,_,_⟩:=J7.pin (D,{ cls:=.type "list",dict:=none,data:=.seq its.toArray nn }) (by simp[Xc,b8]);have tX:tn (i+ 1) s7.heap:=T.keep _ _ _ kD λb hb o e=>(J7.pin (b,o) (ad5 _ (ad5 _ (cQ hb e)))).1
    have tY:∀b∈fp,H7 b=none:=λb hb=>by
     obtain⟨o,e,d⟩:=T.obj _ _ kD b hb;exact(J7.pin (b,o) (ad5 _ (ad5 _ (cQ hb e)))).2.1
    have Br:Inv Xc [] (some xv::cJ ixs σ) H7 s7:=J7.fF λp hp=>nomatch hp
    refine agi (hsz:=by rw[ad9,←vv.length];omega) ⟨nn,gD⟩ λh8 Bs tZ=>?_
    obtain⟨n8,g8⟩:=Bs
    have J8:Inv Xc [] (some xv::cJ ixs σ) H7 { s7 with heap:=h8 }:=Br.turned (t':=s7.toks) (it:=D) (λb o hb e=>(tZ.2 b hb).trans e) nD (gx) (.inl (aeb ..))
     (λy c q=>iM y c q D (aeb ..)) (λp hp=>by simp[Xc,b8]at hp)
    refine⟨m',iQ,i+ 1,ys++[y],its++[yv],n8,some xv,H7,J8.fF λp hp=>?_,?_,tY,vv.append (.cons r7 .nil),w7⟩
    ·have:p=(D,{ cls:=.type "list",dict:=none,data:=.seq (its++[yv]).toArray n8 }):=by simpa using hp
     subst this;refine⟨?_,nD,gx,fW D (aeb ..),λv z=>nomatch z⟩;have:its.toArray.push yv=(its++[yv]).toArray:=by simp
     rw[this]at g8;exact g8
    ·exact T.keep _ _ _ tX λb hb o e=>(tZ.2 b (aen (dH b hb))).trans e
   |false=>
    obtain⟨m',iQ,w7⟩:=q6;obtain⟨gD,nD,_,_,_⟩:=ub.pin (D,{ cls:=.type "list",dict:=none,data:=.seq its.toArray nn }) (by simp[Xc,b8]);have tX:tn (i+ 1) Hw.heap:=T.keep _ _ _ kD λb hb o e=>(ub.pin (b,o) (ad5 _ (ad5 _ (cQ hb e)))).1
    have tY:∀b∈fp,BH b=none:=λb hb=>by
     obtain⟨o,e,d⟩:=T.obj _ _ kD b hb;exact(ub.pin (b,o) (ad5 _ (ad5 _ (cQ hb e)))).2.1
    refine⟨m',iQ,i+ 1,ys,its,nn,some xv,BH,ub.fF λp hp=>?_,tX,tY,vv,w7⟩;have:p=(D,{ cls:=.type "list",dict:=none,data:=.seq its.toArray nn }):=by simpa using hp
    subst this;exact⟨gD,nD,gx,fW D (aeb ..),λv z=>nomatch z⟩
 exact agm loop (T.self _ 0 _ _ _ (T.keep _ _ _ kz λb _ o q=>fe _ _ (dv _ _ q)) loop)
end
end L2
namespace L2
open PySem PySem.Spec PyProof.Rows
section
variable {X:Cx}
end
end L2
namespace L2
open PySem PySem.Spec PyProof.Rows
def fA (lo:Int)(n:Nat):List Int:=(List.range n).map λi:Nat=>lo+ (i:Int)
theorem qY (lo:Int)(n:Nat):(fA lo n).length=n:=by unfold fA;rw[ad6,aeR]
theorem Qr {lo:Int}{n i:Nat}(h:i<n):(fA lo n)[i]?=some (lo+ (i:Int)):=by
 unfold fA;rw[aeo,List.getElem?_range h];rfl
theorem BL:∀(zs:List Int) (us:List Value),us.length=zs.length->(∀(i:Nat) (z:Int) (u:Value),zs[i]?=some z->us[i]?=some u->∃t,u=.int z t)->Vals (ak zs) us
 |[],[],_,_=>.nil
 |z::zs,u::us,hl,h=>.cons (h 0 z u rfl rfl) (BL zs us (by simpa using hl) λi z u h1 h2=>h (i+ 1) z u h1 h2)
 |[],_::_,hl,_=>by simp at hl
 |_::_,[],hl,_=>by simp at hl
theorem F2 {lo:Int}{n:Nat}{acc:Array Value}(h:ItemsOf (λi v=>∃t,v=Value.int (lo + ↑i* 1) t) acc n):Vals (ak (fA lo n)) acc.toList:=by
 refine BL _ _ ?_ λi z u h1 h2=>?_
 ·rw[qY,agg];exact h.1
 ·have hi:i<n:=by
   have:=(ad4.mp h1).1;rw[qY]at this;exact this
  rw[Qr hi]at h1;obtain⟨t,e⟩:=h.2 i u (by rw[←afY];exact h2);exact⟨t,by rw[e,←Option.some.inj h1,Int.mul_one]⟩
section
variable {X:Cx} {a b:Expr} {ta:TA} {p p2 pos Kc:Pos}
def Zc (ta:TA):TE:=λ σ H Q=>ta σ H λvs H1=>∃j:Nat,vs=[.int j]/\j<=10000/\∀l,H1 l=none->Q (.ref l) (upd H1 l (.lst (ak (fA 0 j))))
theorem list_range {pins:List (Addr×Obj)}{σ:St}{H:Hp}{s:Shared}{Q:VK}{lo hi:Int}{t u v:Tok}{tk:Nat}(hc:X.calm=true)(I:Inv X pins σ H s)(h1:0<=lo)(h2:lo<=10000)(h3:0<=hi)(h4:hi<=10000)
 (q:∀l,H l=none->Q (.ref l) (upd H l (.lst (ak (fA lo (hi - lo).toNat))))):wpAny (model X.prog X.w) X.A (call (.type "list") [.ref s.heap.objs.size]) (EP X pins σ Q) X.xe { s with heap:=s.heap.push { cls:=.type "range",data:=.fields #[.int lo t,.int hi u,.int 1 v] },toks:=tk }:=by
 have I1:Inv X pins σ H { s with heap:=s.heap.push { cls:=.type "range",data:=.fields #[.int lo t,.int hi u,.int 1 v] },toks:=tk }:=I.kept λb o e=>ad3 _ e
 have hsz:Builtin.Range.rangeSize lo hi 1=(((hi - lo).toNat:Nat):Int):=by rw[rangeSize_one];split <;> omega
 refine call_list_range (n:=(hi - lo).toNat) (I.ok.hd hc) (IsRange.new ..) (small_one (by omega) (by omega) (by omega) (by omega)) hsz (by omega) λh' LV fY c' kp hg hit=>?_
 refine⟨.ref _,_,I1.laid (t':=LV) (o:=.lst (ak (fA lo (hi - lo).toNat))) kp (ad7 _) ⟨?_,fY.toList,c',F2 hit,?_⟩,rfl,q _ (I1.aO.fresh (ad7 _))⟩
 ·rw[aL,qY];exact aep (show (hi - lo).toNat<=10000 by omega) (by decide)
 ·rw[Array.toArray_toList];exact hg
theorem sT (hc:X.calm=true)(Qs:Gl X "list")(Hy:X.mg "list"=none)(hg:Gl X "range")(hm:X.mg "range"=none)(ha:PA X [a] ta)(hs:starEach [a] X.env=[(false,eval a X.env)]:=by rfl)
 (sO:starEach [.Call (.Name "range" p) [a] [] pos] X.env=[(false,eval (.Call (.Name "range" p) [a] [] pos) X.env)]:=by rfl):PE X (.Call (.Name "list" p2) [.Call (.Name "range" p) [a] [] pos] [] Kc) (Zc ta):=by
 intro pins s σ H Q I h;refine afX (ky I Qs Hy boot_list ?_);refine afb ?_ sO rfl;rw[sO];show wpAny _ _ (spliced ((false,eval (.Call (.Name "range" p) [a] [] pos) X.env)::backTo Kc [])) _ _ s;refine aeZ ?_;refine Call_ (ky I hg hm boot_range (afb (bh (ha pos pins s σ H _ I h) λus s1 ⟨vs,H1,I1,r1,q1⟩=>?_) hs rfl));obtain⟨j,e,hj,q⟩:=q1;subst e
 cases r1 with
 |cons r rr=>
  cases rr;obtain⟨t,rfl⟩:=r;refine call_range_1 (afy ?_);exact list_range hc I1 (by omega) (by omega) (by omega) (by omega) (by simpa using q)
end
end L2
namespace L2
open PySem PySem.Spec PyProof.Rows
def oN (H:Hp)(rs:List Addr)(rows:List (List Int)):Prop:=rs.length=rows.length/\∀(i:Nat) (r:Addr) (ns:List Int),rs[i]?=some r->rows[i]?=some ns->H r=some (.lst (ak ns))
def TabAt (H:Hp)(a:Addr)(rows:List (List Int)):Prop:=∃rs:List Addr,H a=some (.lst (rs.map V.ref))/\oN H rs rows
theorem oN.same {H H':Hp}{rs:List Addr}{rows:List (List Int)}(h:oN H rs rows)(s:au H H'):oN H' rs rows:=⟨h.1,λi r ns h1 h2=>s _ _ (h.2 i r ns h1 h2)⟩
theorem TabAt.same {H H':Hp}{a:Addr}{rows:List (List Int)}(h:TabAt H a rows)(s:au H H'):TabAt H' a rows:=by
 obtain⟨rs,h1,h2⟩:=h;exact⟨rs,s _ _ h1,h2.same s⟩
theorem Hz {rs:List Addr}:∀{us:List Value},Vals (rs.map V.ref) us->us=rs.map Value.ref:=by
 induction rs with
 |nil=>intro us r;cases r;rfl
 |cons c rs ih=>
  intro us r
  cases r with
  |cons r0 r1=>cases r0;rw[ih r1];rfl
theorem NX {α:Type} [DecidableEq α]{ns ms:List α}(h:ns.length=ms.length):(List.range ns.length).all (λj=>decide (ns[j]?=ms[j]?))=decide (ns=ms):=by
 rw[aeY,List.all_eq_true,aeB];constructor
 ·intro h1;refine agZ λi=>?_
  by_cases hi:i<ns.length
  ·exact aeI (h1 i (aeQ.mpr hi))
  ·rw[aeM (by omega),aeM (by omega)]
 ·rintro rfl j _;exact aey rfl
section
variable {X:Cx} {pins:List (Addr×Obj)} {σ:St} {H:Hp} {s:Shared} {A:Around}
end
section
variable {X:Cx}
def UM:R2:=λx y H Q=>∃a b ns ms,x=.ref a/\y=.ref b/\H a=some (.lst (ak ns))/\H b=some (.lst (ak ms))/\Q (.bl (!decide (ns=ms))) H
theorem yV (hu:X.A.units<cLine):gT X (compareOp .NotEq) UM:=by
 intro pins s σ H x y v u Q I rx ry h;obtain⟨a,b,ns,ms,rfl,rfl,ha,hb,q⟩:=h;cases rx;cases ry;obtain⟨its,r1,p1,_⟩:=I.list (aI.of ha);obtain⟨dh,r2,p2,_⟩:=I.list (aI.of hb);have l1:=r1.length;have l2:=r2.length;rw[aL]at l1 l2;by_cases hl:ns.length=ms.length
 ·refine SeqAt.RcNeAt.lists (e:=λj=>decide (ns[j]?=ms[j]?)) p1.isList p2.isList (by rw[ad9,ad9];omega) hu (λj h1 h2=>Ew r1 r2 j h1 h2) X.prog X.w X.xe _ ⟨.bl (!decide (ns=ms)),H,I,?_,q⟩;show _=Value.bool (!decide (ns=ms));rw[ad9,←l1,NX hl]
 ·have e:decide (ns=ms)=false:=aeK (λz=>hl (by rw[z]));rw[e]at q;refine SeqAt.RcNeAt.lists_lengths p1.isList p2.isList ?_ hu X.prog X.w X.xe _ ⟨.bl true,H,I,rfl,q⟩;rw[ad9,ad9];simp;omega
theorem BM {K:PySem.W.Frag}(h:X.K=K):Hc X (PJ K):=by subst h;exact bR
theorem yW {K:PySem.W.Frag}(h:X.K=K):Hc X (PL K):=by subst h;exact fL
theorem ja {x y z:Str}{scope:Scope}{c d:Addr}{i j:Nat}(FX:closureFor scope X.env=pure [(y,c),(z,d)])(hy:X.env.cells.lookup y=some c)(hz:X.env.cells.lookup z=some d)(hc:∀q∈scope.names,q.2≠.cell)(hk:scope.kind=.function)
 (hn:∀q∈scope.names,q.2=.local->scope.names.lookup q.1=some .local) (hx:scope.names.lookup x=some .local) (pR:∀q∈scope.names,q.2=.free->q.1=y\/q.1=z) (qW:x≠y/\x≠z/\y≠z) (hi:X.N[i]?=some y) (hj:X.N[j]?=some z)
 (Hm:X.env.kindOf y=some .cell) (Vu:X.env.kindOf z=some .cell) (LC:X.env.scope.kind=.function) (PZ:scope.names.lookup y=some .free) (LW:scope.names.lookup z=some .free):iP X x [y,z] [i,j] scope [(y,c),(z,d)] where
 vX:=FX
 sub:=λw e h=>by
  by_cases e1:w=y
  ·subst e1;have:c=e:=by simpa [aeS] using h
   rw[←this];exact hy
  ·have hb:(w==y)=false:=aef.mpr e1;by_cases e2:w=z
   ·subst e2;have:d=e:=by simpa [aeS,hb] using h
    rw[←this];exact hz
   ·have LX:(w==z)=false:=aef.mpr e2;simp[aeS,hb,LX]at h
 cell:=hc
 kind:=hk
 names:=hn
 own:=hx
 has:=λw h=>by
  have e:w=y\/w=z:=by
   rcases h with h|h
   ·exact pR _ (mI h (.inl rfl) hc) rfl
   ·exact pR _ (mI h (.inr rfl) hc) rfl
  rcases e with rfl|rfl
  ·exact⟨c,by simp[aeS]⟩
  ·have hb:(w==y)=false:=aef.mpr (λq=>qW.2.2 q.symm);exact⟨d,by simp[aeS,hb]⟩
 nd:=by simp[qW.1,qW.2.1,qW.2.2]
 len:=rfl
 at_:=λk w h=>by
  match k,h with
  |0,h=>
   have e:y=w:=by simpa using h
   subst e;exact⟨i,rfl,hi,.inl Hm,c,by simp[aeS],.inl (fx LC Hm PZ)⟩
  |1,h=>
   have e:z=w:=by simpa using h
   subst e;have hb:(z==y)=false:=aef.mpr (λq=>qW.2.2 q.symm);exact⟨j,rfl,hj,.inl Vu,d,by simp[aeS,hb],.inl (fx LC Vu LW)⟩
  |k+ 2,h=>simp at h
end
end L2
namespace L2
open PySem PySem.Spec PyProof.Rows
def cw (H:Hp)(ps:List Addr)(ws:List (List Int)):Prop:=ps.length=ws.length/\∀(i:Nat) (p:Addr) (w:List Int),ps[i]?=some p->ws[i]?=some w->H p=some (.tup (ak w))
def dn (H:Hp)(a:Addr)(ws:List (List Int)):Prop:=∃ps:List Addr,H a=some (.lst (ps.map V.ref))/\cw H ps ws
theorem cw.keep {H H':Hp}{ps:List Addr}{ws:List (List Int)}(h:cw H ps ws)(s:∀p xs,H p=some (.tup xs)->H' p=some (.tup xs)):cw H' ps ws:=⟨h.1,λi p w h1 h2=>s _ _ (h.2 i p w h1 h2)⟩
theorem cw.same {H H':Hp}{ps:List Addr}{ws:List (List Int)}(h:cw H ps ws)(s:au H H'):cw H' ps ws:=h.keep λp xs e=>s _ _ e
theorem dn.same {H H':Hp}{a:Addr}{ws:List (List Int)}(h:dn H a ws)(s:au H H'):dn H' a ws:=by
 obtain⟨ps,h1,h2⟩:=h;exact⟨ps,s _ _ h1,h2.same s⟩
theorem cw.snoc {H:Hp}{ps:List Addr}{ws:List (List Int)}{p:Addr}{w:List Int}(h:cw H ps ws)(hp:H p=some (.tup (ak w))):cw H (ps++[p]) (ws++[w]):=by
 refine⟨by rw[adZ,adZ,h.1];rfl,λi q u h1 h2=>?_⟩;by_cases hi:i<ps.length
 ·rw[aej hi]at h1;rw[aej (by rw[←h.1];exact hi)]at h2;exact h.2 i q u h1 h2
 ·rw[aee (by omega)]at h1;rw[aee (by rw[←h.1];omega)]at h2;rw[ad1.mp (adY h1),ad1.mp (adY h2)];exact hp
section
variable {X:Cx} {pins:List (Addr×Obj)} {σ:St} {H:Hp} {s:Shared} {A:Around}
end
section
variable {X:Cx}
end
end L2
namespace L2
open PySem PySem.Spec PyProof.Rows
theorem uc:∀{ns:List Int} {us:List Value},Vals (ak ns) us->IntsAre us ns
 |[],_,h=>by cases h;exact .nil
 |n::ns,_,h=>by
  cases h with
  |cons h0 h1=>
   obtain⟨t,rfl⟩:=h0;exact .cons n t (uc h1)
theorem NZ (ns:List Int)(k:Int):(ns.any λx=>x==k)=decide (k∈ns):=by
 rw[aeY,ahc,aeB];constructor
 ·rintro ⟨x,hx,e⟩;rw[←eq_of_beq e];exact hx
 ·intro h;exact⟨k,h,beq_self_eq_true k⟩
section
variable {X:Cx}
def Kd:R2:=λx y H Q=>∃k a ns,x=.int k/\y=.ref a/\H a=some (.lst (ak ns))/\Q (.bl (!decide (k∈ns))) H
theorem xQ:gT X (compareOp .NotIn) Kd:=by
 intro pins s σ H x y v u Q I rx ry h;obtain⟨k,a,ns,rfl,rfl,ha,q⟩:=h;obtain⟨t,rfl⟩:=rx;cases ry;obtain⟨its,r,p,_⟩:=I.list (aI.of ha);refine notin_list_ints p.isList (uc r) ?_;rw[NZ];exact⟨.bl _,H,I,rfl,q⟩
def isInt (k:Int):Value->Bool
 |.int z _=>z==k
 |_=>false
def N0:V->List V->Hp->VK->Prop:=λx vs H Q=>∃(a:Addr) (ns:List Int) (k:Int),x=.ref a/\vs=[.int k]/\H a=some (.lst (ak ns))/\k∈ns/\∀i:Nat,ns[i]?=some k->(∀j,j<i->ns[j]?≠some k)->Q (.int i) H
theorem HB {l:List Int}{c:Int}(h:c∈l):∃i:Nat,l[i]?=some c/\∀j,j<i->l[j]?≠some c:=by
 induction l with
 |nil=>cases h
 |cons a l ih=>
  by_cases e:a=c
  ·exact⟨0,by rw[e];rfl,λj hj=>by omega⟩
  ·obtain⟨i,h1,h2⟩:=ih ((aea.mp h).resolve_left (afe e));refine⟨i+ 1,h1,λj hj=>?_⟩
   cases j with
   |zero=>exact λz=>e (Option.some.inj z)
   |succ j=>exact h2 j (by omega)
theorem Aq:Er X "list.index" N0:=by
 intro pins s σ H x vs v us Q I rx rv h;obtain⟨a,ns,k,rfl,rfl,hH,hm,q⟩:=h;cases rx;obtain⟨u,rfl,ru⟩:=rv.one;obtain⟨t,rfl⟩:=ru;obtain⟨z,its,n,r,hl,e⟩:=I.rX hH;rw[aL]at z hl;obtain⟨i,h1,h2⟩:=HB hm;have hi:i<ns.length:=(ad4.mp h1).1
 have at_:∀(m:Nat) (hm:m<its.toArray.size),isInt k its.toArray[m]=decide (ns[m]?=some k):=λm hm=>by
  have iQ:m<its.length:=by simpa using hm
  have hn:ns[m]?=some (ns[m]'(by omega)):=adX (by omega)
  obtain⟨w,hw,t',rfl⟩:=r.get (cI hn)
  have f1:its.toArray[m]=Value.int (ns[m]'(by omega)) t':=by
   rw[ae7];exact Option.some.inj ((adX iQ).symm.trans hw)
  rw[f1,hn];show (ns[m]'(by omega)==k)=_;rw[aeY,agK,aeB];exact⟨λz=>by rw[z],λz=>Option.some.inj z⟩
 have hsz:(sizeLine:Nat)<2 ^ 62:=by decide
 refine agO F.slot_list_index ⟨_,e,rfl⟩ F.entry_list_index (F.args_list_index_2 _ _)
  (SeqAt.list_indexAt a its.toArray n none #[] (.int k t) (isInt k) i (by rw[ad9];omega) (by omega) (by rw[at_];exact aey h1) (λm hm bG=>by rw[at_];exact aeK (h2 m bG))) ⟨e,λy hy=>?_,?_⟩
 ·obtain⟨m,hm,ey⟩:=af4.mp (Array.mem_toList_iff.mpr hy);have iQ:m<its.length:=by simpa using hm
  have hn:ns[m]?=some (ns[m]'(by omega)):=adX (by omega)
  obtain⟨w,hw,t',rfl⟩:=r.get (cI hn)
  have f1:y=Value.int (ns[m]'(by omega)) t':=by
   rw[←ey];exact Option.some.inj ((adX iQ).symm.trans hw)
  rw[f1];exact SeqAt.EqAt.int_int _ t' k t
 ·exact⟨.int i,H,I.tok _,⟨_,rfl⟩,q i h1 h2⟩
end
end L2
namespace L2
open PySem PySem.Spec PyProof.Rows
section
variable {X:Cx} {tg:Expr}
end
end L2
namespace L2
open PySem PySem.Spec PyProof.Rows
def BO (K:PySem.W.Frag)(a:Addr):It:=
 ⟨λi H=>∃xs x,aI K H a xs/\xs[i]?=some x,λi H x H'=>∃p v,H p=none/\(∀ys,aI K H a ys->ys[i]?=some v)/\x=.ref p/\H'=upd H p (.tup [.int (i:Int),v]),λi H=>∃xs,aI K H a xs/\xs.length=i⟩
theorem qZ {h:Heap}{a b:Addr}{o u:Obj}(ha:h.get? a=some o)(hb:h.get? b=some u)(hc:o.cls≠u.cls):a≠b:=λz=>by
 subst z;rw[ha]at hb;exact hc (by rw[Option.some.inj hb])
theorem F3 {P:Program}{w:World}{K:PySem.W.Frag}{elts:List Expr}{x1:Nat}{tp:Pos}(e it a:Addr)(ud:e≠it):
 Turn P w K (.Tuple elts x1 tp) (BO K a) [e,it] e (λi h=>(∃old,IsEnum h e it (i:Int) old)/\h.IsListIter it a i) where
 mem:=by simp
 obj:=λi h st b hb=>by
  obtain⟨⟨old,he⟩,o,ho,hc,hd⟩:=st;rcases aea.mp hb with rfl|hb
  ·exact⟨_,he,λv z=>by cases z⟩
  ·rw[ad1.mp hb];exact⟨o,ho,λv z=>by rw[hd]at z;cases z⟩
 keep:=λi h h' st k=>by
  obtain⟨⟨old,he⟩,hl⟩:=st;exact⟨⟨old,k e (by simp) _ he⟩,hl.at λo e=>k it (by simp) o e⟩
 item:=by
  intro X hP hw hK hc i pins s σ H E I hf st hg;subst hP hw hK;obtain⟨⟨old,he⟩,dF⟩:=st;obtain⟨xs,x,hq,hx⟩:=hg;obtain⟨its,rv,p,hz⟩:=I.list hq;obtain⟨u,hu,ru⟩:=rv.get hx;have hit:=p.isList;obtain⟨o1,vD,gy,zF⟩:=id hit;obtain⟨o2,jB,gU,hd2⟩:=id dF;have BP:a≠it:=qZ vD jB (by rw[gy,gU];decide);have HC:e≠a:=qZ he vD (by rw[gy];show Value.type "enumerate"≠Value.type "list";decide);have D:=Draws.list (prog:=X.prog) (w:=X.w) (A:=X.A.in1) (I.ok.hd hc) it a BP its.toArray;have kF:e<s.heap.objs.size:=aeh he;have sU:i<its.length:=(ad4.mp hu).1;refine En.zE D he ⟨dF,hit⟩ (by simpa using sU) ud (by simp[ud,HC]) λy h' tk Ht ho LY hT hk=>?_
  have ey:u=y:=by
   have h2:its[i]?=some y:=by simpa using Ht
   exact Option.some.inj (hu.symm.trans h2)
  subst ey;refine⟨_,rfl,?_⟩;refine wpAny_letOwnedTupleGo_enum ho λgA dw wm=>?_
  have HD:gA.get? s.heap.objs.size=some { cls:=.type "tuple",data:=.seq #[.int (i:Int) tk,u] }:=(wm.2 _ (afu kF)).trans hT
  have BQ:∀b ob,b∉[e,it]->s.heap.get? b=some ob->gA.get? b=some ob:=λb ob hb q=>by
   have h1:b≠e:=λz=>hb (by simp[z])
   have h2:b≠it:=λz=>hb (by simp[z])
   exact(wm.2 b h1).trans (hk b ob h1 h2 q)
  have xR:=I.aO.fresh (ad7 s.heap.objs.size);refine⟨.ref s.heap.objs.size,_,I.wj (fp:=[e,it]) (a:=s.heap.objs.size) (o:=.tup [.int (i:Int),x]) (h':=gA) (t':=tk+ 1) BQ hf (ad7 _) ?_,rfl,⟨_,x,xR,λys hy=>by rw[I.vS hy hq];exact hx,rfl,rfl⟩,⟨⟨u,?_⟩,?_⟩,λb hb=>?_⟩
  ·exact⟨by show 2<=sizeLine;decide,[.int (i:Int) tk,u],.cons ⟨_,rfl⟩ (.cons ru .nil),_,HD,rfl,_,rfl⟩
  ·rw[show ((i+ 1:Nat):Int)=(i:Int)+ 1 by omega];exact dw
  ·exact(D.frame _ _ _ LY λb hb o q=>(wm.2 b (by
    rcases aea.mp hb with z|hb
    ·rw[z];exact afe ud
    ·rw[ad1.mp hb];exact afe HC)).trans q).1
  ·rw[ao]
   ·exact(hf b hb).1
   ·intro z;subst z;rcases aea.mp hb with z|hb
    ·exact absurd kF (by rw[←z];exact aeD _)
    ·exact absurd (aeh jB) (by rw[←ad1.mp hb];exact aeD _)
 done:=by
  intro X hP hw hK hc i pins s σ H E I hf st hg;subst hP hw hK;obtain⟨⟨old,he⟩,dF⟩:=st;obtain⟨xs,hq,hx⟩:=hg;obtain⟨its,rv,p,hz⟩:=I.list hq;have hit:=p.isList;obtain⟨o1,vD,gy,zF⟩:=id hit;obtain⟨o2,jB,gU,hd2⟩:=id dF;have BP:a≠it:=qZ vD jB (by rw[gy,gU];decide);have D:=Draws.list (prog:=X.prog) (w:=X.w) (A:=X.A.in1) (I.ok.hd hc) it a BP its.toArray;have hsz:its.toArray.size=i:=by rw[ad9,←rv.length];exact hx
  refine wpAny_pyNext_enum_endD D he (by rw[hsz];exact⟨dF,hit⟩) λh' eb=>⟨rfl,I.yS (fp:=[e,it]) (t':=s.toks) (λb o hb q=>eb b o (λz=>hb (by simp[z])) q) hf⟩
 self:=λA i s Q E st h=>by
  obtain⟨⟨old,he⟩,_⟩:=st;have hT:s.TypeIs (.ref e) "enumerate":=⟨_,he,rfl⟩;refine wpAny_pyIter_slot hT agv (ae4 agv hT F.entry_enumerate_iter ?_ (F.args_enumerate_iter_1 _));show wpAny _ _ (ret (.ref e)) _ _ s;exact ad8 ⟨_,rfl,"enumerate",_,hT,agu.lookup,h⟩
section
variable {X:Cx}
def Qt (K:PySem.W.Frag)(ta:TA):TI:=λ σ H R=>ta σ H λvs H1=>∃a,vs=[.ref a]/\(∃xs,aI K H1 a xs)/\R (BO K a) H1
theorem BR {a:Expr}{te:TE}{elts:List Expr}{x1:Nat}{tp p pos:Pos}(hg:Gl X "enumerate")(hm:X.mg "enumerate"=none)(he:PE X a te)(hs:starEach [a] X.env=[(false,eval a X.env)]:=by rfl):
 PI X (.Tuple elts x1 tp) (.Call (.Name "enumerate" p) [a] [] pos) (Qt X.K (AG te A8)):=by
 intro pins s σ H R I h;refine Call_ (ky I hg hm boot_enumerate (afb (bh ((ae he ah hs) pos pins s σ H _ I h) λus s1 ⟨vs,H1,I1,r1,q1⟩=>?_) hs rfl));obtain⟨l,rfl,⟨xs,hq⟩,q⟩:=q1;obtain⟨u,rfl,ru⟩:=vals1 r1;cases ru;obtain⟨its,rv,pl,hz⟩:=I1.list hq;refine call_enumerate_list pl.isList λh' dw hit hsz hk=>?_
 have I3:Inv X pins σ H1 { s1 with heap:=h' }:=I1.kept (t':=s1.toks) hk;have T:=F3 (P:=X.prog) (w:=X.w) (K:=X.K) (elts:=elts) (x1:=x1) (tp:=tp) (s1.heap.objs.size+ 1) s1.heap.objs.size l (Nat.succ_ne_self _);refine T.self _ 0 { s1 with heap:=h' } _ _ ⟨⟨_,dw⟩,hit⟩ ⟨_,_,_,_,H1,rfl,I3,T,⟨⟨_,dw⟩,hit⟩,λb hb=>?_,q⟩;rcases aea.mp hb with e|hb
 ·subst e;exact I1.tM (agh _) (I1.aO.fresh (agh _))
 ·rw[ad1.mp hb];exact I1.tM (ad7 _) (I1.aO.fresh (ad7 _))
end
theorem zG {K:PySem.W.Frag}{a:Addr}{xs:List V}{g:TG}{tb:TS}{D:Ends}{σ:St}{H:Hp}(Pv:Nat->St->Hp->Prop)(h0:Pv 0 σ H)(hl:∀i σ H,i<=xs.length->Pv i σ H->aI K H a xs)
 (hs:∀i v σ H p,xs[i]?=some v->H p=none->Pv i σ H->g (.ref p) σ (upd H p (.tup [.int (i:Int),v])) λ iq H2=>tb { D with nx:=Pv (i+ 1),ct:=Pv (i+ 1),bk:=D.nx } iq H2) (hd:∀ σ H,Pv xs.length σ H->D.nx σ H):
 ∃W:Nat->Nat->St->Hp->Prop,(∃m,W 0 m σ H)/\∀i m σ H,W i m σ H->
  ((BO K a).stop i H/\D.nx σ H)\/((BO K a).go i H/\∃N:St->Hp->Prop,(∀ aJ H',N aJ H'->∃m',m'<m/\W (i+ 1) m' aJ H')/\∀x H',(BO K a).pS i H x H'->g x σ H' λ iq H2=>tb { D with nx:=N,ct:=N,bk:=D.nx } iq H2):=by
 refine⟨λi m σ H=>m=xs.length - i/\i<=xs.length/\Pv i σ H,⟨xs.length,by simp,aeA _,h0⟩,?_⟩;rintro i m σ H ⟨rfl,hi,p⟩;have q:=hl i σ H hi p;by_cases bG:i<xs.length
 ·refine .inr ⟨⟨xs,_,q,adX bG⟩,Pv (i+ 1),λ aJ H' p'=>⟨xs.length - (i+ 1),by omega,rfl,bG,p'⟩,λx H' y=>?_⟩;obtain⟨r,v,hr,hv,rfl,rfl⟩:=y;exact hs i v σ H r (hv xs q) hr p
 ·have e:i=xs.length:=by omega
  subst e;exact .inl ⟨⟨xs,q,rfl⟩,hd σ H p⟩
end L2
namespace L2
open PySem PySem.Spec PyProof.Rows
section
variable {X:Cx}
end
end L2
namespace L2
open PySem PySem.Spec PyProof.Rows
section
variable {X:Cx}
end
end L2
namespace L2
open PySem PySem.Spec PyProof.Rows
namespace En
section
variable {prog:Program} {w:World} {A:Around} {E:Value->Shared->Prop} {s:Shared}
end
end En
end L2
namespace L2
open PySem PySem.Spec PyProof.Rows
namespace En
open AutoSeq1 (wpAny_loadPart')
section
variable {prog:Program} {w:World} {A:Around} {E:Value->Shared->Prop} {s:Shared}
end
end En
section
variable {X:Cx}
end
end L2
namespace L2
open PySem PySem.Spec PyProof.Rows
namespace En
open AutoSeq1 (wpAny_loadPart')
theorem F4 (l:Addr)(items:Array Value)(n:Nat)(dct:Option Addr)(sl:Array (Option Value))(k:Int)(u:Tok)(hk:0<=k)(zH:k<1000):
 Meets (Builtin.«enumerate.__new__» ⟨[.type "enumerate",.ref l],[("start",.int k u)]⟩) (λ_ R s=>s.heap.get? l=some { cls:=.type "list",dict:=dct,data:=.seq items n,slots:=sl }/\
  R (.ok (.ret (.ref (s.heap.push { cls:=.type "list_iterator",data:=.fields #[.ref l,.int 0 0] }).objs.size)))
    { s with heap:=(s.heap.push { cls:=.type "list_iterator",data:=.fields #[.ref l,.int 0 0] }).push { cls:=.type "enumerate",data:=.fields #[.none,.bool false,.ref s.heap.objs.size,rawInt k,.none,.none] } }):=
 .of_wp λprog w A R s h=>by
  obtain⟨hp,g,d,tk,os⟩:=s;obtain⟨hl,h⟩:=h;have Qu:=sub_enumerate;have f1:=AutoSeq1.idx_int;have hL:Heap.IsList (Shared.heap ⟨hp,g,d,tk,os⟩) l items:=⟨_,hl,rfl,n,rfl⟩
  have Bu:(!Builtin.SmallTypes.fitsIndex k)=false:=by
   unfold Builtin.SmallTypes.fitsIndex;simp;omega
  wp_walk using af9 hl
  refine wpAny_stack_any λst=>ad8 ?_
  split
  ·rename_i c _ _ _ _ _;cases (c==Value.type "enumerate")
   ·wp_walk using af9 hl,agz hL
    exact⟨_,rfl,h⟩
   ·wp_walk using af9 hl,agz hL
    exact⟨_,rfl,h⟩
  ·wp_walk using af9 hl,agz hL
   exact⟨_,rfl,h⟩
section
variable {prog:Program} {w:World} {A:Around} {E:Value->Shared->Prop} {s:Shared}
theorem DT {l:Addr}{items:Array Value}{k:Int}{u:Tok}{Q:Value->Shared->Prop}(hL:s.heap.IsList l items)(hk:0<=k)(zH:k<1000)
 (h:∀h',IsEnum h' (s.heap.objs.size+ 1) s.heap.objs.size k .none->h'.IsListIter s.heap.objs.size l 0->(∀b o,s.heap.get? b=some o->h'.get? b=some o)->Q (.ref (s.heap.objs.size+ 1)) { s with heap:=h' }):
 wpAny (model prog w) A (call (.type "enumerate") [.ref l] [("start",.int k u)]) Q E s:=by
 obtain⟨⟨c0,dct,dt,sl⟩,hl,Qv,n,hd⟩:=hL;replace Qv:c0=.type "list":=Qv;replace hd:dt=.seq items n:=hd;subst Qv hd;have ft:=F.called_enumerate;obtain⟨c,tl,adg⟩:=ft.mro;have kH:=ft.made;have Qu:=ft.sub;have hct:=UJ (.ref l) (.int k u);have EA:=UK (.ref l) (.int k u);refine wpAny_call (codeAny_of_tree ?_);show wpAny _ _ (callAny (.type "enumerate") _) _ _ _;refine ad8 ⟨Code.quiet_builtin _ (by decide +kernel),codeAny_builtin F.entry_type_call ?_⟩;rw[Around.under_plain (weight_type_call_type "enumerate" [.ref l] [("start",.int k u)]) (units_type_call_type "enumerate" [.ref l] [("start",.int k u)])];have h1:=ft.notType;have h2:=ft.canCreate
 repeat (any_goals (first|assumption|wp_step))
 refine aha (codeAny_call_builtin ft.plain F.entry_enumerate_new (wpAny_of_eq EA (F4 l items n dct sl k u hk zH prog w A.in1 (wants (λobj bF=>bF.TypeIs obj "enumerate"/\Q obj bF) E) s ⟨hl,?_⟩))) λr bF hr=>?_
 ·have hz:(s.heap.push { cls:=.type "list_iterator",data:=.fields #[.ref l,.int 0 0] }).objs.size=s.heap.objs.size+ 1:=afD ..;show _/\_;rw[hz]
  have he:IsEnum ((s.heap.push { cls:=.type "list_iterator",data:=.fields #[.ref l,.int 0 0] }).push { cls:=.type "enumerate",data:=.fields #[.none,.bool false,.ref s.heap.objs.size,rawInt k,.none,.none] }) (s.heap.objs.size+ 1) s.heap.objs.size k .none:=by
   have q:=aem (s.heap.push { cls:=.type "list_iterator",data:=.fields #[.ref l,.int 0 0] }) (o:={ cls:=.type "enumerate",data:=.fields #[.none,.bool false,.ref s.heap.objs.size,rawInt k,.none,.none] }) rfl;rw[hz]at q;exact q
  exact⟨⟨_,he,rfl⟩,h _ he ⟨_,ad3 _ (aem _ rfl),rfl,rfl⟩ λb o y=>ad3 _ (ad3 _ y)⟩
 cases r with
 |error e=>exact hr
 |ok fl=>
  cases fl with
  |ret obj=>
   obtain⟨hT,hq⟩:=hr;have hli:=ft.init.lookup;have LR:=ft.init.bind obj;have aO:=UL obj (.ref l) (.int k u);have hsi:(λ(_:Around) (R:Result->Shared->Prop) (s:Shared)=>s.TypeIs obj "enumerate"/\R (.ok (.ret .none)) s) A.in1 (wants (λr jR=>r=.none/\Q obj jR) E) bF:=⟨hT,rfl,hq⟩;have gi:=NT (T:="enumerate") (self:=obj) (a:=.ref l) (kw:=[("start",.int k u)]) ft.init.lookup ft.made (by decide)
   repeat (any_goals (first|assumption|wp_step))
   refine aha (codeAny_call_builtin ft.init.plain F.entry_object_init (ft.init.check _ _ _ _ _ _ _ _ hT aO (gi prog w A.in1 _ bF hsi))) λZd jR F5=>?_
   cases Zd with
   |error e=>exact F5
   |ok UN=>
    cases UN with
    |ret r=>
     obtain⟨rfl,hq⟩:=F5
     repeat (any_goals (first|assumption|wp_step))
    |_=>exact F5.elim
  |_=>exact hr.elim
end
end En
def uZ (K:PySem.W.Frag)(a:Addr)(n:Int):It:=
 ⟨λi H=>∃xs x,aI K H a xs/\xs[i]?=some x,λi H x H'=>∃p v,H p=none/\(∀ys,aI K H a ys->ys[i]?=some v)/\x=.ref p/\H'=upd H p (.tup [.int (n+ (i:Int)),v]),λi H=>∃xs,aI K H a xs/\xs.length=i⟩
theorem DU {P:Program}{w:World}{K:PySem.W.Frag}{elts:List Expr}{x1:Nat}{tp:Pos}(e it a:Addr)(n:Int)(ud:e≠it):
 Turn P w K (.Tuple elts x1 tp) (uZ K a n) [e,it] e (λi h=>(∃old,IsEnum h e it (n+ (i:Int)) old)/\h.IsListIter it a i) where
 mem:=by simp
 obj:=λi h st b hb=>by
  obtain⟨⟨old,he⟩,o,ho,hc,hd⟩:=st;rcases aea.mp hb with rfl|hb
  ·exact⟨_,he,λv z=>by cases z⟩
  ·rw[ad1.mp hb];exact⟨o,ho,λv z=>by rw[hd]at z;cases z⟩
 keep:=λi h h' st k=>by
  obtain⟨⟨old,he⟩,hl⟩:=st;exact⟨⟨old,k e (by simp) _ he⟩,hl.at λo e=>k it (by simp) o e⟩
 item:=by
  intro X hP hw hK hc i pins s σ H E I hf st hg;subst hP hw hK;obtain⟨⟨old,he⟩,dF⟩:=st;obtain⟨xs,x,hq,hx⟩:=hg;obtain⟨its,rv,p,hz⟩:=I.list hq;obtain⟨u,hu,ru⟩:=rv.get hx;have hit:=p.isList;obtain⟨o1,vD,gy,zF⟩:=id hit;obtain⟨o2,jB,gU,hd2⟩:=id dF;have BP:a≠it:=qZ vD jB (by rw[gy,gU];decide);have HC:e≠a:=qZ he vD (by rw[gy];show Value.type "enumerate"≠Value.type "list";decide);have D:=Draws.list (prog:=X.prog) (w:=X.w) (A:=X.A.in1) (I.ok.hd hc) it a BP its.toArray;have kF:e<s.heap.objs.size:=aeh he;have sU:i<its.length:=(ad4.mp hu).1;refine En.zE D he ⟨dF,hit⟩ (by simpa using sU) ud (by simp[ud,HC]) λy h' tk Ht ho LY hT hk=>?_
  have ey:u=y:=by
   have h2:its[i]?=some y:=by simpa using Ht
   exact Option.some.inj (hu.symm.trans h2)
  subst ey;refine⟨_,rfl,?_⟩;refine wpAny_letOwnedTupleGo_enum ho λgA dw wm=>?_
  have HD:gA.get? s.heap.objs.size=some { cls:=.type "tuple",data:=.seq #[.int (n+ (i:Int)) tk,u] }:=(wm.2 _ (afu kF)).trans hT
  have BQ:∀b ob,b∉[e,it]->s.heap.get? b=some ob->gA.get? b=some ob:=λb ob hb q=>by
   have h1:b≠e:=λz=>hb (by simp[z])
   have h2:b≠it:=λz=>hb (by simp[z])
   exact(wm.2 b h1).trans (hk b ob h1 h2 q)
  have xR:=I.aO.fresh (ad7 s.heap.objs.size);refine⟨.ref s.heap.objs.size,_,I.wj (fp:=[e,it]) (a:=s.heap.objs.size) (o:=.tup [.int (n+ (i:Int)),x]) (h':=gA) (t':=tk+ 1) BQ hf (ad7 _) ?_,rfl,⟨_,x,xR,λys hy=>by rw[I.vS hy hq];exact hx,rfl,rfl⟩,⟨⟨u,?_⟩,?_⟩,λb hb=>?_⟩
  ·exact⟨by show 2<=sizeLine;decide,[.int (n+ (i:Int)) tk,u],.cons ⟨_,rfl⟩ (.cons ru .nil),_,HD,rfl,_,rfl⟩
  ·rw[show n+ ((i+ 1:Nat):Int)=n+ (i:Int)+ 1 by omega];exact dw
  ·exact(D.frame _ _ _ LY λb hb o q=>(wm.2 b (by
    rcases aea.mp hb with z|hb
    ·rw[z];exact afe ud
    ·rw[ad1.mp hb];exact afe HC)).trans q).1
  ·rw[ao]
   ·exact(hf b hb).1
   ·intro z;subst z;rcases aea.mp hb with z|hb
    ·exact absurd kF (by rw[←z];exact aeD _)
    ·exact absurd (aeh jB) (by rw[←ad1.mp hb];exact aeD _)
 done:=by
  intro X hP hw hK hc i pins s σ H E I hf st hg;subst hP hw hK;obtain⟨⟨old,he⟩,dF⟩:=st;obtain⟨xs,hq,hx⟩:=hg;obtain⟨its,rv,p,hz⟩:=I.list hq;have hit:=p.isList;obtain⟨o1,vD,gy,zF⟩:=id hit;obtain⟨o2,jB,gU,hd2⟩:=id dF;have BP:a≠it:=qZ vD jB (by rw[gy,gU];decide);have D:=Draws.list (prog:=X.prog) (w:=X.w) (A:=X.A.in1) (I.ok.hd hc) it a BP its.toArray;have hsz:its.toArray.size=i:=by rw[ad9,←rv.length];exact hx
  refine wpAny_pyNext_enum_endD D he (by rw[hsz];exact⟨dF,hit⟩) λh' eb=>⟨rfl,I.yS (fp:=[e,it]) (t':=s.toks) (λb o hb q=>eb b o (λz=>hb (by simp[z])) q) hf⟩
 self:=λA i s Q E st h=>by
  obtain⟨⟨old,he⟩,_⟩:=st;have hT:s.TypeIs (.ref e) "enumerate":=⟨_,he,rfl⟩;refine wpAny_pyIter_slot hT agv (ae4 agv hT F.entry_enumerate_iter ?_ (F.args_enumerate_iter_1 _));show wpAny _ _ (ret (.ref e)) _ _ s;exact ad8 ⟨_,rfl,"enumerate",_,hT,agu.lookup,h⟩
section
variable {X:Cx}
end
theorem F6 {K:PySem.W.Frag}{a:Addr}{xs:List V}{n:Int}{g:TG}{tb:TS}{D:Ends}{σ:St}{H:Hp}(Pv:Nat->St->Hp->Prop)(h0:Pv 0 σ H)(hl:∀i σ H,i<=xs.length->Pv i σ H->aI K H a xs)
 (hs:∀i v σ H p,xs[i]?=some v->H p=none->Pv i σ H->g (.ref p) σ (upd H p (.tup [.int (n+ (i:Int)),v])) λ iq H2=>tb { D with nx:=Pv (i+ 1),ct:=Pv (i+ 1),bk:=D.nx } iq H2) (hd:∀ σ H,Pv xs.length σ H->D.nx σ H):
 ∃W:Nat->Nat->St->Hp->Prop,(∃m,W 0 m σ H)/\∀i m σ H,W i m σ H->
  ((uZ K a n).stop i H/\D.nx σ H)\/((uZ K a n).go i H/\∃N:St->Hp->Prop,(∀ aJ H',N aJ H'->∃m',m'<m/\W (i+ 1) m' aJ H')/\∀x H',(uZ K a n).pS i H x H'->g x σ H' λ iq H2=>tb { D with nx:=N,ct:=N,bk:=D.nx } iq H2):=by
 refine⟨λi m σ H=>m=xs.length - i/\i<=xs.length/\Pv i σ H,⟨xs.length,by simp,aeA _,h0⟩,?_⟩;rintro i m σ H ⟨rfl,hi,p⟩;have q:=hl i σ H hi p;by_cases bG:i<xs.length
 ·refine .inr ⟨⟨xs,_,q,adX bG⟩,Pv (i+ 1),λ aJ H' p'=>⟨xs.length - (i+ 1),by omega,rfl,bG,p'⟩,λx H' y=>?_⟩;obtain⟨r,v,hr,hv,rfl,rfl⟩:=y;exact hs i v σ H r (hv xs q) hr p
 ·have e:i=xs.length:=by omega
  subst e;exact .inl ⟨⟨xs,q,rfl⟩,hd σ H p⟩
end L2
namespace L2
open PySem PySem.Spec PyProof.Rows
section
variable {X:Cx}
end
section
variable {X:Cx} {tg:Expr}
end
section
variable {X:Cx} {pins:List (Addr×Obj)} {σ:St} {H:Hp} {s:Shared} {A:Around}
theorem all_true (n:Nat)(f:Nat->Bool)(h:∀j,f j=true):(List.range n).all f=true:=List.all_eq_true.mpr λj _=>h j
end
section
variable {X:Cx}
end
end L2
namespace L2
open PySem PySem.Spec PyProof.Rows
def eM (h:Heap)(d:Addr)(es:Array DictEntry)(ep:Nat):Prop:=∃o,h.get? d=some o/\o.ExactDict/\o.data=.dict es ep
namespace Dk
section
variable {prog:Program} {w:World} {A:Around} {E:Value->Shared->Prop} {s:Shared} {d:Addr} {es:Array DictEntry} {ep:Nat}
theorem typ (hm:eM s.heap d es ep):s.TypeIs (.ref d) "dict":=let ⟨o,ho,hc,_⟩:=hm;⟨o,ho,hc.1⟩
theorem iter {Q:Value->Shared->Prop}(hd:(d==sysModules)=false)(hm:eM s.heap d es ep)
 (hQ:Q (.ref s.heap.objs.size) { s with heap:=s.heap.push { cls:=.type "dict_keyiterator",data:=.fields #[.ref d,.int 0 0,.int es.size 0,.int ep 0] } }):wpAny (model prog w) A (pyIter (.ref d)) Q E s:=by
 have hT:=typ hm;obtain⟨o,ho,hc,jT⟩:=hm;refine wpAny_pyIter_slot hT F.slot_dict_iter (ae4 F.slot_dict_iter hT F.entry_dict_iter ?_ (F.args_dict_iter_1 _));unfold Builtin.«dict.__iter__»;refine adW ?_;unfold Builtin.Dict.dictSlotNone;refine adW (agw hT ?_);show wpAny _ _ (pure (Value.ref d)) _ _ s;refine ad8 ?_;show wpAny _ _ (Builtin.Dict.showsAll d >>=_) _ _ s;unfold Builtin.Dict.showsAll;rw[aed (by rw[hd];exact aeE)];refine adW (ad8 (adW (afP ho jT (adW (agx ho jT ?_)))));exact adW (aeO (ad8 ⟨_,rfl,"dict_keyiterator",_,⟨_,aem _ rfl,rfl⟩,afr.lookup,by simpa [rawInt] using hQ⟩))
theorem item {it:Addr}{i:Nat}{en:DictEntry}{Q:Option Value->Shared->Prop}(hit:s.heap.IsKeyIter it d i es.size ep)(hm:eM s.heap d es ep)(hx:es[i]?=some en)
 (hQ:∀g1,g1.IsKeyIter it d (i+ 1) es.size ep->Heap.SameBut it s.heap g1->Q (some en.key) { s with heap:=g1 }):wpAny (model prog w) A (pyNext (.ref it)) Q E s:=by
 obtain⟨o,ho,hc,hd⟩:=id hit;obtain⟨od,uf,oq,ug⟩:=id hm;unfold pyNext;refine adW (wpAny_attempt (ae0 (name:=Str.ofString "__next__") hit.typeIs afr (ae4 afr hit.typeIs F.entry_dict_keyiterator_next ?_ (F.args_dict_keyiterator_next_1 _))));refine adW (ad8 (adW (adW ?_)))
 first|refine adW (afM hit.typeIs (ad8 ?_))|refine adW (aga hit.typeIs (ad8 ?_))
 refine adW (wpAny_fieldsOf ho hd ?_);have own:Builtin.Dict_items.ownsTuple "dict_keyiterator"=false:=by decide
 simp only[own,Bool.false_eq_true,ago];show wpAny _ _ (if (Value.ref d==Value.none)=true then _ else _) _ _ s;rw[aed (show ¬((Value.ref d==Value.none)=true) from aeE)];refine adW (ad8 (adW (afP uf ug ?_)));rw[aed (by simp)];refine adW (ad8 (adW (agx uf ug ?_)));rw[aed (by simp)];refine ad8 ?_;simp only[show ¬((i:Int)<0) from by omega,ago,aeC,hx];refine adW ?_
 first|refine adW (afM hit.typeIs (ad8 ?_))|refine adW (aga hit.typeIs (ad8 ?_))
 refine adW (wpAny_isOneOf_keyiter hit.typeIs ?_);show wpAny _ _ (setField (.ref it) 1 (rawInt ((i:Int)+ 1)) >>=_) _ _ s;refine adW (ag6 ho hd (by simp) ?_)
 have j1:(s.heap.update it (Obj.mapFields (·.setIfInBounds 1 (rawInt ((i:Int)+ 1))))).IsKeyIter it d (i+ 1) es.size ep:=
  ⟨_,afp _ ho (Obj.isFreed_of_fields (agT hd _)),(Obj.cls_mapFields ..).trans hc,by rw[agT hd];simp[rawInt]⟩
 refine adW (afC ?_);refine adW (wpAny_isOneOf_keyiter (s:={ s with heap:=s.heap.update it (Obj.mapFields (·.setIfInBounds 1 (rawInt ((i:Int)+ 1)))) }) j1.typeIs ?_);show wpAny _ _ (pure en.key) _ _ _;exact ad8 (ad8 ⟨_,rfl,ad8 (hQ _ j1 (afo ..))⟩)
theorem fin {it:Addr}{i:Nat}{Q:Option Value->Shared->Prop}(hh:A.handled=none)(hit:s.heap.IsKeyIter it d i es.size ep)(hm:eM s.heap d es ep)(hx:es[i]?=none)
 (hQ:∀g1,Heap.ExtBut it s.heap g1->Q none { s with heap:=g1 }):wpAny (model prog w) A (pyNext (.ref it)) Q E s:=by
 obtain⟨o,ho,hc,hd⟩:=id hit;obtain⟨od,uf,oq,ug⟩:=id hm;unfold pyNext;refine adW (wpAny_attempt (ae0 (name:=Str.ofString "__next__") hit.typeIs afr (ae4 afr hit.typeIs F.entry_dict_keyiterator_next ?_ (F.args_dict_keyiterator_next_1 _))));refine adW (ad8 (adW (adW ?_)))
 first|refine adW (afM hit.typeIs (ad8 ?_))|refine adW (aga hit.typeIs (ad8 ?_))
 refine adW (wpAny_fieldsOf ho hd ?_);have own:Builtin.Dict_items.ownsTuple "dict_keyiterator"=false:=by decide
 simp only[own,Bool.false_eq_true,ago];show wpAny _ _ (if (Value.ref d==Value.none)=true then _ else _) _ _ s;rw[aed (show ¬((Value.ref d==Value.none)=true) from aeE)];refine adW (ad8 (adW (afP uf ug ?_)));rw[aed (by simp)];refine adW (ad8 (adW (agx uf ug ?_)));rw[aed (by simp)];refine ad8 ?_;simp only[show ¬((i:Int)<0) from by omega,ago,aeC,hx];refine adW ?_
 first|refine adW (afM hit.typeIs (ad8 ?_))|refine adW (aga hit.typeIs (ad8 ?_))
 show wpAny _ _ (setField (.ref it) 0 .none >>=_) _ _ s;refine adW (ag6 ho hd (by simp) ?_);show wpAny _ _ (newExc (.type "StopIteration") [] >>=_) _ _ _;refine adW ?_;simp only[newExc,newTuple];refine adW (aeO ?_ (by size_fits));refine adW (m:=firstArgMember _ _) (wpAny_of_eq (a:=Value.none) (by first|rfl|(simp only[firstArgMember];rfl)) ?_);refine aeO ?_ (by size_fits);simp only[raiseNew];refine adW (wpAny_handled ?_);rw[show A.in1.handled=none from hh];refine adW (ad8 (wpAny_throw ?_));refine adW (wpAny_isInstance (T:="StopIteration") (b:=true) ⟨_,aem _ rfl,rfl⟩ isSubtype_stop ?_);exact ad8 (hQ _ (((afo ..).extBut.push _).push _))
theorem eM.at {h h':Heap}(x:eM h d es ep)(e:∀o,h.get? d=some o->h'.get? d=some o):eM h' d es ep:=let ⟨o,ho,r⟩:=x;⟨o,e _ ho,r⟩
theorem walks (hh:A.handled=none)(I:Addr)(cK:d≠I):Walks prog w A I [I,d] [I] es.size (λi v=>∃en,es[i]?=some en/\v=en.key) (λi h=>h.IsKeyIter I d i es.size ep/\eM h d es ep) where
 sub:=λb hb=>by simp at hb;simp[hb]
 frame:=λ_ _ _ st hk=>⟨st.1.at λo e=>hk I (by simp) o e,eM.at st.2 λo e=>hk d (by simp) o e⟩
 item:=λi s Q E hi st hQ=>by
  refine item (en:=es[i]) st.1 st.2 (by simp[hi]) λg1 j1 b1=>?_
  exact hQ _ g1 s.toks ⟨_,by simp[hi],rfl⟩ ⟨j1,eM.at st.2 λo e=>b1.extBut _ _ cK e⟩ λb o hb e=>b1.extBut b o (λh=>hb (by simp[h])) e
 done:=λs Q E st hQ=>fin hh st.1 st.2 (by simp) λg1 b1=>hQ g1 s.toks λb o hb e=>b1 b o (λh=>hb (by simp[h])) e
 self:=λ_ _ _ _ st hQ=>wpAny_pyIter_keyiter st.1 hQ
theorem hint {Q:Bool->Shared->Prop}(hm:eM s.heap d es ep)(h:Q false s):wpAny (model prog w) A (Builtin.List.listLengthHint (.ref d)) Q E s:=by
 unfold Builtin.List.listLengthHint;refine adW (wpAny_specialOf (typ hm) F.slot_dict_len.lookup ?_);generalize Vv:("dict.__len__":String)=id0
 wp_delta
 rw[show splitId id0=some ("dict","__len__") from by subst Vv;decide +kernel];subst Vv;refine adW (wpAny_isInstance (T:="dict") (b:=true) (typ hm) (by rw[isSubtype_type];kernel_rfl) ?_);refine wpAny_ite_split (λkI=>absurd kI (by decide)) (λ_=>?_);refine wpAny_ite_split (λ_=>?_) (λkI=>absurd (by decide +kernel) kI);exact adW (agN (T:="dict") (typ hm) (ad8 h))
theorem extend {R:Result->Shared->Prop}(hh:A.handled=none)(hd:(d==sysModules)=false)(hm:eM s.heap d es ep)(hlen:es.size<=sizeLine)(S:Addr)(res:Value)(c₀:Nat)(hS:s.heap.get? S=some { cls:=.type "list",data:=.seq #[] c₀ })
 (hR:∀g1 tk fY c',(∀b o,b≠S->s.heap.get? b=some o->g1.get? b=some o)->g1.get? S=some { cls:=.type "list",dict:=none,data:=.seq fY c',slots:=#[] }->
  ItemsOf (λi v=>∃en,es[i]?=some en/\v=en.key) fY es.size->R (.ok (.ret res)) { s with heap:=g1,toks:=tk }):
 wpAny (model prog w) A.in1 (Builtin.List.listExtendWith (.ref S) (.ref d) res)
  (λfin s'=>match fin with|.done f=>R (.ok f) s'|.again c'=>c'.quiet=true/\codeAny (model prog w) A c' R s') (λe s'=>R (.error e) s') s:=by
 have HF:S≠d:=λe=>by
  obtain⟨o,ho,hc,jT⟩:=hm;rw[←e,hS]at ho;rw[←Option.some.inj ho]at jT;cases jT
 have xS:d<s.heap.objs.size:=by obtain⟨o,ho,_⟩:=hm;exact aeh ho
 have Vw:S≠s.heap.objs.size:=aen (aeh hS);have hdI:d≠s.heap.objs.size:=aen xS;unfold Builtin.List.listExtendWith;refine adW (agN (T:="dict") (typ hm) ?_);have h1:Builtin.List.listSameRef (.ref S) (.ref d)=false:=by simp[Builtin.List.listSameRef,HF]
 have h2:(Value.type "dict"==Value.type "list")=false:=by decide
 have h3:(Value.type "dict"==Value.type "tuple")=false:=by decide
 simp only[h1,h2,h3,Bool.or_false,Bool.false_eq_true,ago];refine adW (iter hd hm ?_);have vE:eM (s.heap.push { cls:=.type "dict_keyiterator",data:=.fields #[.ref d,.int 0 0,.int es.size 0,.int ep 0] }) d es ep:=eM.at hm λo e=>ad3 _ e
 refine adW (afC (hint (s:={ s with heap:=s.heap.push { cls:=.type "dict_keyiterator",data:=.fields #[.ref d,.int 0 0,.int es.size 0,.int ep 0] } }) vE ?_));have Qw:=ad3 { cls:=.type "dict_keyiterator",data:=.fields #[.ref d,.int 0 0,.int es.size 0,.int ep 0] } hS;have Vx:(s.heap.push { cls:=.type "dict_keyiterator",data:=.fields #[.ref d,.int 0 0,.int es.size 0,.int ep 0] }).IsKeyIter s.heap.objs.size d 0 es.size ep:=⟨_,aem _ rfl,rfl,rfl⟩;have kp:∀b o,s.heap.get? b=some o->(s.heap.push { cls:=.type "dict_keyiterator",data:=.fields #[.ref d,.int 0 0,.int es.size 0,.int ep 0] }).get? b=some o:=λb o e=>ad3 _ e
 generalize s.heap.push { cls:=.type "dict_keyiterator",data:=.fields #[.ref d,.int 0 0,.int es.size 0,.int ep 0] }=EB at Qw Vx kp vE ⊢;refine wpAny_ite_split (λ_=>?_) (λkI=>absurd (by decide +kernel) kI);refine adW (wpAny_rule ?_);refine adW ?_;show wpAny _ _ (updateSeq S (·.push .none) >>=λ_=>updateSeq S (·.pop)) _ _ _;refine adW (wpAny_updateSeq Qw rfl ?_);have LZ:=afp (Obj.mapSeq (·.push Value.none)) Qw rfl;refine wpAny_updateSeq (hz:=by seq_fits) LZ rfl ?_;have hS3:=afp (Obj.mapSeq (·.pop)) LZ rfl;have EC:∀b o,b≠S->EB.get? b=some o->((EB.update S (Obj.mapSeq (·.push Value.none))).update S (Obj.mapSeq (·.pop))).get? b=some o:=λb o hb e=>(afR _ _ (afe hb)).trans ((afR _ _ (afe hb)).trans e)
 have W:=(walks (prog:=prog) (w:=w) (A:=A.in1) (d:=d) (es:=es) (ep:=ep) hh s.heap.objs.size hdI).toS
 have hSf:S∉[s.heap.objs.size,d]:=λwq=>by
  rcases aea.mp wq with e|wq
  ·exact Vw e
  ·exact HF (ad1.mp wq)
 refine ad8 ⟨plainId_quiet F.plain_extend_loop _,?_⟩;refine codeAny_extend_loopS W hlen S hSf res es.size 0 _ #[] _ rfl (aeA _) ⟨Vx.at λo e=>EC _ o (afe Vw) e,eM.at vE λo e=>EC _ o (afe HF) e⟩ hS3 (ItemsOf.nil _) λs' fY c' Vy zI uh=>?_
 rw[Moved.eq_with Vy];refine hR s'.heap s'.toks fY c' (λb o hb e=>Vy.heap b o (λwq=>?_) (EC b o hb (kp b o e))) zI uh;rcases aea.mp wq with e'|wq
 ·exact hb e'
 ·exact absurd (aeh e) (by rw[ad1.mp wq];exact aeD _)
theorem init {R:Result->Shared->Prop}(hh:A.handled=none)(hd:(d==sysModules)=false)(hm:eM s.heap d es ep)(hlen:es.size<=sizeLine)(S:Addr)(hS:s.heap.get? S=some { cls:=.type "list",data:=.seq #[] })
 (hR:∀g1 tk fY c',(∀b o,b≠S->s.heap.get? b=some o->g1.get? b=some o)->g1.get? S=some { cls:=.type "list",dict:=none,data:=.seq fY c',slots:=#[] }->
  ItemsOf (λi v=>∃en,es[i]?=some en/\v=en.key) fY es.size->R (.ok (.ret .none)) { s with heap:=g1,toks:=tk }):
 wpAny (model prog w) A.in1 (Builtin.«list.__init__» ⟨[.ref S,.ref d],[]⟩)
  (λfin s'=>match fin with|.done f=>R (.ok f) s'|.again c'=>c'.quiet=true/\codeAny (model prog w) A c' R s') (λe s'=>R (.error e) s') s:=by
 have HF:d≠S:=λe=>by
  obtain⟨o,ho,hc,jT⟩:=hm;rw[e,hS]at ho;rw[←Option.some.inj ho]at jT;cases jT
 show wpAny _ _ (do let old ←Builtin.List.listItems (.ref S);Builtin.List.listUpdate (.ref S) (λ_=>#[]);letGo old.toList.reverse;Builtin.List.listExtendWith (.ref S) (.ref d) .none) _ _ s;refine adW ?_;unfold Builtin.List.listItems;refine adW (wpAny_seqItems hS rfl (ad8 ?_));show wpAny _ _ (updateSeq S (λ_=>#[]) >>=λ_=>letGo (#[]:Array Value).toList.reverse >>=λ_=>Builtin.List.listExtendWith (.ref S) (.ref d) .none) _ _ s;refine adW (wpAny_updateSeq hS rfl ?_);have LZ:=afp (Obj.mapSeq (λ_=>(#[]:Array Value))) hS rfl;have EC:∀b o,b≠S->s.heap.get? b=some o->(s.heap.update S (Obj.mapSeq (λ_=>(#[]:Array Value)))).get? b=some o:=λb o hb e=>(afR _ _ (afe hb)).trans e
 refine adW (wpAny_letGo ?_);refine extend (s:={ s with heap:=s.heap.update S (Obj.mapSeq (λ_=>(#[]:Array Value))) }) hh hd (eM.at hm λo e=>EC _ o HF e) hlen S .none _ LZ λg1 tk fY c' hk zI uh=>?_
 exact hR g1 tk fY c' (λb o hb e=>hk b o hb (EC b o hb e)) zI uh
theorem HG {Q:Value->Shared->Prop}(hh:A.handled=none)(hd:(d==sysModules)=false)(hm:eM s.heap d es ep)(hlen:es.size<=sizeLine)
 (hQ:∀g1 tk fY c',(∀b o,s.heap.get? b=some o->g1.get? b=some o)->g1.get? s.heap.objs.size=some { cls:=.type "list",dict:=none,data:=.seq fY c',slots:=#[] }->ItemsOf (λi v=>∃en,es[i]?=some en/\v=en.key) fY es.size->Q (.ref s.heap.objs.size) { s with heap:=g1,toks:=tk }):
 wpAny (model prog w) A (call (.type "list") [.ref d]) Q E s:=by
 refine callType_codes (Q₁:=λobj bF=>obj=.ref s.heap.objs.size/\bF={ s with heap:=s.heap.push { cls:=.type "list",data:=.seq #[] } }) F.called_list (F.typeCall_list_1 _) F.entry_list_init (code_list_new _ ⟨rfl,rfl⟩) λobj bF da=>?_
 obtain⟨rfl,rfl⟩:=da;have hS:(s.heap.push { cls:=.type "list",data:=.seq #[] }).get? s.heap.objs.size=some { cls:=.type "list",data:=.seq #[] }:=aem _ rfl;refine⟨⟨_,hS,rfl⟩,F.args_list_init_2 _ _,init (A:=A.in1) (s:={ s with heap:=s.heap.push { cls:=.type "list",data:=.seq #[] } }) hh hd (eM.at hm λo e=>ad3 _ e) hlen _ hS λg1 tk fY c' hk zI uh=>?_⟩;exact⟨rfl,hQ g1 tk fY c' (λb o e=>hk b o (aen (aeh e)) (ad3 _ e)) zI uh⟩
end
end Dk
section
variable {X:Cx}
end
end L2
namespace L2
open PySem PySem.Spec PyProof.Rows
open Sem (wp)
open AutoSeq1 (wpAny_loadPart')
section
variable {prog:Program} {w:World} {A:Around} {E:Value->Shared->Prop} {s:Shared}
end
section
variable {X:Cx} {a b:Expr} {ta:TA} {p p2 pos Kc:Pos}
end
section
variable {X:Cx}
end
end L2
namespace L2
open PySem PySem.Spec PyProof.Rows
structure MDef (K:PySem.W.Frag) (C:Addr) (x q:Str) (st:Stmt) (ps:List Str) (f:Addr) (fd:FuncData):Prop where
 F:Bg K x q st f fd
 m:Meth K C x f
 b:Binds K fd ps []
section
variable {X:Cx}
end
section
variable {X:Cx} {o e:Expr} {es:List Expr} {to:TE} {t:TA} {name:Str} {apos cN:Pos} {T id:String} {r:V->List V->Hp->VK->Prop}
end
end L2
namespace L2
open PySem PySem.Spec PyProof.Rows
section
variable {prog:Program} {w:World} {A:Around} {E:Value->Shared->Prop}
end
section
variable {X:Cx}
end
end L2
namespace L2
open PySem PySem.Spec PyProof.Rows
open PySem.W (KasT kas_rev kas_asc kas_desc kas_tail3 kas_descPart kas_count kas_place kas_bin kas_sort kas_ask kas_ask_eq kas_runs kas_st kas_range kas_item kas_item_eq)
namespace Srt
def Gd {α:Type}(P:Nat->Nat->Prop)(f:Nat->Nat->Bool):KasT α->(α->Prop)->Prop
 |.ret a,Q=>Q a
 |.ask i j k,Q=>P i j/\Gd P f (k (f i j)) Q
section
variable {n:Nat} {key:Nat->Int}
structure Pr (n:Nat) (p:Array Nat):Prop where
 sz:p.size=n
 lt:∀i,i<n->p.getD i 0<n
 inj:∀i j,i<n->j<n->p.getD i 0=p.getD j 0->i=j
def Up (key:Nat->Int)(p:Array Nat)(m:Nat):Prop:=∀i j,i<j->j<m->key (p.getD i 0)<key (p.getD j 0)
def Dn (key:Nat->Int)(p:Array Nat)(m:Nat):Prop:=∀i j,i<j->j<m->key (p.getD j 0)<key (p.getD i 0)
def Ok (n:Nat)(key:Nat->Int)(i j:Nat):Prop:=i<n/\j<n/\key i≠key j
def Inj (n:Nat)(key:Nat->Int):Prop:=∀i j,i<n->j<n->key i=key j->i=j
abbrev ask (key:Nat->Int) (i j:Nat):Bool:=decide (key i<key j)
end
end Srt
end L2
namespace L2
open PySem PySem.Spec PyProof.Rows
open AutoSeq1 (wpAny_loadPart')
open PySem.W (KasT kas_sort kas_ask kas_ask_eq kas_runs kas_st kas_range kas_item kas_item_eq)
namespace Srt
section
variable {prog:Program} {w:World} {A:Around} {E:Value->Shared->Prop} {s:Shared}
end
end Srt
end L2
namespace L2
open PySem PySem.Spec PyProof.Rows
section
variable {X:Cx}
end
end L2
namespace L2
open PySem PySem.Spec PyProof.Rows
theorem HJ:typeLookup (.type "list") "keys"=pure none:=by rw[typeLookup_type,builtinLookup_eq_fast];kernel_rfl
theorem Ke {prog:Program}{w:World}{A:Around}{E:Value->Shared->Prop}{s:Shared}{a:Addr}{xs:Array Value}{k:Nat}{Q:Option Value->Shared->Prop}
 (hx:s.heap.get? a=some { cls:=.type "list",data:=.seq xs k }) (hA:A.handled=none)
 (h:∀h' tk,(∀b o,s.heap.get? b=some o->h'.get? b=some o)->Q none { s with heap:=h',toks:=tk }):
 wpAny (model prog w) A (getAttr? (.ref a) "keys") Q E s:=by
 obtain⟨hp,g,d,tk,os⟩:=s;have hT:∀LV,(⟨hp,g,d,LV,os⟩:Shared).TypeIs (.ref a) "list":=λ_=>⟨_,hx,rfl⟩
 have f1:=sub_AttributeError;have f3:=F.slot_list_getattribute.lookup;have f4:=F.slot_list_getattribute.bind (.ref a);have f5:=am_list_getattr_none;unfold getAttr? getAttrBy? getAttrBy
 repeat (any_goals (first|assumption|exact hT _|((with_reducible show wpAny _ _ (call (Value.builtin "list.__getattribute__") _ _) _ _ _);refine agO F.slot_list_getattribute (hT _) am_entry_list_getattribute (F.args_list_getattribute_2 _ _) (meets_getattribute_miss_list a xs k #[] "keys" _ HJ (by decide +kernel) (by decide +kernel)) ⟨hx,hA,λh' LV e Vz=>?_⟩)|wp_step))
 obtain⟨t',u',he⟩:=Vz.there;show wpAny _ _ (getattributeRaised _ _ _ _ _ _ _) _ _ _;unfold getattributeRaised
 repeat (any_goals (first|assumption|wp_step))
 exact h _ _ Vz.keeps
theorem q9:entryFor table "dict.update.loop"=some Builtin.«dict.update.loop»:=entryFor_of_fast (by kernel_rfl)
theorem jb:plainId "dict.update.loop"=true:=by decide +kernel
section
variable {prog:Program} {w:World} {K:Type} [DecidableEq K] {knd:KeyKind prog w K} {A:Around} {E:Value->Shared->Prop}
theorem F7 {R:Result->Shared->Prop}{it l d:Addr}{its:List Value}{rs:List (K×Value)}(hh:A.in1.handled=none)(cK:l≠it)(Qx:d≠it)(VA:d≠l)(hlen:its.length=rs.length)(hsz:rs.length<=sizeLine):
 ∀(k i:Nat) (s:Shared),its.length - i=k->i<=its.length->s.heap.IsListIter it l i->s.heap.IsList l its.toArray->s.heap.DictOf knd d (merged [] (rs.take i))->
 (∀(j:Nat) (u:Value) (kv:K×Value),its[j]?=some u->rs[j]?=some kv->∃p key,u=.ref p/\p≠d/\p≠it/\knd.is kv.1 key=true/\IsTup s.heap p #[key,kv.2])->
 (∀h' tk,h'.DictOf knd d (merged [] rs)->(∀b o,b≠d->b≠it->s.heap.get? b=some o->h'.get? b=some o)->R (.ok (.ret .none)) { s with heap:=h',toks:=tk })->
 codeAny (model prog w) A (.builtin "dict.update.loop" ⟨[.ref d,.ref it,rawInt (i:Int),.none],[]⟩) R s:=by
 have W:=Walks.list (prog:=prog) (w:=w) (A:=A.in1) hh it l cK its.toArray;have xT:∀b:Addr,b≠it->b∉[it]:=λb hb z=>hb (ad1.mp z)
 intro k
 induction k with
 |zero=>
  intro i s hk hi hit hl hd hp hR;have ei:i=its.length:=by omega
  refine codeAny_builtin q9 ?_;rw[Around.under_plainId jb _];show wpAny _ A.in1 (pyNext (.ref it) >>=_) _ _ s;refine adW (W.done s _ _ ⟨by rw[ad9,←ei];exact hit,hl⟩ λh' tk kp=>?_);show wpAny _ A.in1 (Builtin.Dict.addKeywords d [] >>=_) _ _ _;refine adW (ad8 (ad8 ?_));rw[afx (by omega)]at hd;obtain⟨od,x1,x2,h1,h2⟩:=id hd;refine hR h' tk ⟨od,x1,x2,kp _ _ (xT _ Qx) h1,h2⟩ λb o _ hb e=>kp b o (xT _ hb) e
 |succ k ih=>
  intro i s hk hi hit hl hd hp hR;have bG:i<its.length:=by omega
  refine codeAny_builtin q9 ?_;rw[Around.under_plainId jb _];show wpAny _ A.in1 (pyNext (.ref it) >>=_) _ _ s;refine adW (W.item i s _ _ (by rw[ad9];exact bG) ⟨hit,hl⟩ λv h' tk hP kz kp=>?_);obtain⟨Ze,iu⟩:=kz;have HK:its[i]?=some v:=by simpa using hP
  have gB:rs[i]?=some (rs[i]'(by omega)):=adX (by omega)
  generalize rs[i]'(by omega)=kv at gB;obtain⟨p,key,rfl,pd,pi,rV,o,ho,hc,n,jT⟩:=hp i v kv HK gB;have jB:=kp _ _ (xT _ pi) ho;have BU:rs.take (i+ 1)=rs.take i++[kv]:=by rw[af0,gB];rfl
  have hd2:h'.DictOf knd d (merged [] (rs.take i)):=by
   obtain⟨od,x1,x2,h1,h2⟩:=id hd;exact⟨od,x1,x2,kp _ _ (xT _ Qx) h1,h2⟩
  have Hy:=merged_length_le ([]:List (K×Value)) (rs.take i)
  have Zf:(merged [] (rs.take i)).length<=sizeLine:=by
   rw[aeG,afG]at Hy;omega
  show wpAny _ A.in1 (holding [Value.ref p] _ >>=_) _ _ _;refine adW (afC ?_);refine adW (wpAny_tryCatch ?_);show wpAny _ A.in1 (typeOf (Value.ref p) >>=_) _ _ _;refine adW (agN (T:="tuple") ⟨o,jB,hc⟩ ?_);rw[ael (by decide)];refine adW (wpAny_seqItems jB jT ?_);refine ad8 ?_;show wpAny _ A.in1 (holding [key,kv.2] (dictSet d key kv.2)) _ _ _;refine afC (wpAny_dictSet_pairs rV hd2 (λg HL sb=>?_) Zf);have kg:∀b o,b≠d->h'.get? b=some o->g.get? b=some o:=λb o hb e=>(sb.2 b hb).trans e
  refine ad8 ⟨plainId_quiet jb _,?_⟩;have UO:rawInt ((i:Int)+ 1)=rawInt (((i+ 1:Nat)):Int):=rfl;rw[UO];refine ih (i+ 1) _ (by omega) (by omega) (Ze.at λo e=>kg _ _ (afe Qx) e) (iu.at λo e=>kg _ _ (afe VA) e) ?_ ?_ ?_
  ·rw[BU,merged,agb];exact HL
  ·intro j u sV h1 h2;obtain⟨p,key,rfl,a1,a2,a3,o,b1,b2⟩:=hp j u sV h1 h2;exact⟨p,key,rfl,a1,a2,a3,o,kg _ _ a1 (kp _ _ (xT _ a2) b1),b2⟩
  ·intro h2 Qy Qz QB;exact hR h2 Qy Qz λb o hb hi e=>QB b o hb hi (kg _ _ hb (kp _ _ (xT _ hi) e))
theorem yX {s:Shared}{Q:Value->Shared->Prop}{l:Addr}{its:List Value}{c:Nat}{rs:List (K×Value)}(hh:A.handled=none)(hlen:its.length=rs.length)(hsz:rs.length<=sizeLine)
 (hl:s.heap.get? l=some { cls:=.type "list",data:=.seq its.toArray c })
 (hp:∀(j:Nat) (u:Value) (kv:K×Value),its[j]?=some u->rs[j]?=some kv->∃p key,u=.ref p/\knd.is kv.1 key=true/\IsTup s.heap p #[key,kv.2])
 (hQ:∀h' tk,h'.DictOf knd s.heap.objs.size (merged [] rs)->(∀b o,s.heap.get? b=some o->h'.get? b=some o)->Q (.ref s.heap.objs.size) { s with heap:=h',toks:=tk }):
 wpAny (model prog w) A (call (.type "dict") [.ref l]) Q E s:=by
 refine callType_codes (Q₁:=λobj bF=>obj=.ref s.heap.objs.size/\bF={ s with heap:=s.heap.push { cls:=.type "dict",data:=.dict #[] } }) F.kt_called_dict (F.kt_typeCall_dict_1 _) F.entry_dict_init (kt_code_dict_new _ ⟨rfl,rfl⟩) ?_;rintro obj bF ⟨rfl,rfl⟩;have F8:(s.heap.push { cls:=.type "dict",data:=.dict #[] }).DictOf knd s.heap.objs.size []:=Heap.DictOf.new s.heap;have iu:(s.heap.push { cls:=.type "dict",data:=.dict #[] }).get? l=some { cls:=.type "list",data:=.seq its.toArray c }:=ad3 _ hl;have L0:=aeh hl;refine⟨F8.typeIs,F.args_dict_init_2 _ _,?_⟩;unfold Builtin.«dict.__init__»;refine adW ?_;unfold Builtin.Dict.selfAndRest;refine adW (agw F8.typeIs ?_);show wpAny _ _ (pure (s.heap.objs.size,[Value.ref l])) _ _ _;refine ad8 ?_;show wpAny _ _ (Builtin.Dict.updateFrom "dict.__init__" s.heap.objs.size (.ref l) [] .none) _ _ _;unfold Builtin.Dict.updateFrom;refine adW (agN (T:="list") ⟨_,iu,rfl⟩ ?_);rw[ael (by decide)];refine adW (Ke iu hh λg tk kp=>?_);rw[ael (by decide)];refine adW (wpAny_rule ?_);have xU:=kp _ _ iu;refine adW (agz (items:=its.toArray) ⟨_,xU,rfl,c,rfl⟩ ?_)
 have QC:s.heap.objs.size<g.objs.size:=by
  obtain⟨od,_,_,h1,_⟩:=id F8;exact aeh (kp _ _ h1)
 have hlg:=aeh xU;have k2:∀b o,s.heap.get? b=some o->(g.push { cls:=.type "list_iterator",data:=.fields #[.ref l,.int 0 0] }).get? b=some o:=λb o e=>ad3 _ (kp _ _ (ad3 _ e))
 refine ad8 ⟨plainId_quiet jb _,F7 (knd:=knd) (A:=A.in1) (rs:=rs) (its:=its) (l:=l) (it:=g.objs.size) hh (aen hlg) (aen QC) (afu L0) hlen hsz its.length 0 _ rfl (aeA _) ?_ ⟨_,ad3 _ xU,rfl,c,rfl⟩ ?_ ?_ ?_⟩
 ·exact⟨_,aem _ rfl,rfl,rfl⟩
 ·obtain⟨od,x1,x2,h1,h2⟩:=id F8;exact⟨od,x1,x2,ad3 _ (kp _ _ h1),h2⟩
 ·intro j u kv h1 h2;obtain⟨p,key,rfl,a3,o,b1,b2⟩:=hp j u kv h1 h2;have dU:=aeh b1;exact⟨p,key,rfl,aen dU,aen (aeV dU QC),a3,o,k2 _ _ b1,b2⟩
 ·intro h' Qy Qz QB;refine⟨rfl,hQ h' Qy Qz λb o e=>?_⟩;have hb:=aeh e;exact QB b o (aen hb) (aen (aeV hb QC)) (k2 _ _ e)
end
section
variable {X:Cx}
def QD:List V->Hp->VK->Prop:=λxs H Q=>∃(l:Addr) (ps:List Addr) (kvs:List (Key×V)),xs=[.ref l]/\H l=some (.lst (ps.map V.ref))/\ps.length=kvs.length/\
 (∀(i:Nat) (p:Addr) (kv:Key×V),ps[i]?=some p->kvs[i]?=some kv->H p=some (.tup [kV kv.1,kv.2]))/\∀d,H d=none->Q (.ref d) (upd H d (.dK (mP [] kvs)))
theorem BV {P:Program}{w:World}{H:Hp}{h:Heap}(ok:dS P w H h):∀(ps:List Addr) (kvs:List (Key×V)),ps.length=kvs.length->(∀(i:Nat) (p:Addr) (kv:Key×V),ps[i]?=some p->kvs[i]?=some kv->H p=some (.tup [kV kv.1,kv.2]))->
 ∃rs:List (Key×Value),KV kvs rs/\∀(j:Nat) (p:Addr) (kv:Key×Value),ps[j]?=some p->rs[j]?=some kv->∃key,(b9 P w).is kv.1 key=true/\IsTup h p #[key,kv.2]
 |[],[],_,_=>⟨[],.nil,λj p kv h1=>by simp at h1⟩
 |p::ps,kv::kvs,hl,hp=>by
  obtain⟨rs,r1,r2⟩:=BV ok ps kvs (by simpa using hl) λi q kv h1 h2=>hp (i+ 1) q kv (by simpa using h1) (by simpa using h2)
  obtain⟨-,its,rv,ht⟩:=ok p _ (hp 0 p kv rfl rfl);obtain⟨u,v,rfl,ru,rv2⟩:=vals2 rv;refine⟨(kv.1,v)::rs,.cons ⟨rfl,rv2⟩ r1,λj q sV h1 h2=>?_⟩
  cases j with
  |zero=>
   obtain rfl:p=q:=by simpa using h1
   obtain rfl:(kv.1,v)=sV:=by simpa using h2
   exact⟨u,nO ru,ht⟩
  |succ j=>exact r2 j q sV (by simpa using h1) (by simpa using h2)
theorem iE (hc:X.calm=true):mH X (.type "dict") QD:=by
 intro pins s σ H xs us Q I r h;obtain⟨l,ps,kvs,rfl,hl,hlen,hp,q⟩:=h;obtain⟨u,rfl,rx⟩:=vals1 r;cases rx;obtain⟨hz,its,c,rv,hg⟩:=I.aO l _ hl;obtain rfl:=Hz rv;obtain⟨rs,r1,r2⟩:=BV I.aO ps kvs hlen hp;have L1:kvs.length=rs.length:=r1.length;rw[ad6]at hz;refine yX (knd:=b9 X.prog X.w) (rs:=rs) (I.ok.hd hc) (by rw[ad6];omega) (by omega) hg (λj u kv h1 h2=>?_) λg tk dd kp=>?_
 ·rw[aeo]at h1
  cases hy:ps[j]? with
  |none=>rw[hy]at h1;cases h1
  |some p=>
   rw[hy]at h1;obtain⟨key,k1,k2⟩:=r2 j p kv hy h2;exact⟨p,key,(Option.some.inj h1).symm,k1,k2⟩
 ·have hm:KV (mP [] kvs) (merged [] rs):=KV.merge r1 .nil;have Hy:=sR kvs [];rw[afG]at Hy;exact⟨.ref s.heap.objs.size,_,I.laid (t':=tk) kp (ad7 _) (xK (by omega) (aef.mpr (afe (aen I.big))) hm dd),rfl,q _ (I.aO.fresh (ad7 _))⟩
end
end L2
namespace L2
open PySem PySem.Spec PyProof.Rows
section
variable {X:Cx} {pins:List (Addr×Obj)} {σ:St} {H:Hp} {s:Shared} {d:Addr} {u:HO} {o:Obj}
theorem Inv.freeze (I:Inv X pins σ H s)(e:H d=some u)(mu:vp (some u))(ho:s.heap.get? d=some o):Inv X pins σ (upd H d (.fB o u)) s:=by
 have HM:vp (H d):=by rw[e];exact mu
 have yG:∀c y,H c=some (.own y)->c≠d:=λc y r z=>by subst z;rw[r]at HM;exact HM
 have lL:∀c xs,H c=some (.tup xs)->c≠d:=λc xs r z=>by subst z;rw[r]at HM;exact HM
 have new:cG X.prog X.w (upd H d (.fB o u)) s.heap d u:=(I.aO d u e).lK (λc v _ r=>r) (λc r=>by rw[ao (yG _ _ r)];exact r) λc xs r=>by rw[ao (lL _ _ r)];exact r
 exact oi (t':=s.toks) I HM (Heap.SameBut.refl _ _) ⟨o,ho⟩ ⟨ho,new⟩
theorem Inv.F9 (I:Inv X pins σ H s)(e:H d=some (.fB o u))(mu:vp (some u))(h0:∀o u,X.vR d≠some (.fB o u)):Inv X pins σ (upd H d u) s:=by
 have nn:∀b,H b=none->b≠d:=λb n z=>by rw[z,e]at n;cases n
 have yG:∀c y,H c=some (.own y)->c≠d:=λc y r z=>by rw[z,e]at r;cases r
 have lL:∀c xs,H c=some (.tup xs)->c≠d:=λc xs r z=>by rw[z,e]at r;cases r
 refine⟨I.ok,I.os,I.bare,⟨I.base.keep,I.base.slot,λb ob q n hx=>?_,I.base.there,λb xs q=>?_,λb ob v q=>?_,λb ps q=>?_⟩,I.loc,I.cell,?_,λx c q=>?_,λp hp=>?_,λb v q=>?_,I.len⟩
 ·have h1:=I.base.free b ob q n hx;rw[ao (nn b h1)];exact h1
 ·have h1:=I.base.iK b xs q;rw[ao (lL _ _ h1)];exact h1
 ·have h1:=I.base.gW b ob v q;rw[ao (λz=>h0 ob v (by rw[←z];exact q))];exact h1
 ·obtain⟨m,h1⟩:=I.base.iL b ps q;refine⟨m,?_⟩;rw[ao (λz=>by rw[z,e]at h1;cases h1)];exact h1
 ·rw[ao (nn _ I.free)];exact I.free
 ·have h1:=I.fw x c q;rw[ao (nn _ h1)];exact h1
 ·obtain⟨a,b,c⟩:=I.pin p hp;refine⟨a,?_,c⟩;rw[ao (nn _ b)];exact b
 ·have st:∀b v,cG X.prog X.w H s.heap b v->cG X.prog X.w (upd H d u) s.heap b v:=λb v q=>q.lK (λc v _ r=>r) (λc r=>by rw[ao (yG _ _ r)];exact r) λc xs r=>by rw[ao (lL _ _ r)];exact r
  by_cases hb:b=d
  ·subst hb;rw[aj]at q;obtain rfl:=Option.some.inj q;exact st _ _ (I.aO _ _ e).2
  ·rw[ao hb]at q;exact st _ _ (I.aO b v q)
theorem Inv.Kf (I:Inv X pins σ H s)(e:H d=some u)(mu:vp (some u)):∀o u,X.vR d≠some (.fB o u):=λo v q=>by
 rw[I.base.gW d o v q]at e;cases e;exact mu
def UQ (t:TS):TS:=λD σ H=>∃(d:Addr) (u:HO),H d=some u/\vp (some u)/\
 t { nx:=λ aJ H'=>∃o,H' d=some (.fB o u)/\D.nx aJ (upd H' d u),rt:=λv H'=>∃o,H' d=some (.fB o u)/\D.rt v (upd H' d u),
     bk:=λ aJ H'=>∃o,H' d=some (.fB o u)/\D.bk aJ (upd H' d u),ct:=λ aJ H'=>∃o,H' d=some (.fB o u)/\D.ct aJ (upd H' d u) } σ H
theorem N1 {st:Stmt}{t:TS}(h:PS X st t):PS X st (UQ t):=by
 intro pins s σ H D I q;obtain⟨d,u,e,mu,q⟩:=q;have h0:=I.Kf e mu;refine bh (h pins s σ H _ I q) λf s' p=>?_
 cases f with
 |next=>obtain⟨aJ,H',I',o,e',q'⟩:=p;exact⟨aJ,_,I'.F9 e' mu h0,q'⟩
 |brk=>obtain⟨aJ,H',I',o,e',q'⟩:=p;exact⟨aJ,_,I'.F9 e' mu h0,q'⟩
 |cont=>obtain⟨aJ,H',I',o,e',q'⟩:=p;exact⟨aJ,_,I'.F9 e' mu h0,q'⟩
 |ret v=>obtain⟨v',aJ,H',I',r,o,e',q'⟩:=p;exact⟨v',aJ,_,I'.F9 e' mu h0,r,q'⟩
end
section
variable {X:Cx} {tg:Expr}
theorem N2 {P:Program}{w:World}{k:Key}{v:Value}(h:(b9 P w).is k v=true):RelV (kV k) v:=by
 cases k with
 |inl i=>
  have h':Value.isInt i v=true:=h
  cases v with
  |int j t=>simp[Value.isInt]at h';subst h';exact⟨_,rfl⟩
  |_=>simp[Value.isInt]at h'
 |inr x=>
  have h':Value.isStrOf x v=true:=h
  cases v with
  |str j t=>simp[Value.isStrOf]at h';subst h';exact⟨_,rfl⟩
  |_=>simp[Value.isStrOf]at h'
end
end L2
namespace L2
open PySem PySem.Spec PyProof.Rows
inductive Dt where
 |i (n:Int)|s (l:List Nat)|n|b (k:Bool)|t (xs:List Dt)|l (xs:List Dt)
inductive ck (H:Hp):Nat->V->Dt->Prop where
 |i {k:Nat} {n:Int}:ck H k (.int n) (.i n)
 |s {k:Nat} {l:List Nat}:ck H k (.str (tx l)) (.s l)
 |n {k:Nat}:ck H k .non .n
 |b {k:Nat} {c:Bool}:ck H k (.bl c) (.b c)
 |t {k:Nat} {a:Addr} {vs:List V} {ds:List Dt}:H a=some (.tup vs)->vs.length=ds.length->(∀(j:Nat) (v:V) (d:Dt),vs[j]?=some v->ds[j]?=some d->ck H k v d)->ck H (k+ 1) (.ref a) (.t ds)
 |l {k:Nat} {a:Addr} {vs:List V} {ds:List Dt}:H a=some (.lst vs)->vs.length=ds.length->(∀(j:Nat) (v:V) (d:Dt),vs[j]?=some v->ds[j]?=some d->ck H k v d)->ck H (k+ 1) (.ref a) (.l ds)
theorem ck.keep {H H':Hp}(ht:∀a xs,H a=some (.tup xs)->H' a=some (.tup xs))(hl:∀a xs,H a=some (.lst xs)->H' a=some (.lst xs)){k:Nat}{v:V}{d:Dt}(h:ck H k v d):ck H' k v d:=by
 induction h with
 |i=>exact .i
 |s=>exact .s
 |n=>exact .n
 |b=>exact .b
 |t a b c ih=>exact .t (ht _ _ a) b ih
 |l a b c ih=>exact .l (hl _ _ a) b ih
theorem ck.same {H H':Hp}(s:au H H'){k:Nat}{v:V}{d:Dt}(h:ck H k v d):ck H' k v d:=h.keep (λ_ _ e=>s _ _ e) (λ_ _ e=>s _ _ e)
theorem ck.up {H:Hp}{k:Nat}{v:V}{d:Dt}(h:ck H k v d):ck H (k+ 1) v d:=by
 induction h with
 |i=>exact .i
 |s=>exact .s
 |n=>exact .n
 |b=>exact .b
 |t a b c ih=>exact .t a b ih
 |l a b c ih=>exact .l a b ih
theorem ck.le {H:Hp}{k m:Nat}{v:V}{d:Dt}(h:ck H k v d)(hm:k<=m):ck H m v d:=by
 obtain⟨j,rfl⟩:=Nat.exists_eq_add_of_le hm;clear hm
 induction j with
 |zero=>exact h
 |succ j ih=>exact ih.up
section
variable {X:Cx} {pins:List (Addr×Obj)} {σ:St} {H:Hp} {s:Shared}
theorem Kg (x:Str):(x==x)=true:=by simp
theorem vF {A:Around}(n:Int)(t t':Tok):SeqAt.EqAt A s (.int n t) (.int n t') true:=by
 have:=SeqAt.EqAt.int_int (A:=A) (s:=s) n t n t';rw[beq_self_eq_true]at this;exact this
theorem vG {A:Around}(x:Str)(t t':Tok):SeqAt.EqAt A s (.str x t) (.str x t') true:=by
 have:=SeqAt.EqAt.str_str (A:=A) (s:=s) x t x t';rw[Kg]at this;exact this
theorem UR (I:Inv X pins σ H s):∀(k:Nat) (A:Around) (v v':V) (u u':Value) (d:Dt),A.units+ k<cLine->ck H k v d->ck H k v' d->RelV v u->RelV v' u'->SeqAt.EqAt A s u u' true:=by
 intro k
 induction k with
 |zero=>
  intro A v v' u u' d hu h h' r r'
  cases h with
  | @i n=>cases h' with|i=>?_
          obtain⟨t,rfl⟩:=r;obtain⟨t',rfl⟩:=r';exact vF _ _ _
  | @s l=>cases h' with|s=>?_
          obtain⟨t,rfl⟩:=r;obtain⟨t',rfl⟩:=r';exact vG _ _ _
  |n=>cases h' with|n=>?_
      cases r;cases r';exact SeqAt.EqAt.same _
  | @b c=>cases h' with|b=>?_
          cases r;cases r';exact SeqAt.EqAt.same _
 |succ k ih=>
  intro A v v' u u' d hu h h' r r'
  cases h with
  | @i _ n=>cases h' with|i=>?_
            obtain⟨t,rfl⟩:=r;obtain⟨t',rfl⟩:=r';exact vF _ _ _
  | @s _ l=>cases h' with|s=>?_
            obtain⟨t,rfl⟩:=r;obtain⟨t',rfl⟩:=r';exact vG _ _ _
  |n=>cases h' with|n=>?_
      cases r;cases r';exact SeqAt.EqAt.same _
  | @b _ c=>cases h' with|b=>?_
            cases r;cases r';exact SeqAt.EqAt.same _
  | @t _ a vs ds h1 h2 h3=>
    cases h' with
    | @t _ b ui _ g1 g2 g3=>
      cases r;cases r';by_cases e:a=b
      ·subst e;exact SeqAt.EqAt.same _
      ·refine SeqAt.EqAt.of_refs e ?_;obtain⟨its,r1,p1,_⟩:=I.tuple (bV.of h1);obtain⟨dh,r2,p2,_⟩:=I.tuple (bV.of g1);have l1:=r1.length;have l2:=r2.length;have:=SeqAt.RcAt.tuples (A:=A) (e:=λ_=>true) (show s.heap.IsTuple a its.toArray from p1) (show s.heap.IsTuple b dh.toArray from p2) (by omega) (λj q1 q2=>?_)
       ·rw[ad9,ad9,←l1,←l2,h2,g2,all_true _ _ λ_=>rfl]at this;simpa using this
       ·have k1:j<its.length:=by simpa using q1
        have k2:j<dh.length:=by simpa using q2
        have d1:vs[j]?=some (vs[j]'(by omega)):=adX (by omega)
        have d2:ui[j]?=some (ui[j]'(by omega)):=adX (by omega)
        have d3:ds[j]?=some (ds[j]'(by omega)):=adX (by omega)
        obtain⟨w1,e1,z1⟩:=r1.get d1;obtain⟨w2,e2,z2⟩:=r2.get d2;have f1:its.toArray[j]=w1:=by rw[ae7];exact Option.some.inj ((adX k1).symm.trans e1)
        have f2:dh.toArray[j]=w2:=by rw[ae7];exact Option.some.inj ((adX k2).symm.trans e2)
        rw[f1,f2];exact ih _ _ _ _ _ _ (show A.units+ 1+ k<cLine by omega) (h3 j _ _ d1 d3) (g3 j _ _ d2 d3) z1 z2
  | @l _ a vs ds h1 h2 h3=>
    cases h' with
    | @l _ b ui _ g1 g2 g3=>
      cases r;cases r';by_cases e:a=b
      ·subst e;exact SeqAt.EqAt.same _
      ·refine SeqAt.EqAt.of_refs e ?_;obtain⟨its,r1,p1,_⟩:=I.list (aI.of h1);obtain⟨dh,r2,p2,_⟩:=I.list (aI.of g1);have l1:=r1.length;have l2:=r2.length;have:=SeqAt.RcAt.lists (A:=A) (e:=λ_=>true) p1.isList p2.isList (by simp;omega) (by omega) (λj q1 q2=>?_)
       ·rw[all_true _ _ λ_=>rfl]at this;exact this
       ·have k1:j<its.length:=by simpa using q1
        have k2:j<dh.length:=by simpa using q2
        have d1:vs[j]?=some (vs[j]'(by omega)):=adX (by omega)
        have d2:ui[j]?=some (ui[j]'(by omega)):=adX (by omega)
        have d3:ds[j]?=some (ds[j]'(by omega)):=adX (by omega)
        obtain⟨w1,e1,z1⟩:=r1.get d1;obtain⟨w2,e2,z2⟩:=r2.get d2;have f1:its.toArray[j]=w1:=by rw[ae7];exact Option.some.inj ((adX k1).symm.trans e1)
        have f2:dh.toArray[j]=w2:=by rw[ae7];exact Option.some.inj ((adX k2).symm.trans e2)
        rw[f1,f2];exact ih _ _ _ _ _ _ (show A.units+ 1+ k<cLine by omega) (h3 j _ _ d1 d3) (g3 j _ _ d2 d3) z1 z2
end
section
variable {X:Cx}
theorem BW {pins:List (Addr×Obj)}{σ:St}{H:Hp}{s:Shared}(I:Inv X pins σ H s){k:Nat}{A:Around}(hu:A.units+ k<cLine){vs ui:List V}{its dh:List Value}{ds:List Dt}(r1:Vals vs its)(r2:Vals ui dh)(h2:vs.length=ds.length)(g2:ui.length=ds.length)
 (h3:∀(j:Nat) (v:V) (d:Dt),vs[j]?=some v->ds[j]?=some d->ck H k v d) (g3:∀(j:Nat) (v:V) (d:Dt),ui[j]?=some v->ds[j]?=some d->ck H k v d) (j:Nat) (q1:j<its.toArray.size) (q2:j<dh.toArray.size):SeqAt.EqAt A s its.toArray[j] dh.toArray[j] true:=by
 have l1:=r1.length;have l2:=r2.length;have k1:j<its.length:=by simpa using q1
 have k2:j<dh.length:=by simpa using q2
 have d1:vs[j]?=some (vs[j]'(by omega)):=adX (by omega)
 have d2:ui[j]?=some (ui[j]'(by omega)):=adX (by omega)
 have d3:ds[j]?=some (ds[j]'(by omega)):=adX (by omega)
 obtain⟨w1,e1,z1⟩:=r1.get d1;obtain⟨w2,e2,z2⟩:=r2.get d2;have f1:its.toArray[j]=w1:=by rw[ae7];exact Option.some.inj ((adX k1).symm.trans e1)
 have f2:dh.toArray[j]=w2:=by rw[ae7];exact Option.some.inj ((adX k2).symm.trans e2)
 rw[f1,f2];exact UR I k _ _ _ _ _ _ hu (h3 j _ _ d1 d3) (g3 j _ _ d2 d3) z1 z2
def UU:R2:=λx y H Q=>∃d a b,x=.ref a/\y=.ref b/\ck H 8 x d/\ck H 8 y d/\Q (.bl true) H
theorem N3 (hu:X.A.units+ 8<cLine):gT X (compareOp .Eq) UU:=by
 intro pins s σ H x y v u Q I rx ry h;obtain⟨d,a,b,rfl,rfl,h,h',q⟩:=h;cases rx;cases ry
 cases h with
 |t h1 h2 h3=>
  cases h' with
  |t g1 g2 g3=>
   obtain⟨its,r1,p1,_⟩:=I.tuple (bV.of h1);obtain⟨dh,r2,p2,_⟩:=I.tuple (bV.of g1);have l1:=r1.length;have l2:=r2.length;refine SeqAt.eq_tupleAt (e:=λ_=>true) (show s.heap.IsTuple a _ from p1) (show s.heap.IsTuple b _ from p2) (by omega) (λj q1 q2=>BW I (k:=7) (by show X.A.units+ 1+ 7<cLine;omega) r1 r2 h2 g2 h3 g3 j q1 q2) ⟨.bl true,H,I,?_,q⟩;show _=Value.bool true;rw[ad9,ad9,←l1,←l2,h2,g2,all_true _ _ λ_=>rfl];simp
 |l h1 h2 h3=>
  cases h' with
  |l g1 g2 g3=>
   obtain⟨its,r1,p1,_⟩:=I.list (aI.of h1);obtain⟨dh,r2,p2,_⟩:=I.list (aI.of g1);have l1:=r1.length;have l2:=r2.length;refine SeqAt.eq_listAt (e:=λ_=>true) p1.isList p2.isList (by simp;omega) (by omega) (λj q1 q2=>BW I (k:=7) (by show X.A.units+ 1+ 7<cLine;omega) r1 r2 h2 g2 h3 g3 j q1 q2) ⟨.bl true,H,I,?_,q⟩;show _=Value.bool true;rw[all_true _ _ λ_=>rfl]
end
end L2
namespace L2
open PySem PySem.Spec PyProof.Rows
def nI (l:List Nat):List Int:=l.map λn:Nat=>(n:Int)
theorem cX (l:List Nat):(nI l).length=l.length:=ad6 ..
theorem rh {l:List Nat}{i n:Nat}(h:l[i]?=some n):(nI l)[i]?=some (n:Int):=by unfold nI;rw[aeo,h];rfl
theorem kJ (a b:List Nat):nI (a++b)=nI a++nI b:=aeu ..
theorem QF (l:List Nat)(i n:Nat):(nI l).set i (n:Int)=nI (l.set i n):=by unfold nI;rw[List.map_set]
structure RS where
 L:Nat
 made:Nat
 rows:List Dt
 ways:List (List (Int×Nat))
 gaps:List (List Int)
 bI:List Nat
 called:List (List Nat)
 bf:List Nat
def wK (l:List (Int×Nat)):List (Key×V):=l.map λp=>(Sum.inl p.1,V.int p.2)
def gK (l:List Int):List (Key×V):=l.map λs=>(Sum.inl s,V.bl true)
def eU (l:List (Int×Nat))(s:Int):Option Nat:=(l.find? λp=>decide (p.1=s)).map (·.2)
def jx (l:List (Int×Nat))(s:Int)(r:Nat):List (Int×Nat):=if (l.any λp=>decide (p.1=s))=true then l.map λp=>if p.1=s then (p.1,r) else p else l++[(s,r)]
theorem BX (l:List (Int×Nat)):(wK l).length=l.length:=ad6 ..
theorem QG (l:List Int):(gK l).length=l.length:=ad6 ..
theorem QH (a b:Int):decide ((Sum.inl a:Key)=Sum.inl b)=decide (a=b):=by
 rw[aeY,aeB,aeB];exact⟨Sum.inl.inj,afh Sum.inl⟩
theorem mQ (s:Int):∀l:List (Int×Nat),bD (wK l) (Sum.inl s)=(eU l s).map λr:Nat=>V.int (r:Int)
 |[]=>rfl
 |p::l=>by
  have ih:=mQ s l;by_cases h:p.1=s
  ·have e:bD (wK (p::l)) (Sum.inl s)=some (V.int p.2):=cW (p:=(Sum.inl p.1,V.int p.2)) (by rw[h]);have e2:eU (p::l) s=some p.2:=by unfold eU;rw[afS (by exact aey h)];rfl
   rw[e,e2];rfl
  ·have e:bD (wK (p::l)) (Sum.inl s)=bD (wK l) (Sum.inl s):=cP (p:=(Sum.inl p.1,V.int p.2)) (λz=>h (Sum.inl.inj z));have e2:eU (p::l) s=eU l s:=by unfold eU;rw[afT (by simpa using h)]
   rw[e,e2,ih]
theorem BZ (l:List (Int×Nat))(s:Int)(r:Nat):putK (wK l) (Sum.inl s) (.int r)=wK (jx l s r):=by
 unfold putK jx
 have ha:((wK l).any λkv=>decide (kv.1=Sum.inl s))=l.any λp=>decide (p.1=s):=by
  unfold wK;rw[List.any_map]
  congr 1
  funext p
  exact QH _ _
 rw[ha];split
 ·unfold wK;rw[ae8,ae8];refine afd λp _=>?_
  show (if (Sum.inl p.1:Key)=Sum.inl s then _ else _)=_;by_cases h:p.1=s
  ·simp only[Function.comp,h,agH]
  ·have:¬(Sum.inl p.1:Key)=Sum.inl s:=λz=>h (Sum.inl.inj z)
   simp only[Function.comp,h,this,ago]
 ·unfold wK;rw[aeu];rfl
theorem Kh (l:List (Int×Nat))(s t:Int)(r:Nat):eU (jx l s r) t=if t=s then some r else eU l t:=by
 have h1:=mQ t (jx l s r);rw[←BZ,BE,mQ]at h1
 have inj:∀a b:Option Nat,(a.map λr:Nat=>V.int (r:Int))=(b.map λr:Nat=>V.int (r:Int))->a=b:=λa b h=>by
  cases a <;> cases b <;> simp at h ⊢
  omega
 apply inj;rw[←h1];by_cases e:t=s
 ·rw[ael e,ael (by rw[e])];rfl
 ·rw[aed e,aed (λz=>e (Sum.inl.inj z))]
theorem Ki (l:List (Int×Nat))(s:Int)(r:Nat):(jx l s r).length<=l.length+ 1:=by
 unfold jx;split
 ·rw[ad6];omega
 ·rw[adZ];exact ad7 _
theorem N4 (l:List Int)(s:Int):eT (gK l) (Sum.inl s)=gK (l.filter λx=>decide (x≠s)):=by
 unfold eT gK;rw[List.filter_map]
 congr 1
 refine List.filter_congr λx _=>?_
 show decide ((Sum.inl x:Key)≠Sum.inl s)=decide (x≠s);rw[aeY,aeB,aeB];exact⟨λh z=>h (afh Sum.inl z),λh z=>h (Sum.inl.inj z)⟩
theorem HN (s:Int):∀l:List Int,bD (gK l) (Sum.inl s)=if s∈l then some (V.bl true) else none
 |[]=>rfl
 |x::l=>by
  by_cases h:x=s
  ·rw[ael (by rw[h];exact aeb)];exact cW (p:=(Sum.inl x,V.bl true)) (by rw[h])
  ·have e:bD (gK (x::l)) (Sum.inl s)=bD (gK l) (Sum.inl s):=cP (p:=(Sum.inl x,V.bl true)) (λz=>h (Sum.inl.inj z));rw[e,HN s l];have:(s∈x::l)↔s∈l:=⟨λz=>(aea.mp z).elim (λq=>absurd q.symm h) id,aek _⟩;simp only[this]
theorem zJ:∀(more acc:List (Key×V)),((acc++more).map (·.1)).Nodup->mP acc more=acc++more
 |[],acc,_=>(aeP _).symm
 |p::more,acc,h=>by
  have hn:bD acc p.1=none:=by
   unfold bD;rw[List.find?_eq_none.mpr ?_];rfl;intro q hq;rw[aeB];intro e;rw[aeu,aeX]at h;exact h.2.2 q.1 (afA hq) p.1 (afA aeb) e
  show mP (putK acc p.1 p.2) more=_;rw[BF _ hn,zJ more (acc++[(p.1,p.2)]) (by rw[ae6];exact h),ae6];rfl
structure RA where
 dx:Addr
 aR:Addr
 aW:Addr
 aG:Addr
 aE:Addr
 aC:Addr
 aN:Addr
 rs:List Addr
 ws:List Addr
 gs:List Addr
 cs:List Addr
def fE (L made:Int)(a:RA):List (Str×V):=[("letters",.int L),("made",.int made),("rows",.ref a.aR),("ways",.ref a.aW),("gaps",.ref a.aG),("elders",.ref a.aE),("called",.ref a.aC),("went",.ref a.aN)]
theorem HP (L m n:Int)(a:RA):bW "made" (.int n) (fE L m a)=fE L n a:=by
 have h:¬(("letters":Str)="made"):=by decide +kernel
 unfold fE;simp only[bW,aed h,agH]
theorem Ga (L m:Int)(a:RA):(fE L m a).lookup ("letters":Str)=some (.int L):=by kernel_rfl
theorem yZ (L m:Int)(a:RA):(fE L m a).lookup ("made":Str)=some (.int m):=by kernel_rfl
theorem y3 (L m:Int)(a:RA):(fE L m a).lookup ("rows":Str)=some (.ref a.aR):=by kernel_rfl
theorem jc (L m:Int)(a:RA):(fE L m a).lookup ("ways":Str)=some (.ref a.aW):=by kernel_rfl
theorem y4 (L m:Int)(a:RA):(fE L m a).lookup ("gaps":Str)=some (.ref a.aG):=by kernel_rfl
theorem ke (L m:Int)(a:RA):(fE L m a).lookup ("elders":Str)=some (.ref a.aE):=by kernel_rfl
theorem pU (L m:Int)(a:RA):(fE L m a).lookup ("called":Str)=some (.ref a.aC):=by kernel_rfl
theorem u0 (L m:Int)(a:RA):(fE L m a).lookup ("went":Str)=some (.ref a.aN):=by kernel_rfl
theorem cz (L m:Int)(a:RA){x:Str}(h:x∉(["letters","made","rows","ways","gaps","elders","called","went"]:List Str)):(fE L m a).lookup x=none:=by
 simp only[aea,aeT,agj,not_or]at h;obtain⟨h1,h2,h3,h4,h5,h6,h7,h8⟩:=h;unfold fE;simp only[List.lookup,aef.mpr h1,aef.mpr h2,aef.mpr h3,aef.mpr h4,aef.mpr h5,aef.mpr h6,aef.mpr h7,aef.mpr h8]
theorem eP {f:Str}{v:V}:∀{fs:List (Str×V)},fs.lookup f=none->bW f v fs=fs++[(f,v)]
 |[],_=>rfl
 |(g,x)::r,h=>by
  by_cases e:g=f
  ·have hb:(f==g)=true:=agK.mpr e.symm;simp[List.lookup,hb]at h
  ·have hb:(f==g)=false:=aef.mpr (afe e);simp only[List.lookup,hb]at h;show (if g=f then _ else _)=_;rw[aed e,eP h];rfl
inductive mR:Dt->Prop where
 |i {n:Int}:mR (.i n)
 |s {l:List Nat}:mR (.s l)
 |t {ds:List Dt}:ds.length<=100000->(∀d∈ds,mR d)->mR (.t ds)
theorem ck.jd {H H':Hp}(ht:∀a xs,H a=some (.tup xs)->H' a=some (.tup xs)){k:Nat}{v:V}{d:Dt}(h:ck H k v d)(hn:mR d):ck H' k v d:=by
 induction h with
 |i=>exact .i
 |s=>exact .s
 |n=>exact .n
 |b=>exact .b
 |t a b c ih=>
  cases hn with
  |t _ hh=>exact .t (ht _ _ a) b λj v d h1 h2=>ih j v d h1 h2 (hh d (adY h2))
 |l a b c ih=>cases hn
def Each {α:Type}(R:Addr->α->Prop)(ps:List Addr)(xs:List α):Prop:=ps.length=xs.length/\∀(i:Nat) (p:Addr) (x:α),ps[i]?=some p->xs[i]?=some x->R p x
theorem Each.imp {α:Type}{R R':Addr->α->Prop}{ps:List Addr}{xs:List α}(h:Each R ps xs)(f:∀p x,p∈ps->x∈xs->R p x->R' p x):Each R' ps xs:=
 ⟨h.1,λi p x h1 h2=>f p x (adY h1) (adY h2) (h.2 i p x h1 h2)⟩
theorem Each.snoc {α:Type}{R:Addr->α->Prop}{ps:List Addr}{xs:List α}{p:Addr}{x:α}(h:Each R ps xs)(hp:R p x):Each R (ps++[p]) (xs++[x]):=by
 refine⟨by rw[adZ,adZ,h.1];rfl,λi q y h1 h2=>?_⟩;by_cases hi:i<ps.length
 ·rw[aej hi]at h1;rw[aej (by rw[←h.1];exact hi)]at h2;exact h.2 i q y h1 h2
 ·rw[aee (by omega)]at h1;rw[aee (by rw[←h.1];omega)]at h2;rw[ad1.mp (adY h1),ad1.mp (adY h2)];exact hp
theorem Each.at {α:Type}{R:Addr->α->Prop}{ps:List Addr}{xs:List α}(h:Each R ps xs){i:Nat}{x:α}(hx:xs[i]?=some x):∃p,ps[i]?=some p/\R p x:=by
 have hi:i<ps.length:=by rw[h.1];exact(ad4.mp hx).1
 exact⟨_,adX hi,h.2 i _ x (adX hi) hx⟩
theorem Each.mem {α:Type}{R:Addr->α->Prop}{ps:List Addr}{xs:List α}(h:Each R ps xs){p:Addr}(hp:p∈ps):∃x,x∈xs/\R p x:=by
 obtain⟨i,hi⟩:=ae9 hp;have hl:i<xs.length:=by rw[←h.1];exact(ad4.mp hi).1
 exact⟨_,adY (adX hl),h.2 i p _ hi (adX hl)⟩
theorem Each.set {α:Type}{R R':Addr->α->Prop}{ps:List Addr}{xs:List α}{i:Nat}{p:Addr}{x:α}(h:Each R ps xs)(hp:ps[i]?=some p)(hx:R' p x)(hn:ps.Nodup)(f:∀q y,q∈ps->q≠p->R q y->R' q y):Each R' ps (xs.set i x):=by
 refine⟨by rw[aew];exact h.1,λj q y h1 h2=>?_⟩;by_cases e:i=j
 ·subst e;rw[hp]at h1;obtain rfl:=Option.some.inj h1;have hi:i<xs.length:=by rw[←h.1];exact(ad4.mp hp).1
  rw[aeH hi]at h2;obtain rfl:=Option.some.inj h2;exact hx
 ·rw[ae3 e]at h2;refine f q y (adY h1) (λz=>?_) (h.2 j q y h1 h2);subst z;exact e ((List.getElem?_inj (ad4.mp hp).1 hn).mp (hp.trans h1.symm))
def RA.lists (a:RA):List Addr:=a.aR::a.aW::a.aG::a.aE::a.aC::a.aN::a.cs
def RA.eV (a:RA):List Addr:=a.ws++a.gs
def RA.own (a:RA)(r b:Addr):Prop:=b=r\/b∈a.lists\/b∈a.eV
structure ay (C:Addr) (H:Hp) (r:Addr) (S:RS) (a:RA):Prop where
 ins:H r=some (.ins C a.dx (fE S.L S.made a))
 hR:H a.aR=some (.lst (a.rs.map V.ref))
 hW:H a.aW=some (.lst (a.ws.map V.ref))
 hG:H a.aG=some (.lst (a.gs.map V.ref))
 hE:H a.aE=some (.lst (ak (nI S.bI)))
 hC:H a.aC=some (.lst (a.cs.map V.ref))
 hN:H a.aN=some (.lst (ak (nI S.bf)))
 rR:Each (λp d=>ck H 4 (.ref p) d) a.rs S.rows
 rW:Each (λp l=>H p=some (.dK (wK l))) a.ws S.ways
 rG:Each (λp l=>H p=some (.dK (gK l))) a.gs S.gaps
 rC:Each (λp l=>H p=some (.lst (ak (nI l)))) a.cs S.called
 flat:∀d∈S.rows,mR d
 jr:a.lists.Nodup
 oO:a.eV.Nodup
section
variable {C:Addr} {H H':Hp} {r:Addr} {S:RS} {a:RA}
theorem ay.keep (h:ay C H r S a)(k:∀b o,a.own r b->H b=some o->H' b=some o)(kt:∀b xs,H b=some (.tup xs)->H' b=some (.tup xs)):ay C H' r S a:=by
 have kl:∀b o,b∈a.lists->H b=some o->H' b=some o:=λb o hb=>k b o (.inr (.inl hb))
 have kd:∀b o,b∈a.eV->H b=some o->H' b=some o:=λb o hb=>k b o (.inr (.inr hb))
 exact⟨k _ _ (.inl rfl) h.ins,kl _ _ (by simp[RA.lists]) h.hR,kl _ _ (by simp[RA.lists]) h.hW,kl _ _ (by simp[RA.lists]) h.hG,kl _ _ (by simp[RA.lists]) h.hE,kl _ _ (by simp[RA.lists]) h.hC,kl _ _ (by simp[RA.lists]) h.hN,
  h.rR.imp λp x _ hx e=>e.jd kt (h.flat x hx),h.rW.imp λp x hp _ e=>kd _ _ (aex _ hp) e,h.rG.imp λp x hp _ e=>kd _ _ (ad5 _ hp) e,
  h.rC.imp λp x hp _ e=>kl _ _ (by simp[RA.lists,hp]) e,h.flat,h.jr,h.oO⟩
theorem ay.same (h:ay C H r S a)(s:au H H'):ay C H' r S a:=h.keep (λ_ _ _ e=>s _ _ e) (λ_ _ e=>s _ _ e)
theorem ay.there (h:ay C H r S a){b:Addr}(hb:a.own r b):∃o,H b=some o:=by
 rcases hb with rfl|hb|hb
 ·exact⟨_,h.ins⟩
 ·unfold RA.lists at hb;simp only[aea]at hb;rcases hb with rfl|rfl|rfl|rfl|rfl|rfl|hb
  ·exact⟨_,h.hR⟩
  ·exact⟨_,h.hW⟩
  ·exact⟨_,h.hG⟩
  ·exact⟨_,h.hE⟩
  ·exact⟨_,h.hC⟩
  ·exact⟨_,h.hN⟩
  ·obtain⟨x,_,e⟩:=h.rC.mem hb;exact⟨_,e⟩
 ·rcases aei.mp hb with hb|hb
  ·obtain⟨x,_,e⟩:=h.rW.mem hb;exact⟨_,e⟩
  ·obtain⟨x,_,e⟩:=h.rG.mem hb;exact⟨_,e⟩
theorem ay.va (h:ay C H r S a){b:Addr}{xs:List V}(e:H b=some (.tup xs)):¬a.own r b:=λhb=>by
 rcases hb with rfl|hb|hb
 ·rw[h.ins]at e;cases e
 ·unfold RA.lists at hb;simp only[aea]at hb;rcases hb with rfl|rfl|rfl|rfl|rfl|rfl|hb
  ·rw[h.hR]at e;cases e
  ·rw[h.hW]at e;cases e
  ·rw[h.hG]at e;cases e
  ·rw[h.hE]at e;cases e
  ·rw[h.hC]at e;cases e
  ·rw[h.hN]at e;cases e
  ·obtain⟨x,_,e'⟩:=h.rC.mem hb;rw[e']at e;cases e
 ·rcases aei.mp hb with hb|hb
  ·obtain⟨x,_,e'⟩:=h.rW.mem hb;rw[e']at e;cases e
  ·obtain⟨x,_,e'⟩:=h.rG.mem hb;rw[e']at e;cases e
end
end L2
namespace L2
open PySem PySem.Spec PyProof.Rows
section
variable {C:Addr} {H H':Hp} {r:Addr} {S:RS} {a:RA}
theorem gj:a.aR∈a.lists:=by simp[RA.lists]
theorem gk:a.aW∈a.lists:=by simp[RA.lists]
theorem jK:a.aG∈a.lists:=by simp[RA.lists]
theorem gZ:a.aE∈a.lists:=by simp[RA.lists]
theorem je:a.aC∈a.lists:=by simp[RA.lists]
theorem iF:a.aN∈a.lists:=by simp[RA.lists]
theorem gC {p:Addr}(h:p∈a.cs):p∈a.lists:=by simp[RA.lists,h]
theorem dM {p:Addr}(h:p∈a.ws):p∈a.eV:=aex _ h
theorem gE {p:Addr}(h:p∈a.gs):p∈a.eV:=ad5 _ h
theorem ay.VB (h:ay C H r S a){b:Addr}(hb:b∈a.lists):∃xs,H b=some (.lst xs):=by
 unfold RA.lists at hb;simp only[aea]at hb;rcases hb with rfl|rfl|rfl|rfl|rfl|rfl|hb
 ·exact⟨_,h.hR⟩
 ·exact⟨_,h.hW⟩
 ·exact⟨_,h.hG⟩
 ·exact⟨_,h.hE⟩
 ·exact⟨_,h.hC⟩
 ·exact⟨_,h.hN⟩
 ·obtain⟨x,_,e⟩:=h.rC.mem hb;exact⟨_,e⟩
theorem ay.vH (h:ay C H r S a){b:Addr}(hb:b∈a.eV):∃kvs,H b=some (.dK kvs):=by
 rcases aei.mp hb with hb|hb
 ·obtain⟨x,_,e⟩:=h.rW.mem hb;exact⟨_,e⟩
 ·obtain⟨x,_,e⟩:=h.rG.mem hb;exact⟨_,e⟩
theorem ay.rl (h:ay C H r S a){b:Addr}(hb:b∈a.lists):r≠b:=by obtain⟨xs,e⟩:=h.VB hb;exact cF h.ins e (by intro z;cases z)
theorem ay.rd (h:ay C H r S a){b:Addr}(hb:b∈a.eV):r≠b:=by obtain⟨xs,e⟩:=h.vH hb;exact cF h.ins e (by intro z;cases z)
theorem ay.ld (h:ay C H r S a){b c:Addr}(hb:b∈a.lists)(hc:c∈a.eV):b≠c:=by
 obtain⟨xs,e⟩:=h.VB hb;obtain⟨ys,e'⟩:=h.vH hc;exact cF e e' (by intro z;cases z)
theorem ay.tl (h:ay C H r S a){b c:Addr}{xs:List V}(hb:H b=some (.tup xs))(hc:c∈a.lists):b≠c:=λz=>h.va hb (.inr (.inl (by rw[z];exact hc)))
theorem ay.td (h:ay C H r S a){b c:Addr}{xs:List V}(hb:H b=some (.tup xs))(hc:c∈a.eV):b≠c:=λz=>h.va hb (.inr (.inr (by rw[z];exact hc)))
theorem ay.tr (h:ay C H r S a){b:Addr}{xs:List V}(hb:H b=some (.tup xs)):b≠r:=λz=>h.va hb (.inl z)
theorem ay.N5 (h:ay C H r S a)(n:Nat):ay C (upd H r (.ins C a.dx (fE S.L n a))) r { S with made:=n } a:=by
 have kl:∀b o,b∈a.lists->H b=some o->upd H r (.ins C a.dx (fE S.L n a)) b=some o:=λb o hb e=>by rw[ao (h.rl hb).symm];exact e
 have kd:∀b o,b∈a.eV->H b=some o->upd H r (.ins C a.dx (fE S.L n a)) b=some o:=λb o hb e=>by rw[ao (h.rd hb).symm];exact e
 exact⟨aj,kl _ _ gj h.hR,kl _ _ gk h.hW,kl _ _ jK h.hG,kl _ _ gZ h.hE,kl _ _ je h.hC,kl _ _ iF h.hN,h.rR.imp λp x _ hx e=>e.jd (λb xs eb=>by rw[ao (h.tr eb)];exact eb) (h.flat x hx),
  h.rW.imp λp x hp _ e=>kd _ _ (dM hp) e,h.rG.imp λp x hp _ e=>kd _ _ (gE hp) e,h.rC.imp λp x hp _ e=>kl _ _ (gC hp) e,h.flat,h.jr,h.oO⟩
theorem ay.kf (h:ay C H r S a){q:Addr}{o:HO}(hq:q∈a.lists):upd H q o r=some (.ins C a.dx (fE S.L S.made a))/\(∀b x,b∈a.lists->b≠q->H b=some x->upd H q o b=some x)/\(∀b x,b∈a.eV->H b=some x->upd H q o b=some x)/\∀b xs,H b=some (.tup xs)->upd H q o b=some (.tup xs):=
 ⟨by rw[ao (h.rl hq)];exact h.ins,λb x _ n e=>by rw[ao n];exact e,λb x hb e=>by rw[ao (h.ld hq hb).symm];exact e,λb xs e=>by rw[ao (h.tl e hq)];exact e⟩
theorem xV (nd:a.lists.Nodup):(a.aR≠a.aW/\a.aR≠a.aG/\a.aR≠a.aE/\a.aR≠a.aC/\a.aR≠a.aN)/\(a.aW≠a.aG/\a.aW≠a.aE/\a.aW≠a.aC/\a.aW≠a.aN)/\(a.aG≠a.aE/\a.aG≠a.aC/\a.aG≠a.aN)/\(a.aE≠a.aC/\a.aE≠a.aN)/\a.aC≠a.aN/\∀p∈a.cs,p≠a.aR/\p≠a.aW/\p≠a.aG/\p≠a.aE/\p≠a.aC/\p≠a.aN:=by
 unfold RA.lists at nd;simp only[aeJ,aea,not_or]at nd;obtain⟨⟨h1,h2,h3,h4,h5,h6⟩,⟨g2,g3,g4,g5,g6⟩,⟨f3,f4,f5,f6⟩,⟨e4,e5,e6⟩,⟨d5,d6⟩,c6,-⟩:=nd;exact⟨⟨h1,h2,h3,h4,h5⟩,⟨g2,g3,g4,g5⟩,⟨f3,f4,f5⟩,⟨e4,e5⟩,d5,λp hp=>⟨λz=>h6 (z ▸ hp),λz=>g6 (z ▸ hp),λz=>f6 (z ▸ hp),λz=>e6 (z ▸ hp),λz=>d6 (z ▸ hp),λz=>c6 (z ▸ hp)⟩⟩
theorem ay.B6 (h:ay C H r S a){p:Addr}{d:Dt}(hp:ck H 4 (.ref p) d)(hd:mR d):ay C (upd H a.aR (.lst (a.rs.map V.ref++[.ref p]))) r { S with rows:=S.rows++[d] } { a with rs:=a.rs++[p] }:=by
 obtain⟨h0,kl,kd,kt⟩:=h.kf (o:=.lst (a.rs.map V.ref++[.ref p])) (gj (a:=a));obtain⟨⟨n1,n2,n3,n4,n5⟩,-,-,-,-,nc⟩:=xV h.jr
 refine⟨h0,?_,kl _ _ gk n1.symm h.hW,kl _ _ jK n2.symm h.hG,kl _ _ gZ n3.symm h.hE,kl _ _ je n4.symm h.hC,kl _ _ iF n5.symm h.hN,(h.rR.imp λq x _ hx e=>e.jd kt (h.flat x hx)).snoc (hp.jd kt hd),
  h.rW.imp λq x hq _ e=>kd _ _ (dM hq) e,h.rG.imp λq x hq _ e=>kd _ _ (gE hq) e,h.rC.imp λq x hq _ e=>kl _ _ (gC hq) (nc q hq).1 e,λx hx=>?_,h.jr,h.oO⟩
 ·show upd H a.aR _ a.aR=some (.lst ((a.rs++[p]).map V.ref));rw[aj,aeu];rfl
 ·rcases aei.mp hx with hx|hx
  ·exact h.flat x hx
  ·rw[ad1.mp hx];exact hd
theorem ay.QI (h:ay C H r S a){p:Addr}{l:List (Int×Nat)}(hp:H p=some (.dK (wK l)))(hn:p∉a.eV):ay C (upd H a.aW (.lst (a.ws.map V.ref++[.ref p]))) r { S with ways:=S.ways++[l] } { a with ws:=a.ws++[p] }:=by
 obtain⟨h0,kl,kd,kt⟩:=h.kf (o:=.lst (a.ws.map V.ref++[.ref p])) (gk (a:=a));obtain⟨⟨n1,-⟩,⟨n2,n3,n4,n5⟩,-,-,-,nc⟩:=xV h.jr;have HQ:upd H a.aW (.lst (a.ws.map V.ref++[.ref p])) p=some (.dK (wK l)):=by rw[ao (cF hp h.hW (by intro z;cases z))];exact hp
 refine⟨h0,kl _ _ gj n1 h.hR,?_,kl _ _ jK n2.symm h.hG,kl _ _ gZ n3.symm h.hE,kl _ _ je n4.symm h.hC,kl _ _ iF n5.symm h.hN,h.rR.imp λq x _ hx e=>e.jd kt (h.flat x hx),
  (h.rW.imp λq x hq _ e=>kd _ _ (dM hq) e).snoc HQ,h.rG.imp λq x hq _ e=>kd _ _ (gE hq) e,h.rC.imp λq x hq _ e=>kl _ _ (gC hq) (nc q hq).2.1 e,h.flat,h.jr,?_⟩
 ·show upd H a.aW _ a.aW=some (.lst ((a.ws++[p]).map V.ref));rw[aj,aeu];rfl
 ·show (a.ws++[p]++a.gs).Nodup;rw[ae6];exact(List.perm_middle.nodup_iff).mpr (aeJ.mpr ⟨hn,h.oO⟩)
theorem ay.QJ (h:ay C H r S a){p:Addr}{l:List Int}(hp:H p=some (.dK (gK l)))(hn:p∉a.eV):ay C (upd H a.aG (.lst (a.gs.map V.ref++[.ref p]))) r { S with gaps:=S.gaps++[l] } { a with gs:=a.gs++[p] }:=by
 obtain⟨h0,kl,kd,kt⟩:=h.kf (o:=.lst (a.gs.map V.ref++[.ref p])) (jK (a:=a));obtain⟨⟨-,n1,-⟩,⟨n2,-⟩,⟨n3,n4,n5⟩,-,-,nc⟩:=xV h.jr;have HQ:upd H a.aG (.lst (a.gs.map V.ref++[.ref p])) p=some (.dK (gK l)):=by rw[ao (cF hp h.hG (by intro z;cases z))];exact hp
 refine⟨h0,kl _ _ gj n1 h.hR,kl _ _ gk n2 h.hW,?_,kl _ _ gZ n3.symm h.hE,kl _ _ je n4.symm h.hC,kl _ _ iF n5.symm h.hN,h.rR.imp λq x _ hx e=>e.jd kt (h.flat x hx),
  h.rW.imp λq x hq _ e=>kd _ _ (dM hq) e,(h.rG.imp λq x hq _ e=>kd _ _ (gE hq) e).snoc HQ,h.rC.imp λq x hq _ e=>kl _ _ (gC hq) (nc q hq).2.2.1 e,h.flat,h.jr,?_⟩
 ·show upd H a.aG _ a.aG=some (.lst ((a.gs++[p]).map V.ref));rw[aj,aeu];rfl
 ·show (a.ws++(a.gs++[p])).Nodup;rw[←ae6];refine aeX.mpr ⟨h.oO,by simp,λx hx y hy z=>?_⟩;rw[ad1.mp hy]at z;exact hn (z ▸ hx)
theorem ay.zK (h:ay C H r S a)(es:List Nat):ay C (upd H a.aE (.lst (ak (nI es)))) r { S with bI:=es } a:=by
 obtain⟨h0,kl,kd,kt⟩:=h.kf (o:=.lst (ak (nI es))) (gZ (a:=a));obtain⟨⟨-,-,n1,-⟩,⟨-,n2,-⟩,⟨n3,-⟩,⟨n4,n5⟩,-,nc⟩:=xV h.jr
 exact⟨h0,kl _ _ gj n1 h.hR,kl _ _ gk n2 h.hW,kl _ _ jK n3 h.hG,aj,kl _ _ je n4.symm h.hC,kl _ _ iF n5.symm h.hN,h.rR.imp λq x _ hx e=>e.jd kt (h.flat x hx),
  h.rW.imp λq x hq _ e=>kd _ _ (dM hq) e,h.rG.imp λq x hq _ e=>kd _ _ (gE hq) e,h.rC.imp λq x hq _ e=>kl _ _ (gC hq) (nc q hq).2.2.2.1 e,h.flat,h.jr,h.oO⟩
theorem ay.N6 (h:ay C H r S a)(es:List Nat):ay C (upd H a.aN (.lst (ak (nI es)))) r { S with bf:=es } a:=by
 obtain⟨h0,kl,kd,kt⟩:=h.kf (o:=.lst (ak (nI es))) (iF (a:=a));obtain⟨⟨-,-,-,-,n1⟩,⟨-,-,-,n2⟩,⟨-,-,n3⟩,⟨-,n4⟩,n5,nc⟩:=xV h.jr
 exact⟨h0,kl _ _ gj n1 h.hR,kl _ _ gk n2 h.hW,kl _ _ jK n3 h.hG,kl _ _ gZ n4 h.hE,kl _ _ je n5 h.hC,aj,h.rR.imp λq x _ hx e=>e.jd kt (h.flat x hx),
  h.rW.imp λq x hq _ e=>kd _ _ (dM hq) e,h.rG.imp λq x hq _ e=>kd _ _ (gE hq) e,h.rC.imp λq x hq _ e=>kl _ _ (gC hq) (nc q hq).2.2.2.2.2 e,h.flat,h.jr,h.oO⟩
theorem ay.HR (h:ay C H r S a){p:Addr}{l:List Nat}(hp:H p=some (.lst (ak (nI l))))(hn:p∉a.lists):ay C (upd H a.aC (.lst (a.cs.map V.ref++[.ref p]))) r { S with called:=S.called++[l] } { a with cs:=a.cs++[p] }:=by
 obtain⟨h0,kl,kd,kt⟩:=h.kf (o:=.lst (a.cs.map V.ref++[.ref p])) (je (a:=a));obtain⟨⟨-,-,-,n1,-⟩,⟨-,-,n2,-⟩,⟨-,n3,-⟩,⟨n4,-⟩,n5,nc⟩:=xV h.jr;have npc:p≠a.aC:=λz=>hn (by rw[z];exact je)
 have HQ:upd H a.aC (.lst (a.cs.map V.ref++[.ref p])) p=some (.lst (ak (nI l))):=by rw[ao npc];exact hp
 refine⟨h0,kl _ _ gj n1 h.hR,kl _ _ gk n2 h.hW,kl _ _ jK n3 h.hG,kl _ _ gZ n4 h.hE,?_,kl _ _ iF n5.symm h.hN,h.rR.imp λq x _ hx e=>e.jd kt (h.flat x hx),
  h.rW.imp λq x hq _ e=>kd _ _ (dM hq) e,h.rG.imp λq x hq _ e=>kd _ _ (gE hq) e,(h.rC.imp λq x hq _ e=>kl _ _ (gC hq) (nc q hq).2.2.2.2.1 e).snoc HQ,h.flat,?_,h.oO⟩
 ·show upd H a.aC _ a.aC=some (.lst ((a.cs++[p]).map V.ref));rw[aj,aeu];rfl
 ·show (a.lists++[p]).Nodup;refine aeX.mpr ⟨h.jr,by simp,λx hx y hy z=>?_⟩;rw[ad1.mp hy]at z;exact hn (z ▸ hx)
theorem ay.HS (h:ay C H r S a){i:Nat}{p:Addr}(hp:a.cs[i]?=some p)(l:List Nat):ay C (upd H p (.lst (ak (nI l)))) r { S with called:=S.called.set i l } a:=by
 have hm:=adY hp;obtain⟨h0,kl,kd,kt⟩:=h.kf (o:=.lst (ak (nI l))) (gC hm);obtain⟨-,-,-,-,-,nc⟩:=xV h.jr;obtain⟨n1,n2,n3,n4,n5,n6⟩:=nc p hm
 have ncs:a.cs.Nodup:=by
  have:=h.jr;unfold RA.lists at this;simp only[aeJ]at this;exact this.2.2.2.2.2.2
 exact⟨h0,kl _ _ gj n1.symm h.hR,kl _ _ gk n2.symm h.hW,kl _ _ jK n3.symm h.hG,kl _ _ gZ n4.symm h.hE,kl _ _ je n5.symm h.hC,kl _ _ iF n6.symm h.hN,h.rR.imp λq x _ hx e=>e.jd kt (h.flat x hx),
  h.rW.imp λq x hq _ e=>kd _ _ (dM hq) e,h.rG.imp λq x hq _ e=>kd _ _ (gE hq) e,h.rC.set hp aj ncs λq y hq n e=>kl _ _ (gC hq) n e,h.flat,h.jr,h.oO⟩
theorem ay.ED (h:ay C H r S a){q:Addr}{o:HO}(hq:q∈a.eV):upd H q o r=some (.ins C a.dx (fE S.L S.made a))/\(∀b x,b∈a.eV->b≠q->H b=some x->upd H q o b=some x)/\(∀b x,b∈a.lists->H b=some x->upd H q o b=some x)/\∀b xs,H b=some (.tup xs)->upd H q o b=some (.tup xs):=
 ⟨by rw[ao (h.rd hq)];exact h.ins,λb x _ n e=>by rw[ao n];exact e,λb x hb e=>by rw[ao (h.ld hb hq)];exact e,λb xs e=>by rw[ao (h.td e hq)];exact e⟩
theorem ay.B7 (h:ay C H r S a){i:Nat}{p:Addr}(hp:a.ws[i]?=some p)(l:List (Int×Nat)):ay C (upd H p (.dK (wK l))) r { S with ways:=S.ways.set i l } a:=by
 have hm:=adY hp;obtain⟨h0,kd,kl,kt⟩:=h.ED (o:=.dK (wK l)) (dM hm);have nd:=aeX.mp h.oO
 exact⟨h0,kl _ _ gj h.hR,kl _ _ gk h.hW,kl _ _ jK h.hG,kl _ _ gZ h.hE,kl _ _ je h.hC,kl _ _ iF h.hN,h.rR.imp λq x _ hx e=>e.jd kt (h.flat x hx),
  h.rW.set hp aj nd.1 λq y hq n e=>kd _ _ (dM hq) n e,h.rG.imp λq x hq _ e=>kd _ _ (gE hq) (λz=>nd.2.2 p hm q hq z.symm) e,h.rC.imp λq x hq _ e=>kl _ _ (gC hq) e,h.flat,h.jr,h.oO⟩
theorem ay.QK (h:ay C H r S a){i:Nat}{p:Addr}(hp:a.gs[i]?=some p)(l:List Int):ay C (upd H p (.dK (gK l))) r { S with gaps:=S.gaps.set i l } a:=by
 have hm:=adY hp;obtain⟨h0,kd,kl,kt⟩:=h.ED (o:=.dK (gK l)) (gE hm);have nd:=aeX.mp h.oO
 exact⟨h0,kl _ _ gj h.hR,kl _ _ gk h.hW,kl _ _ jK h.hG,kl _ _ gZ h.hE,kl _ _ je h.hC,kl _ _ iF h.hN,h.rR.imp λq x _ hx e=>e.jd kt (h.flat x hx),
  h.rW.imp λq x hq _ e=>kd _ _ (dM hq) (λz=>nd.2.2 q hq p hm z) e,h.rG.set hp aj nd.2.1 λq y hq n e=>kd _ _ (gE hq) n e,h.rC.imp λq x hq _ e=>kl _ _ (gC hq) e,h.flat,h.jr,h.oO⟩
end
def RS.m4 (S:RS)(i:Nat)(l:List (Int×Nat)):RS:={ S with ways:=S.ways.set i l }
def RS.setG (S:RS)(i:Nat)(l:List Int):RS:={ S with gaps:=S.gaps.set i l }
def RS.way (S:RS)(c:Nat):List (Int×Nat):=S.ways.getD c []
def RS.gap (S:RS)(c:Nat):List Int:=S.gaps.getD c []
def RS.by (S:RS)(c:Nat)(z:Int):Option Nat:=eU (S.way c) z
def RS.dD (S:RS)(c:Nat)(z:Int)(d:Nat):RS:=S.m4 c (jx (S.way c) z d)
def RS.vb (S:RS)(c:Nat)(z:Int):RS:=S.setG c ((S.gap c).filter λx=>decide (x≠z))
def RS.keep (S:RS)(c:Nat)(z:Int)(d:Nat):RS:=(((S.dD c z d).dD d (-z) c).vb c z).vb d (-z)
def B8 (c:Nat)(z:Int)(n:Nat):Dt:=.t [.s [110,101,119],.i c,.i z,.i n]
def RS.grown (S:RS)(c:Nat)(z:Int)(gaps:List Int):RS:={ S with made:=S.made+ 1,rows:=S.rows++[B8 c z S.made],ways:=S.ways++[[]],gaps:=S.gaps++[gaps],bI:=S.bI++[S.made],called:=S.called++[[S.made]] }
def RS.make (S:RS)(c:Nat)(z:Int)(gaps:List Int):RS:=(S.grown c z gaps).keep c z S.made
def RS.new (L:Nat)(gaps:List Int):RS:=⟨L,1,[],[[]],[gaps],[0],[[0]],[]⟩
structure RS.Wf (S:RS):Prop where
 w:S.ways.length=S.made
 g:S.gaps.length=S.made
 e:S.bI.length=S.made
 c:S.called.length=S.made
end L2
namespace L2
open PySem PySem.Spec PyProof.Rows
section
variable {X:Cx} {e:Expr} {f:Str} {ta:TE} {pos:Pos}
theorem N7 {K:PySem.W.Frag}(hK:X.K=K)(he:PE X e ta)(hb:attributeBase e f X.env (eval e X.env)=eval e X.env):PE X (.Attribute e f pos) (Pw K ta f):=by
 subst hK;exact aF he hb
end
theorem pV {α:Type}{J:It}{H:Hp}{fv:St}{te:TE}{Q:VK}(n:Nat)(xs:Nat->V)(R:Hp->V->Nat->Prop)(hR:∀H1 H2 v i,au H1 H2->R H1 v i->R H2 v i)(Bu:n<=sizeLine)
 (xI:∀(i:Nat) H2,au H H2->i<n->J.go i H2) (hy:∀(i:Nat) (x:V) (H2 H3:Hp),au H H2->i<n->J.pS i H2 x H3->H3=H2/\x=xs i) (dF:∀H2,au H H2->J.stop n H2)
 (he:∀(i:Nat) (H2:Hp) (Rr:VK),i<n->au H H2->(∀v H3,au H2 H3->R H3 v i->Rr v H3)->te (some (xs i)::fv) H2 Rr)
 (hQ:∀D H2 ys,au H H2->H2 D=none->ys.length=n->(∀(i:Nat) (v:V),ys[i]?=some v->R H2 v i)->Q (.ref D) (upd H2 D (.lst ys))):tV te fv Q J H:=by
 refine⟨λi m ys H2=>m=n - i/\i<=n/\ys.length=i/\au H H2/\∀(j:Nat) (v:V),ys[j]?=some v->R H2 v j,⟨n,by simp,aeA _,rfl,λ_ _ e=>e,λj v h=>by simp at h⟩,?_⟩;rintro i m ys H2 ⟨rfl,hi,hl,s2,hr⟩;by_cases bG:i<n
 ·refine .inr ⟨xI i H2 s2 bG,by omega,λx H3 t9=>?_⟩;obtain⟨rfl,rfl⟩:=hy i x H2 H3 s2 bG t9;refine he i _ _ bG s2 λv H4 s4 hv=>⟨n - (i+ 1),by omega,rfl,bG,by rw[adZ,hl];rfl,s2.trans s4,λj w hw=>?_⟩
  by_cases hj:j<ys.length
  ·rw[aej hj]at hw;exact hR _ _ _ _ s4 (hr j w hw)
  ·rw[aee (by omega)]at hw
   have ej:j - ys.length=0:=by
    have:=(ad4.mp hw).1;rw[List.length_singleton]at this;omega
   rw[ej]at hw;have:j=i:=by omega
   subst this;rw[←Option.some.inj hw];exact hv
 ·have e:i=n:=by omega
  subst e;exact .inl ⟨dF H2 s2,by omega,λD hD=>hQ D H2 ys s2 hD hl hr⟩
end L2
namespace L2
open PySem PySem.Spec PyProof.Rows
theorem y6 {P:Nat->Addr->Prop}:∀(ys:List V) (k:Nat),(∀(i:Nat) (v:V),ys[i]?=some v->∃p,v=.ref p/\P (k+ i) p)->∃ps:List Addr,ys=ps.map V.ref/\∀(i:Nat) (p:Addr),ps[i]?=some p->P (k+ i) p
 |[],_,_=>⟨[],rfl,λi p h=>by simp at h⟩
 |v::ys,k,h=>by
  obtain⟨p,rfl,hp⟩:=h 0 v rfl
  obtain⟨ps,rfl,sW⟩:=y6 (P:=P) ys (k+ 1) λi w hw=>by
   obtain⟨q,e,hq⟩:=h (i+ 1) w (by simpa using hw);exact⟨q,e,by rw[show k+ 1+ i=k+ (i+ 1) by omega];exact hq⟩
  refine⟨p::ps,rfl,λi q hq=>?_⟩
  cases i with
  |zero=>obtain rfl:p=q:=by simpa using hq
         exact hp
  |succ i=>
   have:=sW i q (by simpa using hq);rw[show k+ 1+ i=k+ (i+ 1) by omega]at this;exact this
theorem kh {f:Str}{v:V}{n:Nat}:∀{fs:List (Str×V)},fs.length<=n->(bW f v fs).length<=n+ 1
 |[],h=>by show 1<=n+ 1;omega
 |(g,x)::r,h=>by
  show (if g=f then (g,v)::r else (g,x)::bW f v r).length<=n+ 1;rw[aes]at h;split
  ·rw[aes];omega
  ·have:=kh (f:=f) (v:=v) (n:=n - 1) (fs:=r) (by omega);rw[aes];omega
theorem m5 (K:PySem.W.Frag):PySem.W.kitOne K (.type "int") (.type "tuple")=some false:=by first|rfl|kernel_rfl
theorem oQ (K:PySem.W.Frag):PySem.W.kitOne K (.type "int") (.type "list")=some false:=by first|rfl|kernel_rfl
theorem oR (K:PySem.W.Frag):PySem.W.kitOne K (.type "int") (.type "dict")=some false:=by first|rfl|kernel_rfl
theorem m6 (K:PySem.W.Frag):PySem.W.kitOne K (.type "str") (.type "tuple")=some false:=by first|rfl|kernel_rfl
theorem oS (K:PySem.W.Frag):PySem.W.kitOne K (.type "str") (.type "list")=some false:=by first|rfl|kernel_rfl
theorem oT (K:PySem.W.Frag):PySem.W.kitOne K (.type "str") (.type "dict")=some false:=by first|rfl|kernel_rfl
end L2
namespace L2
open PySem PySem.Spec PyProof.Rows
theorem zL {P:Program}{w:World}:∀{es:List DictEntry} {vs:List (Key×Value)} {kvs:List (Key×V)},Pairs (b9 P w) es vs->KV kvs vs->Vals (kvs.map λkv=>kV kv.1) (es.map (·.key))
 |[],_,_,.nil,r=>by cases r;exact .nil
 |e::es,_,_,.cons h1 h2 h3,r=>by
  cases r with
  |cons a b=>
   rw[aeN,aeN];refine .cons ?_ (zL h3 b);rw[a.1];exact N2 h1
theorem pairs_len {P:Program}{w:World}:∀{es:List DictEntry} {vs:List (Key×Value)},Pairs (b9 P w) es vs->es.length=vs.length
 |_,_,.nil=>rfl
 |_,_,.cons _ _ h=>by rw[aes,aes,pairs_len h]
section
variable {X:Cx}
def QL:List V->Hp->VK->Prop:=λxs H Q=>∃(d:Addr) (kvs:List (Key×V)),xs=[.ref d]/\H d=some (.dK kvs)/\∀l,H l=none->Q (.ref l) (upd H l (.lst (kvs.map λkv=>kV kv.1)))
theorem kK (hc:X.calm=true):mH X (.type "list") QL:=by
 intro pins s σ H xs us Q I r h;obtain⟨d,kvs,rfl,hd,q⟩:=h;obtain⟨u,rfl,rx⟩:=vals1 r;cases rx;obtain⟨hz,EE,vs,rel,o,es,ep,ho,hcx,jT,hk,hp,hn⟩:=xJ I.aO hd;have hlen:kvs.length=vs.length:=rel.length;have kF:=pairs_len hp;have hsz:es.size=kvs.length:=by rw[←agg,kF,hlen]
 refine Dk.HG (I.ok.hd hc) EE ⟨o,ho,hcx,jT⟩ (by omega) λg1 tk fY c' hk' zI uh=>?_
 have ea:fY.toList=es.toList.map (·.key):=by
  refine agZ λi=>?_
  rw[afY,aeo,afY]
  cases hv:fY[i]? with
  |none=>
   have hi:es.size<=i:=by
    have h1:fY.size<=i:=Array.getElem?_eq_none_iff.mp hv;rw[uh.1]at h1;exact h1
   rw[Array.getElem?_eq_none hi];rfl
  |some v=>
   obtain⟨en,e1,rfl⟩:=uh.2 i v hv;rw[e1];rfl
 have eb:fY=(es.toList.map (·.key)).toArray:=by rw[←ea]
 rw[eb]at zI;have hv:=zL hp rel;exact⟨.ref s.heap.objs.size,_,I.laid (t':=tk) hk' (ad7 _) (show cG X.prog X.w _ g1 _ (.lst (kvs.map λkv=>kV kv.1)) from ⟨by rw[ad6];exact hz,_,c',hv,zI⟩),rfl,q _ (I.aO.fresh (ad7 _))⟩
end
end L2
namespace L2
open PySem PySem.Spec PyProof.Rows
section
variable {C:Addr} {H H':Hp} {r:Addr} {S:RS} {a:RA}
theorem ay.QM (h:ay C H r S a){i:Nat}(hi:i<a.ws.length){q:Addr}{l:List (Int×Nat)}(hq:H q=some (.dK (wK l)))(hn:q∉a.eV):ay C (upd H a.aW (.lst ((a.ws.map V.ref).set i (.ref q)))) r { S with ways:=S.ways.set i l } { a with ws:=a.ws.set i q }:=by
 obtain⟨h0,kl,kd,kt⟩:=h.kf (o:=.lst ((a.ws.map V.ref).set i (.ref q))) (gk (a:=a));obtain⟨⟨n1,-⟩,⟨n2,n3,n4,n5⟩,-,-,-,nc⟩:=xV h.jr;have hqw:upd H a.aW (.lst ((a.ws.map V.ref).set i (.ref q))) q=some (.dK (wK l)):=by rw[ao (cF hq h.hW (by intro z;cases z))];exact hq
 have nd:=aeX.mp h.oO
 refine⟨h0,kl _ _ gj n1 h.hR,?_,kl _ _ jK n2.symm h.hG,kl _ _ gZ n3.symm h.hE,kl _ _ je n4.symm h.hC,kl _ _ iF n5.symm h.hN,h.rR.imp λq x _ hx e=>e.jd kt (h.flat x hx),
  ?_,h.rG.imp λq x hq _ e=>kd _ _ (gE hq) e,h.rC.imp λq x hq _ e=>kl _ _ (gC hq) (nc q hq).2.1 e,h.flat,h.jr,?_⟩
 ·show upd H a.aW _ a.aW=some (.lst ((a.ws.set i q).map V.ref));rw[aj,List.map_set]
 ·refine⟨by show (a.ws.set i q).length=(S.ways.set i l).length;rw[aew,aew];exact h.rW.1,λj p x e1 e2=>?_⟩;have qU:(a.ws.set i q)[j]?=some p:=e1
  have kc:(S.ways.set i l)[j]?=some x:=e2
  by_cases z:i=j
  ·subst z;rw[aeH hi]at qU;rw[aeH (by rw[←h.rW.1];exact hi)]at kc;obtain rfl:=Option.some.inj qU;obtain rfl:=Option.some.inj kc;exact hqw
  ·rw[ae3 z]at qU kc;exact kd _ _ (dM (adY qU)) (h.rW.2 j p x qU kc)
 ·show (a.ws.set i q++a.gs).Nodup;have qw:q∉a.ws:=λz=>hn (aex _ z)
  have qg:q∉a.gs:=λz=>hn (ad5 _ z)
  refine aeX.mpr ⟨?_,nd.2.1,λx hx y hy z=>?_⟩
  ·have:∀(l:List Addr) (i:Nat),l.Nodup->q∉l->(l.set i q).Nodup:=by
    intro l
    induction l with
    |nil=>intro i _ _;simp
    |cons x l ih=>
     intro i h1 h2;obtain⟨h3,h4⟩:=aeJ.mp h1;have h5:q≠x:=λz=>h2 (by rw[z];exact aeb)
     have h6:q∉l:=λz=>h2 (aek _ z)
     cases i with
     |zero=>exact aeJ.mpr ⟨h6,h4⟩
     |succ i=>
      refine aeJ.mpr ⟨λz=>?_,ih i h4 h6⟩;rcases af1 z with z|z
      ·exact h3 z
      ·exact h5 z.symm
   exact this a.ws i nd.1 qw
  ·rcases af1 hx with hx|hx
   ·exact nd.2.2 x hx y hy z
   ·rw[←hx,z]at qg;exact qg hy
end
theorem N8 (l:List (Int×Nat))(s:Int):eT (wK l) (Sum.inl s)=wK (l.filter λp=>decide (p.1≠s)):=by
 unfold eT wK;rw[List.filter_map]
 congr 1
 refine List.filter_congr λx _=>?_
 show decide ((Sum.inl x.1:Key)≠Sum.inl s)=decide (x.1≠s);rw[aeY,aeB,aeB];exact⟨λh z=>h (afh Sum.inl z),λh z=>h (Sum.inl.inj z)⟩
theorem HV (l:List (Int×Nat))(s t:Int):eU (l.filter λp=>decide (p.1≠s)) t=if t=s then none else eU l t:=by
 induction l with
 |nil=>unfold eU;split <;> rfl
 |cons p l ih=>
  have hc:∀(q:Int×Nat) (m:List (Int×Nat)),eU (q::m) t=if q.1=t then some q.2 else eU m t:=λq m=>by
   unfold eU;by_cases h:q.1=t
   ·rw[afS (by exact aey h),ael h];rfl
   ·rw[afT (by simpa using h),aed h]
  by_cases h:p.1=s
  ·rw[agU (by simpa using h),ih,hc];by_cases e:t=s
   ·rw[ael e,ael e]
   ·rw[aed e,aed e,aed (λz=>e (z.symm.trans h))]
  ·rw[agV (by simpa using h),hc,hc,ih];by_cases e:p.1=t
   ·rw[ael e,ael e,aed (λz=>h (e.trans z))]
   ·rw[aed e,aed e]
abbrev Way:=Nat×Int×Nat
def RS.ax (S:RS)(c:Nat):Nat:=S.bI.getD c 0
def RS.cx (S:RS)(c:Nat):List Nat:=S.called.getD c []
def ki (c:Nat)(z:Int)(x y:Nat):Dt:=.t [.s [109,101,101,116],.i c,.i z,.i x,.i y]
def RS.joined (S:RS)(c:Nat)(z:Int)(x y:Nat):RS:=
 { S with rows:=S.rows++[ki c z x y],bf:=S.bf++[y],bI:=(S.cx y).foldl (λes n=>es.set n x) S.bI,called:=S.called.set x (S.cx x++S.cx y) }
def RS.rj (S:RS)(c:Nat)(z:Int):RS:=S.m4 c ((S.way c).filter λp=>decide (p.1≠z))
def kj (c:Nat)(st:RS×List Way)(p:Int×Nat):RS×List Way:=(if p.2≠c then st.1.rj p.2 (-p.1) else st.1,st.2++[(c,p.1,p.2)])
def RS.rn (S:RS)(c:Nat)(pend:List Way):RS×List Way:=(S.way c).foldl (kj c) (S.m4 c [],pend)
def RS.meet (S:RS)(c:Nat)(z:Int)(x y:Nat)(pend:List Way):RS×List Way:=(S.joined c z (min x y) (max x y)).rn (max x y) pend
def RS.takeIn (S:RS)(pend:List Way)(w:Way):RS×List Way:=
 if (S.by (S.ax w.1) w.2.1).getD (S.ax w.2.2)≠S.ax w.2.2 then S.meet (S.ax w.1) w.2.1 ((S.by (S.ax w.1) w.2.1).getD (S.ax w.2.2)) (S.ax w.2.2) pend
 else if (S.by (S.ax w.2.2) (-w.2.1)).getD (S.ax w.1)≠S.ax w.1 then S.meet (S.ax w.2.2) (-w.2.1) ((S.by (S.ax w.2.2) (-w.2.1)).getD (S.ax w.1)) (S.ax w.1) pend
 else (S.keep (S.ax w.1) w.2.1 (S.ax w.2.2),pend)
structure Gb (S:RS) (c:Nat):Prop where
 nd:((S.way c).map (·.1)).Nodup
 lt:∀q∈S.way c,q.2<S.made
 bk:∀q∈S.way c,q.2≠c->(S.by q.2 (-q.1)).isSome=true
theorem jU {S:RS}{c c':Nat}{l:List (Int×Nat)}(hc:c<S.ways.length):(S.m4 c l).way c'=if c'=c then l else S.way c':=by
 unfold RS.m4 RS.way;show (S.ways.set c l).getD c' []=_;rw[ad2,ad2];by_cases h:c=c'
 ·subst h;rw[aeH hc,ael rfl];rfl
 ·rw[ae3 h,aed (afe h)]
theorem zM {S:RS}{c c' d:Nat}{z z':Int}(hc:c<S.ways.length):(S.dD c z d).by c' z'=if c'=c/\z'=z then some d else S.by c' z':=by
 unfold RS.dD RS.by;rw[jU hc];by_cases h:c'=c
 ·subst h;rw[ael rfl,Kh];by_cases hz:z'=z
  ·rw[ael hz,ael ⟨rfl,hz⟩]
  ·rw[aed hz,aed (λq=>hz q.2)]
 ·rw[aed h,aed (λq=>h q.1)]
theorem Ge {S:RS}{c c':Nat}{z z':Int}(hc:c<S.ways.length):(S.rj c z).by c' z'=if c'=c/\z'=z then none else S.by c' z':=by
 unfold RS.rj RS.by;rw[jU hc];by_cases h:c'=c
 ·subst h;rw[ael rfl,HV];by_cases hz:z'=z
  ·rw[ael hz,ael ⟨rfl,hz⟩]
  ·rw[aed hz,aed (λq=>hz q.2)]
 ·rw[aed h,aed (λq=>h q.1)]
theorem N9 {S:RS}{c c':Nat}{l:List (Int×Nat)}{z:Int}(hc:c<S.ways.length):(S.m4 c l).by c' z=if c'=c then eU l z else S.by c' z:=by
 unfold RS.by;rw[jU hc];split <;> rfl
def df (c:Nat)(S:RS)(pend:List Way)(ps:List (Int×Nat)):RS×List Way:=ps.foldl (kj c) (S.m4 c [],pend)
theorem iR (c:Nat)(S:RS)(pend:List Way)(ps:List (Int×Nat))(p:Int×Nat):df c S pend (ps++[p])=kj c (df c S pend ps) p:=by unfold df;rw[agb];rfl
theorem snoc_ind {α:Type}{P:List α->Prop}(h0:P [])(h1:∀l x,P l->P (l++[x])):∀l,P l:=λl=>by
 have:∀n (l:List α),l.length=n->P l:=by
  intro n
  induction n with
  |zero=>intro l e;rw[agk e];exact h0
  |succ n ih=>
   intro l e;have cK:l≠[]:=λz=>by rw[z]at e;cases e
   rw[←afN cK];exact h1 _ _ (ih _ (by rw[List.length_dropLast];omega))
 exact this _ l rfl
theorem zN (c:Nat)(S:RS)(pend:List Way):∀ps:List (Int×Nat),(df c S pend ps).2=pend++ps.map λp=>(c,p.1,p.2):=by
 refine snoc_ind (by simp[df]) λps p ih=>?_
 rw[iR];show (df c S pend ps).2++_=_;rw[ih,aeu,ae6];rfl
theorem km (c:Nat)(S:RS)(pend:List Way):∀ps:List (Int×Nat),(df c S pend ps).1.ways.length=S.ways.length/\(df c S pend ps).1={ S with ways:=(df c S pend ps).1.ways }:=by
 refine snoc_ind ⟨by simp[df,RS.m4],rfl⟩ λps p ih=>?_
 rw[iR];unfold kj;by_cases h:p.2≠c
 ·simp only[h,agH,agc,ne_eq];refine⟨?_,?_⟩
  ·show (List.set _ _ _).length=_;rw[aew];exact ih.1
  ·unfold RS.rj RS.m4;rw[ih.2]
 ·simp only[h,ago];exact ih
theorem EF {c:Nat}{S:RS}{pend:List Way}(hc:c<S.ways.length):∀ps:List (Int×Nat),(∀q∈ps,q.2<S.ways.length)->∀d z,(df c S pend ps).1.by d z=if d=c\/∃q∈ps,q.2=d/\z= -q.1 then none else S.by d z:=by
 refine snoc_ind (λ_ d z=>?_) λps p ih hl d z=>?_
 ·show (S.m4 c []).by d z=_;rw[N9 hc];by_cases h:d=c
  ·rw[ael h,ael (.inl h)];rfl
  ·rw[aed h,aed (by rintro (q|⟨q,hq,_⟩);exact h q;cases hq)]
 ·have EG:=ih (λq hq=>hl q (aex _ hq)) d z;have hp:=hl p (ad5 _ aeb);rw[iR];unfold kj;by_cases h:p.2≠c
  ·simp only[h,agH,agc,ne_eq];rw[Ge (by rw[(km c S pend ps).1];exact hp),EG];by_cases e:d=p.2/\z= -p.1
   ·rw[ael e,ael (.inr ⟨p,ad5 _ aeb,e.1.symm,e.2⟩)]
   ·rw[aed e];by_cases e2:d=c\/∃q∈ps,q.2=d/\z= -q.1
    ·rw[ael e2,ael (e2.imp id λ⟨q,hq,r⟩=>⟨q,aex _ hq,r⟩)]
    ·rw[aed e2,aed];rintro (q|⟨q,hq,r⟩)
     ·exact e2 (.inl q)
     ·rcases aei.mp hq with hq|hq
      ·exact e2 (.inr ⟨q,hq,r⟩)
      ·rw[ad1.mp hq]at r;exact e ⟨r.1.symm,r.2⟩
  ·simp only[h,ago];rw[EG];have h':p.2=c:=agA.mp h;by_cases e2:d=c\/∃q∈ps,q.2=d/\z= -q.1
   ·rw[ael e2,ael (e2.imp id λ⟨q,hq,r⟩=>⟨q,aex _ hq,r⟩)]
   ·rw[aed e2,aed];rintro (q|⟨q,hq,r⟩)
    ·exact e2 (.inl q)
    ·rcases aei.mp hq with hq|hq
     ·exact e2 (.inr ⟨q,hq,r⟩)
     ·rw[ad1.mp hq]at r;exact e2 (.inl (r.1.symm.trans h'))
end L2
namespace L2
open PySem PySem.Spec PyProof.Rows
inductive Cg (R:Nat->Int->Nat->Prop):Nat->Nat->Prop where
 |refl (a:Nat):Cg R a a
 |symm {a b:Nat}:Cg R a b->Cg R b a
 |trans {a b c:Nat}:Cg R a b->Cg R b c->Cg R a c
 |step {a a' b b':Nat} {z:Int}:R a z b->R a' z b'->Cg R a a'->Cg R b b'
theorem Cg.mono {R R':Nat->Int->Nat->Prop}(h:∀a z b,R a z b->R' a z b){a b:Nat}(c:Cg R a b):Cg R' a b:=by
 induction c with
 |refl=>exact .refl _
 |symm _ ih=>exact .symm ih
 |trans _ _ i1 i2=>exact .trans i1 i2
 |step r1 r2 _ ih=>exact .step (h _ _ _ r1) (h _ _ _ r2) ih
def Im (S:RS)(R:Nat->Int->Nat->Prop)(c:Nat)(z:Int)(d:Nat):Prop:=∃c' d',R c' z d'/\S.ax c'=c/\S.ax d'=d
def zO (S:RS)(pend:List Way)(c:Nat)(z:Int)(d:Nat):Prop:=S.by c z=some d\/∃w∈pend,(S.ax w.1=c/\w.2.1=z/\S.ax w.2.2=d)\/(S.ax w.1=d/\w.2.1= -z/\S.ax w.2.2=c)
structure Good (S:RS) (pend:List Way) (R:Nat->Int->Nat->Prop):Prop where
 wf:S.Wf
 el:∀c,c<S.made->S.ax c<=c/\S.ax (S.ax c)=S.ax c
 ca:∀e,e<S.made->S.ax e=e->∀c,c∈S.cx e↔c<S.made/\S.ax c=e
 cb:∀e c,c∈S.cx e->c<S.made
 cn:∀e,(S.cx e).Nodup
 kn:∀c,((S.way c).map (·.1)).Nodup
 st:∀c z d,S.by c z=some d->c<S.made/\d<S.made/\S.ax c=c/\S.ax d=d
 sy:∀c z d,S.by c z=some d->S.by d (-z)=some c
 pl:∀w∈pend,w.1<S.made/\w.2.2<S.made
 rl:∀c z d,R c z d->c<S.made/\d<S.made/\R d (-z) c
 cv:∀c z d,R c z d->zO S pend (S.ax c) z (S.ax d)
 so:∀c z d,S.by c z=some d->Im S R c z d
 sp:∀w∈pend,Im S R (S.ax w.1) w.2.1 (S.ax w.2.2)
 cg:∀c,c<S.made->Cg R c (S.ax c)
section
variable {S:RS} {pend:List Way} {R:Nat->Int->Nat->Prop}
theorem Good.lt (h:Good S pend R){c:Nat}(hc:c<S.made):S.ax c<S.made:=aec (h.el c hc).1 hc
theorem Im.back (h:Good S pend R){c d:Nat}{z:Int}(i:Im S R c z d):Im S R d (-z) c:=by
 obtain⟨c',d',r,e1,e2⟩:=i;exact⟨d',c',(h.rl _ _ _ r).2.2,e2,e1⟩
theorem Good.must (h:Good S pend R){c x y:Nat}{z:Int}(i:Im S R c z x)(j:Im S R c z y):Cg R x y:=by
 obtain⟨c1,x1,r1,e1,e2⟩:=i;obtain⟨c2,y2,r2,f1,f2⟩:=j;obtain⟨l1,l2,_⟩:=h.rl _ _ _ r1;obtain⟨m1,m2,_⟩:=h.rl _ _ _ r2;have a1:=h.cg _ l1;have a2:=h.cg _ l2;have b1:=h.cg _ m1;have b2:=h.cg _ m2;rw[e1]at a1;rw[e2]at a2;rw[f1]at b1;rw[f2]at b2;exact a2.symm.trans ((Cg.step r1 r2 (a1.trans b1.symm)).trans b2)
theorem Good.keep (h:Good S pend R){c d:Nat}{z:Int}(hc:c<S.made)(hd:d<S.made)(ec:S.ax c=c)(ed:S.ax d=d)(i:Im S R c z d)(h1:S.by c z=none\/S.by c z=some d)(h2:S.by d (-z)=none\/S.by d (-z)=some c){cT:List Way}(hp:∀w∈cT,w∈pend)
 (EH:∀w∈pend,w∉cT->S.ax w.1=c/\w.2.1=z/\S.ax w.2.2=d):Good (S.keep c z d) cT R:=by
 have EI:c<S.ways.length:=by rw[h.wf.w];exact hc
 have VC:d<S.ways.length:=by rw[h.wf.w];exact hd
 have uj:∀a s,(S.keep c z d).by a s=if a=d/\s= -z then some c else if a=c/\s=z then some d else S.by a s:=λa s=>by
  show ((S.dD c z d).dD d (-z) c).by a s=_;rw[zM (by show d<(S.ways.set c _).length;rw[aew];exact VC),zM EI]
 have old:∀a s b,S.by a s=some b->(S.keep c z d).by a s=some b:=λa s b e=>by
  rw[uj];by_cases q1:a=d/\s= -z
  ·rw[ael q1];obtain⟨rfl,rfl⟩:=q1;rcases h2 with q|q <;> rw[q]at e <;> cases e
   rfl
  ·rw[aed q1];by_cases q2:a=c/\s=z
   ·rw[ael q2];obtain⟨rfl,rfl⟩:=q2;rcases h1 with q|q <;> rw[q]at e <;> cases e
    rfl
   ·rw[aed q2];exact e
 have el:∀a,(S.keep c z d).ax a=S.ax a:=λa=>rfl
 have new:∀a s b,(S.keep c z d).by a s=some b->(a=d/\s= -z/\b=c)\/(a=c/\s=z/\b=d)\/S.by a s=some b:=λa s b e=>by
  rw[uj]at e;by_cases q1:a=d/\s= -z
  ·rw[ael q1]at e;exact .inl ⟨q1.1,q1.2,(Option.some.inj e).symm⟩
  ·rw[aed q1]at e;by_cases q2:a=c/\s=z
   ·rw[ael q2]at e;exact .inr (.inl ⟨q2.1,q2.2,(Option.some.inj e).symm⟩)
   ·rw[aed q2]at e;exact .inr (.inr e)
 have QN:(S.keep c z d).by d (-z)=some c:=by rw[uj,ael ⟨rfl,rfl⟩]
 have put2:(S.keep c z d).by c z=some d:=by
  rw[uj];by_cases q1:c=d/\z= -z
  ·rw[ael q1,q1.1]
  ·rw[aed q1,ael ⟨rfl,rfl⟩]
 have VD:∀(l:List (Int×Nat)) (s:Int) (r:Nat),(l.map (·.1)).Nodup->((jx l s r).map (·.1)).Nodup:=λl s r hl=>by
  unfold jx;split
  ·rw[ae8]
   have:((λx:Int×Nat=>x.1) ∘ λp:Int×Nat=>if p.1=s then (p.1,r) else p)=λx=>x.1:=by
    funext p
    show (if p.1=s then (p.1,r) else p).1=p.1;split <;> rfl
   rw[this];exact hl
  ·rename_i q;rw[aeu];refine aeX.mpr ⟨hl,by simp,λa ha b hb e=>q ?_⟩;obtain⟨p,hp,rfl⟩:=aeL.mp ha;have:b=s:=by simpa using hb
   exact ahc.mpr ⟨p,hp,aey (e.trans this)⟩
 refine⟨⟨?_,?_,h.wf.e,h.wf.c⟩,h.el,h.ca,h.cb,h.cn,λa=>?_,λa s b e=>?_,λa s b e=>?_,λw hw=>h.pl w (hp w hw),h.rl,λa s b r=>?_,λa s b e=>?_,λw hw=>h.sp w (hp w hw),h.cg⟩
 ·show ((List.set _ _ _).set _ _).length=S.made;rw[aew,aew];exact h.wf.w
 ·show ((List.set _ _ _).set _ _).length=S.made;rw[aew,aew];exact h.wf.g
 ·show ((((S.dD c z d).dD d (-z) c).way a).map (·.1)).Nodup;unfold RS.dD;rw[jU (by show d<(S.ways.set c _).length;rw[aew];exact VC)]
  have k1:∀a,(((S.m4 c (jx (S.way c) z d)).way a).map (·.1)).Nodup:=λa=>by
   rw[jU EI];split
   ·exact VD _ _ _ (h.kn c)
   ·exact h.kn a
  split
  ·exact VD _ _ _ (k1 d)
  ·exact k1 a
 ·rcases new a s b e with ⟨rfl,rfl,rfl⟩|⟨rfl,rfl,rfl⟩|e
  ·exact⟨hd,hc,ed,ec⟩
  ·exact⟨hc,hd,ec,ed⟩
  ·exact h.st a s b e
 ·rcases new a s b e with ⟨rfl,rfl,rfl⟩|⟨rfl,rfl,rfl⟩|e
  ·rw[afB];exact put2
  ·exact QN
  ·exact old _ _ _ (h.sy _ _ _ e)
 ·rcases h.cv a s b r with q|⟨w,hw,q⟩
  ·exact .inl (old _ _ _ q)
  ·by_cases hm:w∈cT
   ·exact .inr ⟨w,hm,q⟩
   ·obtain⟨f1,f2,f3⟩:=EH w hw hm;refine .inl ?_;show (S.keep c z d).by (S.ax a) s=some (S.ax b);rcases q with ⟨q1,q2,q3⟩|⟨q1,q2,q3⟩
    ·rw[←q1,←q2,←q3,f1,f2,f3];exact put2
    ·have es:s= -z:=by rw[←f2,q2,afB]
     rw[←q1,←q3,f1,f3,es];exact QN
 ·rcases new a s b e with ⟨rfl,rfl,rfl⟩|⟨rfl,rfl,rfl⟩|e
  ·exact Im.back h i
  ·exact i
  ·exact h.so a s b e
end
theorem B9 (x:Nat):∀(l es:List Nat) (a:Nat),(∀n∈l,n<es.length)->(l.foldl (λes n=>es.set n x) es).getD a 0=if a∈l then x else es.getD a 0
 |[],es,a,_=>by simp
 |n::l,es,a,h=>by
  rw[agq,B9 x l (es.set n x) a (λm hm=>by rw[aew];exact h m (aek _ hm))];by_cases h1:a∈l
  ·rw[ael h1,ael (aek _ h1)]
  ·rw[aed h1];by_cases h2:a=n
   ·subst h2;rw[ael aeb,ad2,aeH (h a aeb)];rfl
   ·rw[aed (λz=>(aea.mp z).elim h2 h1),ad2,ae3 (afe h2),←ad2]
theorem zP (x:Nat):∀(l es:List Nat),(l.foldl (λes n=>es.set n x) es).length=es.length
 |[],_=>rfl
 |n::l,es=>by rw[agq,zP x l,aew]
theorem uk {l:List (Int×Nat)}{s:Int}{r:Nat}(h:eU l s=some r):(s,r)∈l:=by
 unfold eU at h;obtain⟨q,hq,rfl⟩:=afw.mp h;have h1:=List.find?_some hq;have h2:=agD hq;have:q.1=s:=aeI h1;rw[←this];exact h2
theorem lT {l:List (Int×Nat)}(nd:(l.map (·.1)).Nodup){q:Int×Nat}(h:q∈l):eU l q.1=some q.2:=by
 induction l with
 |nil=>cases h
 |cons p l ih=>
  unfold eU;rw[aeN,aeJ]at nd;by_cases e:p.1=q.1
  ·rw[afS (by exact aey e)];rcases aea.mp h with rfl|h
   ·rfl
   ·exact absurd (by rw[e];exact afA h) nd.1
  ·rw[afT (by simpa using e)];rcases aea.mp h with rfl|h
   ·exact absurd rfl e
   ·exact ih nd.2 h
theorem nP:∀(n:Nat) (l:List Nat),l.Nodup->(∀x∈l,x<n)->l.length<=n
 |0,[],_,_=>ad7 _
 |0,a::l,_,h=>absurd (h a (aeb ..)) (by omega)
 |n+ 1,l,hn,h=>by
  by_cases hm:n∈l
  ·have:=nP n (l.erase n) (hn.erase n) (λx hx=>by
    have h1:=(hn.mem_erase_iff).mp hx;have h2:=h x h1.2;have h3:=h1.1;omega)
   rw[agd hm]at this;omega
  ·have:=nP n l hn (λx hx=>by
    have h2:=h x hx;have h3:x≠n:=λz=>hm (by rw[←z];exact hx)
    omega)
   omega
theorem um:∀(k l:List Int),l.Nodup->(∀x∈l,x∈k)->l.length<=k.length
 |[],[],_,_=>ad7 _
 |[],a::l,_,h=>by have:=h a aeb;cases this
 |y::k,l,hn,h=>by
  by_cases hm:y∈l
  ·have:=um k (l.erase y) (hn.erase y) (λx hx=>by
    have h1:=(hn.mem_erase_iff).mp hx;rcases aea.mp (h x h1.2) with e|e
    ·exact absurd e h1.1
    ·exact e)
   rw[agd hm]at this;have:1<=l.length:=List.length_pos_of_mem hm;rw[aes];omega
  ·have:=um k l hn (λx hx=>by
    rcases aea.mp (h x hx) with e|e
    ·exact absurd (e ▸ hx) hm
    ·exact e)
   rw[aes];omega
theorem Ob {c:Nat}{S:RS}{pend:List Way}(hc:c<S.ways.length)(kn:∀a,((S.way a).map (·.1)).Nodup):∀ps:List (Int×Nat),(∀q∈ps,q.2<S.ways.length)->∀a,(((df c S pend ps).1.way a).map (·.1)).Nodup:=by
 refine snoc_ind (λ_ a=>?_) λps p ih hl a=>?_
 ·show (((S.m4 c []).way a).map (·.1)).Nodup;rw[jU hc];split
  ·exact afE
  ·exact kn a
 ·have EG:=ih (λq hq=>hl q (aex _ hq));rw[iR];unfold kj;by_cases h:p.2≠c
  ·simp only[h,agH,agc,ne_eq];unfold RS.rj;rw[jU (by rw[(km c S pend ps).1];exact hl p (ad5 _ aeb))];split
   ·exact List.Nodup.sublist (List.Sublist.map _ List.filter_sublist) (EG p.2)
   ·exact EG a
  ·simp only[h,ago];exact EG a
section
variable {S:RS} {pend:List Way} {R:Nat->Int->Nat->Prop}
theorem zO.back (h:Good S pend R){S':RS}{cT:List Way}(sy:∀c z d,S'.by c z=some d->S'.by d (-z)=some c){c d:Nat}{z:Int}(i:zO S' cT c z d):zO S' cT d (-z) c:=by
 rcases i with q|⟨w,hw,q⟩
 ·exact .inl (sy _ _ _ q)
 ·refine .inr ⟨w,hw,?_⟩;rcases q with ⟨q1,q2,q3⟩|⟨q1,q2,q3⟩
  ·exact .inr ⟨q1,by rw[q2,afB],q3⟩
  ·exact .inl ⟨q1,q2,q3⟩
theorem Good.meet (h:Good S pend R){c x y:Nat}{z:Int}(hx:S.by c z=some x)(hy:y<S.made)(ey:S.ax y=y)(qW:x≠y)(iy:Im S R c z y){cT:List Way}(hp:∀w∈cT,w∈pend)
 (EH:∀w∈pend,w∉cT->(S.ax w.1=c/\w.2.1=z/\S.ax w.2.2=y)\/(S.ax w.1=y/\w.2.1= -z/\S.ax w.2.2=c)):
 Good (S.meet c z x y cT).1 (S.meet c z x y cT).2 R/\(∀a,(S.meet c z x y cT).1.ax a=if S.ax a=max x y then min x y else S.ax a)/\(S.meet c z x y cT).2=cT++(S.way (max x y)).map (λp=>(max x y,p.1,p.2)):=by
 obtain⟨hc,VF,ec,ex⟩:=h.st _ _ _ hx;have L3:Cg R x y:=h.must (h.so _ _ _ hx) iy;have hu:min x y<S.made:=by omega
 have hv:max x y<S.made:=by omega
 have QO:min x y<max x y:=by omega
 have eu:S.ax (min x y)=min x y:=by rcases agP x y with q|q;rw[age (by omega)];exact ex;rw[agG (by omega)];exact ey
 have ev:S.ax (max x y)=max x y:=by rcases agP x y with q|q;rw[ahd (by omega)];exact ey;rw[Nat.max_eq_left (by omega)];exact ex
 have QP:x=min x y\/x=max x y:=by omega
 have QQ:y=min x y\/y=max x y:=by omega
 have Gf:Cg R (max x y) (min x y):=by
  rcases agP x y with q|q
  ·rw[ahd (by omega),age (by omega)];exact L3.symm
  ·rw[Nat.max_eq_left (by omega),agG (by omega)];exact L3
 unfold RS.meet;generalize max x y=v at hv QO ev QP QQ Gf ⊢;generalize min x y=u at hu QO eu QP QQ Gf ⊢;have VG:v<S.ways.length:=by rw[h.wf.w];exact hv
 have xW:∀q∈S.way v,q.2<S.ways.length:=λq hq=>by
  rw[h.wf.w];exact(h.st v q.1 q.2 (lT (h.kn v) hq)).2.1
 have hP:((S.joined c z u v).rn v cT)=df v (S.joined c z u v) cT (S.way v):=rfl;rw[hP];have rest:=km v (S.joined c z u v) cT (S.way v);have byJ:∀a s,(S.joined c z u v).by a s=S.by a s:=λa s=>rfl
 have uj:∀a s,(df v (S.joined c z u v) cT (S.way v)).1.by a s=if a=v\/S.by a s=some v then none else S.by a s:=λa s=>by
  rw[EF (S:=S.joined c z u v) VG _ xW,byJ]
  have:(a=v\/∃q∈S.way v,q.2=a/\s= -q.1)↔(a=v\/S.by a s=some v):=by
   refine or_congr Iff.rfl ⟨?_,λe=>?_⟩
   ·rintro ⟨q,hq,rfl,rfl⟩;exact h.sy _ _ _ (lT (h.kn v) hq)
   ·have:=uk (h.sy _ _ _ e);exact⟨_,this,rfl,(afB s).symm⟩
  simp only[this]
 have Ca:(df v (S.joined c z u v) cT (S.way v)).2=cT++(S.way v).map λp=>(v,p.1,p.2):=zN _ _ _ _
 have VH:=Ob (S:=S.joined c z u v) (pend:=cT) VG h.kn (S.way v) xW
 have heq:∀a,(df v (S.joined c z u v) cT (S.way v)).1.ax a=if S.ax a=v then u else S.ax a:=λa=>by
  rw[rest.2];show ((S.cx v).foldl (λes n=>es.set n u) S.bI).getD a 0=_;rw[B9 u _ _ _ (λn hn=>by rw[h.wf.e];exact h.cb v n hn)];by_cases ha:a<S.made
  ·have:=h.ca v hv ev a;by_cases e:S.ax a=v
   ·rw[ael (this.mpr ⟨ha,e⟩),ael e]
   ·rw[aed (λq=>e (this.mp q).2),aed e];rfl
  ·have e0:S.ax a=0:=by unfold RS.ax;rw[ad2,aeM (by rw[h.wf.e];omega)];rfl
   rw[aed (λq=>ha (h.cb v a q)),aed (by rw[e0];omega)];rfl
 have Gh:∀e,(df v (S.joined c z u v) cT (S.way v)).1.cx e=if e=u then S.cx u++S.cx v else S.cx e:=λe=>by
  rw[rest.2];show (S.called.set u (S.cx u++S.cx v)).getD e []=_;rw[ad2];by_cases q:e=u
  ·subst q;rw[aeH (by rw[h.wf.c];exact hu),ael rfl];rfl
  ·rw[ae3 (afe q),aed q];unfold RS.cx;rw[ad2]
 have kH:(df v (S.joined c z u v) cT (S.way v)).1.made=S.made:=by rw[rest.2];rfl
 have VJ:(df v (S.joined c z u v) cT (S.way v)).1.Wf:=by
  refine⟨by rw[rest.1,kH];exact h.wf.w,?_,?_,?_⟩
  ·rw[rest.2];exact h.wf.g
  ·rw[rest.2];show ((S.cx v).foldl (λes n=>es.set n u) S.bI).length=S.made;rw[zP];exact h.wf.e
  ·rw[rest.2];show (S.called.set u (S.cx u++S.cx v)).length=S.made;rw[aew];exact h.wf.c
 generalize (df v (S.joined c z u v) cT (S.way v)).2=P2 at Ca ⊢;generalize (df v (S.joined c z u v) cT (S.way v)).1=S2 at rest uj VH heq Gh kH VJ ⊢;clear rest;refine⟨?_,heq,Ca⟩
 have bo:∀a s b,S2.by a s=some b↔S.by a s=some b/\a≠v/\b≠v:=λa s b=>by
  rw[uj];by_cases q:a=v\/S.by a s=some v
  ·rw[ael q];refine⟨(λz=>by cases z),λ⟨e,n1,n2⟩=>?_⟩;rcases q with q|q
   ·exact absurd q n1
   ·rw[q]at e;exact absurd (Option.some.inj e).symm n2
  ·rw[aed q];refine⟨λe=>⟨e,λz=>q (.inl z),λz=>q (.inr (by rw[e,z]))⟩,λe=>e.1⟩
 have L4:∀a,S2.ax (S.ax a)=S2.ax a:=λa=>by
  rw[heq,heq];by_cases ha:a<S.made
  ·rw[(h.el a ha).2]
  ·have e0:∀a,¬a<S.made->S.ax a=0:=λa ha=>by unfold RS.ax;rw[ad2,aeM (by rw[h.wf.e];omega)];rfl
   rw[e0 a ha];have:S.ax 0=0:=by have:=(h.el 0 (by omega)).1;omega
   rw[this]
 have eqv:∀{a b},S.ax a=S.ax b->S2.ax a=S2.ax b:=λ{a b} e=>by rw[heq,heq,e]
 have QR:∀a s b,S2.by a s=some b->S2.by b (-s)=some a:=λa s b e=>by
  rw[bo]at e ⊢;exact⟨h.sy _ _ _ e.1,e.2.2,e.2.1⟩
 have std:∀{a},S.ax a=a->S2.ax a=if a=v then u else a:=λ{a} e=>by rw[heq,e]
 have kept:∀p s q,S.by p s=some q->zO S2 P2 (S2.ax p) s (S2.ax q):=λp s q e=>by
  obtain⟨lp,lq,ep,eq⟩:=h.st _ _ _ e;by_cases h1:p=v
  ·refine .inr ⟨(v,s,q),?_,.inl ⟨by rw[h1],rfl,rfl⟩⟩;rw[Ca];rw[h1]at e;exact ad5 _ (aeL.mpr ⟨(s,q),uk e,rfl⟩)
  ·by_cases h2:q=v
   ·refine .inr ⟨(v,-s,p),?_,.inr ⟨by rw[h2],rfl,rfl⟩⟩;rw[Ca];have e':=h.sy _ _ _ e;rw[h2]at e';exact ad5 _ (aeL.mpr ⟨(-s,p),uk e',rfl⟩)
   ·refine .inl ?_;rw[std ep,std eq,aed h1,aed h2];exact(bo _ _ _).mpr ⟨e,h1,h2⟩
 have eu2:S2.ax u=u:=by rw[std eu,aed (by omega)]
 have ev2:S2.ax v=u:=by rw[std ev,ael rfl]
 have exy:S2.ax x=S2.ax y:=by
  have q1:S2.ax x=u:=by rcases QP with q|q <;> rw[q] <;> assumption
  have q2:S2.ax y=u:=by rcases QQ with q|q <;> rw[q] <;> assumption
  rw[q1,q2]
 have QS:∀{a b s},Im S R (S.ax a) s (S.ax b)->Im S2 R (S2.ax a) s (S2.ax b):=λ{a b s} ⟨a',b',r,e1,e2⟩=>⟨a',b',r,eqv e1,eqv e2⟩
 refine⟨VJ,λa ha=>?_,λe he ee a=>?_,λe a ha=>?_,λe=>?_,VH,λa s b e=>?_,QR,λw hw=>?_,λa s b r=>?_,λa s b r=>?_,λa s b e=>?_,λw hw=>?_,λa ha=>?_⟩
 ·rw[kH]at ha;obtain⟨l1,l2⟩:=h.el a ha;rw[heq];by_cases q:S.ax a=v
  ·rw[ael q];exact⟨by omega,eu2⟩
  ·rw[aed q];exact⟨l1,by rw[heq,l2,aed q]⟩
 ·rw[kH]at he ⊢;rw[Gh];have nev:e≠v:=λz=>by rw[z,ev2]at ee;omega
  by_cases q:e=u
  ·subst q;rw[ael rfl,aei,h.ca _ hu eu,h.ca v hv ev,heq];constructor
   ·rintro (⟨q1,q2⟩|⟨q1,q2⟩)
    ·exact⟨q1,by rw[aed (by omega)];exact q2⟩
    ·exact⟨q1,by rw[ael q2]⟩
   ·rintro ⟨q1,q2⟩;by_cases q3:S.ax a=v
    ·exact .inr ⟨q1,q3⟩
    ·rw[aed q3]at q2;exact .inl ⟨q1,q2⟩
  ·rw[aed q]
   have e0:S.ax e=e:=by
    rw[heq]at ee;by_cases q3:S.ax e=v
    ·rw[ael q3]at ee;exact absurd ee.symm q
    ·rw[aed q3]at ee;exact ee
   rw[h.ca e he e0,heq];constructor
   ·rintro ⟨q1,q2⟩;exact⟨q1,by rw[aed (by rw[q2];exact nev)];exact q2⟩
   ·rintro ⟨q1,q2⟩;by_cases q3:S.ax a=v
    ·rw[ael q3]at q2;exact absurd q2.symm q
    ·rw[aed q3]at q2;exact⟨q1,q2⟩
 ·rw[kH];rw[Gh]at ha;split at ha
  ·rcases aei.mp ha with ha|ha
   ·exact h.cb _ _ ha
   ·exact h.cb _ _ ha
  ·exact h.cb _ _ ha
 ·rw[Gh];split
  ·refine aeX.mpr ⟨h.cn _,h.cn _,λa ha b hb e=>?_⟩;have q1:=((h.ca _ hu eu a).mp ha).2;have q2:=((h.ca v hv ev b).mp hb).2;rw[e,q2]at q1;omega
  ·exact h.cn _
 ·rw[bo]at e;obtain⟨l1,l2,l3,l4⟩:=h.st _ _ _ e.1;exact⟨by rw[kH];exact l1,by rw[kH];exact l2,by rw[std l3,aed e.2.1],by rw[std l4,aed e.2.2]⟩
 ·rw[kH];rw[Ca]at hw;rcases aei.mp hw with hw|hw
  ·exact h.pl w (hp w hw)
  ·obtain⟨q,hq,rfl⟩:=aeL.mp hw;exact⟨hv,(h.st v q.1 q.2 (lT (h.kn v) hq)).2.1⟩
 ·rw[kH];exact h.rl a s b r
 ·rcases h.cv a s b r with q|⟨w,hw,q⟩
  ·have:=kept _ _ _ q;rw[L4,L4]at this;exact this
  ·by_cases hm:w∈cT
   ·refine .inr ⟨w,by rw[Ca];exact aex _ hm,?_⟩;rcases q with ⟨q1,q2,q3⟩|⟨q1,q2,q3⟩
    ·exact .inl ⟨eqv q1,q2,eqv q3⟩
    ·exact .inr ⟨eqv q1,q2,eqv q3⟩
   ·have base:zO S2 P2 (S2.ax c) z (S2.ax y):=by rw[←exy];exact kept _ _ _ hx
    have one:∀{p q:Nat},S.ax p=c->S.ax q=y->S2.ax p=S2.ax c/\S2.ax q=S2.ax y:=λ{p q} e1 e2=>⟨by rw[←L4 p,e1],by rw[←L4 q,e2]⟩
    rcases EH w hw hm with ⟨f1,f2,f3⟩|⟨f1,f2,f3⟩
    ·rcases q with ⟨q1,q2,q3⟩|⟨q1,q2,q3⟩
     ·obtain⟨g1,g2⟩:=one (q1.symm.trans f1) (q3.symm.trans f3);rw[g1,g2,←q2,f2];exact base
     ·obtain⟨g1,g2⟩:=one (q1.symm.trans f1) (q3.symm.trans f3);have es:s= -z:=by rw[←f2,q2,afB]
      rw[g1,g2,es];exact zO.back h QR base
    ·rcases q with ⟨q1,q2,q3⟩|⟨q1,q2,q3⟩
     ·obtain⟨g1,g2⟩:=one (q3.symm.trans f3) (q1.symm.trans f1);have es:s= -z:=by rw[←q2,f2]
      rw[g1,g2,es];exact zO.back h QR base
     ·obtain⟨g1,g2⟩:=one (q3.symm.trans f3) (q1.symm.trans f1);have es:s=z:=by have:=q2.symm.trans f2;omega
      rw[g1,g2,es];exact base
 ·rw[bo]at e;obtain⟨l1,l2,l3,l4⟩:=h.st _ _ _ e.1;have:=h.so _ _ _ e.1;rw[←l3,←l4]at this;have q:=QS this;rw[std l3,std l4,aed e.2.1,aed e.2.2]at q;exact q
 ·rw[Ca]at hw;rcases aei.mp hw with hw|hw
  ·exact QS (h.sp w (hp w hw))
  ·obtain⟨q,hq,rfl⟩:=aeL.mp hw;have e:=lT (h.kn v) hq;obtain⟨l1,l2,l3,l4⟩:=h.st v q.1 q.2 e;have:=h.so _ _ _ e;rw[←l3,←l4]at this;exact QS this
 ·rw[kH]at ha;rw[heq];split
  ·rename_i q;have:=h.cg a ha;rw[q]at this;exact this.trans Gf
  ·exact h.cg a ha
end
def RS.stand (S:RS):Nat:=(List.range S.made).countP λc=>decide (S.ax c=c)
theorem nS {p p':Nat->Bool}{v:Nat}(h:∀a,p' a=(p a && decide (a≠v)))(hv:p v=true):∀n,(List.range n).countP p'+ (if v<n then 1 else 0)=(List.range n).countP p
 |0=>rfl
 |n+ 1=>by
  have ih:=nS h hv n;rw[afI,List.countP_append,List.countP_append,←ih];rw[List.countP_singleton,List.countP_singleton,h n];by_cases e:n=v
  ·subst e;rw[hv,aed (aeD n),ael (afV n)];simp
  ·have:decide (n≠v)=true:=aey e;rw[this,Bool.and_true];have hh:(v<n+ 1)=(v<n):=propext ⟨λ_=>by omega,λ_=>by omega⟩;simp only[hh];omega
def mu (k:Nat)(S:RS)(pend:List Way):Nat:=S.stand* (k+ 1)+ pend.length
section
variable {S:RS} {pend:List Way} {R:Nat->Int->Nat->Prop} {w:Way} {ks:List Int}
theorem Good.Cb (h:Good S pend R)(hk:∀c z d,R c z d->z∈ks)(c:Nat):(S.way c).length<=ks.length:=by
 have:=um ks ((S.way c).map (·.1)) (h.kn c) (λx hx=>by
  obtain⟨q,hq,rfl⟩:=aeL.mp hx;obtain⟨a,b,r,_⟩:=h.so c q.1 q.2 (lT (h.kn c) hq);exact hk _ _ _ r)
 rw[ad6]at this;exact this
theorem Good.QT (h:Good S pend R)(c:Nat):(S.cx c).length<=S.made:=nP _ _ (h.cn c) λx hx=>h.cb c x hx
theorem Good.take (h:Good S (pend++[w]) R)(hk:∀c z d,R c z d->z∈ks):Good (S.takeIn pend w).1 (S.takeIn pend w).2 R/\mu ks.length (S.takeIn pend w).1 (S.takeIn pend w).2<mu ks.length S (pend++[w])/\(S.takeIn pend w).1.made=S.made/\(S.takeIn pend w).1.L=S.L/\
 ((S.takeIn pend w).1.stand=S.stand/\(S.takeIn pend w).1.rows=S.rows/\(S.takeIn pend w).1.bf=S.bf\/(S.takeIn pend w).1.stand+ 1=S.stand/\∃c z x y,S.by c z=some x/\Im S R c z y/\y<S.made/\S.ax y=y/\x≠y/\(S.takeIn pend w).1.rows=S.rows++[ki c z (min x y) (max x y)]/\(S.takeIn pend w).1.bf=S.bf++[max x y]/\∀a,(S.takeIn pend w).1.ax a=if S.ax a=max x y then min x y else S.ax a):=by
 have hw:=h.pl w (ad5 _ aeb);have iw:=h.sp w (ad5 _ aeb);have hc:=h.lt hw.1;have hd:=h.lt hw.2;have ec:=(h.el _ hw.1).2;have ed:=(h.el _ hw.2).2;have hp:∀x∈pend,x∈pend++[w]:=λx hx=>aex _ hx
 have last:∀x∈pend++[w],x∉pend->x=w:=λx hx nx=>by
  rcases aei.mp hx with q|q
  ·exact absurd q nx
  ·exact ad1.mp q
 have met:∀{c x y:Nat} {z:Int},S.by c z=some x->y<S.made->S.ax y=y->x≠y->Im S R c z y->((S.ax w.1=c/\w.2.1=z/\S.ax w.2.2=y)\/(S.ax w.1=y/\w.2.1= -z/\S.ax w.2.2=c))->
  Good (S.meet c z x y pend).1 (S.meet c z x y pend).2 R/\mu ks.length (S.meet c z x y pend).1 (S.meet c z x y pend).2<mu ks.length S (pend++[w])/\(S.meet c z x y pend).1.made=S.made/\(S.meet c z x y pend).1.L=S.L/\(S.meet c z x y pend).1.stand+ 1=S.stand/\(S.meet c z x y pend).1.rows=S.rows++[ki c z (min x y) (max x y)]/\(S.meet c z x y pend).1.bf=S.bf++[max x y]/\∀a,(S.meet c z x y pend).1.ax a=if S.ax a=max x y then min x y else S.ax a:=by
  intro c x y z hx hy ey qW iy EH;obtain⟨g,g1,g2⟩:=h.meet hx hy ey qW iy hp (λx hx nx=>by rw[last x hx nx];exact EH);obtain⟨hc,VF,ec,ex⟩:=h.st _ _ _ hx;have rest:=(km (max x y) (S.joined c z (min x y) (max x y)) pend ((S.joined c z (min x y) (max x y)).way (max x y))).2
  have hm:(S.meet c z x y pend).1.made=S.made:=by
   show (df (max x y) (S.joined c z (min x y) (max x y)) pend ((S.joined c z (min x y) (max x y)).way (max x y))).1.made=_;rw[rest];rfl
  have hL:(S.meet c z x y pend).1.L=S.L:=by
   show (df (max x y) (S.joined c z (min x y) (max x y)) pend ((S.joined c z (min x y) (max x y)).way (max x y))).1.L=_;rw[rest];rfl
  have hr:(S.meet c z x y pend).1.rows=S.rows++[ki c z (min x y) (max x y)]:=by
   show (df (max x y) (S.joined c z (min x y) (max x y)) pend ((S.joined c z (min x y) (max x y)).way (max x y))).1.rows=_;rw[rest];rfl
  have hn:(S.meet c z x y pend).1.bf=S.bf++[max x y]:=by
   show (df (max x y) (S.joined c z (min x y) (max x y)) pend ((S.joined c z (min x y) (max x y)).way (max x y))).1.bf=_;rw[rest];rfl
  have QO:min x y<max x y:=by omega
  have ev:S.ax (max x y)=max x y:=by rcases agP x y with q|q;rw[ahd (by omega)];exact ey;rw[Nat.max_eq_left (by omega)];exact ex
  have hs:(S.meet c z x y pend).1.stand+ 1=S.stand:=by
   unfold RS.stand;rw[hm]
   have:=nS (p:=λc=>decide (S.ax c=c)) (p':=λa=>decide ((S.meet c z x y pend).1.ax a=a)) (v:=max x y) (λa=>by
    rw[g1,aeY,afv,aeB,aeB,aeB];by_cases q:S.ax a=max x y
    ·rw[ael q];constructor
     ·intro e;have e2:S.ax (min x y)=min x y:=by rcases agP x y with q|q;rw[age (by omega)];exact ex;rw[agG (by omega)];exact ey
      rw[e]at e2;rw[e2]at q;omega
     ·rintro ⟨e1,e2⟩;exact absurd (e1.symm.trans q) e2
    ·rw[aed q];exact⟨λe=>⟨e,λe2=>q (by rw[e2];exact ev)⟩,λe=>e.1⟩) (aey ev) S.made
   rw[ael (by omega)]at this;exact this
  have hl:=h.Cb hk (max x y);refine⟨g,?_,hm,hL,hs,hr,hn,g1⟩;unfold mu;rw[g2,←hs,adZ,adZ,ad6,Nat.add_mul,Nat.one_mul];have:([w]:List Way).length=1:=rfl;omega
 unfold RS.takeIn;by_cases h1:(S.by (S.ax w.1) w.2.1).getD (S.ax w.2.2)≠S.ax w.2.2
 ·rw[ael h1]
  cases e:S.by (S.ax w.1) w.2.1 with
  |none=>rw[e]at h1;exact absurd rfl h1
  |some x=>
   rw[e]at h1;obtain⟨a1,a2,a3,a4,a5,a6,a7,a8⟩:=met e hd ed h1 iw (.inl ⟨rfl,rfl,rfl⟩);exact⟨a1,a2,a3,a4,.inr ⟨a5,_,_,x,_,e,iw,hd,ed,h1,a6,a7,a8⟩⟩
 ·rw[aed h1];by_cases h2:(S.by (S.ax w.2.2) (-w.2.1)).getD (S.ax w.1)≠S.ax w.1
  ·rw[ael h2]
   cases e:S.by (S.ax w.2.2) (-w.2.1) with
   |none=>rw[e]at h2;exact absurd rfl h2
   |some x=>
    rw[e]at h2;have ib:=Im.back h iw;obtain⟨a1,a2,a3,a4,a5,a6,a7,a8⟩:=met e hc ec h2 ib (.inr ⟨rfl,(afB _).symm,rfl⟩);exact⟨a1,a2,a3,a4,.inr ⟨a5,_,_,x,_,e,ib,hc,ec,h2,a6,a7,a8⟩⟩
  ·rw[aed h2]
   have k1:S.by (S.ax w.1) w.2.1=none\/S.by (S.ax w.1) w.2.1=some (S.ax w.2.2):=by
    cases e:S.by (S.ax w.1) w.2.1 with
    |none=>exact .inl rfl
    |some x=>rw[e]at h1;exact .inr (afh some (agA.mp h1))
   have k2:S.by (S.ax w.2.2) (-w.2.1)=none\/S.by (S.ax w.2.2) (-w.2.1)=some (S.ax w.1):=by
    cases e:S.by (S.ax w.2.2) (-w.2.1) with
    |none=>exact .inl rfl
    |some x=>rw[e]at h2;exact .inr (afh some (agA.mp h2))
   refine⟨h.keep hc hd ec ed iw k1 k2 hp (λx hx nx=>by rw[last x hx nx];exact⟨rfl,rfl,rfl⟩),?_,rfl,rfl,.inl ⟨rfl,rfl,rfl⟩⟩;unfold mu;show S.stand* _+ pend.length<S.stand* _+ (pend++[w]).length;rw[adZ];have:([w]:List Way).length=1:=rfl;omega
theorem Good.fin (h:Good S [] R){a b:Nat}(ha:a<S.made)(hb:b<S.made):S.ax a=S.ax b↔Cg R a b:=by
 have det:∀{a a' b b':Nat} {z:Int},R a z b->R a' z b'->S.ax a=S.ax a'->S.ax b=S.ax b':=λ{a a' b b' z} r1 r2 e=>by
  rcases h.cv _ _ _ r1 with q1|⟨w,hw,_⟩
  ·rcases h.cv _ _ _ r2 with q2|⟨w,hw,_⟩
   ·rw[e,q2]at q1;exact(Option.some.inj q1).symm
   ·cases hw
  ·cases hw
 constructor
 ·intro e;have h1:=h.cg a ha;have h2:=h.cg b hb;rw[e]at h1;exact h1.trans h2.symm
 ·intro c;clear ha hb
  induction c with
  |refl=>rfl
  |symm _ ih=>exact ih.symm
  |trans _ _ i1 i2=>exact i1.trans i2
  |step r1 r2 _ ih=>exact det r1 r2 ih
theorem Good.Cd (h:Good S [] R){c d:Nat}{z:Int}:S.by c z=some d↔Im S R c z d:=by
 constructor
 ·exact h.so c z d
 ·rintro ⟨c',d',r,rfl,rfl⟩;rcases h.cv _ _ _ r with q|⟨w,hw,_⟩
  ·exact q
  ·cases hw
end
end L2
namespace L2
open PySem PySem.Spec PyProof.Rows
section
variable {X:Cx}
end
def jy (R:Nat->Int->Nat->Prop)(c:Nat)(z:Int)(d:Nat):Nat->Int->Nat->Prop:=λa s b=>R a s b\/(a=c/\s=z/\b=d)\/(a=d/\s= -z/\b=c)
theorem oU {R:Nat->Int->Nat->Prop}{c d:Nat}{z:Int}:∀a s b,R a s b->jy R c z d a s b:=λ_ _ _ r=>.inl r
theorem wu {R:Nat->Int->Nat->Prop}{c d:Nat}{z:Int}:jy R c z d c z d:=.inr (.inl ⟨rfl,rfl,rfl⟩)
theorem Kj (L:Nat)(g:List Int):Good (RS.new L g) [] (λ_ _ _=>False) where
 wf:=⟨rfl,rfl,rfl,rfl⟩
 el:=λc hc=>by
  have:c=0:=by have:c<1:=hc;omega
  subst this;exact⟨ad7 _,rfl⟩
 ca:=λe he _ c=>by
  have:e=0:=by have:e<1:=he;omega
  subst this;show c∈[0]↔c<1/\(RS.new L g).ax c=0;rw[ad1];constructor
  ·rintro rfl;exact⟨by decide,rfl⟩
  ·rintro ⟨h,_⟩;omega
 cb:=λe c hc=>by
  have:(RS.new L g).cx e=[0]\/(RS.new L g).cx e=[]:=by
   rcases e with _|e
   ·exact .inl rfl
   ·exact .inr rfl
  show c<1;rcases this with q|q <;> rw[q]at hc
  ·rw[ad1.mp hc];decide
  ·cases hc
 cn:=λe=>by
  rcases e with _|e
  ·show [0].Nodup;simp
  ·exact afE
 kn:=λc=>by
  rcases c with _|c <;> exact afE
 st:=λc z d h=>by
  have:(RS.new L g).by c z=none:=by rcases c with _|c <;> rfl
  rw[this]at h;cases h
 sy:=λc z d h=>by
  have:(RS.new L g).by c z=none:=by rcases c with _|c <;> rfl
  rw[this]at h;cases h
 pl:=λw hw=>by cases hw
 rl:=λ_ _ _ h=>h.elim
 cv:=λ_ _ _ h=>h.elim
 so:=λc z d h=>by
  have:(RS.new L g).by c z=none:=by rcases c with _|c <;> rfl
  rw[this]at h;cases h
 sp:=λw hw=>by cases hw
 cg:=λc hc=>by
  have:c=0:=by have:c<1:=hc;omega
  subst this;exact .refl _
section
variable {S:RS} {R:Nat->Int->Nat->Prop}
theorem Good.lay (h:Good S [] R){c d:Nat}(z:Int)(hc:c<S.made)(hd:d<S.made)(rows:List Dt):Good { S with rows:=rows } [(c,z,d)] (jy R c z d) where
 wf:=⟨h.wf.w,h.wf.g,h.wf.e,h.wf.c⟩
 el:=h.el
 ca:=h.ca
 cb:=h.cb
 cn:=h.cn
 kn:=h.kn
 st:=h.st
 sy:=h.sy
 pl:=λw hw=>by rw[ad1.mp hw];exact⟨hc,hd⟩
 rl:=by
  rintro a s b (r|⟨rfl,rfl,rfl⟩|⟨rfl,rfl,rfl⟩)
  ·obtain⟨q1,q2,q3⟩:=h.rl _ _ _ r;exact⟨q1,q2,.inl q3⟩
  ·exact⟨hc,hd,.inr (.inr ⟨rfl,rfl,rfl⟩)⟩
  ·exact⟨hd,hc,.inr (.inl ⟨rfl,afB _,rfl⟩)⟩
 cv:=by
  rintro a s b (r|⟨rfl,rfl,rfl⟩|⟨rfl,rfl,rfl⟩)
  ·rcases h.cv _ _ _ r with q|⟨w,hw,_⟩
   ·exact .inl q
   ·cases hw
  ·exact .inr ⟨_,aeb,.inl ⟨rfl,rfl,rfl⟩⟩
  ·exact .inr ⟨_,aeb,.inr ⟨rfl,(afB _).symm,rfl⟩⟩
 so:=λa s b e=>by
  obtain⟨c',d',r,e1,e2⟩:=h.so a s b e;exact⟨c',d',.inl r,e1,e2⟩
 sp:=λw hw=>by
  rw[ad1.mp hw];exact⟨c,d,wu,rfl,rfl⟩
 cg:=λa ha=>(h.cg a ha).mono oU
theorem mS (hw:S.Wf)(c:Nat)(z:Int)(g:List Int)(a:Nat):(S.grown c z g).ax a=if a=S.made then S.made else S.ax a:=by
 unfold RS.ax;show (S.bI++[S.made]).getD a 0=_;rw[ad2];by_cases e:a=S.made
 ·rw[ael e,e,aee (by rw[hw.e];exact ad7 _),hw.e,afJ];rfl
 ·rw[aed e,ad2];by_cases q:a<S.made
  ·rw[aej (by rw[hw.e];exact q)]
  ·rw[aeM (by rw[adZ,hw.e];show S.made+ 1<=a;omega),aeM (by rw[hw.e];omega)]
theorem uo (hw:S.Wf)(c:Nat)(z:Int)(g:List Int)(a:Nat):(S.grown c z g).cx a=if a=S.made then [S.made] else S.cx a:=by
 unfold RS.cx;show (S.called++[[S.made]]).getD a []=_;rw[ad2];by_cases e:a=S.made
 ·rw[ael e,e,aee (by rw[hw.c];exact ad7 _),hw.c,afJ];rfl
 ·rw[aed e,ad2];by_cases q:a<S.made
  ·rw[aej (by rw[hw.c];exact q)]
  ·rw[aeM (by rw[adZ,hw.c];show S.made+ 1<=a;omega),aeM (by rw[hw.c];omega)]
theorem zQ (hw:S.Wf)(c:Nat)(z:Int)(g:List Int)(a:Nat):(S.grown c z g).way a=S.way a:=by
 unfold RS.way;show (S.ways++[[]]).getD a []=_;rw[ad2,ad2];by_cases q:a<S.ways.length
 ·rw[aej q]
 ·rw[aee (by omega),aeM (l:=S.ways) (by omega)];by_cases h2:a - S.ways.length=0
  ·rw[h2];rfl
  ·rw[aeM (by simp;omega)]
theorem Good.make (h:Good S [] R){c:Nat}{z:Int}(hc:c<S.made)(ec:S.ax c=c)(hn:S.by c z=none)(g:List Int):Good (S.make c z g) [] (jy R c z S.made):=by
 have hw:=h.wf;have uq:∀a,a<S.made->(S.grown c z g).ax a=S.ax a:=λa ha=>by rw[mS hw,aed (by omega)]
 have EJ:(S.grown c z g).ax S.made=S.made:=by rw[mS hw,ael rfl]
 have EK:∀a s,(S.grown c z g).by a s=S.by a s:=λa s=>by unfold RS.by;rw[zQ hw]
 have G:Good (S.grown c z g) [(c,z,S.made)] (jy R c z S.made):=by
  refine⟨⟨?_,?_,?_,?_⟩,λa ha=>?_,λe he ee a=>?_,λe a ha=>?_,λe=>?_,λa=>?_,λa s b e=>?_,λa s b e=>?_,λw hw=>?_,?_,?_,λa s b e=>?_,λw hw=>?_,λa ha=>?_⟩
  ·show (S.ways++[[]]).length=S.made+ 1;rw[adZ,hw.w];rfl
  ·show (S.gaps++[_]).length=S.made+ 1;rw[adZ,hw.g];rfl
  ·show (S.bI++[_]).length=S.made+ 1;rw[adZ,hw.e];rfl
  ·show (S.called++[_]).length=S.made+ 1;rw[adZ,hw.c];rfl
  ·have ha':a<S.made+ 1:=ha;by_cases e:a=S.made
   ·rw[e,EJ];exact⟨ad7 _,EJ⟩
   ·have hl:a<S.made:=by omega
    rw[uq a hl];obtain⟨q1,q2⟩:=h.el a hl;exact⟨q1,by rw[uq _ (by omega)];exact q2⟩
  ·have dw:e<S.made+ 1:=he;show _↔a<S.made+ 1/\_;rw[uo hw,mS hw];by_cases q:e=S.made
   ·subst q;rw[ael rfl,ad1];constructor
    ·rintro rfl;exact⟨by omega,by rw[ael rfl]⟩
    ·rintro ⟨q1,q2⟩;by_cases q3:a=S.made
     ·exact q3
     ·rw[aed q3]at q2;have:=(h.el a (by omega)).1;omega
   ·have hl:e<S.made:=by omega
    rw[uq e hl]at ee;rw[aed q,h.ca e hl ee a];constructor
    ·rintro ⟨q1,q2⟩;exact⟨by omega,by rw[aed (by omega)];exact q2⟩
    ·rintro ⟨q1,q2⟩;by_cases q3:a=S.made
     ·rw[ael q3]at q2;exact absurd q2.symm q
     ·rw[aed q3]at q2;exact⟨by omega,q2⟩
  ·show a<S.made+ 1;rw[uo hw]at ha;split at ha
   ·rw[ad1.mp ha];omega
   ·exact afq (h.cb e a ha)
  ·rw[uo hw];split
   ·simp
   ·exact h.cn e
  ·rw[zQ hw];exact h.kn a
  ·rw[EK]at e;obtain⟨q1,q2,q3,q4⟩:=h.st a s b e;exact⟨afq q1,afq q2,by rw[uq a q1];exact q3,by rw[uq b q2];exact q4⟩
  ·rw[EK]at e ⊢;exact h.sy a s b e
  ·rw[ad1.mp hw];exact⟨afq hc,afV _⟩
  ·rintro a s b (r|⟨rfl,rfl,rfl⟩|⟨rfl,rfl,rfl⟩)
   ·obtain⟨q1,q2,q3⟩:=h.rl _ _ _ r;exact⟨afq q1,afq q2,.inl q3⟩
   ·exact⟨afq hc,afV _,.inr (.inr ⟨rfl,rfl,rfl⟩)⟩
   ·exact⟨afV _,afq hc,.inr (.inl ⟨rfl,afB _,rfl⟩)⟩
  ·rintro a s b (r|⟨rfl,rfl,rfl⟩|⟨rfl,rfl,rfl⟩)
   ·obtain⟨q1,q2,_⟩:=h.rl _ _ _ r;rcases h.cv _ _ _ r with q|⟨w,hw,_⟩
    ·exact .inl (by rw[uq a q1,uq b q2,EK];exact q)
    ·cases hw
   ·exact .inr ⟨_,aeb,.inl ⟨rfl,rfl,rfl⟩⟩
   ·exact .inr ⟨_,aeb,.inr ⟨rfl,(afB _).symm,rfl⟩⟩
  ·rw[EK]at e;obtain⟨c',d',r,e1,e2⟩:=h.so a s b e;obtain⟨q1,q2,_⟩:=h.rl _ _ _ r;exact⟨c',d',.inl r,by rw[uq c' q1];exact e1,by rw[uq d' q2];exact e2⟩
  ·rw[ad1.mp hw];exact⟨c,S.made,wu,rfl,rfl⟩
  ·have ha':a<S.made+ 1:=ha;by_cases e:a=S.made
   ·rw[e,EJ];exact .refl _
   ·rw[uq a (by omega)];exact(h.cg a (by omega)).mono oU
 have e1:(S.grown c z g).ax c=c:=by rw[uq c hc];exact ec
 have i:=G.sp _ aeb;rw[show (c,z,S.made).1=c from rfl,show (c,z,S.made).2.2=S.made from rfl,e1,EJ]at i;refine G.keep (afq hc) (afV _) e1 EJ i (.inl (by rw[EK];exact hn)) (.inl ?_) (λw hw=>by cases hw) (λw hw _=>by rw[ad1.mp hw];exact⟨e1,rfl,EJ⟩);rw[EK]
 cases e:S.by S.made (-z) with
 |none=>rfl
 |some b=>have:=(h.st _ _ _ e).1;omega
end
end L2
namespace L2
open PySem PySem.Spec PyProof.Rows
def Zg (n:Nat)(s:Int):Nat->Int->Nat->Prop:=λa z b=>(z=s/\b=a+ 1/\b<n)\/(z= -s/\a=b+ 1/\a<n)
section
variable {n one other:Nat} {s:Int}
variable (hs:s=1\/s= -1) (h1:one<n) (h2:other<n) {S:RS} (g:Good S [] (jy (Zg n s) one s other)) (hm:S.made=n)
include hs h1 h2 g hm
end
end L2
namespace L2
open PySem PySem.Spec PyProof.Rows
section
variable {X:Cx}
end
end L2
namespace L2
open PySem PySem.Spec PyProof.Rows
section
variable {X:Cx}
end
end L2
namespace L2
theorem aY {p:Prop}(h:let q:Prop:=p;q):p:=h
theorem wx {a1 z:TS}{D:Ends}{σ:St}{H:Hp}(h:let u1:TS:=z;aT a1 u1 D σ H):(aT a1 z) D σ H:=h
theorem Ce {a1 z:TS}{D:Ends}{σ:St}{H:Hp}(h:let D0:Ends:=D;let u1:TS:=z;aT a1 u1 D0 σ H):(aT a1 z) D σ H:=h
theorem iS {a1 a2 z:TS}{D:Ends}{σ:St}{H:Hp}(h:let u2:TS:=z;let u1:TS:=aT a2 u2;aT a1 u1 D σ H):(aT a1 (aT a2 z)) D σ H:=h
theorem wy {a1 a2 z:TS}{D:Ends}{σ:St}{H:Hp}(h:let D0:Ends:=D;let u2:TS:=z;let u1:TS:=aT a2 u2;aT a1 u1 D0 σ H):(aT a1 (aT a2 z)) D σ H:=h
theorem jV {a1 a2 a3 z:TS}{D:Ends}{σ:St}{H:Hp}(h:let u3:TS:=z;let u2:TS:=aT a3 u3;let u1:TS:=aT a2 u2;aT a1 u1 D σ H):(aT a1 (aT a2 (aT a3 z))) D σ H:=h
theorem Kk {a1 a2 a3 z:TS}{D:Ends}{σ:St}{H:Hp}(h:let D0:Ends:=D;let u3:TS:=z;let u2:TS:=aT a3 u3;let u1:TS:=aT a2 u2;aT a1 u1 D0 σ H):(aT a1 (aT a2 (aT a3 z))) D σ H:=h
theorem Ci {a1 a2 a3 a4 z:TS}{D:Ends}{σ:St}{H:Hp}(h:let u4:TS:=z;let u3:TS:=aT a4 u4;let u2:TS:=aT a3 u3;let u1:TS:=aT a2 u2;aT a1 u1 D σ H):(aT a1 (aT a2 (aT a3 (aT a4 z)))) D σ H:=h
theorem wz {a1 a2 a3 a4 a5 z:TS}{D:Ends}{σ:St}{H:Hp}(h:let u5:TS:=z;let u4:TS:=aT a5 u5;let u3:TS:=aT a4 u4;let u2:TS:=aT a3 u3;let u1:TS:=aT a2 u2;aT a1 u1 D σ H):(aT a1 (aT a2 (aT a3 (aT a4 (aT a5 z))))) D σ H:=h
theorem r6 {a1 a2 a3 a4 a5 a6 z:TS}{D:Ends}{σ:St}{H:Hp}(h:let u6:TS:=z;let u5:TS:=aT a6 u6;let u4:TS:=aT a5 u5;let u3:TS:=aT a4 u4;let u2:TS:=aT a3 u3;let u1:TS:=aT a2 u2;aT a1 u1 D σ H):(aT a1 (aT a2 (aT a3 (aT a4 (aT a5 (aT a6 z)))))) D σ H:=h
theorem Cj {a1 a2 a3 a4 a5 a6 a7 z:TS}{D:Ends}{σ:St}{H:Hp}(h:let u7:TS:=z;let u6:TS:=aT a7 u7;let u5:TS:=aT a6 u6;let u4:TS:=aT a5 u5;let u3:TS:=aT a4 u4;let u2:TS:=aT a3 u3;let u1:TS:=aT a2 u2;aT a1 u1 D σ H):(aT a1 (aT a2 (aT a3 (aT a4 (aT a5 (aT a6 (aT a7 z))))))) D σ H:=h
theorem Kl {a1 a2 a3 a4 a5 a6 a7 a8 z:TS}{D:Ends}{σ:St}{H:Hp}(h:let u8:TS:=z;let u7:TS:=aT a8 u8;let u6:TS:=aT a7 u7;let u5:TS:=aT a6 u6;let u4:TS:=aT a5 u5;let u3:TS:=aT a4 u4;let u2:TS:=aT a3 u3;let u1:TS:=aT a2 u2;aT a1 u1 D σ H):(aT a1 (aT a2 (aT a3 (aT a4 (aT a5 (aT a6 (aT a7 (aT a8 z)))))))) D σ H:=h
theorem HW {a1 a2 a3 a4 a5 a6 a7 a8 a9 xX VL VM z:TS}{D:Ends}{σ:St}{H:Hp}(h:let u12:TS:=z;let QV:TS:=aT VM u12;let L5:TS:=aT VL QV;let u9:TS:=aT xX L5;let u8:TS:=aT a9 u9;let u7:TS:=aT a8 u8;let u6:TS:=aT a7 u7;let u5:TS:=aT a6 u6;let u4:TS:=aT a5 u5;let u3:TS:=aT a4 u4;let u2:TS:=aT a3 u3;let u1:TS:=aT a2 u2;aT a1 u1 D σ H):(aT a1 (aT a2 (aT a3 (aT a4 (aT a5 (aT a6 (aT a7 (aT a8 (aT a9 (aT xX (aT VL (aT VM z)))))))))))) D σ H:=h
theorem bO {z:TS}{D:Ends}{σ:St}{H:Hp}(h:let D0:Ends:=D;z D0 σ H):z D σ H:=h
theorem args_is1 {α:Type}:∀{us:List α},us.length=1->∃x0,us=[x0]
 |[x0],_=>⟨x0,rfl⟩
theorem args_is2 {α:Type}:∀{us:List α},us.length=2->∃x0 x1,us=[x0,x1]
 |[x0,x1],_=>⟨x0,x1,rfl⟩
theorem args_is3 {α:Type}:∀{us:List α},us.length=3->∃x0 x1 x2,us=[x0,x1,x2]
 |[x0,x1,x2],_=>⟨x0,x1,x2,rfl⟩
theorem args_is4 {α:Type}:∀{us:List α},us.length=4->∃x0 x1 x2 x3,us=[x0,x1,x2,x3]
 |[x0,x1,x2,x3],_=>⟨x0,x1,x2,x3,rfl⟩
theorem args_is5 {α:Type}:∀{us:List α},us.length=5->∃x0 x1 x2 x3 x4,us=[x0,x1,x2,x3,x4]
 |[x0,x1,x2,x3,x4],_=>⟨x0,x1,x2,x3,x4,rfl⟩
theorem args_is6 {α:Type}:∀{us:List α},us.length=6->∃x0 x1 x2 x3 x4 x5,us=[x0,x1,x2,x3,x4,x5]
 |[x0,x1,x2,x3,x4,x5],_=>⟨x0,x1,x2,x3,x4,x5,rfl⟩
section
open PySem PySem.Spec PyProof.Rows
variable {C:qS} {P:Program} {w:World} {K:PySem.W.Frag} {mg:Str->Option Value} {base:Heap} {N:List Str} {q:Str} {sc:Scope} {f:Addr} {cd:Value} {A:Around} {outer:List Env} {s:Shared} {H:Hp} {E:XK}
theorem bz:(tS C P w K mg base N q sc f cd A outer s H E).GX.K=K:=rfl
theorem cD:(tS C P w K mg base N q sc f cd A outer s H E).K=K:=rfl
end
end L2
namespace L2
open PySem PySem.Spec PyProof.Rows PySem.Builtin PySem.Builtin.Str
section
variable {X:Cx}
end
end L2
namespace L2
structure adh (S:RS) (R:Nat->Int->Nat->Prop) (ks:List Int):Prop where
 sub:∀c,c<S.made->(S.gap c).Sublist ks
 im:∀c,c<S.made->S.ax c=c->∀z∈ks,z∉S.gap c->∃d,Im S R c z d
 by_:∀c z d,S.by c z=some d->z∉S.gap c
section
variable {S:RS} {pend:List Way} {R:Nat->Int->Nat->Prop} {ks:List Int}
end
end L2
namespace L2
open PySem PySem.Spec PyProof.Rows
section
variable {M:Model} {A:Around} {E:Value->Shared->Prop} {s:Shared}
structure Fly (B:Heap) (l:List Env) (x:Addr) (cls a0:Value) (h:Heap):Prop where
 stays:B.StaysIn h
 new:B.get? x=none
 adi:h.FunFrames B l
 tr:∃fl,h.TracedAtW B x cls a0 fl
end
section
variable {prog:Program} {w:World} {A:Around} {R:Result->Shared->Prop} {s:Shared}
end
section
variable {X:Cx} {elt iter:Expr} {x:Str} {px pos:Pos} {scope:Scope} {cl:List (Str×Addr)} {fns:List Str} {ixs:List Nat} {wi:TI} {te:TE}
end
section
variable {X:Cx}
end
end L2
namespace L2
open PySem PySem.Spec PyProof.Rows
section
variable {X:Cx} {tg:Expr}
end
def UX (td ty tx:TE):TE:=λ σ H Q=>td σ H λx H1=>∃a,x=.ref a/\vC H1 a/\ty σ H1 λy H2=>tx σ H2 λz H3=>∃kvs k,H3 a=some (.dK kvs)/\y=kV k/\kvs.length<sizeLine/\
 (∀v,bD kvs k=some v->Q v H3)/\(bD kvs k=none->Q z (upd H3 a (.dK (putK kvs k z))))
section
variable {X:Cx} {o e f:Expr} {apos cN:Pos} {td ty tx:TE}
theorem pW (ho:PE X o td)(he:PE X e ty)(hf:PE X f tx)(m:M2 X o "setdefault" apos e f cN):PE X (.Call (.Attribute o "setdefault" apos) [e,f] [] cN) (UX td ty tx):=by
 intro pins s σ H Q I h;refine af8 m.base m.few m.line aff afO PySem.F.type_dict_setdefault (bh (ho pins s σ H _ I h) λu s1 ⟨x,H1,I1,rx,a,ex,d,q1⟩=>?_);subst ex;obtain rfl:u=Value.ref a:=rx;obtain⟨t1,t2,_⟩:=oK I1 d;refine⟨t1,t2,?_⟩;rw[m.trees]
 refine ae1 rfl (aft (aeZ (bh (he pins s1 σ H1 _ I1 q1) λiv s2 ⟨y,H2,I2,ry,q2⟩=>
  aeZ (bh (hf pins s2 σ H2 _ I2 q2) λfv s3 ⟨z,H3,I3,rz,kvs,k,ea,ey,bG,q3,q4⟩=>afy ?_))))
 subst ey;obtain⟨hz,hd,vs,rel,dd⟩:=xJ I3.aO ea;have iT:=rel.val k;have HX:vs.length<=sizeLine:=by rw[←rel.length];exact hz
 refine agf afO dd.typeIs PySem.F.entry_dict_setdefault (PySem.F.args_dict_setdefault_3 _ _ _) (kt_meets_setdefault (b9 X.prog X.w) a (nO ry) hd fv) ⟨vs,dd,HX,λv hv=>?_,λhn g1 sQ sb=>?_⟩
 ·rw[hv]at iT
  cases l:bD kvs k with
  |none=>rw[l]at iT;exact iT.elim
  |some y0=>
   rw[l]at iT;exact⟨y0,H3,I3.tok _,iT,q3 y0 l⟩
 ·rw[hn]at iT
  cases l:bD kvs k with
  |some y0=>rw[l]at iT;exact iT.elim
  |none=>
   have hl:(putK kvs k z).length<=sizeLine:=by have:=jD kvs k z;omega
   have he:∃q,g1.get? a=some q:=let ⟨q,_,_,hq,_⟩:=sQ;⟨q,hq⟩
   exact⟨z,_,oi I3 (by rw[ea];exact True.intro) sb he (xK hl hd (rel.put k rz) sQ),rz,q4 l⟩
end
end L2
namespace L2
open PySem PySem.Spec PyProof.Rows
namespace Di
section
variable {prog:Program} {w:World} {A:Around} {E:Value->Shared->Prop} {s:Shared} {d:Addr} {es:Array DictEntry} {ep:Nat}
theorem meets (d:Addr)(hd:(d==sysModules)=false):MeetsIn prog w (Builtin.«dict.items» ⟨[.ref d],[]⟩) (λ_ R s=>(∃es ep,eM s.heap d es ep)/\R (.ok (.ret (.ref s.heap.objs.size))) { s with heap:=s.heap.push { cls:=.type "dict_items",data:=.fields #[.ref d] } }):=
 .of_wp λA R s ⟨⟨es,ep,hm⟩,h⟩=>by
  unfold Builtin.«dict.items»;refine adW ?_;unfold Builtin.Dict.noArgs;refine adW (agw (Dk.typ hm) ?_);show wpAny _ _ (pure d) _ _ s
  refine ad8 ?_;show wpAny _ _ (Builtin.Dict.showsAll d >>=_) _ _ s;unfold Builtin.Dict.showsAll
  rw[aed (by rw[hd];decide)];exact adW (ad8 (adW (aeO (ad8 ⟨_,rfl,h⟩))))
theorem iter {v:Addr}{Q:Value->Shared->Prop}(hv:s.heap.IsItemsView v d)(hm:eM s.heap d es ep)
 (hQ:Q (.ref s.heap.objs.size) { s with heap:=s.heap.push { cls:=.type "dict_itemiterator",data:=.fields #[.none,.bool false,.ref d,.int 0 0,.int es.size 0,.int ep 0,.none,.none] } }):wpAny (model prog w) A (pyIter (.ref v)) Q E s:=by
 obtain⟨ov,hov,EH,hdv⟩:=id hv;obtain⟨o,ho,hc,jT⟩:=id hm;refine wpAny_pyIter_slot hv.typeIs F.slot_dict_items_iter (ae4 F.slot_dict_items_iter hv.typeIs F.entry_dict_items_iter ?_ (F.args_dict_items_iter_1 _));unfold Builtin.«dict_items.__iter__»;refine adW (ad8 (adW ?_));unfold Builtin.Dict_items.dictOf;refine adW (afn hov hdv (x:=.ref d) rfl (ad8 (adW ?_)));unfold Builtin.Dict_items.newIterator;refine adW (afP ho jT (adW (agx ho jT ?_)));have own:Builtin.Dict_items.ownsTuple "dict_itemiterator"=true:=by decide
 simp only[own,agH];refine aeO (ad8 ⟨_,rfl,"dict_itemiterator",_,⟨_,aem _ rfl,rfl⟩,afl.lookup,?_⟩) (by simp only[sizeOk,Builtin.Dict_items.ownedTupleFields,ad9,adZ,aes,afG,sizeLine_eq];omega);simpa [rawInt,Builtin.Dict_items.ownedTupleFields] using hQ
theorem item {it:Addr}{i:Nat}{en:DictEntry}{ok ov:Value}{Q:Option Value->Shared->Prop}(hit:IsItemIter s.heap it d i es.size ep ok ov)(hm:eM s.heap d es ep)(hx:es[i]?=some en)
 (hQ:∀g,IsItemIterOut g it d (i+ 1) es.size ep en.key en.val s.heap.objs.size->g.get? s.heap.objs.size=some { cls:=.type "tuple",data:=.seq #[en.key,en.val] }->
  (∀b o,b≠it->s.heap.get? b=some o->g.get? b=some o)->Q (some (.ref s.heap.objs.size)) { s with heap:=g }):wpAny (model prog w) A (pyNext (.ref it)) Q E s:=by
 obtain⟨hp,gn,dr,tk,os⟩:=s;obtain⟨od,uf,oq,ug⟩:=id hm;have hT:Shared.TypeIs ⟨hp,gn,dr,tk,os⟩ (.ref it) "dict_itemiterator":=⟨_,hit,rfl⟩;unfold pyNext;refine adW (wpAny_attempt (ae0 (name:=Str.ofString "__next__") hT afl (ae4 afl hT F.entry_dict_itemiterator_next ?_ (F.args_dict_itemiterator_next_1 _))));refine adW (ad8 (adW (adW ?_)))
 first|(refine adW (afK hT (ad8 ?_));skip)|(refine adW (af2 hT (ad8 ?_));skip)
 refine adW (wpAny_fieldsOf hit rfl ?_);have own:Builtin.Dict_items.ownsTuple "dict_itemiterator"=true:=by decide
 simp only[own,agH];show wpAny _ _ (if (Value.ref d==Value.none)=true then _ else _) _ _ _
 rw[aed (show ¬((Value.ref d==Value.none)=true) by intro z;cases z)];refine adW (ad8 (adW (afP uf ug ?_)));rw[aed (by simp)];refine adW (ad8 (adW (agx uf ug ?_)));rw[aed (by simp)];refine ad8 ?_;simp only[show ¬((i:Int)<0) by omega,ago,aeC,hx];refine adW ?_
 first|(refine adW (afK hT (ad8 ?_));skip)|(refine adW (af2 hT (ad8 ?_));skip)
 refine adW (wpAny_isOneOf_itemiter hT ?_);show wpAny _ _ (setField (.ref it) 3 (rawInt ((i:Int)+ 1)) >>=_) _ _ ⟨hp,gn,dr,tk,os⟩
 refine adW (afa hit (by simp) λg1 e1 s1=>?_);replace s1:Heap.SameBut it hp g1:=s1
 replace e1:IsItemIter g1 it d (i+ 1) es.size ep ok ov:=by
  unfold IsItemIter;rw[show ((i+ 1:Nat):Int)=(i:Int)+ 1 by omega];simpa [rawInt] using e1
 have QW:Shared.TypeIs ⟨g1,gn,dr,tk,os⟩ (.ref it) "dict_itemiterator":=⟨_,e1,rfl⟩;refine adW (afC (adW (wpAny_isOneOf_itemiter QW (adW (wpAny_isOneOf_itemiter QW ?_)))));show wpAny _ _ (Builtin.Dict_items.pairFromOwner (.ref it) 6 en.key en.val) _ _ ⟨g1,gn,dr,tk,os⟩;unfold Builtin.Dict_items.pairFromOwner;refine adW (wpAny_newTuple ?_);have e2:IsItemIter (g1.push { cls:=.type "tuple",data:=.seq #[en.key,en.val] }) it d (i+ 1) es.size ep ok ov:=ad3 _ e1;generalize QX:g1.push { cls:=.type "tuple",data:=.seq #[en.key,en.val] }=g2 at e2;have z1:g1.objs.size=hp.objs.size:=s1.1;have il:it<hp.objs.size:=aeh hit;have t2:g2.get? hp.objs.size=some { cls:=.type "tuple",data:=.seq #[en.key,en.val] }:=by rw[←QX,←z1];exact aem _ rfl
 have k2:∀b o,b≠it->hp.get? b=some o->g2.get? b=some o:=λb o hb e=>by rw[←QX];exact ad3 _ (s1.extBut b o hb e)
 show wpAny _ _ (Builtin.Dict_items.ownedTupleIsFree (.ref it) >>=_) _ _ ⟨g2,gn,dr,tk,os⟩;rw[z1];clear QX e1 s1 QW z1 g1;refine adW ?_;unfold Builtin.Dict_items.ownedTupleIsFree;refine adW (afn e2 rfl (x:=.none) rfl (ad8 ?_));simp only[agH];refine adW (afn e2 rfl (x:=ok) rfl (adW (afn e2 rfl (x:=ov) rfl ?_)));refine adW (afa e2 (by simp) λg3 e3 s3=>?_);replace s3:Heap.SameBut it g2 g3:=s3;replace e3:IsItemIter g3 it d (i+ 1) es.size ep en.key ov:=e3;refine adW (afa e3 (by simp) λg4 e4 s4=>?_);replace s4:Heap.SameBut it g3 g4:=s4;replace e4:IsItemIter g4 it d (i+ 1) es.size ep en.key en.val:=e4;refine adW (afa e4 (by simp) λg5 e5 s5=>?_);replace s5:Heap.SameBut it g4 g5:=s5;replace e5:IsItemIterOut g5 it d (i+ 1) es.size ep en.key en.val hp.objs.size:=e5;refine adW (afa e5 (by simp) λg6 e6 s6=>?_);replace s6:Heap.SameBut it g5 g6:=s6;replace e6:IsItemIterOut g6 it d (i+ 1) es.size ep en.key en.val hp.objs.size:=e6;have k6:∀b o,b≠it->g2.get? b=some o->g6.get? b=some o:=λb o hb e=>s6.extBut b o hb (s5.extBut b o hb (s4.extBut b o hb (s3.extBut b o hb e)))
 exact adW (wpAny_letGo (ad8 (ad8 ⟨_,rfl,ad8 (hQ g6 e6 (k6 _ _ (afu il) t2) λb o hb e=>k6 b o hb (k2 b o hb e))⟩)))
theorem fin {it:Addr}{i:Nat}{ok ov:Value}{Q:Option Value->Shared->Prop}(hh:A.handled=none)(hit:IsItemIter s.heap it d i es.size ep ok ov)(hm:eM s.heap d es ep)(hx:es[i]?=none)
 (hQ:∀g,Heap.ExtBut it s.heap g->Q none { s with heap:=g }):wpAny (model prog w) A (pyNext (.ref it)) Q E s:=by
 obtain⟨od,uf,oq,ug⟩:=id hm;have hT:s.TypeIs (.ref it) "dict_itemiterator":=⟨_,hit,rfl⟩;unfold pyNext;refine adW (wpAny_attempt (ae0 (name:=Str.ofString "__next__") hT afl (ae4 afl hT F.entry_dict_itemiterator_next ?_ (F.args_dict_itemiterator_next_1 _))));refine adW (ad8 (adW (adW ?_)))
 first|(refine adW (afK hT (ad8 ?_));skip)|(refine adW (af2 hT (ad8 ?_));skip)
 refine adW (wpAny_fieldsOf hit rfl ?_);have own:Builtin.Dict_items.ownsTuple "dict_itemiterator"=true:=by decide
 simp only[own,agH];show wpAny _ _ (if (Value.ref d==Value.none)=true then _ else _) _ _ s
 rw[aed (show ¬((Value.ref d==Value.none)=true) by intro z;cases z)];refine adW (ad8 (adW (afP uf ug ?_)));rw[aed (by simp)];refine adW (ad8 (adW (agx uf ug ?_)));rw[aed (by simp)];refine ad8 ?_;simp only[show ¬((i:Int)<0) by omega,ago,aeC,hx];refine adW ?_
 first|(refine adW (afK hT (ad8 ?_));skip)|(refine adW (af2 hT (ad8 ?_));skip)
 show wpAny _ _ (setField (.ref it) 2 .none >>=_) _ _ s;refine adW (ag6 hit rfl (by simp) ?_);show wpAny _ _ (newExc (.type "StopIteration") [] >>=_) _ _ _;refine adW ?_;simp only[newExc,newTuple];refine adW (aeO ?_ (by size_fits));refine adW (m:=firstArgMember _ _) (wpAny_of_eq (a:=Value.none) (by first|rfl|(simp only[firstArgMember];rfl)) ?_);refine aeO ?_ (by size_fits);simp only[raiseNew];refine adW (wpAny_handled ?_);rw[show A.in1.handled=none from hh];refine adW (ad8 (wpAny_throw ?_));refine adW (wpAny_isInstance (T:="StopIteration") (b:=true) ⟨_,aem _ rfl,rfl⟩ isSubtype_stop ?_);exact ad8 (hQ _ (((afo ..).extBut.push _).push _))
end
end Di
theorem zR {α β:Type}{R:α->β->Prop}:∀{xs:List α} {ys:List β},Paired R xs ys->∀{i:Nat} {x:α} {y:β},xs[i]?=some x->ys[i]?=some y->R x y
 |[],_,h,i,x,y,h1,_=>by simp at h1
 |k::kvs,_,h,i,x,y,h1,h2=>by
  cases h with
  |cons h0 ht=>
   cases i with
   |zero=>rw[←Option.some.inj h1,←Option.some.inj h2];exact h0
   |succ i=>exact zR ht h1 h2
def Ck (d:Addr)(o:Obj)(kvs:List (List Key×V)):It:=
 ⟨λi H=>i<kvs.length/\H d=some (.fB o (.dT kvs)),λi H x H'=>∃p kp kv,kvs[i]?=some kv/\H p=none/\H kp=some (.tup (kv.1.map kV))/\x=.ref p/\H'=upd H p (.tup [.ref kp,kv.2]),λi H=>kvs.length<=i/\H d=some (.fB o (.dT kvs))⟩
theorem Oc {P:Program}{w:World}{K:PySem.W.Frag}{elts:List Expr}{x1:Nat}{tp:Pos}(d it:Addr)(o:Obj)(es:Array DictEntry)(ep:Nat)(kvs:List (List Key×V))(ho:o.data=.dict es ep):
 Turn P w K (.Tuple elts x1 tp) (Ck d o kvs) [it] it (λi h=>∃ok ov,IsItemIter h it d i es.size ep ok ov) where
 mem:=by simp
 obj:=λi h st b hb=>by
  have e:b=it:=by simpa using hb
  subst e;obtain⟨ok,ov,e⟩:=st;exact⟨_,e,λv z=>by cases z⟩
 keep:=λi h h' ⟨ok,ov,e⟩ k=>⟨ok,ov,k it (by simp) _ e⟩
 item:=by
  intro X hP hw hK hc i pins s σ H E I hf st hg;subst hP hw hK;obtain⟨ok,ov,hit⟩:=st;obtain⟨hi,hd⟩:=hg;obtain⟨xI,-,EE,ys,kt,o2,es2,ep2,h1,h2,h3,h4,h5⟩:=I.aO d _ hd;rw[xI]at h1;obtain rfl:=Option.some.inj h1;rw[ho]at h3;injection h3 with e1 e2
  subst e1 e2;have t9:kvs.length=ys.length:=Paired.length kt;have hy:ys[i]?=some (ys[i]'(by omega)):=adX (by omega)
  generalize ys[i]'(by omega)=y at hy;have hen:es[i]?=some (entryOfKey (tupleKind (b9 X.prog X.w)) y):=by rw[entry_at h4,hy];rfl
  have gB:kvs[i]?=some (kvs[i]'hi):=adX hi
  generalize kvs[i]'hi=kv at gB;have hk:kv.1=y.1/\H y.2.1=some (.tup (kv.1.map kV))/\RelV kv.2 y.2.2:=zR kt gB hy;have il:it<s.heap.objs.size:=aeh hit;refine Di.item hit ⟨_,xI,h2,ho⟩ hen λg xl hT BQ=>⟨_,rfl,wpAny_letOwnedTupleGo_items xl λg2 dw sb=>?_⟩
  have HD:g2.get? s.heap.objs.size=some { cls:=.type "tuple",data:=.seq #[.ref y.2.1,y.2.2] }:=(sb.2 _ (afu il)).trans hT
  have zH:∀b ob,b∉[it]->s.heap.get? b=some ob->g2.get? b=some ob:=λb ob hb q=>by
   have h1:b≠it:=λz=>hb (by simp[z])
   exact(sb.2 b h1).trans (BQ b ob h1 q)
  have xR:=I.aO.fresh (ad7 s.heap.objs.size);refine⟨.ref s.heap.objs.size,_,I.wj (fp:=[it]) (a:=s.heap.objs.size) (o:=.tup [.ref y.2.1,kv.2]) (h':=g2) (t':=s.toks) zH hf (ad7 _) ?_,rfl,⟨_,y.2.1,kv,gB,xR,hk.2.1,rfl,rfl⟩,⟨_,_,dw⟩,λb hb=>?_⟩
  ·exact⟨by show 2<=sizeLine;decide,[.ref y.2.1,y.2.2],.cons rfl (.cons hk.2.2 .nil),_,HD,rfl,_,rfl⟩
  ·rw[ad1.mp hb,ao (aen il)];exact(hf it (by simp)).1
 done:=by
  intro X hP hw hK hc i pins s σ H E I hf st hg;subst hP hw hK;obtain⟨ok,ov,hit⟩:=st;obtain⟨hi,hd⟩:=hg;obtain⟨xI,-,EE,ys,kt,o2,es2,ep2,h1,h2,h3,h4,h5⟩:=I.aO d _ hd;rw[xI]at h1;obtain rfl:=Option.some.inj h1;rw[ho]at h3;injection h3 with e1 e2
  subst e1 e2;have t9:kvs.length=ys.length:=Paired.length kt;have hsz:es.size=ys.length:=size_of_entries h4;exact Di.fin (I.ok.hd hc) hit ⟨_,xI,h2,ho⟩ (Array.getElem?_eq_none (by omega)) λg eb=>⟨rfl,I.yS (fp:=[it]) (t':=s.toks) (λb ob hb q=>eb b ob (λz=>hb (by simp[z])) q) hf⟩
 self:=λA i s Q E ⟨ok,ov,hit⟩ h=>PySem.W.kcp_self hit h
section
variable {X:Cx}
def iDI (tl:TE):TI:=λ σ H R=>tl σ H λx H1=>∃d kvs,x=.ref d/\H1 d=some (.dT kvs)/\∀o,R (Ck d o kvs) (upd H1 d (.fB o (.dT kvs)))
theorem UY {l:Expr}{tl:TE}{elts:List Expr}{x1:Nat}{tp apos cN:Pos}(hl:PE X l tl)(xE:attributeBase l "items" X.env (eval l X.env)=eval l X.env:=by rfl)(hline:(apos.endLine==cN.line)=true:=by rfl):
 PI X (.Tuple elts x1 tp) (.Call (.Attribute l "items" apos) [] [] cN) (iDI tl):=by
 intro pins s σ H R I h;refine wpAny_Call_method0_late xE hline (bh (hl pins s σ H _ I h) λu s1 ⟨x,H1,I1,rx,d,kvs,ex,hd,q⟩=>?_);subst ex;cases rx;obtain⟨-,EE,ys,kt,o,es,ep,h1,h2,h3,h4,h5⟩:=I1.aO d _ hd;have Zh:eM s1.heap d es ep:=⟨o,h1,h2,h3⟩;have isd:vC H1 d:=.inr ⟨kvs,.inl hd⟩;obtain⟨t1,t2,_⟩:=oK I1 isd;refine⟨"dict","dict.items",aff,PySem.F.slot_dict_items,PySem.F.type_dict_items,t1,t2,ae1 rfl (PySem.evalArgs_none ?_)⟩;refine agf PySem.F.slot_dict_items t1 PySem.F.entry_dict_items (PySem.F.args_dict_items_1 _) (Di.meets d EE) ⟨⟨es,ep,Zh⟩,?_⟩;have hv:(s1.heap.push { cls:=.type "dict_items",data:=.fields #[.ref d] }).IsItemsView s1.heap.objs.size d:=⟨_,aem _ rfl,rfl,rfl⟩;have UZ:eM (s1.heap.push { cls:=.type "dict_items",data:=.fields #[.ref d] }) d es ep:=⟨o,ad3 _ h1,h2,h3⟩;refine Di.iter (s:={ s1 with heap:=s1.heap.push { cls:=.type "dict_items",data:=.fields #[.ref d] } }) hv UZ ?_;have I2:=(I1.freeze hd True.intro h1).kept (h':=(s1.heap.push { cls:=.type "dict_items",data:=.fields #[.ref d] }).push { cls:=.type "dict_itemiterator",data:=.fields #[.none,.bool false,.ref d,.int 0 0,.int es.size 0,.int ep 0,.none,.none] }) (t':=s1.toks) λb o e=>ad3 _ (ad3 _ e)
 have VN:s1.heap.objs.size<=(s1.heap.push { cls:=.type "dict_items",data:=.fields #[.ref d] }).objs.size:=by rw[afD];omega
 have T:=Oc (P:=X.prog) (w:=X.w) (K:=X.K) (elts:=elts) (x1:=x1) (tp:=tp) d (s1.heap.push { cls:=.type "dict_items",data:=.fields #[.ref d] }).objs.size o es ep kvs h3;refine⟨_,_,_,_,_,rfl,I2,T,⟨_,_,aem _ rfl⟩,λb hb=>?_,q o⟩;rw[ad1.mp hb];have xR:=I1.aO.fresh VN;exact I1.tM VN (by rw[ao (λz=>by rw[z,hd]at xR;cases xR)];exact xR)
end
theorem QY {d:Addr}{o:Obj}{kvs:List (List Key×V)}{g:TG}{tb:TS}{D:Ends}{σ:St}{H:Hp}(Pv:Nat->St->Hp->Prop)(h0:Pv 0 σ H)(hl:∀i σ H,i<=kvs.length->Pv i σ H->H d=some (.fB o (.dT kvs)))
 (hs:∀i kv σ H p kp,kvs[i]?=some kv->H p=none->H kp=some (.tup (kv.1.map kV))->Pv i σ H->g (.ref p) σ (upd H p (.tup [.ref kp,kv.2])) λ iq H2=>tb { D with nx:=Pv (i+ 1),ct:=Pv (i+ 1),bk:=D.nx } iq H2) (hd:∀ σ H,Pv kvs.length σ H->D.nx σ H):
 ∃W:Nat->Nat->St->Hp->Prop,(∃m,W 0 m σ H)/\∀i m σ H,W i m σ H->
  ((Ck d o kvs).stop i H/\D.nx σ H)\/((Ck d o kvs).go i H/\∃N:St->Hp->Prop,(∀ aJ H',N aJ H'->∃m',m'<m/\W (i+ 1) m' aJ H')/\∀x H',(Ck d o kvs).pS i H x H'->g x σ H' λ iq H2=>tb { D with nx:=N,ct:=N,bk:=D.nx } iq H2):=by
 refine⟨λi m σ H=>m=kvs.length - i/\i<=kvs.length/\Pv i σ H,⟨kvs.length,by simp,aeA _,h0⟩,?_⟩;rintro i m σ H ⟨rfl,hi,p⟩;have q:=hl i σ H hi p;by_cases bG:i<kvs.length
 ·refine .inr ⟨⟨bG,q⟩,Pv (i+ 1),λ aJ H' p'=>⟨kvs.length - (i+ 1),by omega,rfl,bG,p'⟩,λx H' y=>?_⟩;obtain⟨p2,kp,kv,h1,h2,h3,rfl,rfl⟩:=y;exact hs i kv σ _ p2 kp h1 h2 h3 p
 ·have e:i=kvs.length:=by omega
  subst e;exact .inl ⟨⟨ad7 _,q⟩,hd σ H p⟩
end L2
namespace L2
open PySem PySem.Spec PyProof.Rows
theorem wA:∀(n:Nat) (l:List Int) (lo:Int),l.Nodup->(∀x∈l,lo<=x/\x<lo+ n)->l.length<=n
 |0,[],_,_,_=>ad7 _
 |0,x::l,lo,_,h=>by have:=h x (aeb ..);omega
 |n+ 1,l,lo,hn,h=>by
  by_cases hm:lo+ n∈l
  ·have h1:=wA n (l.erase (lo+ n)) lo (hn.erase _) λx hx=>by
    have h2:=(hn.mem_erase_iff.mp hx);have h3:=h x h2.2;have h4:x≠lo+ n:=h2.1;omega
   rw[agd hm]at h1;omega
  ·have h1:=wA n l lo hn λx hx=>by
    have h3:=h x hx;have h4:x≠lo+ n:=λz=>hm (by rw[←z];exact hx)
    omega
   omega
section
variable {κ:Type} [DecidableEq κ]
theorem HY (kvs:List (κ×V))(k j:κ):bD (eT kvs k) j=if j=k then none else bD kvs j:=by
 unfold eT
 induction kvs with
 |nil=>rw[List.filter_nil];split <;> rfl
 |cons p r ih=>
  by_cases hp:p.1=k
  ·rw[agU (by simp[hp]),ih];by_cases hj:j=k
   ·rw[ael hj,ael hj]
   ·rw[aed hj,aed hj,cP (λz=>hj (z.symm.trans hp))]
  ·rw[agV (by simp[hp])];by_cases hj:p.1=j
   ·rw[cW hj,aed (λz=>hp (hj.trans z)),cW hj]
   ·rw[cP hj,ih];by_cases hk:j=k
    ·rw[ael hk,ael hk]
    ·rw[aed hk,aed hk,cP hj]
theorem Cm (kvs:List (κ×V))(k:κ)(v:V):(putK kvs k v).map (·.1)=if k∈kvs.map (·.1) then kvs.map (·.1) else kvs.map (·.1)++[k]:=by
 unfold putK;by_cases h:(kvs.any λkv=>decide (kv.1=k))=true
 ·have hm:k∈kvs.map (·.1):=by
   obtain⟨kv,h1,h2⟩:=ahc.mp h;exact aeL.mpr ⟨kv,h1,aeI h2⟩
  rw[ael h,ael hm,ae8];refine afd λkv _=>?_
  show (if kv.1=k then (kv.1,v) else kv).1=kv.1;split <;> rfl
 ·have hm:k∉kvs.map (·.1):=λz=>by
   obtain⟨kv,h1,h2⟩:=aeL.mp z;exact h (ahc.mpr ⟨kv,h1,aey h2⟩)
  rw[aed h,aed hm,aeu];rfl
theorem QZ {kvs:List (κ×V)}(k:κ)(v:V)(h:(kvs.map (·.1)).Nodup):((putK kvs k v).map (·.1)).Nodup:=by
 rw[Cm];split
 ·exact h
 ·rename_i hk;refine aeX.mpr ⟨h,by simp,λx hx y hy z=>?_⟩;rw[ad1.mp hy]at z;exact hk (by rw[←z];exact hx)
theorem Od {kvs:List (κ×V)}(k:κ)(h:(kvs.map (·.1)).Nodup):((eT kvs k).map (·.1)).Nodup:=by
 unfold eT;exact List.Nodup.sublist ((List.filter_sublist).map _) h
theorem Cp {kvs:List (κ×V)}(h:(kvs.map (·.1)).Nodup){kv:κ×V}(hm:kv∈kvs):bD kvs kv.1=some kv.2:=by
 induction kvs with
 |nil=>cases hm
 |cons p r ih=>
  rw[aeN,aeJ]at h;rcases aea.mp hm with e|hm
  ·rw[e];exact cW rfl
  ·rw[cP (λz=>h.1 (by rw[z];exact afA hm))];exact ih h.2 hm
theorem Km {kvs:List (κ×V)}{k:κ}{v:V}(h:bD kvs k=some v):(k,v)∈kvs:=by
 unfold bD at h
 cases e:kvs.find? λkv=>decide (kv.1=k) with
 |none=>rw[e]at h;cases h
 |some kv=>
  rw[e]at h;have h1:=List.find?_some e;have h2:=agD e;have h3:kv.1=k:=aeI h1;have h4:kv.2=v:=Option.some.inj h;rw[←h3,←h4];exact h2
end
def DI (H:Hp)(d:Addr)(f:Int->Option V):Prop:=∃kvs:List (Key×V),H d=some (.dK kvs)/\(kvs.map (·.1)).Nodup/\(∀kv∈kvs,∃i:Int,kv.1=Sum.inl i)/\∀i:Int,bD kvs (Sum.inl i)=f i
theorem DI.at {H H':Hp}{d:Addr}{f:Int->Option V}(h:DI H d f)(k:∀o,H d=some o->H' d=some o):DI H' d f:=by
 obtain⟨kvs,h1,h2⟩:=h;exact⟨kvs,k _ h1,h2⟩
theorem DI.congr {H:Hp}{d:Addr}{f g:Int->Option V}(h:DI H d f)(e:∀i,f i=g i):DI H d g:=by
 obtain⟨kvs,h1,h2,h3,h4⟩:=h;exact⟨kvs,h1,h2,h3,λi=>(h4 i).trans (e i)⟩
theorem Cq {H:Hp}{d:Addr}{kvs:List (Key×V)}{f:Int->Option V}(h2:(kvs.map (·.1)).Nodup)(h3:∀kv∈kvs,∃i:Int,kv.1=Sum.inl i)(h4:∀i:Int,bD kvs (Sum.inl i)=f i)(i:Int)(v:V):DI (upd H d (.dK (putK kvs (Sum.inl i) v))) d (λj=>if j=i then some v else f j):=by
 refine⟨_,aj,QZ _ _ h2,λkv gB=>?_,λj=>?_⟩
 ·have:kv.1∈(putK kvs (Sum.inl i) v).map (·.1):=afA gB;rw[Cm]at this;split at this
  ·obtain⟨q,hq,e⟩:=aeL.mp this;rw[←e];exact h3 q hq
  ·rcases aei.mp this with z|z
   ·obtain⟨q,hq,e⟩:=aeL.mp z;rw[←e];exact h3 q hq
   ·exact⟨i,ad1.mp z⟩
 ·rw[BE];dsimp only;by_cases e:j=i
  ·rw[ael e,ael (by rw[e])]
  ·rw[aed e,aed (λz=>e (Sum.inl.inj z)),h4]
theorem Oe {H:Hp}{d:Addr}{kvs:List (Key×V)}{f:Int->Option V}(h2:(kvs.map (·.1)).Nodup)(h3:∀kv∈kvs,∃i:Int,kv.1=Sum.inl i)(h4:∀i:Int,bD kvs (Sum.inl i)=f i)(i:Int):DI (upd H d (.dK (eT kvs (Sum.inl i)))) d (λj=>if j=i then none else f j):=by
 refine⟨_,aj,Od _ h2,λkv gB=>h3 kv ((af5.mp gB).1),λj=>?_⟩;rw[HY];dsimp only;by_cases e:j=i
 ·rw[ael e,ael (by rw[e])]
 ·rw[aed e,aed (λz=>e (Sum.inl.inj z)),h4]
theorem xY {kvs:List (Key×V)}{f:Int->Option V}(h2:(kvs.map (·.1)).Nodup)(h3:∀kv∈kvs,∃i:Int,kv.1=Sum.inl i)(h4:∀i:Int,bD kvs (Sum.inl i)=f i){n:Nat}{lo:Int}(hb:∀i v,f i=some v->lo<=i/\i<lo+ n):kvs.length<=n:=by
 have h:=wA n (kvs.map λkv=>match kv.1 with|Sum.inl i=>i|Sum.inr _=>0) lo ?_ λx hx=>?_
 ·rw[ad6]at h;exact h
 ·have e:kvs.map (·.1)=(kvs.map λkv=>match kv.1 with|Sum.inl i=>i|Sum.inr _=>(0:Int)).map Sum.inl:=by
   rw[ae8];refine afd λkv gB=>?_
   obtain⟨i,hi⟩:=h3 kv gB;show kv.1=Sum.inl (match kv.1 with|Sum.inl i=>i|Sum.inr _=>(0:Int));rw[hi]
  rw[e]at h2;exact List.Pairwise.imp (λ{a b} q z=>q (afh Sum.inl z)) (afQ.mp h2)
 ·obtain⟨kv,gB,rfl⟩:=aeL.mp hx;obtain⟨i,hi⟩:=h3 kv gB;have h5:=Cp h2 gB;rw[hi,h4]at h5;show lo<=(match kv.1 with|Sum.inl i=>i|Sum.inr _=>(0:Int))/\(match kv.1 with|Sum.inl i=>i|Sum.inr _=>(0:Int))<lo+ n;rw[hi];exact hb i _ h5
abbrev bQ:=Int->Int->Int->Bool
structure ez (H:Hp) (k:Addr) (D:Int->Option Addr) (E:Int->Int->Option Addr) (S:bQ):Prop where
 top:DI H k λc=>(D c).map V.ref
 row:∀c d,D c=some d->DI H d λs=>(E c s).map V.ref
 zS:∀c s e,E c s=some e->DI H e λo=>if S c s o=true then some (.bl true) else none
 ed:∀c s e,E c s=some e->∃d,D c=some d
 se:∀c s o,S c s o=true->∃e,E c s=some e
 nd:∀c d,D c=some d->d≠k
 ne:∀c s e,E c s=some e->e≠k
 dd:∀c c' d,D c=some d->D c'=some d->c=c'
 de:∀c c' s d,D c=some d->E c' s=some d->False
 ee:∀c s c' s' e,E c s=some e->E c' s'=some e->c=c'/\s=s'
def wB (k:Addr)(D:Int->Option Addr)(E:Int->Int->Option Addr)(b:Addr):Prop:=b=k\/(∃c,D c=some b)\/∃c s,E c s=some b
section
variable {H H':Hp} {k:Addr} {D:Int->Option Addr} {E:Int->Int->Option Addr} {S:bQ}
theorem ez.keep (h:ez H k D E S)(f:∀b o,wB k D E b->H b=some o->H' b=some o):ez H' k D E S:=
 ⟨h.top.at λo e=>f _ _ (.inl rfl) e,λc d e=>(h.row c d e).at λo q=>f _ _ (.inr (.inl ⟨c,e⟩)) q,λc s e q=>(h.zS c s e q).at λo r=>f _ _ (.inr (.inr ⟨c,s,q⟩)) r,h.ed,h.se,h.nd,h.ne,h.dd,h.de,h.ee⟩
theorem ez.same (h:ez H k D E S)(s:au H H'):ez H' k D E S:=h.keep λb o _ e=>s b o e
theorem ez.there (h:ez H k D E S){b:Addr}(hb:wB k D E b):∃kvs,H b=some (.dK kvs):=by
 rcases hb with rfl|⟨c,e⟩|⟨c,s,e⟩
 ·obtain⟨kvs,q,_⟩:=h.top;exact⟨kvs,q⟩
 ·obtain⟨kvs,q,_⟩:=h.row c b e;exact⟨kvs,q⟩
 ·obtain⟨kvs,q,_⟩:=h.zS c s b e;exact⟨kvs,q⟩
theorem ez.congr (h:ez H k D E S){D':Int->Option Addr}{E':Int->Int->Option Addr}{S':bQ}(e1:∀c,D c=D' c)(e2:∀c s,E c s=E' c s)(e3:∀c s o,S c s o=S' c s o):ez H k D' E' S':=by
 obtain rfl:D=D':=funext e1;obtain rfl:E=E':=funext λc=>funext (e2 c)
 obtain rfl:S=S':=funext λc=>funext λs=>funext (e3 c s)
 exact h
theorem ez.Q0 (h:ez H k D E S):∃kvs:List (Key×V),H k=some (.dK kvs)/\(kvs.map (·.1)).Nodup/\(∀kv∈kvs,∃i:Int,kv.1=Sum.inl i)/\∀i:Int,bD kvs (Sum.inl i)=(D i).map V.ref:=h.top
theorem ez.Kn (h:ez H k D E S){c:Int}{d:Addr}(hd:D c=some d):∃kvs:List (Key×V),H d=some (.dK kvs)/\(kvs.map (·.1)).Nodup/\(∀kv∈kvs,∃i:Int,kv.1=Sum.inl i)/\∀i:Int,bD kvs (Sum.inl i)=(E c i).map V.ref:=h.row c d hd
theorem ez.Q5 (h:ez H k D E S){c s:Int}{e:Addr}(he:E c s=some e):∃kvs:List (Key×V),H e=some (.dK kvs)/\(kvs.map (·.1)).Nodup/\(∀kv∈kvs,∃i:Int,kv.1=Sum.inl i)/\∀i:Int,bD kvs (Sum.inl i)=if S c s i=true then some (.bl true) else none:=h.zS c s e he
theorem ez.Og (h:ez H k D E S){c s:Int}{d e:Addr}(hd:D c=some d)(he:E c s=none){kvs:List (Key×V)}(hk:H d=some (.dK kvs))(hn:H e=some (.dK []))(nw:¬wB k D E e):
 ez (upd H d (.dK (putK kvs (Sum.inl s) (.ref e)))) k D (λc' s'=>if c'=c/\s'=s then some e else E c' s') S:=by
 have sX:e≠d:=λz=>nw (.inr (.inl ⟨c,by rw[z];exact hd⟩))
 obtain⟨wC,q1,q2,q3,q4⟩:=h.row c d hd;rw[hk]at q1;obtain rfl:kvs=wC:=by injection q1 with q1;injection q1
 refine⟨h.top.at λo q=>?_,λc' d' eZ=>?_,λc' s' e' dw=>?_,λc' s' e' dw=>?_,λc' s' o ho=>?_,h.nd,λc' s' e' dw=>?_,h.dd,λc' c2 s' d' eZ dw=>?_,λc' s' c2 s2 e' h1 h2=>?_⟩
 ·rw[ao (h.nd c d hd).symm];exact q
 ·by_cases ec:c'=c
  ·subst ec;have:d'=d:=by rw[hd]at eZ;exact(Option.some.inj eZ).symm
   subst this;refine(Cq q2 q3 q4 s (.ref e)).congr λs'=>?_
   by_cases es:s'=s
   ·rw[ael es,ael ⟨rfl,es⟩];rfl
   ·rw[aed es,aed (λz=>es z.2)]
  ·have nd':d'≠d:=λz=>ec (h.dd _ _ _ eZ (by rw[z];exact hd))
   refine((h.row c' d' eZ).at λo q=>by rw[ao nd'];exact q).congr λs'=>?_
   rw[aed (λz=>ec z.1)]
 ·by_cases ec:c'=c/\s'=s
  ·rw[ael ec]at dw;obtain rfl:=Option.some.inj dw;obtain⟨rfl,rfl⟩:=ec;refine⟨[],by rw[ao sX];exact hn,by simp,(λkv gB=>by cases gB),λo=>?_⟩
   cases q:S c' s' o with
   |true=>obtain⟨e',z⟩:=h.se _ _ _ q;rw[he]at z;cases z
   |false=>dsimp only;rw[q];rfl
  ·rw[aed ec]at dw;exact(h.zS c' s' e' dw).at λo q=>by rw[ao (λz=>h.de c c' s' d hd (by rw[←z];exact dw))];exact q
 ·by_cases ec:c'=c/\s'=s
  ·exact⟨d,by rw[ec.1];exact hd⟩
  ·rw[aed ec]at dw;exact h.ed _ _ _ dw
 ·by_cases ec:c'=c/\s'=s
  ·exact⟨e,ael ec⟩
  ·obtain⟨e',z⟩:=h.se _ _ _ ho;exact⟨e',by rw[aed ec];exact z⟩
 ·by_cases ec:c'=c/\s'=s
  ·rw[ael ec]at dw;obtain rfl:=Option.some.inj dw;exact λz=>nw (.inl z)
  ·rw[aed ec]at dw;exact h.ne _ _ _ dw
 ·by_cases ec:c2=c/\s'=s
  ·rw[ael ec]at dw;obtain rfl:=Option.some.inj dw;exact nw (.inr (.inl ⟨c',eZ⟩))
  ·rw[aed ec]at dw;exact h.de _ _ _ _ eZ dw
 ·by_cases e1:c'=c/\s'=s
  ·rw[ael e1]at h1;obtain rfl:=Option.some.inj h1;by_cases e2:c2=c/\s2=s
   ·exact⟨e1.1.trans e2.1.symm,e1.2.trans e2.2.symm⟩
   ·rw[aed e2]at h2;exact(nw (.inr (.inr ⟨c2,s2,h2⟩))).elim
  ·rw[aed e1]at h1;by_cases e2:c2=c/\s2=s
   ·rw[ael e2]at h2;obtain rfl:=Option.some.inj h2;exact(nw (.inr (.inr ⟨c',s',h1⟩))).elim
   ·rw[aed e2]at h2;exact h.ee _ _ _ _ _ h1 h2
theorem ez.setCell (h:ez H k D E S){c s:Int}{e:Addr}(he:E c s=some e){u:HO}{g:Int->Bool}(hg:DI (upd H e u) e λo=>if g o=true then some (.bl true) else none):
 ez (upd H e u) k D E (λc' s' o=>if c'=c/\s'=s then g o else S c' s' o):=by
 refine⟨h.top.at λo q=>?_,λc' d' eZ=>(h.row c' d' eZ).at λo q=>?_,λc' s' e' dw=>?_,h.ed,λc' s' o ho=>?_,h.nd,h.ne,h.dd,h.de,h.ee⟩
 ·rw[ao (h.ne _ _ _ he).symm];exact q
 ·rw[ao (λz=>h.de _ _ _ _ eZ (by rw[z];exact he))];exact q
 ·by_cases ec:c'=c/\s'=s
  ·obtain⟨rfl,rfl⟩:=ec;rw[he]at dw;obtain rfl:=Option.some.inj dw;refine hg.congr λo=>?_
   simp
  ·refine((h.zS c' s' e' dw).at λo q=>?_).congr λo=>by rw[aed ec]
   rw[ao (λz=>ec (h.ee _ _ _ _ _ dw (by rw[z];exact he)))];exact q
 ·by_cases ec:c'=c/\s'=s
  ·exact⟨e,by rw[ec.1,ec.2];exact he⟩
  ·rw[aed ec]at ho;exact h.se _ _ _ ho
theorem ez.Q6 (h:ez H k D E S){c s:Int}{e:Addr}(he:E c s=some e){kvs:List (Key×V)}(hk:H e=some (.dK kvs))(o:Int):
 ez (upd H e (.dK (putK kvs (Sum.inl o) (.bl true)))) k D E (λc' s' o'=>S c' s' o' || (decide (c'=c) && decide (s'=s) && decide (o'=o))):=by
 obtain⟨wC,q1,q2,q3,q4⟩:=h.zS c s e he;rw[hk]at q1;obtain rfl:kvs=wC:=by injection q1 with q1;injection q1
 refine(h.setCell (g:=λo'=>S c s o' || decide (o'=o)) he ((Cq q2 q3 q4 o (.bl true)).congr λo'=>?_)).congr (λ_=>rfl) (λ_ _=>rfl) λc' s' o'=>?_
 ·by_cases e1:o'=o
  ·rw[ael e1];simp[e1]
  ·rw[aed e1];simp[e1]
 ·by_cases ec:c'=c/\s'=s
  ·obtain⟨rfl,rfl⟩:=ec;simp
  ·rw[aed ec]
   have:(decide (c'=c) && decide (s'=s))=false:=by
    rw[Bool.and_eq_false_iff,agW,agW];by_cases e1:c'=c
    ·exact .inr λz=>ec ⟨e1,z⟩
    ·exact .inl e1
   rw[this];simp
theorem ez.Oh (h:ez H k D E S){n:Int}{d:Addr}(hd:D n=none){kvs:List (Key×V)}(hk:H k=some (.dK kvs))(hn:H d=some (.dK []))(nw:¬wB k D E d):
 ez (upd H k (.dK (putK kvs (Sum.inl n) (.ref d)))) k (λc=>if c=n then some d else D c) E S:=by
 obtain⟨wC,q1,q2,q3,q4⟩:=h.top;rw[hk]at q1;obtain rfl:kvs=wC:=by injection q1 with q1;injection q1
 have VP:d≠k:=λz=>nw (.inl z)
 have en:∀s,E n s=none:=λs=>by
  cases q:E n s with
  |none=>rfl
  |some e=>obtain⟨d',z⟩:=h.ed _ _ _ q;rw[hd]at z;cases z
 refine⟨(Cq q2 q3 q4 n (.ref d)).congr λc=>?_,λc d' eZ=>?_,λc s e he=>(h.zS c s e he).at λo q=>?_,λc s e he=>?_,h.se,λc d' eZ=>?_,h.ne,λc c' d' h1 h2=>?_,λc c' s d' h1 h2=>?_,h.ee⟩
 ·by_cases e:c=n
  ·rw[ael e,ael e];rfl
  ·rw[aed e,aed e]
 ·by_cases e:c=n
  ·rw[ael e]at eZ;obtain rfl:=Option.some.inj eZ;subst e;refine⟨[],by rw[ao VP];exact hn,by simp,(λkv gB=>by cases gB),λs=>?_⟩;dsimp only;rw[en s];rfl
  ·rw[aed e]at eZ;exact(h.row c d' eZ).at λo q=>by rw[ao (h.nd _ _ eZ)];exact q
 ·rw[ao (h.ne _ _ _ he)];exact q
 ·obtain⟨d',z⟩:=h.ed _ _ _ he;by_cases e:c=n
  ·exact⟨d,ael e⟩
  ·exact⟨d',by rw[aed e];exact z⟩
 ·by_cases e:c=n
  ·rw[ael e]at eZ;obtain rfl:=Option.some.inj eZ;exact VP
  ·rw[aed e]at eZ;exact h.nd _ _ eZ
 ·by_cases e1:c=n
  ·rw[ael e1]at h1;obtain rfl:=Option.some.inj h1;by_cases e2:c'=n
   ·rw[e1,e2]
   ·rw[aed e2]at h2;exact(nw (.inr (.inl ⟨_,h2⟩))).elim
  ·rw[aed e1]at h1;by_cases e2:c'=n
   ·rw[ael e2]at h2;obtain rfl:=Option.some.inj h2;exact(nw (.inr (.inl ⟨_,h1⟩))).elim
   ·rw[aed e2]at h2;exact h.dd _ _ _ h1 h2
 ·by_cases e1:c=n
  ·rw[ael e1]at h1;obtain rfl:=Option.some.inj h1;exact nw (.inr (.inr ⟨_,_,h2⟩))
  ·rw[aed e1]at h1;exact h.de _ _ _ _ h1 h2
end
end L2
namespace L2
open PySem PySem.Spec PyProof.Rows
namespace Et
section
variable {prog:Program} {w:World} {A:Around} {E:Value->Shared->Prop} {s:Shared}
theorem item {it t:Addr}{i:Nat}{items:Array Value}{x:Value}{Q:Value->Shared->Prop}(hit:s.heap.IsTupleIter it t i)(ht:s.heap.IsTuple t items)(hx:items[i]?=some x)
 (hQ:∀g,g.IsTupleIter it t (i+ 1)->Heap.SameBut it s.heap g->Q x { s with heap:=g }):wpAny (model prog w) A (Builtin.SmallTypes.nextOf (.ref it)) Q E s:=by
 obtain⟨o,ho,hc,hd⟩:=id hit;obtain⟨ol,HZ,_,nl,xS⟩:=ht;unfold Builtin.SmallTypes.nextOf;refine adW (ae0 (name:=Str.ofString "__next__") hit.typeIs afU (ae4 afU hit.typeIs F.entry_tuple_iterator_next ?_ (F.args_tuple_iterator_next_1 _)));show wpAny _ _ (field (.ref it) 0 >>=_) _ _ s;refine adW (afn ho hd (x:=.ref t) rfl ?_);show wpAny _ _ (if (Value.ref t==Value.none)=true then _ else _) _ _ s;rw[aed (show ¬((Value.ref t==Value.none)=true) by intro z;cases z)];show wpAny _ _ (field (.ref it) 1 >>=_) _ _ s;refine adW (afn ho hd (x:=.int i 0) rfl ?_);show wpAny _ _ (seqItems? (.ref t) >>=_) _ _ s;refine adW (wpAny_seqItems HZ xS ?_);simp only[aeC,hx];exact adW (ag6 ho hd (by simp) (ad8 ⟨x,rfl,ad8 (hQ _ ⟨_,afp _ ho (Obj.isFreed_of_fields (agT hd _)),(Obj.cls_mapFields ..).trans hc,by rw[agT hd];simp[rawInt]⟩ (afo ..))⟩))
theorem fin {it t:Addr}{i:Nat}{items:Array Value}{Q:Value->Shared->Prop}(hh:A.handled=none)(hit:s.heap.IsTupleIter it t i)(ht:s.heap.IsTuple t items)(hx:items[i]?=none)
 (hE:∀g e,Heap.ExtBut it s.heap g->(∃o,g.get? e=some o/\o.cls=.type "StopIteration")->E (.ref e) { s with heap:=g }):wpAny (model prog w) A (Builtin.SmallTypes.nextOf (.ref it)) Q E s:=by
 obtain⟨o,ho,hc,hd⟩:=id hit;obtain⟨ol,HZ,_,nl,xS⟩:=ht;unfold Builtin.SmallTypes.nextOf;refine adW (ae0 (name:=Str.ofString "__next__") hit.typeIs afU (ae4 afU hit.typeIs F.entry_tuple_iterator_next ?_ (F.args_tuple_iterator_next_1 _)));show wpAny _ _ (field (.ref it) 0 >>=_) _ _ s;refine adW (afn ho hd (x:=.ref t) rfl ?_);show wpAny _ _ (if (Value.ref t==Value.none)=true then _ else _) _ _ s;rw[aed (show ¬((Value.ref t==Value.none)=true) by intro z;cases z)];show wpAny _ _ (field (.ref it) 1 >>=_) _ _ s;refine adW (afn ho hd (x:=.int i 0) rfl ?_);show wpAny _ _ (seqItems? (.ref t) >>=_) _ _ s;refine adW (wpAny_seqItems HZ xS ?_);simp only[aeC,hx];refine adW (wpAny_rule (adW (ag6 ho hd (by simp) ?_)));show wpAny _ _ (newExc (.type "StopIteration") [] >>=_) _ _ _
 refine adW ?_;simp only[newExc,newTuple];refine adW (aeO ?_ (by size_fits));refine adW (m:=firstArgMember _ _) (wpAny_of_eq (a:=Value.none) (by first|rfl|(simp only[firstArgMember];rfl)) ?_);refine aeO ?_ (by size_fits);simp only[raiseNew];refine adW (wpAny_handled ?_);first|rw[show A.in1.handled=none from hh]|rw[hh]
 refine adW (ad8 (wpAny_throw ?_));exact hE _ _ (((afo ..).extBut.push _).push _) ⟨_,aem _ rfl,rfl⟩
end
theorem meets (l:Addr)(items:Array Value)(n:Nat)(dct:Option Addr)(sl:Array (Option Value)):
 Meets (Builtin.«enumerate.__new__» ⟨[.type "enumerate",.ref l],[]⟩) (λ_ R s=>s.heap.get? l=some { cls:=.type "tuple",dict:=dct,data:=.seq items n,slots:=sl }/\
  R (.ok (.ret (.ref (s.heap.push { cls:=.type "tuple_iterator",data:=.fields #[.ref l,.int 0 0] }).objs.size)))
    { s with heap:=(s.heap.push { cls:=.type "tuple_iterator",data:=.fields #[.ref l,.int 0 0] }).push { cls:=.type "enumerate",data:=.fields #[.none,.bool false,.ref s.heap.objs.size,rawInt 0,.none,.none] } }):=
 .of_wp λprog w A R s h=>by
  obtain⟨hp,g,d,tk,os⟩:=s;obtain⟨hl,h⟩:=h;have Qu:=sub_enumerate;have hL:Heap.IsTuple (Shared.heap ⟨hp,g,d,tk,os⟩) l items:=⟨_,hl,rfl,n,rfl⟩
  wp_walk using af9 hl;refine wpAny_stack_any λst=>ad8 ?_
  split
  ·rename_i c _ _ _ _ _;cases (c==Value.type "enumerate") <;> (wp_walk using af9 hl,wpAny_pyIter_tuple hL;exact⟨_,rfl,h⟩)
  ·wp_walk using af9 hl,wpAny_pyIter_tuple hL;exact⟨_,rfl,h⟩
theorem call {prog:Program}{w:World}{A:Around}{E:Value->Shared->Prop}{s:Shared}{l:Addr}{items:Array Value}{Q:Value->Shared->Prop}(hL:s.heap.IsTuple l items)
 (h:∀g,IsEnum g (s.heap.objs.size+ 1) s.heap.objs.size 0 .none->g.IsTupleIter s.heap.objs.size l 0->g.objs.size=s.heap.objs.size+ 2->(∀b o,s.heap.get? b=some o->g.get? b=some o)->Q (.ref (s.heap.objs.size+ 1)) { s with heap:=g }):
 wpAny (model prog w) A (call (.type "enumerate") [.ref l]) Q E s:=by
 obtain⟨⟨c,dct,dt,sl⟩,hl,hc,n,hd⟩:=hL;replace hc:c=.type "tuple":=hc;replace hd:dt=.seq items n:=hd;subst hc hd;refine callType_new F.called_enumerate (by decide) (F.typeCall_enumerate_1 _) (F.newCall_enumerate_1 _) (λobj=>F.args_object_init_2 obj _) F.entry_enumerate_new (meets l items n dct sl) ⟨hl,?_⟩;have hz:(s.heap.push { cls:=.type "tuple_iterator",data:=.fields #[.ref l,.int 0 0] }).objs.size=s.heap.objs.size+ 1:=afD ..;show _/\_;rw[hz]
 have he:IsEnum ((s.heap.push { cls:=.type "tuple_iterator",data:=.fields #[.ref l,.int 0 0] }).push { cls:=.type "enumerate",data:=.fields #[.none,.bool false,.ref s.heap.objs.size,rawInt 0,.none,.none] }) (s.heap.objs.size+ 1) s.heap.objs.size 0 .none:=by
  have:=aem (s.heap.push { cls:=.type "tuple_iterator",data:=.fields #[.ref l,.int 0 0] }) (o:={ cls:=.type "enumerate",data:=.fields #[.none,.bool false,.ref s.heap.objs.size,rawInt 0,.none,.none] }) rfl;rw[hz]at this;exact this
 exact⟨⟨_,he,rfl⟩,h _ he ⟨_,ad3 _ (aem _ rfl),rfl,rfl⟩ (by rw[afD,hz]) λb o x=>ad3 _ (ad3 _ x)⟩
end Et
section
variable {X:Cx}
end
end L2
namespace HT
open PySem PySem.Spec PyProof.Rows L2
section
variable {prog:Program} {w:World} {A:Around} {E:Value->Shared->Prop} {s:Shared}
end
end HT
namespace L2
open PySem PySem.Spec PyProof.Rows
section
variable {X:Cx}
end
end L2
namespace L2
open PySem PySem.Spec PyProof.Rows
section
variable {K:PySem.W.Frag} {mg:Str->Option Value} {h:Heap} {C f:Addr} {x q:Str} {st:Stmt} {ps:List Str} {oc kV doc pm bK ct:Value} {od an:Option Addr} {sP:Array (Option Value)}
theorem Def.of (X:K.In h)(G:h.Ns mainGlobals mg)(a:PySem.W.nsIn K mainGlobals x=some (some (.ref f)))(l:K.lookup f=some ⟨oc,od,.func (PySem.W.fnOf x x (gw st) (fH st) (aU st) .none kV doc pm an bK ct),sP⟩)(c:PySem.W.codeIn K bK x=true)(k:PySem.W.keepIn K (.ref f)=true)
 (b:∀(kV doc pm:Value) (an:Option Addr) (bK ct:Value) (us:List Value),us.length=ps.length->bindArgs (PySem.W.fnOf x x (gw st) (fH st) (aU st) .none kV doc pm an bK ct) ⟨us,[]⟩=pure (ps.zip us)):Def K mg x st ps f (PySem.W.fnOf x x (gw st) (fH st) (aU st) .none kV doc pm an bK ct):=
 have F:=Hk (st:=st) l c k
 ⟨F,PySem.W.mg_of X G a,F.binds (ps:=ps) b⟩
theorem MDef.of (a:PySem.W.findIn K (.ref C) x=some (some (.ref f)))(i:PySem.W.isFn K (.ref f)=true)(l:K.lookup f=some ⟨oc,od,.func (PySem.W.fnOf x q (gw st) (fH st) (aU st) .none kV doc pm an bK ct),sP⟩)(c:PySem.W.codeIn K bK q=true)(k:PySem.W.keepIn K (.ref f)=true)
 (b:∀(kV doc pm:Value) (an:Option Addr) (bK ct:Value) (us:List Value),us.length=ps.length->bindArgs (PySem.W.fnOf x q (gw st) (fH st) (aU st) .none kV doc pm an bK ct) ⟨us,[]⟩=pure (ps.zip us)):MDef K C x q st ps f (PySem.W.fnOf x q (gw st) (fH st) (aU st) .none kV doc pm an bK ct):=
 have F:=Hk (st:=st) l c k
 ⟨F,⟨a,i,k⟩,F.binds (ps:=ps) b⟩
theorem Def.fd {fd:FuncData}(D:Def K mg x st ps f fd):∃(kV doc pm:Value) (an:Option Addr) (bK ct:Value),fd=PySem.W.fnOf x x (gw st) (fH st) (aU st) .none kV doc pm an bK ct:=by
 obtain⟨oc,od,kV,doc,pm,an,bK,ct,sP,e,_⟩:=D.F.ex;exact⟨kV,doc,pm,an,bK,ct,e⟩
end
end L2
namespace L2
def wk (b:Nat->Int->Option Nat):Nat->List Int->Option Nat
 |c,[]=>some c
 |c,z::w=>match b c z with
  |none=>none
  |some d=>wk b d w
section
variable {b:Nat->Int->Option Nat}
theorem lU {c d:Nat}{z:Int}{w:List Int}(h:b c z=some d):wk b c (z::w)=wk b d w:=by
 show (match b c z with|none=>none|some d=>wk b d w)=_;rw[h]
theorem Cr {c e:Nat}{z:Int}{w:List Int}(h:wk b c (z::w)=some e):∃d,b c z=some d/\wk b d w=some e:=by
 cases q:b c z with
 |none=>
  have h':(match b c z with|none=>none|some d=>wk b d w)=some e:=h;rw[q]at h';cases h'
 |some d=>rw[lU q]at h;exact⟨d,rfl,h⟩
theorem xZ:∀{u v:List Int} {c d:Nat},wk b c u=some d->wk b c (u++v)=wk b d v
 |[],v,c,d,h=>by rw[Option.some.inj h];rfl
 |z::u,v,c,d,h=>by
  obtain⟨e,h1,h2⟩:=Cr h;rw[List.cons_append,lU h1];exact xZ h2
theorem Q7 {c d:Nat}{z:Int}(h:b c z=some d):wk b c [z]=some d:=by rw[lU h];rfl
theorem take_snoc {w:List Int}{i:Nat}{z:Int}(h:w[i]?=some z):w.take (i+ 1)=w.take i++[z]:=by rw[af0,h];rfl
theorem drop_cons {w:List Int}{i:Nat}{z:Int}(h:w[i]?=some z):w.drop i=z::w.drop (i+ 1):=by
 have hi:=(ad4.mp h).1;rw[agE hi,(ad4.mp h).2]
end
structure Later (S S':RS):Prop where
 el:∀c,c<S.made->S'.ax (S.ax c)=S'.ax c
 by_:∀c z d,S.by c z=some d->S'.by (S'.ax c) z=some (S'.ax d)
theorem Later.of {S S':RS}{R R':Nat->Int->Nat->Prop}(h:Good S [] R)(h':Good S' [] R')(hr:∀a z b,R a z b->R' a z b)(hm:S.made<=S'.made):Later S S':=by
 have el:∀c,c<S.made->S'.ax (S.ax c)=S'.ax c:=λc hc=>(h'.fin (aev (h.lt hc) hm) (aev hc hm)).mpr ((h.cg c hc).mono hr).symm
 refine⟨el,λc z d e=>?_⟩;obtain⟨c',d',r,e1,e2⟩:=h.so _ _ _ e;obtain⟨l1,l2,_⟩:=h.rl _ _ _ r;rw[←e1,←e2,el c' l1,el d' l2];exact h'.Cd.mpr ⟨c',d',hr _ _ _ r,rfl,rfl⟩
theorem Later.wk {S S':RS}(h:Later S S'):∀{w:List Int} {c d:Nat},wk S.by c w=some d->wk S'.by (S'.ax c) w=some (S'.ax d)
 |[],c,d,e=>by rw[Option.some.inj e];rfl
 |z::w,c,d,e=>by
  obtain⟨f,h1,h2⟩:=Cr e;rw[lU (h.by_ _ _ _ h1)];exact Later.wk h h2
structure Gg where
 which:Nat
 word:List Int
 start:Nat
 front:Nat
 first:Nat
 bj:Nat
 last:Nat
def Gg.z1 (g:Gg):Int:=g.word.getD g.first 0
def Gg.z2 (g:Gg):Int:=-(g.word.getD g.last 0)
structure GI (S:RS) (g:Gg):Prop where
 fl:g.first<=g.last
 ll:g.last<g.word.length
 s:g.start<S.made
 f:g.front<S.made
 r:g.bj<S.made
 wf:wk S.by (S.ax g.start) (g.word.take g.first)=some (S.ax g.front)
 wr:wk S.by (S.ax g.bj) (g.word.drop (g.last+ 1))=some (S.ax g.start)
theorem GI.later {S S':RS}{g:Gg}(h:GI S g)(l:Later S S')(hm:S.made<=S'.made):GI S' g:=by
 have h1:=l.wk h.wf;have h2:=l.wk h.wr;rw[l.el _ h.s,l.el _ h.f]at h1;rw[l.el _ h.r,l.el _ h.s]at h2;exact⟨h.fl,h.ll,aev h.s hm,aev h.f hm,aev h.r hm,h1,h2⟩
theorem Gg.x8 {g:Gg}(h:g.first<g.word.length):g.word[g.first]?=some g.z1:=by
 unfold Gg.z1;rw[ad2,adX h];rfl
theorem Gg.at2 {g:Gg}(h:g.last<g.word.length):g.word[g.last]?=some (-g.z2):=by
 unfold Gg.z2;rw[ad2,adX h,afB];rfl
structure VQ (S:RS) (g g':Gg):Prop where
 wh:g'.which=g.which
 wo:g'.word=g.word
 st:g'.start=g.start
 gi:GI S g'
 ef:S.ax g'.front=g'.front
 er:S.ax g'.bj=g'.bj
 n1:g'.first<g'.last->S.by g'.front g'.z1=none
 n2:g'.first<g'.last->S.by g'.bj g'.z2=none
 k1:S.ax g.front=g.front->S.by g.front g.z1=none->g'.front=g.front/\g'.first=g.first
 k2:S.ax g.bj=g.bj->S.by g.bj g.z2=none->g'.bj=g.bj/\g'.last=g.last
theorem GI.whole {S:RS}{g:Gg}(h:GI S g)(e:g.first=g.last)(es:S.ax g.start=g.start)(ef:S.ax g.front=g.front)(er:S.ax g.bj=g.bj)(hb:S.by g.front g.z1=some g.bj):wk S.by g.start g.word=some g.start:=by
 have h1:=h.wf;have h2:=h.wr;rw[es,ef]at h1;rw[es,er,←e]at h2;have hz:=Gg.x8 (g:=g) (by rw[e];exact h.ll);have:g.word=g.word.take g.first++(g.z1::g.word.drop (g.first+ 1)):=by rw[←drop_cons hz,List.take_append_drop]
 rw[this,xZ h1,lU hb];exact h2
def eN (m:Nat)(W:bQ)(n:Int):Nat:=(List.range (m* 2001)).countP λc=>W ((c / 2001:Nat):Int) (((c % 2001:Nat):Int) - 1000) n
def ya (m G:Nat)(W:bQ):Nat:=((List.range G).map λn:Nat=>eN m W n).sum
def iB (W:bQ)(r s:Int):bQ:=λr' s' n=>W r' s' n && !(decide (r'=r) && decide (s'=s))
theorem Q8 {m r:Nat}{s:Int}(hr:r<m)(hs: -1000<=s/\s<=1000):r* 2001+ (s+ 1000).toNat<m* 2001:=by
 have:(r+ 1)* 2001<=m* 2001:=agC _ hr;omega
theorem Ia {c r:Nat}{s:Int}(hs: -1000<=s/\s<=1000):(((c / 2001:Nat):Int)=(r:Int)/\((c % 2001:Nat):Int) - 1000=s)↔c=r* 2001+ (s+ 1000).toNat:=by
 constructor
 ·rintro ⟨h1,h2⟩;have:=Nat.div_add_mod c 2001;omega
 ·intro h;subst h
  have e1:(r* 2001+ (s+ 1000).toNat) / 2001=r:=by
   rw[Nat.mul_comm,Nat.mul_add_div (by decide),Nat.div_eq_of_lt (by omega)];omega
  have e2:(r* 2001+ (s+ 1000).toNat) % 2001=(s+ 1000).toNat:=by
   rw[Nat.mul_comm,Nat.mul_add_mod,Nat.mod_eq_of_lt (by omega)]
  rw[e1,e2];omega
theorem Q9 {m r:Nat}{s:Int}{W:bQ}(n:Int)(hr:r<m)(hs: -1000<=s/\s<=1000):eN m (iB W r s) n+ (if W r s n=true then 1 else 0)=eN m W n:=by
 have hv:=Q8 hr hs
 have dec:∀c:Nat,(decide (((c / 2001:Nat):Int)=(r:Int)) && decide (((c % 2001:Nat):Int) - 1000=s))=decide (c=r* 2001+ (s+ 1000).toNat):=λc=>by
  rw[←Bool.decide_and,decide_eq_decide];exact Ia hs
 have at_:=(Ia (c:=r* 2001+ (s+ 1000).toNat) (r:=r) hs).mpr rfl;unfold eN iB;by_cases hw:W r s n=true
 ·rw[ael hw]
  have:=nS (p:=λc:Nat=>W ((c / 2001:Nat):Int) (((c % 2001:Nat):Int) - 1000) n) (p':=λc:Nat=>W ((c / 2001:Nat):Int) (((c % 2001:Nat):Int) - 1000) n && !(decide (((c / 2001:Nat):Int)=(r:Int)) && decide (((c % 2001:Nat):Int) - 1000=s))) (v:=r* 2001+ (s+ 1000).toNat) (λc=>by
   rw[dec c,←decide_not]) (by rw[at_.1,at_.2];exact hw) (m* 2001)
  rw[ael hv]at this;exact this
 ·rw[aed hw,Nat.add_zero];refine List.countP_congr λc _=>?_
  rw[afv];refine⟨λh=>h.1,λh=>⟨h,?_⟩⟩;rw[dec c]
  cases e:decide (c=r* 2001+ (s+ 1000).toNat) with
  |false=>rfl
  |true=>
   rw[aeI e,at_.1,at_.2]at h;exact absurd h hw
theorem zT:∀(l:List Nat) (f g h:Nat->Nat),(∀n∈l,f n+ g n=h n)->(l.map f).sum+ (l.map g).sum=(l.map h).sum
 |[],_,_,_,_=>rfl
 |a::l,f,g,h,e=>by
  have ih:=zT l f g h λn hn=>e n (aek _ hn)
  have:=e a (aeb ..);simp only[aeN,List.sum_cons];omega
theorem EL (p:Nat->Bool):∀l:List Nat,(l.map λn=>if p n=true then 1 else 0).sum=l.countP p
 |[]=>rfl
 |a::l=>by
  rw[aeN,List.sum_cons,EL p l,List.countP_cons];omega
theorem Oi {m G r:Nat}{s:Int}{W:bQ}(hr:r<m)(hs: -1000<=s/\s<=1000):ya m G (iB W r s)+ (List.range G).countP (λn:Nat=>W r s n)=ya m G W:=by
 unfold ya;rw[←EL (λn:Nat=>W r s n)];exact zT _ _ _ _ λn _=>Q9 n hr hs
theorem Oj:∀{l:List Nat} {a b:Nat},l.Nodup->(∀x∈l,x=a\/x=b)->l.length<=2
 |[],_,_,_,_=>by decide
 |[_],_,_,_,_=>agh 1
 |[_,_],_,_,_,_=>ad7 2
 |x::y::z::r,a,b,hn,h=>by
  have hx:=h x (by simp);have hy:=h y (by simp);have hz:=h z (by simp);simp only[aeJ,aea,not_or]at hn;omega
theorem Rb {m:Nat}{W:bQ}{n:Int}{p q:Int×Int}(h:∀r s,W r s n=true->(r,s)=p\/(r,s)=q):eN m W n<=2:=by
 unfold eN;rw[List.countP_eq_length_filter];refine Oj (a:=(p.1* 2001+ (p.2+ 1000)).toNat) (b:=(q.1* 2001+ (q.2+ 1000)).toNat) (ahe.filter _) λc hc=>?_
 have hd:=Nat.div_add_mod c 2001;rcases h _ _ (af5.mp hc).2 with e|e
 ·left;rw[←e];dsimp only;omega
 ·right;rw[←e];dsimp only;omega
theorem Ib:∀(l:List Nat) (f:Nat->Nat) (k:Nat),(∀n∈l,f n<=k)->(l.map f).sum<=l.length* k
 |[],_,_,_=>by simp
 |a::l,f,k,h=>by
  have ih:=Ib l f k λn hn=>h n (aek _ hn)
  have:=h a (aeb ..);rw[aeN,List.sum_cons,aes,Nat.add_mul];omega
theorem Ol {m G:Nat}{W:bQ}(h:∀n:Nat,∃p q:Int×Int,∀r s,W r s n=true->(r,s)=p\/(r,s)=q):ya m G W<=2* G:=by
 have:=Ib (List.range G) (λn:Nat=>eN m W n) 2 λn _=>by
  obtain⟨p,q,e⟩:=h n;exact Rb e
 rw[aeR]at this;unfold ya;omega
end L2
namespace L2
structure CI (S:RS) (bs:List (Nat×List Int×Nat)) (gs:List (Option Gg)) (ag:List Nat) (W:bQ) (Ex:Nat->Int->Prop) (x:Option Nat):Prop where
 len:gs.length=bs.length
 al:∀(n:Nat) (g:Gg),gs[n]?=some (some g)->bs[n]?=some (g.which,g.word,g.start)/\GI S g/\(n∈ag\/some n=x\/(g.first<g.last/\W g.front g.z1 n=true/\W g.bj g.z2 n=true))
 de:∀(n:Nat) (b:Nat×List Int×Nat),gs[n]?=some none->some n≠x->bs[n]?=some b->S.ax b.2.2≠b.2.2\/wk S.by b.2.2 b.2.1=some b.2.2
 ab:∀n∈ag,n<gs.length
 en:∀r s n,W r s n=true->∃r' n':Nat,r=r'/\n=n'/\r'<S.made/\n'<gs.length/\(-1000<=s/\s<=1000)/\(S.ax r'=r'/\S.by r' s=none\/Ex r' s)
 sl:∀n:Nat,∃p q:Int×Int,(∀r s,W r s n=true->(r,s)=p\/(r,s)=q)/\∀g,gs[n]?=some (some g)->p=((g.front:Int),g.z1)/\q=((g.bj:Int),g.z2)
 bd:∀b∈bs,∀z∈b.2.1,-1000<=z/\z<=1000
def eX:Nat->Int->Prop:=λ_ _=>False
section
variable {S S':RS} {bs:List (Nat×List Int×Nat)} {gs:List (Option Gg)} {ag:List Nat} {W:bQ} {Ex:Nat->Int->Prop} {x:Option Nat} {n:Nat}
theorem CI.pop (h:CI S bs gs (ag++[n]) W Ex none):CI S bs gs ag W Ex (some n):=by
 refine⟨h.len,λk g e=>?_,λk b e _=>h.de k b e (λz=>by cases z),λk hk=>h.ab k (aex _ hk),h.en,h.sl,h.bd⟩;obtain⟨h1,h2,h3⟩:=h.al k g e;refine⟨h1,h2,?_⟩;rcases h3 with h3|h3|h3
 ·rcases aei.mp h3 with q|q
  ·exact .inl q
  ·exact .inr (.inl (by rw[ad1.mp q]))
 ·cases h3
 ·exact .inr (.inr h3)
theorem CI.done (h:CI S bs gs ag W Ex (some n))(e:gs[n]?=some none)(k:∀b,bs[n]?=some b->S.ax b.2.2≠b.2.2\/wk S.by b.2.2 b.2.1=some b.2.2):CI S bs gs ag W Ex none:=by
 refine⟨h.len,λm g e'=>?_,λm b e' _ eb=>?_,h.ab,h.en,h.sl,h.bd⟩
 ·obtain⟨h1,h2,h3⟩:=h.al m g e';refine⟨h1,h2,?_⟩;rcases h3 with h3|h3|h3
  ·exact .inl h3
  ·rw[Option.some.inj h3,e]at e';cases Option.some.inj e'
  ·exact .inr (.inr h3)
 ·by_cases q:m=n
  ·rw[q]at eb;exact k b eb
  ·exact h.de m b e' (λz=>q (Option.some.inj z)) eb
theorem fi {α:Type}{l:List α}{i j:Nat}{a b:α}(h:(l.set i a)[j]?=some b):(j=i/\b=a)\/(j≠i/\l[j]?=some b):=by
 by_cases e:i=j
 ·subst e;have hi:=(ad4.mp h).1;rw[aew]at hi;rw[aeH hi]at h;exact .inl ⟨rfl,(Option.some.inj h).symm⟩
 ·rw[ae3 e]at h;exact .inr ⟨λz=>e z.symm,h⟩
theorem CI.kill (h:CI S bs gs ag W Ex (some n)):CI S bs (gs.set n none) ag W Ex (some n):=by
 refine⟨by rw[aew];exact h.len,λm g e=>?_,λm b e q eb=>?_,λk hk=>by rw[aew];exact h.ab k hk,λr s k e=>?_,λm=>?_,h.bd⟩
 ·rcases fi e with ⟨_,z⟩|⟨z,e⟩
  ·cases z
  ·exact h.al m g e
 ·rcases fi e with ⟨z,_⟩|⟨z,e⟩
  ·exact absurd (by rw[z]) q
  ·exact h.de m b e q eb
 ·rw[aew];exact h.en r s k e
 ·obtain⟨p,q,h1,h2⟩:=h.sl m;refine⟨p,q,h1,λg e=>?_⟩;rcases fi e with ⟨_,z⟩|⟨_,e⟩
  ·cases z
  ·exact h2 g e
def addW (W:bQ)(r s n:Int):bQ:=λr' s' n'=>W r' s' n' || (decide (r'=r) && decide (s'=s) && decide (n'=n))
theorem dN {W:bQ}{r s n r' s' n':Int}:addW W r s n r' s' n'=true↔W r' s' n'=true\/(r'=r/\s'=s/\n'=n):=by
 unfold addW;simp only[agr,afv,decide_eq_true_eq,and_assoc]
theorem dO {W:bQ}{r s r' s' n':Int}:iB W r s r' s' n'=true↔W r' s' n'=true/\¬(r'=r/\s'=s):=by
 unfold iB;simp only[afv,Bool.not_eq_true',Bool.and_eq_false_iff,agW];refine⟨λ⟨a,b⟩=>⟨a,λz=>b.elim (λq=>q z.1) (λq=>q z.2)⟩,λ⟨a,b⟩=>⟨a,?_⟩⟩;by_cases e:r'=r
 ·exact .inr λz=>b ⟨e,z⟩
 ·exact .inl e
theorem CI.waits (h:CI S bs gs ag W eX (some n)){g g':Gg}(e:gs[n]?=some (some g))(a:VQ S g g')(bG:g'.first<g'.last):CI S bs (gs.set n (some g')) ag (addW (addW W g'.front g'.z1 n) g'.bj g'.z2 n) eX none:=by
 obtain⟨hb,hg,_⟩:=h.al n g e;have hn:=(ad4.mp e).1;have gi:=a.gi;have bw:∀z∈g'.word,-1000<=z/\z<=1000:=λz hz=>h.bd _ (adY hb) z (by rw[←a.wo];exact hz)
 have b1:=bw _ (adY (Gg.x8 (g:=g') (by have:=gi.ll;omega)));have b2:=bw _ (adY (Gg.at2 (g:=g') gi.ll));refine⟨by rw[aew];exact h.len,λm u q=>?_,λm b q _ eb=>?_,λk hk=>by rw[aew];exact h.ab k hk,λr s k q=>?_,λm=>?_,h.bd⟩
 ·rcases fi q with ⟨rfl,z⟩|⟨z,q⟩
  ·cases z;refine⟨by rw[hb,a.wh,a.wo,a.st],gi,.inr (.inr ⟨bG,dN.mpr (.inl (dN.mpr (.inr ⟨rfl,rfl,rfl⟩))),dN.mpr (.inr ⟨rfl,rfl,rfl⟩)⟩)⟩
  ·obtain⟨h1,h2,h3⟩:=h.al m u q;refine⟨h1,h2,?_⟩;rcases h3 with h3|h3|⟨h3,h4,h5⟩
   ·exact .inl h3
   ·exact absurd (Option.some.inj h3) z
   ·exact .inr (.inr ⟨h3,dN.mpr (.inl (dN.mpr (.inl h4))),dN.mpr (.inl (dN.mpr (.inl h5)))⟩)
 ·rcases fi q with ⟨_,z⟩|⟨z,q⟩
  ·cases z
  ·exact h.de m b q (λy=>z (Option.some.inj y)) eb
 ·rw[aew];rcases dN.mp q with q|⟨rfl,rfl,rfl⟩
  ·rcases dN.mp q with q|⟨rfl,rfl,rfl⟩
   ·exact h.en r s k q
   ·exact⟨_,n,rfl,rfl,gi.f,hn,b1,.inl ⟨a.ef,a.n1 bG⟩⟩
  ·exact⟨_,n,rfl,rfl,gi.r,hn,by omega,.inl ⟨a.er,a.n2 bG⟩⟩
 ·obtain⟨p,q,h1,h2⟩:=h.sl m;by_cases em:m=n
  ·subst em;obtain⟨ep,eq⟩:=h2 g e;refine⟨((g'.front:Int),g'.z1),((g'.bj:Int),g'.z2),λr s w=>?_,λu e'=>?_⟩
   ·rcases dN.mp w with w|⟨rfl,rfl,_⟩
    ·rcases dN.mp w with w|⟨rfl,rfl,_⟩
     ·obtain⟨r',n',er,_,_,_,_,hh⟩:=h.en r s m w;rcases hh with ⟨hs,Eo⟩|hh
      ·rcases h1 r s w with z|z
       ·rw[ep]at z;injection z with z1 z2
        have:r'=g.front:=by omega
        subst this;obtain⟨k1,k2⟩:=a.k1 hs (by rw[←z2];exact Eo)
        left
        rw[Prod.mk.injEq];refine⟨by rw[k1];exact er,?_⟩;rw[z2];unfold Gg.z1;rw[a.wo,k2]
       ·rw[eq]at z;injection z with z1 z2
        have:r'=g.bj:=by omega
        subst this;obtain⟨k1,k2⟩:=a.k2 hs (by rw[←z2];exact Eo)
        right
        rw[Prod.mk.injEq];refine⟨by rw[k1];exact er,?_⟩;rw[z2];unfold Gg.z2;rw[a.wo,k2]
      ·exact hh.elim
     ·exact .inl rfl
    ·exact .inr rfl
   ·rcases fi e' with ⟨_,z⟩|⟨z,_⟩
    ·cases z;exact⟨rfl,rfl⟩
    ·exact absurd rfl z
  ·refine⟨p,q,λr s w=>?_,λu e'=>?_⟩
   ·rcases dN.mp w with w|⟨_,_,z⟩
    ·rcases dN.mp w with w|⟨_,_,z⟩
     ·exact h1 r s w
     ·omega
    ·omega
   ·rcases fi e' with ⟨z,_⟩|⟨_,e'⟩
    ·exact absurd z em
    ·exact h2 u e'
theorem CI.wake (h:CI S bs gs ag W Ex x){r s:Int}{ns:List Nat}(hn:∀k:Nat,k∈ns↔W r s k=true):CI S bs gs (ag++ns) (iB W r s) Ex x:=by
 refine⟨h.len,λm g e=>?_,h.de,λk hk=>?_,λr' s' k q=>h.en _ _ _ (dO.mp q).1,λm=>?_,h.bd⟩
 ·obtain⟨h1,h2,h3⟩:=h.al m g e;refine⟨h1,h2,?_⟩;rcases h3 with h3|h3|⟨h3,h4,h5⟩
  ·exact .inl (aex _ h3)
  ·exact .inr (.inl h3)
  ·by_cases e1:(g.front:Int)=r/\g.z1=s
   ·exact .inl (ad5 _ ((hn m).mpr (by rw[←e1.1,←e1.2];exact h4)))
   ·by_cases e2:(g.bj:Int)=r/\g.z2=s
    ·exact .inl (ad5 _ ((hn m).mpr (by rw[←e2.1,←e2.2];exact h5)))
    ·exact .inr (.inr ⟨h3,dO.mpr ⟨h4,e1⟩,dO.mpr ⟨h5,e2⟩⟩)
 ·rcases aei.mp hk with q|q
  ·exact h.ab k q
  ·obtain⟨_,n',_,en,_,hl,_⟩:=h.en _ _ _ ((hn k).mp q);omega
 ·obtain⟨p,q,h1,h2⟩:=h.sl m;exact⟨p,q,λr' s' w=>h1 _ _ (dO.mp w).1,h2⟩
theorem CI.ex {VR:Nat->Int->Prop}(h:CI S bs gs ag W Ex x)(k:∀(r:Nat) s n,W r s n=true->r<S.made->Ex r s->(S.ax r=r/\S.by r s=none)\/VR r s):CI S bs gs ag W VR x:=by
 refine⟨h.len,h.al,h.de,h.ab,λr s n q=>?_,h.sl,h.bd⟩;obtain⟨r',n',rfl,rfl,a,b,c,d⟩:=h.en r s n q;exact⟨r',n',rfl,rfl,a,b,c,d.elim .inl (k r' s n' q a)⟩
end
end L2
namespace L2
structure jf (S:RS):Prop where
 a:∀c,c<S.made->S.ax c≠c->c∈S.bf
 b:∀c∈S.bf,S.ax c≠c
 c:∀c∈S.bf,c<S.made
section
variable {S S':RS} {pend:List Way} {w:Way} {R:Nat->Int->Nat->Prop} {ks:List Int}
theorem Ic {c x y:Nat}{z:Int}:(S.meet c z x y pend).1.bf=S.bf++[max x y]:=by
 have:=(km (max x y) (S.joined c z (min x y) (max x y)) pend ((S.joined c z (min x y) (max x y)).way (max x y))).2;have:=afh RS.bf this;exact this
theorem DV (h:(S.takeIn pend w).1.bf=S.bf):(S.takeIn pend w).1.bI=S.bI:=by
 have no:∀{c x y:Nat} {z:Int},(S.meet c z x y pend).1.bf=S.bf->False:=λ{c x y z} e=>by
  rw[Ic]at e;have:=afh List.length e;rw[adZ]at this;simp at this
 unfold RS.takeIn at h ⊢;split
 ·rename_i q;rw[ael q]at h;exact(no h).elim
 ·rename_i q;rw[aed q]at h;split
  ·rename_i q2;rw[ael q2]at h;exact(no h).elim
  ·rfl
theorem jf.take (hi:jf S)(h:Good S (pend++[w]) R)(hk:∀c z d,R c z d->z∈ks):jf (S.takeIn pend w).1/\∃l,(S.takeIn pend w).1.bf=S.bf++l:=by
 obtain⟨_,_,hm,_,q⟩:=h.take hk;rcases q with ⟨_,_,e⟩|⟨_,c,z,x,y,hx,_,hy,ey,qW,_,e,el⟩
 ·have ee:=DV e;have el:∀a,(S.takeIn pend w).1.ax a=S.ax a:=λa=>by unfold RS.ax;rw[ee]
  refine⟨⟨λc hc=>?_,λc hc=>?_,λc hc=>by rw[hm];rw[e]at hc;exact hi.c c hc⟩,[],by rw[e,aeP]⟩
  ·rw[hm]at hc;rw[el,e];exact hi.a c hc
  ·rw[e]at hc;rw[el];exact hi.b c hc
 ·obtain⟨_,VF,_,ex⟩:=h.st _ _ _ hx;have ER:min x y<max x y:=by rcases Nat.lt_or_gt_of_ne qW with q|q <;> omega
  refine⟨⟨λa ha=>?_,λa ha=>?_,λa ha=>?_⟩,[max x y],e⟩
  ·rw[hm]at ha;rw[el,e];intro cK;by_cases q:S.ax a=a
   ·by_cases q2:S.ax a=max x y
    ·exact ad5 _ (by rw[←q2,q];exact ad1.mpr rfl)
    ·rw[aed q2]at cK;exact absurd q cK
   ·exact aex _ (hi.a a ha q)
  ·rw[el];rw[e]at ha;rcases aei.mp ha with q|q
   ·have cK:=hi.b a q;by_cases q2:S.ax a=max x y
    ·rw[ael q2];intro z;have:a=min x y:=z.symm;rcases Nat.le_total x y with q3|q3
     ·rw[age q3]at this;rw[this]at cK;exact cK ex
     ·rw[agG q3]at this;rw[this]at cK;exact cK ey
    ·rw[aed q2];exact cK
   ·have ea:a=max x y:=ad1.mp q
    have:S.ax a=max x y:=by
     rw[ea];rcases Nat.le_total x y with q3|q3
     ·rw[ahd q3];exact ey
     ·rw[Nat.max_eq_left q3];exact ex
    rw[ael this];omega
  ·rw[hm];rw[e]at ha;rcases aei.mp ha with q|q
   ·exact hi.c a q
   ·rw[ad1.mp q];rcases Nat.le_total x y with q3|q3 <;> omega
inductive r9:RS->List Way->RS->Prop where
 |nil (S:RS):r9 S [] S
 |take {S S':RS} {pend:List Way} {w:Way}:r9 (S.takeIn pend w).1 (S.takeIn pend w).2 S'->r9 S (pend++[w]) S'
theorem r9.all (l:r9 S pend S'):Good S pend R->(∀c z d,R c z d->z∈ks)->jf S->Good S' [] R/\jf S'/\S'.made=S.made/\S'.L=S.L/\∃l,S'.bf=S.bf++l:=by
 induction l with
 |nil S=>exact λg _ w=>⟨g,w,rfl,rfl,[],(aeP _).symm⟩
 |take _ ih=>
  intro g hk w;obtain⟨g1,_,m1,l1,_⟩:=g.take hk;obtain⟨w1,l2,e2⟩:=w.take g hk;obtain⟨a,b,c,d,l3,e3⟩:=ih g1 hk w1;exact⟨a,b,c.trans m1,d.trans l1,l2++l3,by rw[e3,e2,ae6]⟩
end
section
variable {S S':RS} {R:Nat->Int->Nat->Prop} {bs:List (Nat×List Int×Nat)} {gs:List (Option Gg)} {ag:List Nat} {W:bQ} {n c d:Nat} {z:Int}
theorem CI.lay (h:CI S bs gs ag W eX (some n))(e:gs[n]?=some none)(g:Good S [] R)(g':Good S' [] (jy R c z d))(hm:S'.made=S.made)(wi:jf S)(wi':jf S'){l:List Nat}(hl:S'.bf=S.bf++l)(hc:c<S.made)(ec:S.ax c=c)(hd:d<S.made)(ed:S.ax d=d)
 (k:∀b,bs[n]?=some b->S'.ax b.2.2≠b.2.2\/wk S'.by b.2.2 b.2.1=some b.2.2):CI S' bs gs ag W (λr s=>(r=c/\s=z)\/(r=d/\s= -z)\/∃m∈l,r=m\/r=S'.ax m) none:=by
 have lt:=Later.of g g' oU (afW hm.symm)
 have L6:∀e,e<S.made->S.ax e=e->S'.ax e≠e->e∈l:=λe h1 h2 h3=>by
  have:=wi'.a e (by rw[hm];exact h1) h3;rw[hl]at this;rcases aei.mp this with q|q
  ·exact absurd h2 (wi.b e q)
  ·exact q
 have h0:CI S' bs gs ag W (λr s=>(r=c/\s=z)\/(r=d/\s= -z)\/∃m∈l,r=m\/r=S'.ax m) (some n):=by
  refine⟨h.len,λm u q=>?_,λm b q1 q2 q3=>?_,h.ab,λr s m q=>?_,h.sl,h.bd⟩
  ·obtain⟨h1,h2,h3⟩:=h.al m u q;exact⟨h1,h2.later lt (afW hm.symm),h3⟩
  ·by_cases e1:S'.ax b.2.2=b.2.2
   ·right
    rcases h.de m b q1 q2 q3 with q|q
    ·by_cases hb:b.2.2<S.made
     ·have h1:=(g.el _ hb).1;have h2:=(g'.el _ (by rw[hm];exact g.lt hb)).1;rw[lt.el _ hb,e1]at h2;exact absurd (Nat.le_antisymm h1 h2) q
     ·exfalso
      have hs:S.bI.length=S.made:=g.wf.e;have LY:S'.bI.length=S'.made:=g'.wf.e;have e0:S.ax b.2.2=0:=by unfold RS.ax;rw[ad2,aeM (by omega)];rfl
      have e0':S'.ax b.2.2=0:=by unfold RS.ax;rw[ad2,aeM (by omega)];rfl
      exact q (by rw[e0,←e0',e1])
    ·have:=lt.wk q;rw[e1]at this;exact this
   ·exact .inl e1
  ·obtain⟨r',n',e1,e2,hr,hn,hs,q⟩:=h.en r s m q;refine⟨r',n',e1,e2,by rw[hm];exact hr,hn,hs,?_⟩;rcases q with ⟨q1,q2⟩|q
   ·by_cases h1:S'.ax r'=r'
    ·cases h2:S'.by r' s with
     |none=>exact .inl ⟨h1,rfl⟩
     |some o=>
      right
      obtain⟨c',d',rr,f1,f2⟩:=g'.so _ _ _ h2
      have stand:∀e,e<S.made->S.ax e=e->S'.ax e=r'->e=r'\/∃m∈l,r'=m\/r'=S'.ax m:=λe a1 a2 a3=>by
       by_cases a4:e=r'
       ·exact .inl a4
       ·exact .inr ⟨e,L6 e a1 a2 (by rw[a3];exact λz=>a4 z.symm),.inr a3.symm⟩
      rcases rr with rr|⟨rfl,rfl,rfl⟩|⟨rfl,rfl,rfl⟩
      ·obtain⟨l1,l2,_⟩:=g.rl _ _ _ rr;rcases stand (S.ax c') (g.lt l1) (g.el _ l1).2 (by rw[lt.el _ l1];exact f1) with a|a
       ·exfalso
        have:=g.Cd.mpr ⟨c',d',rr,a,rfl⟩;rw[q2]at this;cases this
       ·exact .inr (.inr a)
      ·rcases stand c' hc ec f1 with a|a
       ·exact .inl ⟨a.symm,rfl⟩
       ·exact .inr (.inr a)
      ·rcases stand c' hd ed f1 with a|a
       ·exact .inr (.inl ⟨a.symm,rfl⟩)
       ·exact .inr (.inr a)
    ·exact .inr (.inr (.inr ⟨r',L6 r' hr q1 h1,.inl rfl⟩))
   ·exact q.elim
 exact h0.done e k
end
def eY (by_:Nat->Int->Option Nat):Nat->List Int->List Nat
 |_,[]=>[]
 |r,z::ws=>match by_ r z with
  |none=>[]
  |some b=>b::eY by_ b ws
theorem zU {by_:Nat->Int->Option Nat}{r:Nat}{z:Int}{ws:List Int}(h:by_ r z=none):eY by_ r (z::ws)=[]:=by
 show (match by_ r z with|none=>[]|some b=>b::eY by_ b ws)=[];rw[h]
theorem zV {by_:Nat->Int->Option Nat}{r b:Nat}{z:Int}{ws:List Int}(h:by_ r z=some b):eY by_ r (z::ws)=b::eY by_ b ws:=by
 show (match by_ r z with|none=>[]|some b=>b::eY by_ b ws)=_;rw[h]
def y7 (w:Nat)(p:List Nat)(k:Nat):Dt:=.t [.s [114,117,108,101],.i w,.t (p.map λc:Nat=>Dt.i (c:Int)),.i k]
structure Ie (ws:List (List Int)) (nr:Nat) (S:RS) (which:Nat) (word:List Int) (start m c d:Nat) (z:Int):Prop where
 w:ws[which]?=some word
 n:which<nr\/start=0
 s:start<S.made/\S.ax start=start
 hz:word[m]?=some z
 f:wk S.by start (word.take m)=some c
 r:wk S.by d (word.drop (m+ 1))=some start
 hc:c<S.made/\S.ax c=c
 hd:d<S.made/\S.ax d=d
 o:S.by c z≠some d
def vd (S:RS)(which:Nat)(word:List Int)(start m d:Nat):RS:={ S with rows:=S.rows++[y7 which ((start::eY S.by start (word.take m))++(d::eY S.by d (word.drop (m+ 1)))) m] }
inductive Tr (ws:List (List Int)) (nr:Nat):RS->RS->Prop where
 |refl (S:RS):Tr ws nr S S
 |step {S S1 S2:RS} {which:Nat} {word:List Int} {start m c d:Nat} {z:Int}:Tr ws nr S S1->Ie ws nr S1 which word start m c d z->r9 (vd S1 which word start m d) [(c,z,d)] S2->Tr ws nr S S2
def Rc (S:RS)(c:Nat)(word:List Int):Prop:=wk S.by c word=some c\/∃(i j f r:Nat) (y z:Int),i<j/\word[i]?=some y/\word[j]?=some z/\wk S.by c (word.take i)=some f/\S.by f y=none/\wk S.by r (word.drop (j+ 1))=some c/\S.by r (-z)=none
structure Rf (rs ps:List (List Int)) (S:RS):Prop where
 r:∀w∈rs,∀c,c<S.made->S.ax c=c->Rc S c w
 p:∀w∈ps,Rc S 0 w
def UW (U:Nat->Int->Nat->Prop):Nat->List Int->Nat->Prop
 |p,[],q=>p=q
 |p,z::w,q=>∃r,U p z r/\UW U r w q
structure VS (ws:List (List Int)) (nr M:Nat) (φ:Nat->Nat) (U:Nat->Int->Nat->Prop):Prop where
 sy:∀p z q,U p z q->U q (-z) p
 fn:∀p z q q',U p z q->U p z q'->q=q'
 cl:∀(which:Nat) (word:List Int) (start m c d:Nat) (z:Int),ws[which]?=some word->which<nr\/start=0->start<M->word[m]?=some z->UW U (φ start) (word.take m) (φ c)->UW U (φ d) (word.drop (m+ 1)) (φ start)->U (φ c) z (φ d)
section
variable {S S':RS} {R:Nat->Int->Nat->Prop} {φ:Nat->Nat} {U:Nat->Int->Nat->Prop} {ks:List Int}
theorem Ct (fn:∀p z q q',U p z q->U p z q'->q=q')(hR:∀a z b,R a z b->U (φ a) z (φ b)){a b:Nat}(h:Cg R a b):φ a=φ b:=by
 induction h with
 |refl=>rfl
 |symm _ ih=>exact ih.symm
 |trans _ _ i1 i2=>exact i1.trans i2
 |step r1 r2 _ ih=>exact fn _ _ _ _ (hR _ _ _ r1) (by rw[ih];exact hR _ _ _ r2)
theorem Ig (g:Good S [] R)(fn:∀p z q q',U p z q->U p z q'->q=q')(hR:∀a z b,R a z b->U (φ a) z (φ b)){c d:Nat}{z:Int}(h:S.by c z=some d):U (φ c) z (φ d):=by
 obtain⟨c',d',r,e1,e2⟩:=g.so _ _ _ h;obtain⟨l1,l2,_⟩:=g.rl _ _ _ r;have h1:=Ct fn hR (g.cg _ l1);have h2:=Ct fn hR (g.cg _ l2);rw[e1]at h1;rw[e2]at h2;rw[←h1,←h2];exact hR _ _ _ r
theorem Cu (h:∀c z d,S.by c z=some d->U (φ c) z (φ d)):∀{w:List Int} {c d:Nat},wk S.by c w=some d->UW U (φ c) w (φ d)
 |[],c,d,e=>by rw[Option.some.inj e];rfl
 |z::w,c,d,e=>by
  obtain⟨f,h1,h2⟩:=Cr e;exact⟨_,h _ _ _ h1,Cu h h2⟩
theorem Tr.sound {ws:List (List Int)}{nr M:Nat}(t:Tr ws nr S S')(md:VS ws nr M φ U)(hw:∀w∈ws,∀z∈w,z∈ks/\-z∈ks):Good S [] R->jf S->S.made<=M->(∀a z b,R a z b->z∈ks)->(∀a z b,R a z b->U (φ a) z (φ b))->
 ∃R',Good S' [] R'/\jf S'/\S'.made=S.made/\S'.L=S.L/\(∀a z b,R a z b->R' a z b)/\(∀a z b,R' a z b->z∈ks)/\∀a z b,R' a z b->U (φ a) z (φ b):=by
 induction t with
 |refl=>exact λg w _ k h=>⟨R,g,w,rfl,rfl,λ_ _ _ r=>r,k,h⟩
 |step _ ra la ih=>
  rename_i S1 S2 which word start m c d z _;intro g wi hM k h;obtain⟨R1,g1,w1,m1,l1,s1,k1,h1⟩:=ih g wi hM k h;have b1:=λc z d=>Ig (c:=c) (d:=d) (z:=z) g1 md.fn h1
  have u:=md.cl which word start m c d z ra.w ra.n (by have:=ra.s.1;omega) ra.hz (Cu b1 ra.f) (Cu b1 ra.r);have hz:=hw word (adY ra.w) z (adY ra.hz)
  have pX:∀a y b,jy R1 c z d a y b->y∈ks:=by
   rintro a y b (r|⟨_,e,_⟩|⟨_,e,_⟩)
   ·exact k1 _ _ _ r
   ·rw[e];exact hz.1
   ·rw[e];exact hz.2
  obtain⟨g2,w2,m2,l2,_⟩:=la.all (g1.lay z ra.hc.1 ra.hd.1 _) pX ⟨w1.a,w1.b,w1.c⟩;refine⟨_,g2,w2,m2.trans m1,l2.trans l1,λa y b r=>.inl (s1 _ _ _ r),pX,?_⟩;rintro a y b (r|⟨rfl,rfl,rfl⟩|⟨rfl,rfl,rfl⟩)
  ·exact h1 _ _ _ r
  ·exact u
  ·exact md.sy _ _ _ u
end
end L2
namespace L2
open PySem PySem.Spec PyProof.Rows
section
variable {X:Cx}
def Om (K:PySem.W.Frag)(ta:TA)(ts:TE):TI:=λ σ H R=>ta σ H λvs H1=>ts σ H1 λz H2=>∃a n,vs=[.ref a]/\z=.int n/\0<=n/\n<1000/\(∃xs,aI K H2 a xs)/\R (uZ K a n) H2
def Rg (Q:V->Hp->Prop):List V->Hp->Prop
 |[z],H=>Q z H
 |_,_=>False
theorem Oo {Q:V->Hp->Prop}:∀{zs:List V} {H:Hp},Rg Q zs H->∃z,zs=[z]/\Q z H
 |[z],_,h=>⟨z,rfl,h⟩
 |[],_,h=>h.elim
 |_::_::_,_,h=>h.elim
theorem Ih {a b:Expr}{te tb:TE}{elts:List Expr}{x1:Nat}{tp p pos kp:Pos}(hg:Gl X "enumerate")(hm:X.mg "enumerate"=none)(he:PE X a te)(hb:PE X b tb)
 (hs:starEach [a] X.env=(false,eval a X.env)::starEach [] X.env:=by rfl)
 (dU:((backTo pos (starEach [a] X.env)).any (·.1) || (backToKw pos (keywordEach [⟨some "start",b,kp⟩] X.env)).any (·.1.isNone))=false:=by rfl):
 PI X (.Tuple elts x1 tp) (.Call (.Name "enumerate" p) [a] [⟨some "start",b,kp⟩] pos) (Om X.K (AG te A8) tb):=by
 intro pins s σ H R I h;refine afX (ky I hg hm boot_enumerate ?_);refine PySem.W.callWith_of (P:=λ_=>True) dU (λ_ _=>⟨.machine,.inr (.inl rfl),λ_ _ _ _ _ q=>ad8 q⟩) (evalArgs_kw2 rfl (bh ((ae he ah hs) pos pins s σ H _ I h) λus s1 ⟨vs,H1,I1,r,q⟩=>?_) hs);refine bh ((Nz hb Py:PK X [⟨some "start",b,kp⟩] _) pos pins s1 σ H1 (Rg λz H2=>∃a n,vs=[.ref a]/\z=.int n/\0<=n/\n<1000/\(∃xs,aI X.K H2 a xs)/\R (uZ X.K a n) H2) I1 q) λws s2 ⟨zs,H2,I2,rz,qz⟩=>⟨True.intro,?_⟩
 obtain⟨z,rfl,l,n,e2,rfl,VW,xx,hq,qf⟩:=Oo qz;subst e2;obtain⟨xs,hq⟩:=hq;obtain⟨u,rfl,ru⟩:=vals1 r;cases ru;obtain⟨u2,rfl,t2,rfl⟩:=vals1 rz;obtain⟨its,rv,pl,hz⟩:=I2.list hq;show wpAny _ _ (call (.type "enumerate") [.ref l] [("start",.int n t2)]) _ _ s2;refine En.DT pl.isList VW xx λh' dw hit hk=>?_
 have I3:Inv X pins σ H2 { s2 with heap:=h' }:=I2.kept (t':=s2.toks) hk;have dF:(∃old,IsEnum h' (s2.heap.objs.size+ 1) s2.heap.objs.size (n+ ((0:Nat):Int)) old)/\h'.IsListIter s2.heap.objs.size l 0:=⟨⟨_,by rw[show n+ ((0:Nat):Int)=n by omega];exact dw⟩,hit⟩;have T:=DU (P:=X.prog) (w:=X.w) (K:=X.K) (elts:=elts) (x1:=x1) (tp:=tp) (s2.heap.objs.size+ 1) s2.heap.objs.size l n (Nat.succ_ne_self _);refine T.self _ 0 { s2 with heap:=h' } _ _ dF ⟨_,_,_,_,H2,rfl,I3,T,dF,λb hb=>?_,qf⟩;rcases aea.mp hb with e|hb
 ·subst e;exact I2.tM (agh _) (I2.aO.fresh (agh _))
 ·rw[ad1.mp hb];exact I2.tM (ad7 _) (I2.aO.fresh (ad7 _))
end
section
variable {prog:Program} {w:World} {K:Type} [DecidableEq K] {knd:HeapKind prog w K} {A:Around} {E:Value->Shared->Prop} {s:Shared} {d a:Addr} {k:K} {xs:List (K×Addr×Value)}
theorem DW {dflt:Value}{Q:Value->Shared->Prop}(hu:knd.room A)(rV:knd.is s.heap k a)(hm:s.heap.DictOfH knd d xs)
 (h1:∀v,(atKey xs k).map (·.2)=some v->Q v { s with toks:=s.toks+ knd.draws k })
 (h2:atKey xs k=none->∀h',h'.DictOfH knd d (storedH xs k a dflt)->Heap.SameBut d s.heap h'->Q dflt { s with heap:=h',toks:=s.toks+ knd.draws k })
 (hsz:xs.length<=sizeLine):wpAny (model prog w) A (dictSetDefault d (.ref a) dflt) Q E s:=by
 obtain⟨ob,en,ec,g1,g2,g3,g4,g5,g6⟩:=hm;unfold dictSetDefault
 first|(with_reducible refine afC ?_)|skip
 refine adW (knd.pyHash hu rV (adW (wpAny_dictFind_heap (s:={ s with toks:=s.toks+ knd.draws k }) hu rV g1 g3 g4 g5 g6 (λno=>?_) (λj p hj=>?_))))
 ·have nk:k∉xs.map (·.1):=not_mem_keys_of_get no;have na:=atKey_none_of_get no;refine adW (wpAny_rule (adW (wpAny_updateDictKeys (hz:=by have e:=size_of_entries g4;omega) (s:={ s with toks:=s.toks+ knd.draws k }) g1 g3 (ad8 (h2 na _ ?_ (afo ..))))));refine⟨_,_,ec+ 1,afp _ g1 (Obj.isFreed_of_dict (Obj.data_mapDictKeys g3 _)),g2.mapDictKeys _,Obj.data_mapDictKeys g3 _,?_,?_,?_⟩
  ·rw[storedH_new na];simp[g4,entryOfKey]
  ·rw[storedH_new na];intro y hy;rcases aei.mp hy with q|q
   ·exact knd.keeps (g5 y q) g1 g3 (afo ..)
   ·rw[ad1.mp q];exact knd.keeps rV g1 g3 (afo ..)
  ·rw[storedH_new na,aeu,aeX];exact⟨g6,by simp,λy hy z hz e=>nk (by have hz':z=k:=ad1.mp hz;rw[←hz',←e];exact hy)⟩
 ·have ha:=atKey_of_get g6 hj;refine adW (afP (s:={ s with toks:=s.toks+ knd.draws k }) g1 g3 ?_)
  have he:en[j]?=some (entryOfKey knd (k,p)):=by
   rw[entry_at g4 j,hj];rfl
  rw[he];exact adW (wpAny_rule (ad8 (h1 _ (by rw[ha];rfl))))
theorem Ar (knd:HeapKind prog w K)(d a:Addr)(hd:(d==sysModules)=false)(dflt:Value):MeetsIn prog w (Builtin.«dict.setdefault» ⟨[.ref d,.ref a,dflt],[]⟩) (λA R s=>knd.room A.in1/\∃k xs,knd.is s.heap k a/\s.heap.DictOfH knd d xs/\xs.length<=sizeLine/\
 (∀v,(atKey xs k).map (·.2)=some v->R (.ok (.ret v)) { s with toks:=s.toks+ knd.draws k })/\(atKey xs k=none->∀h',h'.DictOfH knd d (storedH xs k a dflt)->Heap.SameBut d s.heap h'->R (.ok (.ret dflt)) { s with heap:=h',toks:=s.toks+ knd.draws k })):=
 .of_wp λA R s ⟨hu,k,xs,rV,hm,hz,h1,h2⟩=>by
  unfold Builtin.«dict.setdefault» Builtin.Dict.keyAndDefault;refine adW (adW (agw hm.typeIs ?_));show wpAny _ _ (pure (d,Value.ref a,some dflt)) _ _ s;refine ad8 ?_;show wpAny _ _ (if (d==sysModules)=true then _ else (dictSetDefault d (.ref a) dflt >>=_)) _ _ s;rw[hd];exact adW (DW hu rV hm (λv hv=>ad8 ⟨v,rfl,h1 v hv⟩) (λhn h' m' s'=>ad8 ⟨dflt,rfl,h2 hn h' m' s'⟩) hz)
end
def Rh (td ty tx:TE):TE:=λ σ H Q=>td σ H λx H1=>∃a,x=.ref a/\vC H1 a/\ty σ H1 λy H2=>tx σ H2 λz H3=>∃(kvs:List (List Key×V)) (k:List Key) (b:Addr),H3 a=some (.dT kvs)/\y=.ref b/\H3 b=some (.tup (k.map kV))/\kvs.length<sizeLine/\
 (∀v,bD kvs k=some v->Q v H3)/\(bD kvs k=none->Q z (upd H3 a (.dT (putK kvs k z))))
section
variable {X:Cx} {o e f:Expr} {apos cN:Pos} {td ty tx:TE}
theorem Ko (hu:X.A.units+ 1<cLine)(ho:PE X o td)(he:PE X e ty)(hf:PE X f tx)(m:M2 X o "setdefault" apos e f cN):PE X (.Call (.Attribute o "setdefault" apos) [e,f] [] cN) (Rh td ty tx):=by
 intro pins s σ H Q I h;refine af8 m.base m.few m.line aff afO PySem.F.type_dict_setdefault (bh (ho pins s σ H _ I h) λu s1 ⟨x,H1,I1,rx,a,ex,d,q1⟩=>?_);subst ex;obtain rfl:u=Value.ref a:=rx;obtain⟨t1,t2,_⟩:=oK I1 d;refine⟨t1,t2,?_⟩;rw[m.trees]
 refine ae1 rfl (aft (aeZ (bh (he pins s1 σ H1 _ I1 q1) λiv s2 ⟨y,H2,I2,ry,q2⟩=>
  aeZ (bh (hf pins s2 σ H2 _ I2 q2) λfv s3 ⟨z,H3,I3,rz,kvs,k,b,ea,ey,eb,bG,q3,q4⟩=>afy ?_))))
 subst ey;cases (show iv=Value.ref b from ry);obtain⟨hz,hd,xs,rel,dd⟩:=LN I3.aO ea;have iT:=rel.val k;have HX:xs.length<=sizeLine:=by rw[←Paired.length rel];exact hz
 refine agf afO dd.typeIs PySem.F.entry_dict_setdefault (PySem.F.args_dict_setdefault_3 _ _ _) (Ar _ a b hd fv) ⟨agp hu,k,xs,qX I3.aO eb,dd,HX,λv hv=>?_,λhn g1 sQ sb=>?_⟩
 ·rw[hv]at iT
  cases l:bD kvs k with
  |none=>rw[l]at iT;exact iT.elim
  |some y0=>
   rw[l]at iT;exact⟨y0,H3,I3.tok _,iT,q3 y0 l⟩
 ·rw[hn]at iT
  cases l:bD kvs k with
  |some y0=>rw[l]at iT;exact iT.elim
  |none=>
   have hl:(putK kvs k z).length<=sizeLine:=by have:=jD kvs k z;omega
   obtain⟨q,es,ep,hq,h2,h3,h4,_,h5⟩:=sQ;refine⟨z,upd H3 a (.dT (putK kvs k z)),oi I3 (by rw[ea];exact True.intro) sb ⟨q,hq⟩ ⟨hl,hd,_,(rel.put k eb rz).keeps λc ys ec=>?_,q,es,ep,hq,h2,h3,h4,h5⟩,rz,q4 l⟩;rw[ao (cF ec ea (λz=>nomatch z))];exact ec
end
end L2
namespace L2
open PySem PySem.Spec PyProof.Rows
section
variable {H:Hp} {k:Addr} {D:Int->Option Addr} {E:Int->Int->Option Addr} {S:bQ}
theorem ez.Kp (h:ez H k D E S){c s:Int}{d:Addr}(hd:D c=some d){kvs:List (Key×V)}(hk:H d=some (.dK kvs)):
 ez (upd H d (.dK (eT kvs (Sum.inl s)))) k D (λc' s'=>if c'=c/\s'=s then none else E c' s') (iB S c s):=by
 obtain⟨wC,q1,q2,q3,q4⟩:=h.row c d hd;rw[hk]at q1;obtain rfl:kvs=wC:=by injection q1 with q1;injection q1
 have un:∀{c' s':Int} {z:Addr},(if c'=c/\s'=s then none else E c' s')=some z->¬(c'=c/\s'=s)/\E c' s'=some z:=λ{c' s' z} q=>by
  by_cases e:c'=c/\s'=s
  ·rw[ael e]at q;cases q
  ·rw[aed e]at q;exact⟨e,q⟩
 refine⟨h.top.at λo q=>?_,λc' d' eZ=>?_,λc' s' e' dw=>?_,λc' s' e' dw=>h.ed _ _ _ (un dw).2,λc' s' o ho=>?_,h.nd,λc' s' e' dw=>h.ne _ _ _ (un dw).2,h.dd,λc' c2 s' d' eZ dw=>h.de _ _ _ _ eZ (un dw).2,λc' s' c2 s2 e' h1 h2=>h.ee _ _ _ _ _ (un h1).2 (un h2).2⟩
 ·rw[ao (h.nd c d hd).symm];exact q
 ·by_cases ec:c'=c
  ·subst ec;obtain rfl:d'=d:=by rw[hd]at eZ;exact(Option.some.inj eZ).symm
   refine(Oe q2 q3 q4 s).congr λs'=>?_
   by_cases es:s'=s
   ·rw[ael es,ael ⟨rfl,es⟩];rfl
   ·rw[aed es,aed (λz=>es z.2)]
  ·refine((h.row c' d' eZ).at λo q=>by rw[ao λz=>ec (h.dd _ _ _ eZ (by rw[z];exact hd))];exact q).congr λs'=>?_
   rw[aed (λz=>ec z.1)]
 ·obtain⟨ne,he⟩:=un dw;refine((h.zS c' s' e' he).at λo q=>by rw[ao (λz=>h.de c c' s' d hd (by rw[←z];exact he))];exact q).congr λo=>?_
  have:iB S c s c' s' o=S c' s' o:=by
   rw[aeY,dO];exact⟨λz=>z.1,λz=>⟨z,ne⟩⟩
  rw[this]
 ·obtain⟨a,b⟩:=dO.mp ho;obtain⟨e,he⟩:=h.se _ _ _ a;exact⟨e,by rw[aed b];exact he⟩
end
structure Ri (k:Addr) (D:Int->Option Addr) (E:Int->Int->Option Addr) (W:bQ) (O:Addr->Prop):Prop where
 o:∀b,wB k D E b->O b
 d:∀c x,D c=some x->0<=c/\c<100000
 e:∀c s x,E c s=some x-> -1000<=s/\s<=1000
 w:∀c s n,W c s n=true->0<=n/\n<100000
def rq (H:Hp)(k:Addr)(W:bQ)(O:Addr->Prop):Prop:=∃D E,ez H k D E W/\Ri k D E W O
def fN (H:Hp)(k:Addr)(W:bQ)(O:Addr->Prop)(c:Int)(d:Addr):Prop:=∃D E,ez H k D E W/\Ri k D E W O/\D c=some d
def sg (H:Hp)(k:Addr)(W:bQ)(O:Addr->Prop)(c s:Int)(e:Addr):Prop:=∃D E,ez H k D E W/\Ri k D E W O/\E c s=some e
def Ii (O:Addr->Prop)(p:Addr):Addr->Prop:=λb=>O b\/b=p
section
variable {H H':Hp} {k:Addr} {W:bQ} {O:Addr->Prop} {c s:Int} {d e p:Addr}
theorem rq.keep (h:rq H k W O)(f:∀b o,O b->H b=some o->H' b=some o):rq H' k W O:=by
 obtain⟨D,E,h1,h2⟩:=h;exact⟨D,E,h1.keep λb o hb q=>f b o (h2.o b hb) q,h2⟩
theorem rq.vH (h:rq H k W O):vC H k:=by
 obtain⟨D,E,h1,_⟩:=h;obtain⟨kv,q,_⟩:=h1.top;exact .inl ⟨kv,.inl q⟩
theorem rq.room (h:rq H k W O)(np:H p=none)(hc:0<=c/\c<100000):∃kvs,upd H p (.dK []) k=some (.dK kvs)/\kvs.length<sizeLine/\(∀v,bD kvs (Sum.inl c)=some v->∃d,v=.ref d/\fN (upd H p (.dK [])) k W O c d)/\
 (bD kvs (Sum.inl c)=none->fN (upd (upd H p (.dK [])) k (.dK (putK kvs (Sum.inl c) (.ref p)))) k W (Ii O p) c p):=by
 obtain⟨D,E,h1,h2⟩:=h;have s1:=au.upd (o:=.dK []) np;have k1:=h1.same s1;obtain⟨kvs,q1,q2,q3,q4⟩:=k1.Q0;have nw:¬wB k D E p:=λz=>by obtain⟨kv,q⟩:=h1.there z;rw[np]at q;cases q
 refine⟨kvs,q1,?_,λv hv=>?_,λhv=>?_⟩
 ·refine aec (xY (n:=100000) (lo:=0) q2 q3 q4 λi v hv=>?_) (by decide)
  cases e:D i with
  |none=>rw[e]at hv;cases hv
  |some x=>have:=h2.d i x e;omega
 ·rw[q4]at hv;obtain⟨d,hd,rfl⟩:=afw.mp hv;exact⟨d,rfl,D,E,k1,h2,hd⟩
 ·rw[q4]at hv;have hd:D c=none:=agY.mp hv;refine⟨_,E,k1.Oh hd q1 aj nw,⟨λb hb=>?_,λc' x q=>?_,h2.e,h2.w⟩,ael rfl⟩
  ·rcases hb with z|⟨c',z⟩|z
   ·exact .inl (h2.o b (.inl z))
   ·dsimp only at z;by_cases e:c'=c
    ·rw[ael e]at z;exact .inr (Option.some.inj z).symm
    ·rw[aed e]at z;exact .inl (h2.o b (.inr (.inl ⟨c',z⟩)))
   ·exact .inl (h2.o b (.inr (.inr z)))
  ·by_cases e:c'=c
   ·rw[e];exact hc
   ·rw[aed e]at q;exact h2.d c' x q
theorem fN.vH (h:fN H k W O c d):vC H d:=by
 obtain⟨D,E,h1,h2,h3⟩:=h;obtain⟨kv,q,_⟩:=h1.row c d h3;exact .inl ⟨kv,.inl q⟩
theorem fN.own (h:fN H k W O c d):O d:=by
 obtain⟨D,E,h1,h2,h3⟩:=h;exact h2.o d (.inr (.inl ⟨c,h3⟩))
theorem fN.same (h:fN H k W O c d)(s:au H H'):fN H' k W O c d:=by
 obtain⟨D,E,h1,h2,h3⟩:=h;exact⟨D,E,h1.same s,h2,h3⟩
theorem fN.cell (h:fN H k W O c d)(np:H p=none)(hs: -1000<=s/\s<=1000):∃kvs,upd H p (.dK []) d=some (.dK kvs)/\kvs.length<sizeLine/\(∀v,bD kvs (Sum.inl s)=some v->∃e,v=.ref e/\sg (upd H p (.dK [])) k W O c s e)/\
 (bD kvs (Sum.inl s)=none->sg (upd (upd H p (.dK [])) d (.dK (putK kvs (Sum.inl s) (.ref p)))) k W (Ii O p) c s p):=by
 obtain⟨D,E,h1,h2,hd⟩:=h;have s1:=au.upd (o:=.dK []) np;have k1:=h1.same s1;obtain⟨kvs,q1,q2,q3,q4⟩:=k1.Kn hd;have nw:¬wB k D E p:=λz=>by obtain⟨kv,q⟩:=h1.there z;rw[np]at q;cases q
 refine⟨kvs,q1,?_,λv hv=>?_,λhv=>?_⟩
 ·refine aec (xY (n:=2001) (lo:=-1000) q2 q3 q4 λi v hv=>?_) (by decide)
  cases e:E c i with
  |none=>rw[e]at hv;cases hv
  |some x=>have:=h2.e c i x e;omega
 ·rw[q4]at hv;obtain⟨e,he,rfl⟩:=afw.mp hv;exact⟨e,rfl,D,E,k1,h2,he⟩
 ·rw[q4]at hv;have he:E c s=none:=agY.mp hv;refine⟨D,_,k1.Og hd he q1 aj nw,⟨λb hb=>?_,h2.d,λc' s' x q=>?_,h2.w⟩,ael ⟨rfl,rfl⟩⟩
  ·rcases hb with z|z|⟨c',s',z⟩
   ·exact .inl (h2.o b (.inl z))
   ·exact .inl (h2.o b (.inr (.inl z)))
   ·dsimp only at z;by_cases e:c'=c/\s'=s
    ·rw[ael e]at z;exact .inr (Option.some.inj z).symm
    ·rw[aed e]at z;exact .inl (h2.o b (.inr (.inr ⟨c',s',z⟩)))
  ·by_cases e:c'=c/\s'=s
   ·rw[e.2];exact hs
   ·rw[aed e]at q;exact h2.e c' s' x q
theorem sg.own (h:sg H k W O c s e):O e:=by
 obtain⟨D,E,h1,h2,h3⟩:=h;exact h2.o e (.inr (.inr ⟨c,s,h3⟩))
theorem sg.put (h:sg H k W O c s e){n:Int}(hn:0<=n/\n<100000):∃kvs,H e=some (.dK kvs)/\kvs.length<sizeLine/\rq (upd H e (.dK (putK kvs (Sum.inl n) (.bl true)))) k (addW W c s n) O:=by
 obtain⟨D,E,h1,h2,he⟩:=h;obtain⟨kvs,q1,q2,q3,q4⟩:=h1.Q5 he;refine⟨kvs,q1,?_,D,E,h1.Q6 he q1 n,h2.o,h2.d,h2.e,λc' s' n' q=>?_⟩
 ·refine aec (xY (n:=100000) (lo:=0) q2 q3 q4 λi v hv=>?_) (by decide);by_cases w:W c s i=true
  ·have:=h2.w _ _ _ w;omega
  ·rw[aed w]at hv;cases hv
 ·rcases dN.mp q with q|⟨_,_,q⟩
  ·exact h2.w _ _ _ q
  ·rw[q];exact hn
theorem rq.get (h:rq H k W O):∃o,jw H k (.int c) o/\((o=none/\∀s n,W c s n=false)\/∃d,o=some (.ref d)/\fN H k W O c d):=by
 obtain⟨D,E,h1,h2⟩:=h;obtain⟨kvs,q1,q2,q3,q4⟩:=h1.Q0;have g:=jw.k (k:=Sum.inl c) q1;rw[q4]at g;refine⟨_,g,?_⟩
 cases e:D c with
 |none=>
  refine .inl ⟨rfl,λs n=>?_⟩
  cases w:W c s n with
  |false=>rfl
  |true=>
   obtain⟨x,hx⟩:=h1.se _ _ _ w;obtain⟨y,hy⟩:=h1.ed _ _ _ hx;rw[e]at hy;cases hy
 |some d=>exact .inr ⟨d,rfl,D,E,h1,h2,e⟩
theorem Cv:∀{kvs:List (Key×V)},(kvs.map (·.1)).Nodup->(∀kv∈kvs,∃n:Nat,kv.1=Sum.inl (n:Int))->∃ns:List Nat,kvs.map (λkv=>kV kv.1)=ak (nI ns)/\ns.Nodup/\∀n:Nat,n∈ns↔Sum.inl (n:Int)∈kvs.map (·.1)
 |[],_,_=>⟨[],rfl,afE,λn=>⟨(λz=>by cases z),(λz=>by cases z)⟩⟩
 |kv::r,hn,h=>by
  rw[aeN,aeJ]at hn;obtain⟨ns,e1,e2,e3⟩:=Cv hn.2 λx hx=>h x (aek _ hx)
  obtain⟨m,hm⟩:=h kv (aeb ..);refine⟨m::ns,?_,aeJ.mpr ⟨λz=>hn.1 (by rw[hm];exact(e3 m).mp z),e2⟩,λn=>?_⟩
  ·rw[aeN,e1,hm];rfl
  ·rw[aea,e3 n,aeN,aea,hm];refine or_congr ⟨λz=>by rw[z],λz=>by have:=Sum.inl.inj z;omega⟩ Iff.rfl
theorem EV {kvs:List (Key×V)}{i:Int}{v:V}(h:bD kvs (Sum.inl i)=some v):Sum.inl i∈kvs.map (·.1):=aeL.mpr ⟨_,Km h,rfl⟩
theorem fN.pop (h:fN H k W O c d)(s:Int):∃kvs,H d=some (.dK kvs)/\(bD kvs (Sum.inl s)=none->∀n,W c s n=false)/\
 ∀v,bD kvs (Sum.inl s)=some v->∃(e:Addr) (sV:List (Key×V)) (ns:List Nat),v=.ref e/\e≠d/\H e=some (.dK sV)/\sV.map (λkv=>kV kv.1)=ak (nI ns)/\ns.Nodup/\(∀n:Nat,n∈ns↔W c s n=true)/\rq (upd H d (.dK (eT kvs (Sum.inl s)))) k (iB W c s) O:=by
 obtain⟨D,E,h1,h2,hd⟩:=h;obtain⟨kvs,q1,q2,q3,q4⟩:=h1.Kn hd;refine⟨kvs,q1,λhv n=>?_,λv hv=>?_⟩
 ·rw[q4]at hv
  cases w:W c s n with
  |false=>rfl
  |true=>
   obtain⟨x,hx⟩:=h1.se _ _ _ w;rw[hx]at hv;cases hv
 ·rw[q4]at hv;obtain⟨e,he,rfl⟩:=afw.mp hv;obtain⟨sV,p1,p2,p3,p4⟩:=h1.Q5 he
  have VX:∀i:Int,Sum.inl i∈sV.map (·.1)↔W c s i=true:=λi=>by
   constructor
   ·intro z;obtain⟨kv,gB,e⟩:=aeL.mp z;have:=Cp p2 gB;rw[e,p4]at this;by_cases w:W c s i=true
    ·exact w
    ·rw[aed w]at this;cases this
   ·intro w;exact EV (v:=.bl true) (by rw[p4,ael w])
  obtain⟨ns,e1,e2,e3⟩:=Cv p2 λkv gB=>by
   obtain⟨i,hi⟩:=p3 kv gB;have:=h2.w _ _ _ ((VX i).mp (by rw[←hi];exact afA gB));exact⟨i.toNat,by rw[hi];congr 1;omega⟩
  refine⟨e,sV,ns,rfl,λz=>h1.de _ _ _ _ hd (by rw[←z];exact he),p1,e1,e2,λn=>(e3 n).trans (VX n),_,_,h1.Kp hd q1,⟨λb hb=>h2.o b ?_,h2.d,λc' s' x q=>?_,λc' s' n q=>h2.w _ _ _ (dO.mp q).1⟩⟩
  ·rcases hb with z|z|⟨c',s',z⟩
   ·exact .inl z
   ·exact .inr (.inl z)
   ·dsimp only at z;by_cases e:c'=c/\s'=s
    ·rw[ael e]at z;cases z
    ·rw[aed e]at z;exact .inr (.inr ⟨c',s',z⟩)
  ·by_cases e:c'=c/\s'=s
   ·rw[ael e]at q;cases q
   ·rw[aed e]at q;exact h2.e _ _ _ q
theorem Ij {P:Nat->Bool}{G:Nat}:∀{ns:List Nat},ns.Nodup->(∀n∈ns,n<G/\P n=true)->ns.length<=(List.range G).countP P:=by
 intro ns
 induction ns generalizing P with
 |nil=>exact λ_ _=>aeA _
 |cons m r ih=>
  intro hn h;rw[aeJ]at hn;obtain⟨hm,hp⟩:=h m (aeb ..);have:=nS (p:=P) (p':=λa=>P a && decide (a≠m)) (v:=m) (λa=>rfl) hp G;rw[ael hm]at this
  have:=ih (P:=λa=>P a && decide (a≠m)) hn.2 λn hr=>⟨(h n (aek _ hr)).1,by
   rw[(h n (aek _ hr)).2,aey (show n≠m from λz=>hn.1 (by rw[←z];exact hr))];rfl⟩
  rw[aes];omega
theorem y8 {W:bQ}{c s:Int}(h:∀n,W c s n=false):iB W c s=W:=by
 funext c' s' n
 rw[aeY,dO];refine⟨λz=>z.1,λz=>⟨z,λq=>?_⟩⟩;rw[q.1,q.2,h]at z;cases z
end
end L2
namespace L2
section
variable {S:RS} {R:Nat->Int->Nat->Prop}
end
end L2
namespace M11
def flip (k:Nat):Nat:=if k % 2=0 then k+ 1 else k - 1
def nx (T:List (List Int))(k i:Nat):Nat:=((T.getD i []).getD k 0).toNat
structure Tab (L:Nat) (T:List (List Int)):Prop where
 pos:1<=T.length
 top:T.length<=300
 let1:1<=L
 adj:L<=40
 row:∀(i:Nat) (r:List Int),T[i]?=some r->r.length=2* L
 val:∀i k,i<T.length->k<2* L->∃r:List Int,T[i]?=some r/\r[k]?=some ((nx T k i:Nat):Int)
 lt:∀i k,i<T.length->k<2* L->nx T k i<T.length
 back:∀i k,i<T.length->k<2* L->nx T (flip k) (nx T k i)=i
def pl (s:Int):Nat:=if 0<s then 2* s.natAbs - 2 else 2* s.natAbs - 1
def walk (T:List (List Int))(w:List Int)(i:Nat):Nat:=w.foldl (λi s=>nx T (pl s) i) i
def fO (L:Nat)(w:List Int):Prop:=∀s∈w,s≠0/\s.natAbs<=L
def back (w:List Int):List Int:=w.reverse.map λz=>-z
structure Pm (p:Nat) (r:List Int):Prop where
 len:r.length=p
 nd:r.Nodup
 rg:∀z∈r,0<=z/\z<(p:Int)
theorem Pm.at {p:Nat}{r:List Int}(h:Pm p r){i:Nat}(hi:i<p):∃j:Nat,r[i]?=some (j:Int)/\j<p:=by
 have hl:i<r.length:=by rw[h.len];exact hi
 have:=h.rg r[i] (List.getElem_mem hl);exact⟨r[i].toNat,by rw[adX hl,show ((r[i].toNat:Nat):Int)=r[i] by omega],by omega⟩
def ac3 (L:Nat)(f:Nat->Int->Int)(come:List Int)(x:Int)(r:List Int)(m:Nat):Prop:=r.length=m/\∀k,k<m->∃j:Nat,r[k]?=some (j:Int)/\come[j]?=some (f k x)
theorem ur:∀(n:Nat) (l:List Nat),l.Nodup->(∀x∈l,x<n)->l.length<=n
 |0,[],_,_=>ad7 _
 |0,a::l,_,h=>absurd (h a (aeb ..)) (by omega)
 |n+ 1,l,hn,h=>by
  by_cases hm:n∈l
  ·have:=ur n (l.erase n) (hn.erase n) (λx hx=>by
    have h1:=(hn.mem_erase_iff).mp hx;have h2:=h x h1.2;have h3:=h1.1;omega)
   rw[agd hm]at this;omega
  ·have:=ur n l hn (λx hx=>by
    have h2:=h x hx;have h3:x≠n:=λz=>hm (by rw[←z];exact hx)
    omega)
   omega
theorem yb {n:Nat}{l:List Int}(hn:l.Nodup)(h:∀x∈l,0<=x/\x<(n:Int)):l.length<=n:=by
 have h1:(l.map Int.toNat).Nodup:=by
  refine afQ.mpr (agQ ?_ hn);intro a b ha hb kI z;have:=h a ha;have:=h b hb;exact kI (by omega)
 have:=ur n (l.map Int.toNat) h1 (λx hx=>by
  obtain⟨y,hy,rfl⟩:=aeL.mp hx;have:=h y hy;omega)
 rw[ad6]at this;exact this
theorem Pm.Rj {p:Nat}{r:List Int}(h:Pm p r){x:Nat}(hx:x<p):∃i:Nat,r[i]?=some (x:Int)/\i<p:=by
 have hm:(x:Int)∈r:=by
  refine agF λhm=>?_
  have:=yb (n:=p) (l:=(x:Int)::r) (aeJ.mpr ⟨hm,h.nd⟩) (λy hy=>by
   rcases aea.mp hy with e|hy
   ·rw[e];omega
   ·exact h.rg y hy)
  rw[aes,h.len]at this;omega
 obtain⟨i,hi,e⟩:=af4.mp hm;exact⟨i,by rw[adX hi,e],by rw[←h.len];exact hi⟩
def ac4 (p:Nat)(r t:List Int):Prop:=t.length=p/\∀k j:Nat,r[k]?=some (j:Int)->t[j]?=some (k:Int)
def ac5 (p:Nat)(r t:List Int)(n:Nat):Prop:=t.length=p/\∀k j:Nat,k<n->r[k]?=some (j:Int)->t[j]?=some (k:Int)
end M11
namespace M12
open M11
def Fc (W:Nat)(E:List Int)(N:Nat):Prop:=(∀z∈E,0<=z/\z<(N:Int))/\∀j:Nat,0<j->j<N->∃p:Nat,p<j* W/\E[p]?=some (j:Int)/\∀(q:Nat) (z:Int),q<p->E[q]?=some z->z<(j:Int)
def st (k:Nat):Int:=if k % 2=0 then ((k / 2+ 1:Nat):Int) else -((k / 2+ 1:Nat):Int)
theorem L7 (k:Nat):pl (st k)=k:=by
 unfold pl st;by_cases h:k % 2=0
 ·rw[ael h,ael (by omega)];omega
 ·rw[aed h,aed (by omega)];omega
theorem U0 {k L:Nat}(h:k<2* L):st k≠0/\(st k).natAbs<=L:=by
 unfold st;split <;> omega
def Rk:List Nat->List Nat->Prop
 |a::u,b::v=>a<b\/(a=b/\Rk u v)
 |_,_=>False
def aaN (u v:List Nat):Prop:=u.length<v.length\/(u.length=v.length/\Rk u v)
def Lw (L:Nat)(T:List (List Int))(ws:List (List Nat)):Prop:=ws.length=T.length/\ws[0]?=some []/\
 ∀(j p:Nat),0<j->j<T.length->T.flatten[p]?=some (j:Int)->(∀(q:Nat) (z:Int),q<p->T.flatten[q]?=some z->z<(j:Int))->∃u,ws[p / (2* L)]?=some u/\ws[j]?=some (u++[p % (2* L)])
section
variable {L:Nat} {T:List (List Int)} {ws:List (List Nat)} (hT:Tab L T) (hF:Fc (2* L) T.flatten T.length) (hw:Lw L T ws)
include hT hF hw
end
end M12
namespace M17
def it (f:Nat->Nat):Nat->Nat->Nat
 |0,x=>x
 |n+ 1,x=>f (it f n x)
theorem yc (f:Nat->Nat)(m:Nat):∀(n x:Nat),it f (m+ n) x=it f n (it f m x)
 |0,x=>rfl
 |n+ 1,x=>afh f (yc f m n x)
theorem ve {f:Nat->Nat}{p:Nat}(h:∀x,x<p->f x<p):∀(n x:Nat),x<p->it f n x<p
 |0,x,hx=>hx
 |n+ 1,x,hx=>h _ (ve h n x hx)
theorem Ik {f:Nat->Nat}{p:Nat}(h:∀x,x<p->f x<p)(hi:∀x y,x<p->y<p->f x=f y->x=y):∀(n x y:Nat),x<p->y<p->it f n x=it f n y->x=y
 |0,x,y,_,_,e=>e
 |n+ 1,x,y,hx,hy,e=>Ik h hi n x y hx hy (hi _ _ (ve h n x hx) (ve h n y hy) e)
theorem oV {f:Nat->Nat}{c x:Nat}(h:it f c x=x):∀k,it f (c* k) x=x
 |0=>rfl
 |k+ 1=>by
  rw[Nat.mul_succ,yc,oV h k,h]
theorem ring {f:Nat->Nat}{p x:Nat}(h:∀x,x<p->f x<p)(hi:∀x y,x<p->y<p->f x=f y->x=y)(hx:x<p):∃c,1<=c/\c<=p/\it f c x=x:=by
 refine agF λhn=>?_
 have ne:∀i j,i<j->j<=p->it f i x≠it f j x:=λi j hij hj e=>by
  refine hn ⟨j - i,by omega,by omega,?_⟩;have e2:it f j x=it f i (it f (j - i) x):=by rw[←yc,show j - i+ i=j by omega]
  rw[e2]at e;exact(Ik h hi i x _ hx (ve h _ x hx) e).symm
 have nd:((List.range (p+ 1)).map λi=>((it f i x:Nat):Int)).Nodup:=by
  rw[List.nodup_iff_pairwise_ne,afQ];refine agQ (R:=λa b=>a<b) (λha hb kI e=>?_) List.pairwise_lt_range;have:=aeQ.mp hb;exact ne _ _ kI (by omega) (by omega)
 have:=M11.yb (n:=p) nd λz hz=>by
  obtain⟨i,_,rfl⟩:=aeL.mp hz;have:=ve h i x hx;omega
 rw[ad6,aeR]at this;omega
theorem U1 {f:Nat->Nat}{p:Nat}(hp:p<=6)(h:∀x,x<p->f x<p)(hi:∀x y,x<p->y<p->f x=f y->x=y)(x:Nat)(hx:x<p):it f 60 x=x:=by
 obtain⟨c,c1,c2,e⟩:=ring h hi hx;have hc:c=1\/c=2\/c=3\/c=4\/c=5\/c=6:=by omega
 rcases hc with rfl|rfl|rfl|rfl|rfl|rfl
 ·exact oV e 60
 ·exact oV e 30
 ·exact oV e 20
 ·exact oV e 15
 ·exact oV e 12
 ·exact oV e 10
end M17
namespace K22
open PySem L2
def top (i:Nat):Stmt:=PySem.Challenge.pw_cosetyard_k22_nothing_false_follows.main.body.getD i (.Pass ⟨0,0,0,0⟩)
abbrev y9:Stmt:=top 2
abbrev wD:Stmt:=top 3
abbrev lV:Stmt:=top 4
abbrev si:Stmt:=top 8
abbrev sj:Stmt:=top 11
abbrev Gi:Stmt:=top 12
abbrev lW:Stmt:=top 14
abbrev oW:Stmt:=top 15
abbrev qk:Stmt:=top 16
abbrev lX:Stmt:=top 17
abbrev oX:Stmt:=top 18
abbrev m7:Stmt:=top 19
abbrev oY:Stmt:=top 20
abbrev qm:Stmt:=top 21
abbrev oZ:Stmt:=top 22
abbrev qo:Stmt:=top 23
abbrev Gj:Stmt:=top 24
abbrev jW:Stmt:=inClass (top 5) 0
abbrev kL:Stmt:=inClass (top 5) 1
abbrev qp:Stmt:=inClass (top 5) 2
abbrev iU:Stmt:=inClass (top 6) 0
abbrev gF:Stmt:=inClass (top 6) 1
abbrev kM:Stmt:=inClass (top 6) 2
abbrev jX:Stmt:=inClass (top 6) 3
abbrev kO:Stmt:=inClass (top 6) 5
abbrev lY:Stmt:=inClass (top 6) 6
abbrev m8:Stmt:=inClass (top 6) 7
abbrev lZ:Stmt:=inClass (top 6) 8
abbrev l0:Stmt:=inClass (top 6) 9
abbrev iV:Stmt:=inClass (top 6) 10
abbrev jY:Stmt:=inClass (top 10) 0
abbrev o8:Stmt:=inClass (top 10) 1
abbrev qq:Stmt:=inClass (top 10) 2
abbrev sk:Stmt:=inClass (top 10) 3
abbrev m9:Stmt:=inClass (top 10) 4
abbrev jZ:Stmt:=inClass (top 10) 5
abbrev pe:Stmt:=inClass (top 10) 8
abbrev kQ:Stmt:=inClass (top 10) 9
abbrev g9:Stmt:=inClass (top 10) 10
abbrev kS:Stmt:=inClass (top 10) 11
set_option genInjectivity false in
structure zW where
 za:Addr
 zb:FuncData
 wF:Addr
 wG:FuncData
 mh:Addr
 mj:FuncData
 sr:Addr
 su:FuncData
 nT:Addr
 nU:FuncData
 nV:Addr
 nX:FuncData
 jg:Addr
 jh:FuncData
 pf:Addr
 ph:FuncData
 mJ:Addr
 mK:FuncData
 ml:Addr
 mn:FuncData
 iW:Addr
 iX:FuncData
 jL:Addr
 jM:FuncData
 pj:Addr
 pk:FuncData
 qu:Addr
 qv:FuncData
 pq:Addr
 pw:FuncData
 qx:Addr
 qy:FuncData
 L8:Addr
 L9:FuncData
 hJ:Addr
 j0:FuncData
 kT:Addr
 kU:FuncData
 qA:Addr
 qB:FuncData
 fP:Addr
 iY:FuncData
 gG:Addr
 gH:FuncData
 iG:Addr
 iH:FuncData
 j3:Addr
 j4:FuncData
 kX:Addr
 kY:FuncData
 mq:Addr
 mr:FuncData
 jN:Addr
 jO:FuncData
 ji:Addr
 jj:FuncData
 mv:Addr
 mw:FuncData
 iZ:Addr
 i3:FuncData
 hU:Addr
 j5:FuncData
 pz:Addr
 pA:FuncData
 jE:Addr
 jF:FuncData
 fQ:Addr
 fS:FuncData
 fI:Addr
 fJ:FuncData
 fj:Addr
 fk:FuncData
 kZ:Addr
 k8:FuncData
 lg:Addr
 lh:FuncData
 hV:Addr
 hX:FuncData
 lj:Addr
 lu:FuncData
 aq:Addr
 aD:Addr
 az:Addr
set_option genInjectivity false in
structure Txt (K:PySem.W.Frag) (mg:Str->Option Value) (A:zW):Prop where
 close:Def K mg "close" y9 ["rooms","rules","part"] A.za A.zb
 walked:Def K mg "walked" wD ["rooms","room","word"] A.wF A.wG
 lz:Def K mg "first_places" lV ["rules"] A.mh A.mj
 sx:Def K mg "steps_of" si ["letters"] A.sr A.su
 j6:Def K mg "all_gaps" sj ["letters"] A.nT A.nU
 own:Def K mg "own" Gi ["value"] A.nV A.nX
 _law_cell_at:Def K mg "_law_cell_at" lW ["_law_script","_law_k"] A.jg A.jh
 _law_whole:Def K mg "_law_whole" oW ["_law_found"] A.pf A.ph
 _law_step:Def K mg "_law_step" qk ["_law_number","_law_letters"] A.mJ A.mK
 _law_turning:Def K mg "_law_turning" lX ["_law_number","_law_many","_law_plain"] A.ml A.mn
 _law_moved:Def K mg "_law_moved" oX ["_law_turns","_law_point","_law_word"] A.iW A.iX
 _law_rounds:Def K mg "_law_rounds" m7 ["_law_turns","_law_points","_law_word"] A.jL A.jM
 _law_rules:Def K mg "_law_rules" oY ["_law_turns","_law_letters","_law_mask","_law_room"] A.pj A.pk
 _law_part:Def K mg "_law_part" qm ["_law_script","_law_turns","_law_letters","_law_first"] A.qu A.qv
 _law_group:Def K mg "_law_group" oZ ["_law_script"] A.pq A.pw
 _law_true:Def K mg "_law_true" qo ["_law_rooms","_law_letters","_law_turns","_law_points"] A.qx A.qy
 law:Def K mg "law" Gj ["_law_script"] A.L8 A.L9
 jk:MDef K A.aD "__init__" "Going.__init__" jW ["self","which","word","start"] A.hJ A.j0
 nh:MDef K A.aD "advance" "Going.advance" kL ["self","rooms"] A.kT A.kU
 uv:MDef K A.aD "row" "Going.row" qp ["self","rooms"] A.qA A.qB
 hZ:MDef K A.az "__init__" "Closing.__init__" iU ["self","rooms","rules","part"] A.fP A.iY
 iC:MDef K A.az "begin_rules" "Closing.begin_rules" gF ["self","room"] A.gG A.gH
 ix:MDef K A.az "begin" "Closing.begin" kM ["self","which","word","room"] A.iG A.iH
 mx:MDef K A.az "settle" "Closing.settle" jX ["self"] A.j3 A.j4
 ni:MDef K A.az "go_on" "Closing.go_on" kO ["self","number"] A.kX A.kY
 i5:MDef K A.az "wait" "Closing.wait" lY ["self","number","room","step"] A.mq A.mr
 qC:MDef K A.az "lay" "Closing.lay" m8 ["self","going"] A.jN A.jO
 dP:MDef K A.az "wake" "Closing.wake" lZ ["self","room","step"] A.ji A.jj
 pB:MDef K A.az "hear" "Closing.hear" l0 ["self"] A.mv A.mw
 j7:MDef K A.az "wake_all" "Closing.wake_all" iV ["self","room"] A.iZ A.i3
 jl:MDef K A.aq "__init__" "Rooms.__init__" jY ["self","letters"] A.hU A.j5
 sA:MDef K A.aq "make" "Rooms.make" o8 ["self","room","step"] A.pz A.pA
 mU:MDef K A.aq "lay" "Rooms.lay" qq ["self","room","step","other","row"] A.jE A.jF
 dB:MDef K A.aq "by" "Rooms.by" sk ["self","room","step"] A.fQ A.fS
 dy:MDef K A.aq "elder" "Rooms.elder" m9 ["self","room"] A.fI A.fJ
 eh:MDef K A.aq "standing" "Rooms.standing" jZ ["self"] A.fj A.fk
 lA:MDef K A.aq "keep" "Rooms.keep" pe ["self","room","step","other"] A.kZ A.k8
 nj:MDef K A.aq "take_in" "Rooms.take_in" kQ ["self","way","pending"] A.lg A.lh
 eB:MDef K A.aq "put_together" "Rooms.put_together" g9 ["self","room","step","one","other","pending"] A.hV A.hX
 ny:MDef K A.aq "put_off" "Rooms.put_off" kS ["self","room","pending"] A.lj A.lu
 qD:mg "enumerate"=none
 U2:mg "min"=none
 U4:mg "max"=none
 fK:mg "range"=none
 fT:mg "len"=none
 my:mg "tuple"=none
 i6:mg "list"=none
 cY:mg "isinstance"=none
 Rl:mg "bool"=none
 U6:mg "int"=none
 pC:mg "dict"=none
 ac6:mg "str"=none
 Oq:mg "Rooms"=some (.ref A.aq)
 Ot:mg "Going"=some (.ref A.aD)
 Il:mg "Closing"=some (.ref A.az)
 Kq:PySem.W.plainGet K A.aq Str.empty=true
 Kr:PySem.W.hasDictIn K A.aq=true
 Ks:PySem.W.plainOver K A.aq=true
 Kt:PySem.W.findIn K (.ref A.aq) "__setattr__"=some (some (.builtin "object.__setattr__"))
 wH:PySem.W.makesIn K A.aq=true
 Ku:PySem.W.keepIn K (.ref A.aq)=true
 zX:PySem.W.findIn K (.ref A.aq) "letters"=some none
 uw:PySem.W.findIn K (.ref A.aq) "made"=some none
 yd:PySem.W.findIn K (.ref A.aq) "rows"=some none
 jG:PySem.W.findIn K (.ref A.aq) "ways"=some none
 ye:PySem.W.findIn K (.ref A.aq) "gaps"=some none
 j8:PySem.W.findIn K (.ref A.aq) "elders"=some none
 pD:PySem.W.findIn K (.ref A.aq) "called"=some none
 ux:PySem.W.findIn K (.ref A.aq) "went"=some none
 Kv:PySem.W.plainGet K A.aD Str.empty=true
 Kw:PySem.W.hasDictIn K A.aD=true
 Kx:PySem.W.plainOver K A.aD=true
 Ky:PySem.W.findIn K (.ref A.aD) "__setattr__"=some (some (.builtin "object.__setattr__"))
 wI:PySem.W.makesIn K A.aD=true
 Kz:PySem.W.keepIn K (.ref A.aD)=true
 Cw:PySem.W.findIn K (.ref A.aD) "which"=some none
 ko:PySem.W.findIn K (.ref A.aD) "word"=some none
 sC:PySem.W.findIn K (.ref A.aD) "start"=some none
 ia:PySem.W.findIn K (.ref A.aD) "front"=some none
 fm:PySem.W.findIn K (.ref A.aD) "first"=some none
 iz:PySem.W.findIn K (.ref A.aD) "rear"=some none
 jm:PySem.W.findIn K (.ref A.aD) "last"=some none
 Gk:PySem.W.plainGet K A.az Str.empty=true
 Gm:PySem.W.hasDictIn K A.az=true
 Gn:PySem.W.plainOver K A.az=true
 Gp:PySem.W.findIn K (.ref A.az) "__setattr__"=some (some (.builtin "object.__setattr__"))
 sE:PySem.W.makesIn K A.az=true
 Gq:PySem.W.keepIn K (.ref A.az)=true
 fZ:PySem.W.findIn K (.ref A.az) "rooms"=some none
 Cy:PySem.W.findIn K (.ref A.az) "rules"=some none
 kr:PySem.W.findIn K (.ref A.az) "goings"=some none
 mV:PySem.W.findIn K (.ref A.az) "agenda"=some none
 lB:PySem.W.findIn K (.ref A.az) "waiting"=some none
 pE:PySem.W.findIn K (.ref A.az) "heard"=some none
theorem aH {K:PySem.W.Frag}{mg:Str->Option Value}{A:zW}(T:Txt K mg A):qO K A.aq:=⟨T.Kq,T.Kr,T.Ks,T.Kt⟩
theorem wH {K:PySem.W.Frag}{mg:Str->Option Value}{A:zW}(T:Txt K mg A):Mk K A.aq A.hU:=⟨T.wH,T.jl.m.at_,T.jl.m.fn,T.Ku⟩
theorem aS {K:PySem.W.Frag}{mg:Str->Option Value}{A:zW}(T:Txt K mg A):qO K A.aD:=⟨T.Kv,T.Kw,T.Kx,T.Ky⟩
theorem wI {K:PySem.W.Frag}{mg:Str->Option Value}{A:zW}(T:Txt K mg A):Mk K A.aD A.hJ:=⟨T.wI,T.jk.m.at_,T.jk.m.fn,T.Kz⟩
theorem aM {K:PySem.W.Frag}{mg:Str->Option Value}{A:zW}(T:Txt K mg A):qO K A.az:=⟨T.Gk,T.Gm,T.Gn,T.Gp⟩
theorem sE {K:PySem.W.Frag}{mg:Str->Option Value}{A:zW}(T:Txt K mg A):Mk K A.az A.fP:=⟨T.sE,T.hZ.m.at_,T.hZ.m.fn,T.Gq⟩
theorem KC:bx ["rooms","rules","part"] ["rooms","rules","part"] (aU y9):=⟨rfl,rfl,rfl,by decide +kernel,rfl,by decide +kernel,by decide +kernel⟩
theorem pY:bx ["rooms","room","word","path","step"] ["rooms","room","word"] (aU wD):=⟨rfl,rfl,rfl,by decide +kernel,rfl,by decide +kernel,by decide +kernel⟩
theorem iI:bx ["rules","places","which","rule"] ["rules"] (aU lV):=⟨rfl,rfl,rfl,by decide +kernel,rfl,by decide +kernel,by decide +kernel⟩
theorem qE:bx ["letters","steps","letter"] ["letters"] (aU si):=⟨rfl,rfl,rfl,by decide +kernel,rfl,by decide +kernel,by decide +kernel⟩
theorem DX:bx ["letters"] ["letters"] (aU sj):=⟨rfl,rfl,rfl,by decide +kernel,rfl,by decide +kernel,by decide +kernel⟩
theorem Cz:bx ["value"] ["value"] (aU Gi):=⟨rfl,rfl,rfl,by decide +kernel,rfl,by decide +kernel,by decide +kernel⟩
theorem yf:bx ["_law_script","_law_k"] ["_law_script","_law_k"] (aU lW):=⟨rfl,rfl,rfl,by decide +kernel,rfl,by decide +kernel,by decide +kernel⟩
theorem As:bx ["_law_found"] ["_law_found"] (aU oW):=⟨rfl,rfl,rfl,by decide +kernel,rfl,by decide +kernel,by decide +kernel⟩
theorem CB:bx ["_law_number","_law_letters"] ["_law_number","_law_letters"] (aU qk):=⟨rfl,rfl,rfl,by decide +kernel,rfl,by decide +kernel,by decide +kernel⟩
theorem fU:bx ["_law_number","_law_many","_law_plain","_law_by","_law_some","_law_turned"] ["_law_number","_law_many","_law_plain"] (aU lX):=⟨rfl,rfl,rfl,by decide +kernel,rfl,by decide +kernel,by decide +kernel⟩
theorem jP:bx ["_law_turns","_law_point","_law_word","_law_step_here"] ["_law_turns","_law_point","_law_word"] (aU oX):=⟨rfl,rfl,rfl,by decide +kernel,rfl,by decide +kernel,by decide +kernel⟩
theorem gI:bx ["_law_turns","_law_points","_law_word","_law_count","_law_spots"] ["_law_turns","_law_points","_law_word"] (aU m7):=⟨rfl,rfl,rfl,by decide +kernel,rfl,by decide +kernel,by decide +kernel⟩
theorem cZ:bx ["_law_turns","_law_letters","_law_mask","_law_room","_law_words","_law_k","_law_j","_law_found","_law_word","_law_often"] ["_law_turns","_law_letters","_law_mask","_law_room"] (aU oY):=⟨rfl,rfl,rfl,by decide +kernel,rfl,by decide +kernel,by decide +kernel⟩
theorem gJ:bx ["_law_script","_law_turns","_law_letters","_law_first","_law_way","_law_words","_law_word","_law_cell"] ["_law_script","_law_turns","_law_letters","_law_first"] (aU qm):=⟨rfl,rfl,rfl,by decide +kernel,rfl,by decide +kernel,by decide +kernel⟩
theorem cH:bx ["_law_script","_law_plain","_law_many","_law_letters","_law_turns","_law_k","_law_mask","_law_first","_law_rules_here"] ["_law_script"] (aU oZ):=⟨rfl,rfl,rfl,by decide +kernel,rfl,by decide +kernel,by decide +kernel⟩
theorem eD:bx ["_law_rooms","_law_letters","_law_turns","_law_points","_law_standing","_law_room","_law_elder","_law_letter","_law_step_here","_law_other"] ["_law_rooms","_law_letters","_law_turns","_law_points"] (aU qo):=⟨rfl,rfl,rfl,by decide +kernel,rfl,by decide +kernel,by decide +kernel⟩
theorem eS:bx ["_law_script","_law_letters","_law_turns","_law_rules_here","_law_part_here","_law_first","_law_handed","_law_rooms","_law_points","_law_at","_law_cell","_law_standing","_law_room","_law_step_here","_law_point","_law_same"] ["_law_script"] (aU Gj):=⟨rfl,rfl,rfl,by decide +kernel,rfl,by decide +kernel,by decide +kernel⟩
theorem vh:bx ["self","which","word","start"] ["self","which","word","start"] (aU jW):=⟨rfl,rfl,rfl,by decide +kernel,rfl,by decide +kernel,by decide +kernel⟩
theorem j9:bx ["self","rooms","room"] ["self","rooms"] (aU kL):=⟨rfl,rfl,rfl,by decide +kernel,rfl,by decide +kernel,by decide +kernel⟩
theorem pF:bx ["self","rooms","ahead","behind"] ["self","rooms"] (aU qp):=⟨rfl,rfl,rfl,by decide +kernel,rfl,by decide +kernel,by decide +kernel⟩
theorem fy:bx ["self","rooms","rules","part","room","which","word"] ["self","rooms","rules","part"] (aU iU):=⟨rfl,rfl,rfl,by decide +kernel,rfl,by decide +kernel,by decide +kernel⟩
theorem gb:bx ["self","room","rule","which"] ["self","room"] (aU gF):=⟨rfl,rfl,rfl,by decide +kernel,rfl,by decide +kernel,by decide +kernel⟩
theorem wJ:bx ["self","which","word","room"] ["self","which","word","room"] (aU kM):=⟨rfl,rfl,rfl,by decide +kernel,rfl,by decide +kernel,by decide +kernel⟩
theorem vi:bx ["self"] ["self"] (aU jX):=⟨rfl,rfl,rfl,by decide +kernel,rfl,by decide +kernel,by decide +kernel⟩
theorem pG:bx ["self","number","going"] ["self","number"] (aU kO):=⟨rfl,rfl,rfl,by decide +kernel,rfl,by decide +kernel,by decide +kernel⟩
theorem lC:bx ["self","number","room","step","steps","numbers"] ["self","number","room","step"] (aU lY):=⟨rfl,rfl,rfl,by decide +kernel,rfl,by decide +kernel,by decide +kernel⟩
theorem rA:bx ["self","going","step"] ["self","going"] (aU m8):=⟨rfl,rfl,rfl,by decide +kernel,rfl,by decide +kernel,by decide +kernel⟩
theorem yg:bx ["self","room","step"] ["self","room","step"] (aU lZ):=⟨rfl,rfl,rfl,by decide +kernel,rfl,by decide +kernel,by decide +kernel⟩
theorem yh:bx ["self"] ["self"] (aU l0):=⟨rfl,rfl,rfl,by decide +kernel,rfl,by decide +kernel,by decide +kernel⟩
theorem fz:bx ["self","room","step","elder"] ["self","room"] (aU iV):=⟨rfl,rfl,rfl,by decide +kernel,rfl,by decide +kernel,by decide +kernel⟩
theorem vj:bx ["self","letters"] ["self","letters"] (aU jY):=⟨rfl,rfl,rfl,by decide +kernel,rfl,by decide +kernel,by decide +kernel⟩
theorem sY:bx ["self","room","step","number"] ["self","room","step"] (aU o8):=⟨rfl,rfl,rfl,by decide +kernel,rfl,by decide +kernel,by decide +kernel⟩
theorem uy:bx ["self","room","step","other","row","pending"] ["self","room","step","other","row"] (aU qq):=⟨rfl,rfl,rfl,by decide +kernel,rfl,by decide +kernel,by decide +kernel⟩
theorem DY:bx ["self","room","step"] ["self","room","step"] (aU sk):=⟨rfl,rfl,rfl,by decide +kernel,rfl,by decide +kernel,by decide +kernel⟩
theorem zc:bx ["self","room"] ["self","room"] (aU m9):=⟨rfl,rfl,rfl,by decide +kernel,rfl,by decide +kernel,by decide +kernel⟩
theorem vk:bx ["self"] ["self"] (aU jZ):=⟨rfl,rfl,rfl,by decide +kernel,rfl,by decide +kernel,by decide +kernel⟩
theorem Au:bx ["self","room","step","other"] ["self","room","step","other"] (aU pe):=⟨rfl,rfl,rfl,by decide +kernel,rfl,by decide +kernel,by decide +kernel⟩
theorem et:bx ["self","way","pending","room","step","other","led_to","come_from"] ["self","way","pending"] (aU kQ):=⟨rfl,rfl,rfl,by decide +kernel,rfl,by decide +kernel,by decide +kernel⟩
theorem eI:bx ["self","room","step","one","other","pending","less","more","number"] ["self","room","step","one","other","pending"] (aU g9):=⟨rfl,rfl,rfl,by decide +kernel,rfl,by decide +kernel,by decide +kernel⟩
theorem ic:bx ["self","room","pending","ways","step","other"] ["self","room","pending"] (aU kS):=⟨rfl,rfl,rfl,by decide +kernel,rfl,by decide +kernel,by decide +kernel⟩
section
variable {P:Program} {w:World} {K:PySem.W.Frag} {mg:Str->Option Value} {base:Heap} {A:zW}
theorem yi {c:PySem.Const}{j:Nat}{p:PySem.Pos}{es:List PySem.Expr}{env:PySem.Env}:PySem.starEach (.Constant c j p::es) env=(false,PySem.eval (.Constant c j p) env)::PySem.starEach es env:=rfl
theorem get_some {α:Type}{xs:List α}{i:Nat}(h:i<xs.length):∃x,xs[i]?=some x:=⟨_,adX h⟩
def AU (K:PySem.W.Frag):Sp:=λvs H Q _=>∃(a:Addr) (ns:List Int),vs=[.ref a]/\aI K H a (ns.map V.int)/\ns.length<=63/\∀H',Q (.bl true) H'
def cy (n:Nat):List Int:=(List.range n).map M12.st
theorem mz (n:Nat):(cy n).length=n:=by unfold cy;rw[ad6,aeR]
theorem Io {n i:Nat}(h:i<n):(cy n)[i]?=some (M12.st i):=by
 unfold cy;rw[aeo,List.getElem?_range h];rfl
theorem Ou (i:Nat):cy (2* i)++[1+ (i:Int)]++[-(1+ (i:Int))]=cy (2* (i+ 1)):=by
 have e:2* (i+ 1)=2* i+ 1+ 1:=by omega
 rw[e];unfold cy;rw[afI,afI,aeu,aeu];have e1:M12.st (2* i)=1+ (i:Int):=by unfold M12.st;rw[ael (by omega)];omega
 have e2:M12.st (2* i+ 1)= -(1+ (i:Int)):=by unfold M12.st;rw[aed (by omega)];omega
 show _=(List.range (2* i)).map M12.st++[M12.st (2* i)]++[M12.st (2* i+ 1)];rw[e1,e2]
theorem Rm (n:Nat):(cy n).Nodup:=by
 unfold cy;refine afQ.mpr (List.Pairwise.imp ?_ ahe);intro a b kI z;have h1:=M12.L7 a;rw[z,M12.L7]at h1;exact kI h1.symm
theorem fq {rs:List Addr}{i:Nat}{r:Addr}(h:rs[i]?=some r):lI (rs.map V.ref) (i:Int)=some (V.ref r):=c9 (by rw[aeo,h];rfl)
def CD:Sp:=λvs H Q _=>∃L:Nat,vs=[.int L]/\1<=L/\L<=200/\∀l H',au H H'->H' l=some (.lst (ak ((List.range (2* L)).map M12.st)))->Q (.ref l) H'
def CF:Sp:=λvs H Q _=>∃L:Nat,vs=[.int L]/\1<=L/\L<=200/\∀d H',au H H'->H d=none->H' d=some (.dK (gK (cy (2* L))))->Q (.ref d) H'
def Ma (C:Addr):Sp:=λvs H Q _=>∃(x dx:Addr) (L:Nat),vs=[.ref x,.int L]/\H x=some (.ins C dx [])/\1<=L/\L<=200/\∀a H',(∀b o,H b=some o->b≠x->H' b=some o)->ay C H' x (RS.new L (cy (2* L))) a->(∀b,a.own x b->b=x\/H b=none)->Q .non H'
def dg (a:RA)(r:Addr)(H H':Hp):Prop:=∀b o,¬a.own r b->H b=some o->H' b=some o
def CH (C:Addr):Sp:=λvs H Q _=>∃(r:Addr) (S:RS) (a:RA) (c d:Nat) (z:Int),vs=[.ref r,.int c,.int z,.int d]/\ay C H r S a/\S.Wf/\c<S.made/\d<S.made/\(∀l∈S.ways,l.length<=100000)/\∀H',dg a r H H'->ay C H' r (S.keep c z d) a->Q .non H'
def Ip (C:Addr):Sp:=λvs H Q _=>∃(r:Addr) (S:RS) (a:RA) (c:Nat) (z:Int),vs=[.ref r,.int c,.int z]/\ay C H r S a/\S.Wf/\1<=S.L/\S.L<=200/\c<S.made/\S.made<=100000/\S.rows.length<=1000000/\(∀l∈S.ways,l.length<=100000)/\∀a' H',dg a r H H'->ay C H' r (S.make c z (cy (2* S.L))) a'->(∀b,a'.own r b->a.own r b\/H b=none)->Q (.int S.made) H'
def sF (C:Addr):Sp:=λvs H Q _=>∃(r:Addr) (S:RS) (a:RA) (c:Nat) (z:Int),vs=[.ref r,.int c,.int z]/\ay C H r S a/\c<S.ways.length/\Q (((S.by c z).map λn:Nat=>V.int (n:Int)).getD .non) H
def rB (C:Addr):Sp:=λvs H Q _=>∃(r:Addr) (S:RS) (a:RA) (c e:Nat),vs=[.ref r,.int c]/\ay C H r S a/\S.bI[c]?=some e/\Q (.int e) H
def nY (C:Addr):Sp:=λvs H Q _=>∃(r:Addr) (S:RS) (a:RA),vs=[.ref r]/\ay C H r S a/\S.Wf/\S.made<=100000/\∀l,H l=none->Q (.ref l) (upd H l (.lst (ak (nI ((List.range S.made).filter λc=>decide (S.bI[c]?=some c))))))
def vf (k:Nat):Sp:=λvs H Q _=>∃(v:V) (d:Dt),vs=[v]/\ck H k v d/\mR d/\∀v' H',au H H'->ck H' k v' d->Q v' H'
theorem Iq (T:Txt K mg A):aK P w K mg base bq 1 A.nV A.nX ["value"] (λ_ _ _ _=>False):=⟨λ_ _ _ _ h=>h.elim,λ_ _ _ _ _ _ _ _ _ _ _ _ _ h=>h.elim⟩
theorem Ir (T:Txt K mg A):aK P w K mg base bq 2 A.nV A.nX ["value"] (vf 0):=by
 have jn:aK P w K mg base bq 1 A.nV A.nX ["value"] (λ_ _ _ _=>False):=Iq T;refine T.own.F.ok Cz (λvs H Q E h=>?_) (λbK AA outer s H vs Q E hr h=>?_)
 ·obtain⟨v,d,rfl,_⟩:=h;rfl
 ·obtain⟨v,d,rfl,hv,hd,k⟩:=h
  refine⟨_,(ai (bU (eQ (bL fh rfl T.cY aeF (ae (pv 0) (ae (gu (v:=.ty "tuple") rfl T.my afg rfl) ah))))
   (aw (bM (di jI rfl T.my afg (ae (fb (fns:=[]) (ixs:=[]) (cl:=[]) rfl (iO (pv 0)) (fM (by decide +kernel) (by decide +kernel) rfl (by decide +kernel) rfl) (λC s H ex=>(bp (jn) (hr.mono (by decide)) rfl T.own.m T.own.F.kp T.own.b .nil aP (ae (pv 0) ah)))) ah))))
   bB)
   (ai (bU (eQ (bL fh rfl T.cY aeF (ae (pv 0) (ae (gu (v:=.ty "list") rfl T.i6 ae2 rfl) ah))))
    (aw (bM (fb (fns:=[]) (ixs:=[]) (cl:=[]) rfl (iO (pv 0)) (fM (by decide +kernel) (by decide +kernel) rfl (by decide +kernel) rfl) (λC s H ex=>(bp (jn) (hr.mono (by decide)) rfl T.own.m T.own.F.kp T.own.b .nil aP (ae (pv 0) ah))))))
    bB)
   (ai (bU (eQ (bL fh rfl T.cY aeF (ae (pv 0) (ae (gu (v:=.ty "dict") rfl T.pC afj rfl) ah))))
    (aw (bM (di (iE rfl) rfl T.pC afj (ae (fb (fns:=["value"]) (ixs:=[0]) (cl:=_) rfl (iO (pv 0)) (nM rfl rfl (by decide +kernel) rfl (by decide +kernel) rfl (by decide +kernel) (by decide +kernel) rfl rfl rfl rfl) (λC s H ex=>(cM (ae (pv 0) (ae (bp (jn) (hr.mono (by decide)) rfl T.own.m T.own.F.kp T.own.b .nil aP (ae (bJ (yW (K:=K) rfl) (pv 1) (pv 0) (λ_ _=>rfl)) ah)) ah))))) ah))))
    bB)
   (aw (bM (pv 0)))))),?_⟩
  try dsimp only[bz,cD]
  refine jV ?_;intro lD gL fD
  have atom:(∃n,v=.int n)\/(∃l,v=.str (tx l))\/∃(a:Addr) (vs:List V) (ds:List Dt),v=.ref a/\d=.t ds/\False:=by
   cases hv with
   |i=>exact .inl ⟨_,rfl⟩
   |s=>exact .inr (.inl ⟨_,rfl⟩)
   |n=>cases hd
   |b=>cases hd
  rcases atom with ⟨n,rfl⟩|⟨l,rfl⟩|⟨a,vs,ds,rfl,rfl,hx⟩
  ·refine⟨_,rfl,_,_,_,_,rfl,.int n,m5 K,_,rfl,cU ?_⟩;refine⟨_,rfl,_,_,_,_,rfl,.int n,oQ K,_,rfl,cU ?_⟩;refine⟨_,rfl,_,_,_,_,rfl,.int n,oR K,_,rfl,cU ?_⟩;exact⟨_,rfl,k _ H (λ_ _ e=>e) hv⟩
  ·refine⟨_,rfl,_,_,_,_,rfl,.str (tx l),m6 K,_,rfl,cU ?_⟩;refine⟨_,rfl,_,_,_,_,rfl,.str (tx l),oS K,_,rfl,cU ?_⟩;refine⟨_,rfl,_,_,_,_,rfl,.str (tx l),oT K,_,rfl,cU ?_⟩;exact⟨_,rfl,k _ H (λ_ _ e=>e) hv⟩
  ·exact hx.elim
theorem Iu (T:Txt K mg A):aK P w K mg base bq 3 A.nV A.nX ["value"] (vf 1):=by
 have jn:aK P w K mg base bq 2 A.nV A.nX ["value"] (vf 0):=Ir T;refine T.own.F.ok Cz (λvs H Q E h=>?_) (λbK AA outer s H vs Q E hr h=>?_)
 ·obtain⟨v,d,rfl,_⟩:=h;rfl
 ·obtain⟨v,d,rfl,hv,hd,k⟩:=h
  refine⟨_,(ai (bU (eQ (bL fh rfl T.cY aeF (ae (pv 0) (ae (gu (v:=.ty "tuple") rfl T.my afg rfl) ah))))
   (aw (bM (di jI rfl T.my afg (ae (fb (fns:=[]) (ixs:=[]) (cl:=[]) rfl (iO (pv 0)) (fM (by decide +kernel) (by decide +kernel) rfl (by decide +kernel) rfl) (λC s H ex=>(bp (jn) (hr.mono (by decide)) rfl T.own.m T.own.F.kp T.own.b .nil aP (ae (pv 0) ah)))) ah))))
   bB)
   (ai (bU (eQ (bL fh rfl T.cY aeF (ae (pv 0) (ae (gu (v:=.ty "list") rfl T.i6 ae2 rfl) ah))))
    (aw (bM (fb (fns:=[]) (ixs:=[]) (cl:=[]) rfl (iO (pv 0)) (fM (by decide +kernel) (by decide +kernel) rfl (by decide +kernel) rfl) (λC s H ex=>(bp (jn) (hr.mono (by decide)) rfl T.own.m T.own.F.kp T.own.b .nil aP (ae (pv 0) ah))))))
    bB)
   (ai (bU (eQ (bL fh rfl T.cY aeF (ae (pv 0) (ae (gu (v:=.ty "dict") rfl T.pC afj rfl) ah))))
    (aw (bM (di (iE rfl) rfl T.pC afj (ae (fb (fns:=["value"]) (ixs:=[0]) (cl:=_) rfl (iO (pv 0)) (nM rfl rfl (by decide +kernel) rfl (by decide +kernel) rfl (by decide +kernel) (by decide +kernel) rfl rfl rfl rfl) (λC s H ex=>(cM (ae (pv 0) (ae (bp (jn) (hr.mono (by decide)) rfl T.own.m T.own.F.kp T.own.b .nil aP (ae (bJ (yW (K:=K) rfl) (pv 1) (pv 0) (λ_ _=>rfl)) ah)) ah))))) ah))))
    bB)
   (aw (bM (pv 0)))))),?_⟩
  try dsimp only[bz,cD]
  refine jV ?_;intro lD gL fD
  have atom:(∃n,v=.int n)\/(∃l,v=.str (tx l))\/∃(a:Addr) (vs:List V) (ds:List Dt),v=.ref a/\d=.t ds/\(H a=some (.tup vs)/\vs.length=ds.length/\∀(j:Nat) (v:V) (x:Dt),vs[j]?=some v->ds[j]?=some x->ck H 0 v x):=by
   cases hv with
   |i=>exact .inl ⟨_,rfl⟩
   |s=>exact .inr (.inl ⟨_,rfl⟩)
   |n=>cases hd
   |b=>cases hd
   |t h1 h2 h3=>exact .inr (.inr ⟨_,_,_,rfl,rfl,h1,h2,h3⟩)
   |l=>cases hd
  rcases atom with ⟨n,rfl⟩|⟨l,rfl⟩|⟨a,vs,ds,rfl,rfl,hx⟩
  ·refine⟨_,rfl,_,_,_,_,rfl,.int n,m5 K,_,rfl,cU ?_⟩;refine⟨_,rfl,_,_,_,_,rfl,.int n,oQ K,_,rfl,cU ?_⟩;refine⟨_,rfl,_,_,_,_,rfl,.int n,oR K,_,rfl,cU ?_⟩;exact⟨_,rfl,k _ H (λ_ _ e=>e) hv⟩
  ·refine⟨_,rfl,_,_,_,_,rfl,.str (tx l),m6 K,_,rfl,cU ?_⟩;refine⟨_,rfl,_,_,_,_,rfl,.str (tx l),oS K,_,rfl,cU ?_⟩;refine⟨_,rfl,_,_,_,_,rfl,.str (tx l),oT K,_,rfl,cU ?_⟩;exact⟨_,rfl,k _ H (λ_ _ e=>e) hv⟩
  ·obtain⟨h1,h2,h3⟩:=hx;obtain⟨hz,lH⟩:ds.length<=100000/\∀x∈ds,mR x:=by cases hd with|t a b=>exact⟨a,b⟩
   refine⟨_,rfl,_,_,_,_,rfl,.tup h1,vY K "tuple",_,rfl,lP ?_⟩;refine⟨_,rfl,a,rfl,⟨_,bV.of h1⟩,?_⟩;refine pV (α:=Unit) vs.length (λi=>vs.getD i .non) (λH2 v i=>∃x,ds[i]?=some x/\mR x/\ck H2 0 v x) (λH1 H2 v i s ⟨x,e,hn,q⟩=>⟨x,e,hn,q.same s⟩) ?_ (λi H2 s2 hi=>Hl (bV.of (s2 _ _ h1)) i hi) (λi x H2 H3 s2 hi y=>?_) (λH2 s2=>Bv (bV.of (s2 _ _ h1))) (λi H2 Rr hi s2 kk=>?_) (λD H2 ys s2 hD hl hr=>?_)
   ·exact aep (by omega) (show 100000<=sizeLine by decide)
   ·obtain⟨e,hx⟩:=Eu (bV.of (s2 _ _ h1)) i x H3 hi y;refine⟨e,?_⟩;rw[ad2,hx];rfl
   ·have hx:vs[i]?=some (vs.getD i .non):=by rw[ad2,adX hi];rfl
    have hy:ds[i]?=some (ds[i]'(by omega)):=adX (by omega)
    refine⟨_,rfl,_,_,rfl,(h3 i _ _ hx hy).same s2,lH _ (adY hy),λv' H' s' q'=>kk v' H' s' ⟨_,hy,lH _ (adY hy),q'⟩⟩
   ·refine⟨D,ys,rfl,.inl ⟨aI.of aj,λl iu=>?_⟩⟩;have sD:au H2 (upd H2 D (.lst ys)):=au.upd hD;have sl:au (upd H2 D (.lst ys)) (upd (upd H2 D (.lst ys)) l (.tup ys)):=au.upd iu;refine k _ _ (s2.trans (sD.trans sl)) (.t aj (by omega) λj v x e1 e2=>?_);obtain⟨y,e3,-,q⟩:=hr j v e1;obtain rfl:y=x:=Option.some.inj (e3.symm.trans e2);exact q.same (sD.trans sl)
theorem Iv (T:Txt K mg A):aK P w K mg base bq 4 A.nV A.nX ["value"] (vf 2):=by
 have jn:aK P w K mg base bq 3 A.nV A.nX ["value"] (vf 1):=Iu T;refine T.own.F.ok Cz (λvs H Q E h=>?_) (λbK AA outer s H vs Q E hr h=>?_)
 ·obtain⟨v,d,rfl,_⟩:=h;rfl
 ·obtain⟨v,d,rfl,hv,hd,k⟩:=h
  refine⟨_,(ai (bU (eQ (bL fh rfl T.cY aeF (ae (pv 0) (ae (gu (v:=.ty "tuple") rfl T.my afg rfl) ah))))
   (aw (bM (di jI rfl T.my afg (ae (fb (fns:=[]) (ixs:=[]) (cl:=[]) rfl (iO (pv 0)) (fM (by decide +kernel) (by decide +kernel) rfl (by decide +kernel) rfl) (λC s H ex=>(bp (jn) (hr.mono (by decide)) rfl T.own.m T.own.F.kp T.own.b .nil aP (ae (pv 0) ah)))) ah))))
   bB)
   (ai (bU (eQ (bL fh rfl T.cY aeF (ae (pv 0) (ae (gu (v:=.ty "list") rfl T.i6 ae2 rfl) ah))))
    (aw (bM (fb (fns:=[]) (ixs:=[]) (cl:=[]) rfl (iO (pv 0)) (fM (by decide +kernel) (by decide +kernel) rfl (by decide +kernel) rfl) (λC s H ex=>(bp (jn) (hr.mono (by decide)) rfl T.own.m T.own.F.kp T.own.b .nil aP (ae (pv 0) ah))))))
    bB)
   (ai (bU (eQ (bL fh rfl T.cY aeF (ae (pv 0) (ae (gu (v:=.ty "dict") rfl T.pC afj rfl) ah))))
    (aw (bM (di (iE rfl) rfl T.pC afj (ae (fb (fns:=["value"]) (ixs:=[0]) (cl:=_) rfl (iO (pv 0)) (nM rfl rfl (by decide +kernel) rfl (by decide +kernel) rfl (by decide +kernel) (by decide +kernel) rfl rfl rfl rfl) (λC s H ex=>(cM (ae (pv 0) (ae (bp (jn) (hr.mono (by decide)) rfl T.own.m T.own.F.kp T.own.b .nil aP (ae (bJ (yW (K:=K) rfl) (pv 1) (pv 0) (λ_ _=>rfl)) ah)) ah))))) ah))))
    bB)
   (aw (bM (pv 0)))))),?_⟩
  try dsimp only[bz,cD]
  refine jV ?_;intro lD gL fD
  have atom:(∃n,v=.int n)\/(∃l,v=.str (tx l))\/∃(a:Addr) (vs:List V) (ds:List Dt),v=.ref a/\d=.t ds/\(H a=some (.tup vs)/\vs.length=ds.length/\∀(j:Nat) (v:V) (x:Dt),vs[j]?=some v->ds[j]?=some x->ck H 1 v x):=by
   cases hv with
   |i=>exact .inl ⟨_,rfl⟩
   |s=>exact .inr (.inl ⟨_,rfl⟩)
   |n=>cases hd
   |b=>cases hd
   |t h1 h2 h3=>exact .inr (.inr ⟨_,_,_,rfl,rfl,h1,h2,h3⟩)
   |l=>cases hd
  rcases atom with ⟨n,rfl⟩|⟨l,rfl⟩|⟨a,vs,ds,rfl,rfl,hx⟩
  ·refine⟨_,rfl,_,_,_,_,rfl,.int n,m5 K,_,rfl,cU ?_⟩;refine⟨_,rfl,_,_,_,_,rfl,.int n,oQ K,_,rfl,cU ?_⟩;refine⟨_,rfl,_,_,_,_,rfl,.int n,oR K,_,rfl,cU ?_⟩;exact⟨_,rfl,k _ H (λ_ _ e=>e) hv⟩
  ·refine⟨_,rfl,_,_,_,_,rfl,.str (tx l),m6 K,_,rfl,cU ?_⟩;refine⟨_,rfl,_,_,_,_,rfl,.str (tx l),oS K,_,rfl,cU ?_⟩;refine⟨_,rfl,_,_,_,_,rfl,.str (tx l),oT K,_,rfl,cU ?_⟩;exact⟨_,rfl,k _ H (λ_ _ e=>e) hv⟩
  ·obtain⟨h1,h2,h3⟩:=hx;obtain⟨hz,lH⟩:ds.length<=100000/\∀x∈ds,mR x:=by cases hd with|t a b=>exact⟨a,b⟩
   refine⟨_,rfl,_,_,_,_,rfl,.tup h1,vY K "tuple",_,rfl,lP ?_⟩;refine⟨_,rfl,a,rfl,⟨_,bV.of h1⟩,?_⟩;refine pV (α:=Unit) vs.length (λi=>vs.getD i .non) (λH2 v i=>∃x,ds[i]?=some x/\mR x/\ck H2 1 v x) (λH1 H2 v i s ⟨x,e,hn,q⟩=>⟨x,e,hn,q.same s⟩) ?_ (λi H2 s2 hi=>Hl (bV.of (s2 _ _ h1)) i hi) (λi x H2 H3 s2 hi y=>?_) (λH2 s2=>Bv (bV.of (s2 _ _ h1))) (λi H2 Rr hi s2 kk=>?_) (λD H2 ys s2 hD hl hr=>?_)
   ·exact aep (by omega) (show 100000<=sizeLine by decide)
   ·obtain⟨e,hx⟩:=Eu (bV.of (s2 _ _ h1)) i x H3 hi y;refine⟨e,?_⟩;rw[ad2,hx];rfl
   ·have hx:vs[i]?=some (vs.getD i .non):=by rw[ad2,adX hi];rfl
    have hy:ds[i]?=some (ds[i]'(by omega)):=adX (by omega)
    refine⟨_,rfl,_,_,rfl,(h3 i _ _ hx hy).same s2,lH _ (adY hy),λv' H' s' q'=>kk v' H' s' ⟨_,hy,lH _ (adY hy),q'⟩⟩
   ·refine⟨D,ys,rfl,.inl ⟨aI.of aj,λl iu=>?_⟩⟩;have sD:au H2 (upd H2 D (.lst ys)):=au.upd hD;have sl:au (upd H2 D (.lst ys)) (upd (upd H2 D (.lst ys)) l (.tup ys)):=au.upd iu;refine k _ _ (s2.trans (sD.trans sl)) (.t aj (by omega) λj v x e1 e2=>?_);obtain⟨y,e3,-,q⟩:=hr j v e1;obtain rfl:y=x:=Option.some.inj (e3.symm.trans e2);exact q.same (sD.trans sl)
theorem DZ (T:Txt K mg A):aK P w K mg base bq 1 A.sr A.su ["letters"] CD:=by
 refine T.sx.F.ok qE (λvs H Q E h=>?_) (λbK AA outer s H vs Q E hr h=>?_)
 ·obtain⟨L,rfl,_⟩:=h;rfl
 ·obtain⟨L,rfl,jt,uz,k⟩:=h
  refine⟨_,(ai (aZ (i:=1) qE.nd rfl (Or.inl rfl) (cR ah))
   (ai (du aez rfl (mO rfl T.fK (ae aB (ae (aV dC (pv 0) aB) ah))) (bN (i:=2) qE.nd rfl (Or.inl rfl))
    (ai (aX (dk aeg aeq aer b6 (pv 1) (ae (pv 2) ah)))
    (aw (aX (dk aeg aeq aer b6 (pv 1) (ae (gg eR (pv 2)) ah))))))
   (aw (bM (pv 1))))),?_⟩
  try dsimp only[bz,cD]
  refine iS ?_;intro gL fD;refine⟨aeA _,λl hl=>?_⟩;have s0:au H (upd H l (.lst [])):=au.upd hl;have h0:upd H l (.lst []) l=some (.lst (ak (cy (2* 0)))):=aj;generalize upd H l (.lst [])=H0 at s0 h0 ⊢;refine⟨_,rfl,_,_,rfl,rfl,1,(L:Int)+ 1,rfl,⟨by omega,by omega,by omega,by omega⟩,?_⟩
  let gf:Nat->St->Hp->Prop:=λi σ H2=>∃v:Option V,σ=[some (.int L),some (.ref l),v]/\au H H2/\H2 l=some (.lst (ak (cy (2* i))))
  refine kb (lo:=1) (n:=((L:Int)+ 1 - 1).toNat) gf ⟨none,rfl,s0,h0⟩ ?_ ?_
  ·rintro i σ H2 hi ⟨v,rfl,s2,h2⟩;dsimp only[dE];refine Ce ?_;intro eJ Iw;have Mb:i<L:=by omega
   refine⟨_,rfl,.inl ⟨rfl,_,aI.of h2⟩,_,rfl,l,_,_,rfl,rfl,h2,?_,?_⟩
   ·rw[aL,mz];exact aec (show 2* i<=400 by omega) (by decide)
   refine⟨_,rfl,.inl ⟨rfl,_,aI.of aj⟩,_,rfl,_,rfl,l,_,_,rfl,rfl,aj,?_,?_⟩
   ·rw[adZ,aL,mz];exact aec (show 2* i+ 1<=400 by omega) (by decide)
   refine⟨_,rfl,λb o e=>?_,?_⟩
   ·rw[ao (av e hl),ao (av e hl)];exact s2 _ _ e
   ·rw[aj,←Ou,ints_app,ints_app];rfl
  ·rintro σ H2 ⟨v,rfl,s2,h2⟩;rw[show ((L:Int)+ 1 - 1).toNat=L by omega]at h2;exact⟨_,rfl,k l H2 s2 h2⟩
theorem vI (T:Txt K mg A):aK P w K mg base bq 2 A.nT A.nU ["letters"] CF:=by
 have Gr:aK P w K mg base bq 1 A.sr A.su ["letters"] CD:=DZ T;refine T.j6.F.ok DX (λvs H Q E h=>?_) (λbK AA outer s H vs Q E hr h=>?_)
 ·obtain⟨L,rfl,_⟩:=h;rfl
 ·obtain⟨L,rfl,jt,uz,k⟩:=h;refine⟨_,(aw (bM (di (iE rfl) rfl T.pC afj (ae (fb (fns:=[]) (ixs:=[]) (cl:=[]) rfl (eG (bp (Gr) (hr.mono (by decide)) rfl T.sx.m T.sx.F.kp T.sx.b .nil aP (ae (pv 0) ah))) (fM (by decide +kernel) (by decide +kernel) rfl (by decide +kernel) rfl) (λC s H ex=>(cM (ae (pv 0) (ae uQ ah))))) ah)))),?_⟩
  try dsimp only[bz,cD]
  refine⟨_,rfl,L,rfl,jt,uz,λl H1 s1 h1=>⟨l,rfl,⟨_,aI.of h1⟩,?_⟩⟩;have hn:(ak ((List.range (2* L)).map M12.st)).length=2* L:=by rw[aL,ad6,aeR]
  refine pV (α:=Unit) (2* L) (λi=>.int (M12.st i)) (λH2 v i=>∃p,v=.ref p/\H2 p=some (.tup [.int (M12.st i),.bl true])) (λH1 H2 v i s ⟨p,e,q⟩=>⟨p,e,s _ _ q⟩) ?_ (λi H2 s2 hi=>ua (aI.of (s2 _ _ h1)) i (by omega)) (λi x H2 H3 s2 hi y=>?_) (λH2 s2=>?_) (λi H2 Rr hi s2 kk=>?_) (λD H2 ys s2 hD hl hr=>?_)
  ·exact aep (show 2* L<=400 by omega) (by decide)
  ·obtain⟨e,hx⟩:=qV (aI.of (s2 _ _ h1)) i x H3 (by omega) y;refine⟨e,?_⟩;rw[show (ak ((List.range (2* L)).map M12.st))[i]?=some (.int (M12.st i)) from cI (Io hi)]at hx;exact(Option.some.inj hx).symm
  ·have:=oI (aI.of (K:=K) (s2 _ _ h1));rw[hn]at this;exact this
  ·refine⟨_,rfl,(by show 2<=sizeLine;decide),λt ht=>kk _ _ (au.upd ht) ⟨t,rfl,aj⟩⟩
  ·obtain⟨ps,rfl,sW⟩:=y6 (P:=λi p=>H2 p=some (.tup [.int (M12.st i),.bl true])) ys 0 (λi v hv=>by rw[Nat.zero_add];exact hr i v hv);have sD:au H2 (upd H2 D (.lst (ps.map V.ref))):=au.upd hD;rw[ad6]at hl;refine⟨D,ps,gK (cy (2* L)),rfl,aj,by rw[QG,mz,hl],λi p kv e1 e2=>?_,λd hd=>?_⟩
   ·have hi:i<2* L:=by rw[←hl];exact(ad4.mp e1).1
    have:=sW i p e1;rw[Nat.zero_add]at this;unfold gK at e2;rw[aeo,Io hi]at e2;rw[←Option.some.inj e2];exact sD _ _ this
   ·have e:mP [] (gK (cy (2* L)))=gK (cy (2* L)):=by
     rw[zJ _ _ ?_,List.nil_append];rw[List.nil_append];unfold gK;rw[ae8];exact afQ.mpr (List.Pairwise.imp (λ{a b} kI z=>kI (Sum.inl.inj z)) (Rm _))
    rw[e];have sd:au (upd H2 D (.lst (ps.map V.ref))) (upd (upd H2 D (.lst (ps.map V.ref))) d (.dK (gK (cy (2* L))))):=au.upd hd;have sa:=s1.trans (s2.trans sD);exact k d _ (sa.trans sd) (sa.free hd) aj
theorem iA (T:Txt K mg A):aK P w K mg base bq 1 A.fQ A.fS ["self","room","step"] (sF A.aq):=by
 refine T.dB.F.ok DY (λvs H Q E h=>?_) (λbK AA outer s H vs Q E hr h=>?_)
 ·obtain⟨r,S,a,c,z,rfl,_⟩:=h;rfl
 ·obtain⟨r,S,a,c,z,rfl,h,hc,k⟩:=h;have ku:=jJ hr;refine⟨_,(aw (bM (J0 ku (bJ bR (aF (pv 0) rfl) (pv 1) (λ_ _=>rfl)) (pv 2) ⟨rfl,rfl,rfl,rfl⟩))),?_⟩
  try dsimp only[bz,cD]
  have hl:S.ways[c]?=some (S.way c):=by unfold RS.way;rw[ad2,adX hc];rfl
  obtain⟨p,hp,hd⟩:=h.rW.at hl;refine⟨_,rfl,r,_,a.dx,_,_,rfl,h.ins,aH T,T.jG,jc _ _ _,_,rfl,a.aW,_,_,_,rfl,rfl,aI.of h.hW,fq hp,p,rfl,.inl ⟨_,.inl hd⟩,_,rfl,_,jw.k (k:=Sum.inl z) hd,?_⟩;rw[mQ];exact k
theorem jo (T:Txt K mg A):aK P w K mg base bq 1 A.fI A.fJ ["self","room"] (rB A.aq):=by
 refine T.dy.F.ok zc (λvs H Q E h=>?_) (λbK AA outer s H vs Q E hr h=>?_)
 ·obtain⟨r,S,a,c,e,rfl,_⟩:=h;rfl
 ·obtain⟨r,S,a,c,e,rfl,h,he,k⟩:=h;refine⟨_,(aw (bM (bJ bR (aF (pv 0) rfl) (pv 1) (λ_ _=>rfl)))),?_⟩
  try dsimp only[bz,cD]
  exact⟨_,rfl,r,_,a.dx,_,_,rfl,h.ins,aH T,T.j8,ke _ _ _,_,rfl,a.aE,_,_,_,rfl,rfl,aI.of h.hE,c9 (cI (rh he)),k⟩
theorem rD {S:RS}{c:Nat}(h:c<S.ways.length):S.ways[c]?=some (S.way c):=by unfold RS.way;rw[ad2,adX h];rfl
theorem CJ {S:RS}{c:Nat}(h:c<S.gaps.length):S.gaps[c]?=some (S.gap c):=by unfold RS.gap;rw[ad2,adX h];rfl
theorem CK {S:RS}{c n:Nat}(h:∀l∈S.ways,l.length<=n):(S.way c).length<=n:=by
 unfold RS.way;rw[ad2]
 cases e:S.ways[c]? with
 |none=>exact aeA _
 |some l=>exact h l (adY e)
theorem Md {a:RA}{r p:Addr}{i:Nat}(h:a.ws[i]?=some p):a.own r p:=.inr (.inr (dM (adY h)))
theorem U9 {a:RA}{r p:Addr}{i:Nat}(h:a.gs[i]?=some p):a.own r p:=.inr (.inr (gE (adY h)))
theorem dg.upd {a:RA}{r p:Addr}{H:Hp}{o:HO}(h:a.own r p):dg a r H (upd H p o):=λb u hb e=>by rw[ao (λz=>hb (by rw[z];exact h))];exact e
theorem dg.trans {a:RA}{r:Addr}{H H1 H2:Hp}(h:dg a r H H1)(h':dg a r H1 H2):dg a r H H2:=λb u hb e=>h' b u hb (h b u hb e)
theorem sZ (T:Txt K mg A):aK P w K mg base bq 1 A.kZ A.k8 ["self","room","step","other"] (CH A.aq):=by
 refine T.lA.F.ok Au (λvs H Q E h=>?_) (λbK AA outer s H vs Q E hr h=>?_)
 ·obtain⟨r,S,a,c,d,z,rfl,_⟩:=h;rfl
 ·obtain⟨r,S,a,c,d,z,rfl,h,hw,hc,hd,hz,k⟩:=h;have ku:=jJ hr
  refine⟨_,(ai (yR ku (bJ bR (aF (pv 0) rfl) (pv 1) (λ_ _=>rfl)) (pv 2) (pv 3) rfl)
   (ai (yR ku (bJ bR (aF (pv 0) rfl) (pv 3) (λ_ _=>rfl)) (gg eR (pv 2)) (pv 1) rfl)
   (ai (aX (wg (bJ bR (aF (pv 0) rfl) (pv 1) (λ_ _=>rfl)) (pv 2) iN ⟨rfl,rfl,rfl,rfl⟩))
   (aw (aX (wg (bJ bR (aF (pv 0) rfl) (pv 3) (λ_ _=>rfl)) (gg eR (pv 2)) iN ⟨rfl,rfl,rfl,rfl⟩)))))),?_⟩
  try dsimp only[bz,cD]
  refine jV ?_;intro lD gL fD;obtain⟨p,hp,hP⟩:=h.rW.at (rD (S:=S) (c:=c) (by rw[hw.w];exact hc));have b1:(S.way c).length<=100000:=CK hz;refine⟨_,rfl,_,rfl,r,_,a.dx,_,_,rfl,h.ins,aH T,T.jG,jc _ _ _,_,rfl,a.aW,_,_,_,rfl,rfl,aI.of h.hW,fq hp,_,rfl,p,_,rfl,wc.k (k:=Sum.inl z) hP (by rw[BX];exact aec b1 (by decide)),?_⟩;rw[BZ];have h1:ay A.aq _ r (S.dD c z d) a:=h.B7 hp (jx (S.way c) z d);have u1:dg a r H (upd H p (.dK (wK (jx (S.way c) z d)))):=dg.upd (Md hp);generalize upd H p (.dK (wK (jx (S.way c) z d)))=H1 at h1 u1 ⊢;have w1:(S.dD c z d).ways.length=S.made:=by show (S.ways.set c _).length=_;rw[aew,hw.w]
  obtain⟨q,hq,hQ⟩:=h1.rW.at (rD (S:=S.dD c z d) (c:=d) (by rw[w1];exact hd))
  have b2:((S.dD c z d).way d).length<=100001:=CK λl hl=>by
   rcases af1 hl with hl|rfl
   ·exact Nat.le_succ_of_le (hz l hl)
   ·exact aep (Ki _ _ _) (by omega)
  refine⟨_,rfl,_,rfl,r,_,a.dx,_,_,rfl,h1.ins,aH T,T.jG,jc _ _ _,_,rfl,a.aW,_,_,_,rfl,rfl,aI.of h1.hW,fq hq,_,rfl,_,rfl,q,_,rfl,wc.k (k:=Sum.inl (-z)) hQ (by rw[BX];exact aec b2 (by decide)),?_⟩;rw[BZ];have h2:ay A.aq _ r ((S.dD c z d).dD d (-z) c) a:=h1.B7 hq (jx ((S.dD c z d).way d) (-z) c);have u2:dg a r H1 (upd H1 q (.dK (wK (jx ((S.dD c z d).way d) (-z) c)))):=dg.upd (Md hq);generalize upd H1 q (.dK (wK (jx ((S.dD c z d).way d) (-z) c)))=H2 at h2 u2 ⊢;generalize e2:(S.dD c z d).dD d (-z) c=S2 at h2 ⊢;have g2:S2.gaps.length=S.made:=by rw[←e2];exact hw.g
  obtain⟨p3,dm,VY⟩:=h2.rG.at (CJ (S:=S2) (c:=c) (by rw[g2];exact hc))
  have pop:∀{H:Hp} {S:RS} {c:Nat} {z:Int} {p:Addr},ay A.aq H r S a->a.gs[c]?=some p->H p=some (.dK (gK (S.gap c)))->∀{Q:V->Hp->Prop},(∀v H',dg a r H H'->ay A.aq H' r (S.vb c z) a->Q v H')->
   ∃(kvs:List (Key×V)) (k:Key),H p=some (.dK kvs)/\V.int z=kV k/\(∀v,bD kvs k=some v->Q v (upd H p (.dK (eT kvs k))))/\(bD kvs k=none->Q .non H):=by
   intro H S c z p h hp hP Q hQ;refine⟨_,Sum.inl z,hP,rfl,?_⟩;rw[HN,N4];by_cases hm:z∈S.gap c
   ·rw[ael hm];exact⟨λv _=>hQ _ _ (dg.upd (U9 hp)) (h.QK hp _),λz=>by cases z⟩
   ·rw[aed hm];refine⟨λv z=>(by cases z),λ_=>hQ _ _ (λ_ _ _ e=>e) ?_⟩;have e:(S.gap c).filter (λx=>decide (x≠z))=S.gap c:=List.filter_eq_self.mpr λx hx=>aey λz=>hm (z ▸ hx)
    have hl:c<S.gaps.length:=by rw[←h.rG.1];exact(ad4.mp hp).1
    have:S.vb c z=S:=by
     unfold RS.vb RS.setG;rw[e]
     have es:S.gaps.set c (S.gap c)=S.gaps:=agZ λi=>by
      by_cases hi:c=i
      ·subst hi;rw[aeH hl,CJ hl]
      ·rw[ae3 hi]
     rw[es]
    rw[this];exact h
  refine⟨_,rfl,r,_,a.dx,_,_,rfl,h2.ins,aH T,T.ye,y4 _ _ _,_,rfl,a.aG,_,_,_,rfl,rfl,aI.of h2.hG,fq dm,p3,rfl,.inl ⟨_,.inl VY⟩,_,rfl,pop h2 dm VY λv H3 u3 h3=>?_⟩;generalize e3:S2.vb c z=S3 at h3;have g3:S3.gaps.length=S.made:=by rw[←e3];show (S2.gaps.set c _).length=_;rw[aew,g2]
  obtain⟨p4,Iy,zY⟩:=h3.rG.at (CJ (S:=S3) (c:=d) (by rw[g3];exact hd));refine⟨_,rfl,r,_,a.dx,_,_,rfl,h3.ins,aH T,T.ye,y4 _ _ _,_,rfl,a.aG,_,_,_,rfl,rfl,aI.of h3.hG,fq Iy,p4,rfl,.inl ⟨_,.inl zY⟩,_,rfl,_,rfl,pop h3 Iy zY λv H4 u4 h4=>?_⟩;refine k H4 (u1.trans (u2.trans (u3.trans u4))) ?_;rw[←e3,←e2]at h4;exact h4
theorem vm (T:Txt K mg A):aK P w K mg base bq 3 A.hU A.j5 ["self","letters"] (Ma A.aq):=by
 have sG:aK P w K mg base bq 2 A.nT A.nU ["letters"] CF:=vI T;refine T.jl.F.ok vj (λvs H Q E h=>?_) (λbK AA outer s H vs Q E hr h=>?_)
 ·obtain⟨x,dx,L,rfl,_⟩:=h;rfl
 ·obtain⟨x,dx,L,rfl,hx,jt,uz,k⟩:=h
  refine⟨_,(ai (cu (pv 0) (pv 1) rfl)
   (ai (cu (pv 0) aB rfl)
   (ai (cu (pv 0) (cR ah) rfl)
   (ai (cu (pv 0) (cR (ae fX ah)) rfl)
   (ai (cu (pv 0) (cR (ae (bp (sG) (hr.mono (by decide)) rfl T.j6.m T.j6.F.kp T.j6.b .nil aP (ae (pv 1) ah)) ah)) rfl)
   (ai (cu (pv 0) (cR (ae aB ah)) rfl)
   (ai (cu (pv 0) (cR (ae (cR (ae aB ah)) ah)) rfl)
   (aw (cu (pv 0) (cR ah) rfl))))))))),?_⟩
  try dsimp only[bz,cD]
  refine Cj ?_;intro Rn CL vJ tf lD gL fD
  have st:∀{H0:Hp} {fs:List (Str×V)} {f:Str} {v:V},H0 x=some (.ins A.aq dx fs)->(∀b o,H b=some o->b≠x->H0 b=some o)->upd H0 x (.ins A.aq dx (bW f v fs)) x=some (.ins A.aq dx (bW f v fs))/\(∀b o,H b=some o->b≠x->upd H0 x (.ins A.aq dx (bW f v fs)) b=some o)/\∀b o,b≠x->H0 b=some o->upd H0 x (.ins A.aq dx (bW f v fs)) b=some o:=
   λ_ h=>⟨aj,λb o e n=>by rw[ao n];exact h b o e n,λb o n e=>by rw[ao n];exact e⟩
  refine⟨_,rfl,_,rfl,x,_,dx,_,rfl,hx,aH T,T.zX,(by show 0<1000;decide),?_⟩;obtain⟨x1,o1,-⟩:=st (f:="letters") (v:=.int L) hx (λb o e _=>e);generalize upd H x (.ins A.aq dx (bW "letters" (.int L) []))=H1 at x1 o1 ⊢;have f1:(bW "letters" (.int L) ([]:List (Str×V))).length<=1:=kh (n:=0) (ad7 _);refine⟨_,rfl,x,_,dx,_,rfl,x1,aH T,T.uw,aec f1 (by decide),?_⟩;obtain⟨x2,o2,-⟩:=st (f:="made") (v:=.int 1) x1 o1;have f2:=kh (f:="made") (v:=.int 1) f1;generalize e2:bW "made" (.int 1) (bW "letters" (.int L) [])=VZ at x2 o2 f2 ⊢;generalize upd H1 x (.ins A.aq dx VZ)=H2 at x2 o2 ⊢;refine⟨aeA _,λaR nR=>⟨_,rfl,x,_,dx,_,rfl,au.upd nR _ _ x2,aH T,T.yd,aec f2 (by decide),?_⟩⟩;have V0:upd H2 aR (.lst []) aR=some (.lst []):=aj;have CM:aR≠x:=(av x2 nR).symm;have s3:=au.upd (o:=.lst []) nR
  have n0:∀{b:Addr} {H0:Hp},(∀c o,H c=some o->c≠x->H0 c=some o)->H0 b=none->b≠x->H b=none:=λ{b H0} h n nx=>by
   cases e:H b with
   |none=>rfl
   |some o=>rw[h b o e nx]at n;cases n
  have kR:=n0 o2 nR CM;generalize upd H2 aR (.lst [])=H3 at V0 s3 ⊢;obtain⟨x4,o4,k4⟩:=st (f:="rows") (v:=.ref aR) (s3 _ _ x2) (λb o e n=>s3 _ _ (o2 b o e n));have f4:=kh (f:="rows") (v:=.ref aR) f2;generalize e4:bW "rows" (.ref aR) VZ=V1 at x4 o4 f4 k4 ⊢;have Ro:=k4 _ _ CM V0;generalize upd H3 x (.ins A.aq dx V1)=H4 at x4 o4 Ro ⊢;intro wd zZ;have zf:wd≠x:=(av x4 zZ).symm;have Mf:=n0 o4 zZ zf;have s5:=au.upd (o:=.dK []) zZ;have Rp:upd H4 wd (.dK []) wd=some (.dK []):=aj;generalize upd H4 wd (.dK [])=H5 at s5 Rp ⊢;refine⟨(by show 1<=sizeLine;decide),λaW nW=>⟨_,rfl,x,_,dx,_,rfl,au.upd nW _ _ (s5 _ _ x4),aH T,T.jG,aec f4 (by decide),?_⟩⟩;have EW:aW≠x:=(av (s5 _ _ x4) nW).symm;have kW:=n0 (λb o e n=>s5 _ _ (o4 b o e n)) nW EW;have nWR:aW≠aR:=(av (s5 _ _ Ro) nW).symm;have s6:=au.upd (o:=.lst [.ref wd]) nW;have V2:upd H5 aW (.lst [.ref wd]) aW=some (.lst [.ref wd]):=aj;generalize upd H5 aW (.lst [.ref wd])=H6 at s6 V2 ⊢;obtain⟨x7,o7,k7⟩:=st (f:="ways") (v:=.ref aW) (s6 _ _ (s5 _ _ x4)) (λb o e n=>s6 _ _ (s5 _ _ (o4 b o e n)));have f7:=kh (f:="ways") (v:=.ref aW) f4;generalize e7:bW "ways" (.ref aW) V1=V3 at x7 o7 f7 k7 ⊢;have Rq:=k7 _ _ CM (s6 _ _ (s5 _ _ Ro));have Rt:=k7 _ _ EW V2;have KD:=k7 _ _ zf (s6 _ _ Rp);generalize upd H6 x (.ins A.aq dx V3)=H7 at x7 o7 Rq Rt KD ⊢;refine⟨_,rfl,L,rfl,jt,uz,λgd H8 s8 CN Zi=>?_⟩;have CP:gd≠x:=(av x7 CN).symm;have Ru:=n0 o7 CN CP;have ngw:gd≠wd:=(av KD CN).symm;refine⟨(by show 1<=sizeLine;decide),λaG nG=>⟨_,rfl,x,_,dx,_,rfl,au.upd nG _ _ (s8 _ _ x7),aH T,T.ye,aec f7 (by decide),?_⟩⟩;have Iz:aG≠x:=(av (s8 _ _ x7) nG).symm;have kG:=n0 (λb o e n=>s8 _ _ (o7 b o e n)) nG Iz;have nGR:aG≠aR:=(av (s8 _ _ Rq) nG).symm;have nGW:aG≠aW:=(av (s8 _ _ Rt) nG).symm;have s9:=au.upd (o:=.lst [.ref gd]) nG;have V4:upd H8 aG (.lst [.ref gd]) aG=some (.lst [.ref gd]):=aj;generalize upd H8 aG (.lst [.ref gd])=H9 at s9 V4 ⊢;obtain⟨x10,Aa,EX⟩:=st (f:="gaps") (v:=.ref aG) (s9 _ _ (s8 _ _ x7)) (λb o e n=>s9 _ _ (s8 _ _ (o7 b o e n)));have pZ:=kh (f:="gaps") (v:=.ref aG) f7;generalize e10:bW "gaps" (.ref aG) V3=Rw at x10 Aa pZ EX ⊢;have KG:=EX _ _ CM (s9 _ _ (s8 _ _ Rq));have KH:=EX _ _ EW (s9 _ _ (s8 _ _ Rt));have Mg:=EX _ _ zf (s9 _ _ (s8 _ _ KD));have KJ:=EX _ _ Iz V4;have Mh:=EX _ _ CP (s9 _ _ Zi);generalize upd H9 x (.ins A.aq dx Rw)=vK at x10 Aa KG KH Mg KJ Mh ⊢;refine⟨by decide,λaE nE=>⟨_,rfl,x,_,dx,_,rfl,au.upd nE _ _ x10,aH T,T.j8,aec pZ (by decide),?_⟩⟩;have Mi:aE≠x:=(av x10 nE).symm;have kE:=n0 Aa nE Mi;have nER:aE≠aR:=(av KG nE).symm;have nEW:aE≠aW:=(av KH nE).symm;have nEG:aE≠aG:=(av KJ nE).symm;have tj:=au.upd (o:=.lst [.int 0]) nE;have Rx:upd vK aE (.lst [.int 0]) aE=some (.lst [.int 0]):=aj;generalize upd vK aE (.lst [.int 0])=IA at tj Rx ⊢;obtain⟨EY,IB,CQ⟩:=st (f:="elders") (v:=.ref aE) (tj _ _ x10) (λb o e n=>tj _ _ (Aa b o e n));have EZ:=kh (f:="elders") (v:=.ref aE) pZ;generalize e12:bW "elders" (.ref aE) Rw=Ry at EY IB EZ CQ ⊢;have Gs:=CQ _ _ CM (tj _ _ KG);have Gu:=CQ _ _ EW (tj _ _ KH);have Mj:=CQ _ _ zf (tj _ _ Mg);have Gv:=CQ _ _ Iz (tj _ _ KJ);have Ml:=CQ _ _ CP (tj _ _ Mh);have Gw:=CQ _ _ Mi Rx;generalize upd IA x (.ins A.aq dx Ry)=V5 at EY IB Gs Gu Mj Gv Ml Gw ⊢;refine⟨by decide,λcl p8=>⟨(by show 1<=sizeLine;decide),λaC nC=>⟨_,rfl,x,_,dx,_,rfl,au.upd nC _ _ (au.upd p8 _ _ EY),aH T,T.pD,aec EZ (by decide),?_⟩⟩⟩;have KL:cl≠x:=(av EY p8).symm;have Rz:=n0 IB p8 KL;have ncR:cl≠aR:=(av Gs p8).symm;have ncW:cl≠aW:=(av Gu p8).symm;have ncG:cl≠aG:=(av Gv p8).symm;have ncE:cl≠aE:=(av Gw p8).symm;have pH:=au.upd (o:=.lst [.int 0]) p8;have Gx:upd V5 cl (.lst [.int 0]) cl=some (.lst [.int 0]):=aj;generalize upd V5 cl (.lst [.int 0])=V6 at pH Gx nC ⊢;have RB:aC≠x:=(av (pH _ _ EY) nC).symm;have kC:=n0 (λb o e n=>pH _ _ (IB b o e n)) nC RB;have nCR:aC≠aR:=(av (pH _ _ Gs) nC).symm;have nCW:aC≠aW:=(av (pH _ _ Gu) nC).symm;have nCG:aC≠aG:=(av (pH _ _ Gv) nC).symm;have nCE:aC≠aE:=(av (pH _ _ Gw) nC).symm;have nCc:aC≠cl:=(av Gx nC).symm;have lJ:=au.upd (o:=.lst [.ref cl]) nC;have RC:upd V6 aC (.lst [.ref cl]) aC=some (.lst [.ref cl]):=aj;generalize upd V6 aC (.lst [.ref cl])=H14 at lJ RC ⊢;obtain⟨IC,Mm,yj⟩:=st (f:="called") (v:=.ref aC) (lJ _ _ (pH _ _ EY)) (λb o e n=>lJ _ _ (pH _ _ (IB b o e n)));have IE:=kh (f:="called") (v:=.ref aC) EZ;generalize e15:bW "called" (.ref aC) Ry=RD at IC Mm IE yj ⊢;have KN:=yj _ _ CM (lJ _ _ (pH _ _ Gs));have KP:=yj _ _ EW (lJ _ _ (pH _ _ Gu));have Mp:=yj _ _ zf (lJ _ _ (pH _ _ Mj));have KQ:=yj _ _ Iz (lJ _ _ (pH _ _ Gv));have Mq:=yj _ _ CP (lJ _ _ (pH _ _ Ml));have KR:=yj _ _ Mi (lJ _ _ (pH _ _ Gw));have Gy:=yj _ _ KL (lJ _ _ Gx);have KS:=yj _ _ RB RC;generalize upd H14 x (.ins A.aq dx RD)=V7 at IC Mm KN KP Mp KQ Mq KR Gy KS ⊢;refine⟨aeA _,λaN nN=>⟨_,rfl,x,_,dx,_,rfl,au.upd nN _ _ IC,aH T,T.ux,aec IE (by decide),?_⟩⟩;have V8:aN≠x:=(av IC nN).symm;have kN:=n0 Mm nN V8;have nNR:aN≠aR:=(av KN nN).symm;have nNW:aN≠aW:=(av KP nN).symm;have nNG:aN≠aG:=(av KQ nN).symm;have nNE:aN≠aE:=(av KR nN).symm;have nNC:aN≠aC:=(av KS nN).symm;have nNc:aN≠cl:=(av Gy nN).symm;have uA:=au.upd (o:=.lst []) nN;have RG:upd V7 aN (.lst []) aN=some (.lst []):=aj;generalize upd V7 aN (.lst [])=H16 at uA RG ⊢;obtain⟨V9,Wa,vL⟩:=st (f:="went") (v:=.ref aN) (uA _ _ IC) (λb o e n=>uA _ _ (Mm b o e n))
  have ef:bW "went" (.ref aN) RD=fE (L:Int) 1 ⟨dx,aR,aW,aG,aE,aC,aN,[],[wd],[gd],[cl]⟩:=by
   rw[←e15,←e12,←e10,←e7,←e4,←e2]
   kernel_rfl
  rw[ef]at V9 Wa vL ⊢;refine k ⟨dx,aR,aW,aG,aE,aC,aN,[],[wd],[gd],[cl]⟩ _ Wa ⟨V9,vL _ _ CM (uA _ _ KN),vL _ _ EW (uA _ _ KP),vL _ _ Iz (uA _ _ KQ),vL _ _ Mi (uA _ _ KR),vL _ _ RB (uA _ _ KS),vL _ _ V8 RG,⟨rfl,(λi p d h=>by simp at h)⟩,?_,?_,?_,(λd hd=>by cases hd),?_,?_⟩ ?_
  ·exact Each.snoc (ps:=[]) (xs:=[]) ⟨rfl,λi p d h=>by simp at h⟩ (vL _ _ zf (uA _ _ Mp))
  ·exact Each.snoc (ps:=[]) (xs:=[]) ⟨rfl,λi p d h=>by simp at h⟩ (vL _ _ CP (uA _ _ Mq))
  ·exact Each.snoc (ps:=[]) (xs:=[]) ⟨rfl,λi p d h=>by simp at h⟩ (vL _ _ KL (uA _ _ Gy))
  ·show [aR,aW,aG,aE,aC,aN,cl].Nodup;simp only[aeJ,aea,aeT,agj,not_or,afE,and_true,agc];exact⟨⟨nWR.symm,nGR.symm,nER.symm,nCR.symm,nNR.symm,ncR.symm⟩,⟨nGW.symm,nEW.symm,nCW.symm,nNW.symm,ncW.symm⟩,⟨nEG.symm,nCG.symm,nNG.symm,ncG.symm⟩,⟨nCE.symm,nNE.symm,ncE.symm⟩,⟨nNC.symm,nCc⟩,nNc⟩
  ·show [wd,gd].Nodup;simp only[aeJ,aea,aeT,agj,afE,and_true,agc];exact ngw.symm
  ·intro b hb;rcases hb with rfl|hb|hb
   ·exact .inl rfl
   ·simp only[RA.lists,aea,aeT,agj]at hb;rcases hb with rfl|rfl|rfl|rfl|rfl|rfl|rfl <;> exact .inr (by assumption)
   ·simp only[RA.eV,aei,aea,aeT,agj]at hb;rcases hb with rfl|rfl <;> exact .inr (by assumption)
theorem _root_.L2.ay.yk {C:Addr}{H:Hp}{r:Addr}{S:RS}{a:RA}(h:ay C H r S a){p:Addr}(hp:H p=none):¬a.own r p:=λz=>by
 obtain⟨o,e⟩:=h.there z;rw[hp]at e;cases e
theorem Av (T:Txt K mg A):aK P w K mg base bq 3 A.pz A.pA ["self","room","step"] (Ip A.aq):=by
 have pI:aK P w K mg base bq 1 A.kZ A.k8 ["self","room","step","other"] (CH A.aq):=sZ T;have sG:aK P w K mg base bq 2 A.nT A.nU ["letters"] CF:=vI T;refine T.sA.F.ok sY (λvs H Q E h=>?_) (λbK AA outer s H vs Q E hr h=>?_)
 ·obtain⟨r,S,a,c,z,rfl,_⟩:=h;rfl
 ·obtain⟨r,S,a,c,z,rfl,h,hw,jt,uz,hc,hm,p9,hz,k⟩:=h
  refine⟨_,(ai (aZ (i:=3) sY.nd rfl (Or.inl rfl) (aF (pv 0) rfl))
   (ai (cu (pv 0) (aV dC (pv 3) aB) rfl)
   (ai (aX (dk aeg aeq aer b6 (aF (pv 0) rfl) (ae (cM (ae (uT (l:=[110,101,119]) rfl) (ae (pv 1) (ae (pv 2) (ae (pv 3) ah))))) ah)))
   (ai (aX (dk aeg aeq aer b6 (aF (pv 0) rfl) (ae fX ah)))
   (ai (aX (dk aeg aeq aer b6 (aF (pv 0) rfl) (ae (bp (sG) (hr.mono (by decide)) rfl T.j6.m T.j6.F.kp T.j6.b .nil aP (ae (aF (pv 0) rfl) ah)) ah)))
   (ai (aX (dk aeg aeq aer b6 (aF (pv 0) rfl) (ae (pv 3) ah)))
   (ai (aX (dk aeg aeq aer b6 (aF (pv 0) rfl) (ae (cR (ae (pv 3) ah)) ah)))
   (ai (aX (bH (pv 0) (aH T) T.lA.m (pI) (hr.mono (by decide)) T.lA.b .nil aP (ae (pv 1) (ae (pv 2) (ae (pv 3) ah)))))
   (aw (bM (pv 3))))))))))),?_⟩
  try dsimp only[bz,cD]
  refine Kl ?_;intro u_8 Rn CL vJ tf lD gL fD;refine⟨_,rfl,r,_,a.dx,_,_,rfl,h.ins,aH T,T.uw,yZ _ _ _,?_⟩;refine⟨_,rfl,_,_,rfl,rfl,_,rfl,r,_,a.dx,_,rfl,h.ins,aH T,T.uw,(by show 8<1000;decide),?_⟩;rw[HP,show (S.made:Int)+ 1=((S.made+ 1:Nat):Int) by omega];have h1:=h.N5 (S.made+ 1);have u1:dg a r H (upd H r (.ins A.aq a.dx (fE S.L ((S.made+ 1:Nat):Int) a))):=dg.upd (.inl rfl);generalize upd H r (.ins A.aq a.dx (fE S.L ((S.made+ 1:Nat):Int) a))=H1 at h1 u1 ⊢;have lR:(a.rs.map V.ref).length<sizeLine:=by rw[ad6,h.rR.1];exact aec p9 (by decide)
  refine⟨_,rfl,r,_,a.dx,_,_,rfl,h1.ins,aH T,T.yd,y3 _ _ _,.inl ⟨rfl,_,aI.of h1.hR⟩,_,rfl,_,rfl,_,rfl,(by show 4<=sizeLine;decide),λt ht=>⟨a.aR,_,_,rfl,rfl,au.upd ht _ _ h1.hR,lR,?_⟩⟩;have s2:=au.upd (o:=.tup [.str (tx [110,101,119]),.int c,.int z,.int S.made]) ht;have Wb:upd H1 t (.tup [.str (tx [110,101,119]),.int c,.int z,.int S.made]) t=some (.tup [.str (tx [110,101,119]),.int c,.int z,.int S.made]):=aj;generalize upd H1 t (.tup [.str (tx [110,101,119]),.int c,.int z,.int S.made])=H2 at s2 Wb ⊢
  have hd2:ck H2 4 (.ref t) (B8 c z S.made):=by
   refine .t Wb rfl λj v d e1 e2=>?_
   rcases j with _|_|_|_|j
   ·simp at e1 e2;subst e1 e2;exact .s
   ·simp at e1 e2;subst e1 e2;exact .i
   ·simp at e1 e2;subst e1 e2;exact .i
   ·simp at e1 e2;subst e1 e2;exact .i
   ·simp at e1
  have nl:mR (B8 c z S.made):=.t (by show 4<=100000;decide) λd hd=>by
   simp only[aea,aeT,agj]at hd;rcases hd with rfl|rfl|rfl|rfl
   ·exact .s
   ·exact .i
   ·exact .i
   ·exact .i
  have h3:=(h1.same s2).B6 hd2 nl;have u3:dg a r H2 (upd H2 a.aR (.lst (a.rs.map V.ref++[.ref t]))):=dg.upd (.inr (.inl gj));generalize upd H2 a.aR (.lst (a.rs.map V.ref++[.ref t]))=H3 at h3 u3 ⊢;generalize RH:({ a with rs:=a.rs++[t] }:RA)=a3 at h3;have KW:∀b,a3.own r b->a.own r b:=λb hb=>by rw[←RH]at hb;exact hb
  have ac7:∀b,a.own r b->a3.own r b:=λb hb=>by rw[←RH];exact hb
  have ewG:a3.dx=a.dx:=by rw[←RH]
  have U3:dg a r H H3:=u1.trans (λb o hb e=>u3 b o hb (s2 _ _ e));refine⟨_,rfl,r,_,a3.dx,_,_,rfl,h3.ins,aH T,T.jG,jc _ _ _,.inl ⟨rfl,_,aI.of h3.hW⟩,?_⟩;intro wd zZ;have hdW:(a3.ws.map V.ref).length<sizeLine:=by rw[ad6,h3.rW.1];show S.ways.length<sizeLine;rw[hw.w];exact aec hm (by decide)
  have s4:=au.upd (o:=.dK []) zZ;have Gz:upd H3 wd (.dK []) wd=some (.dK (wK [])):=aj;have Zj:=h3.yk zZ;refine⟨a3.aW,_,_,rfl,rfl,s4 _ _ h3.hW,hdW,?_⟩;generalize upd H3 wd (.dK [])=H4 at s4 Gz ⊢;have h5:=(h3.same s4).QI Gz (λz=>Zj (.inr (.inr z)));have u5:dg a3 r H4 (upd H4 a3.aW (.lst (a3.ws.map V.ref++[.ref wd]))):=dg.upd (.inr (.inl gk));generalize upd H4 a3.aW (.lst (a3.ws.map V.ref++[.ref wd]))=H5 at h5 u5 ⊢;generalize ea5:({ a3 with ws:=a3.ws++[wd] }:RA)=a5 at h5
  have CT:∀b,a5.own r b->a3.own r b\/b=wd:=λb hb=>by
   rw[←ea5]at hb;rcases hb with hb|hb|hb
   ·exact .inl (.inl hb)
   ·exact .inl (.inr (.inl hb))
   ·simp only[RA.eV,aei,ad1]at hb;rcases hb with (hb|hb)|hb
    ·exact .inl (.inr (.inr (aex _ hb)))
    ·exact .inr hb
    ·exact .inl (.inr (.inr (ad5 _ hb)))
  have Mf:H wd=none\/a.own r wd:=by
   by_cases ho:a.own r wd
   ·exact .inr ho
   ·refine .inl ?_
    cases e:H wd with
    |none=>rfl
    |some o=>rw[U3 wd o ho e]at zZ;cases zZ
  have U5:dg a r H H5:=U3.trans λb o hb e=>u5 b o (λz=>hb (KW b z)) (s4 _ _ e)
  refine⟨_,rfl,r,_,a5.dx,_,_,rfl,h5.ins,aH T,T.ye,y4 _ _ _,.inl ⟨rfl,_,aI.of h5.hG⟩,_,rfl,r,_,a5.dx,_,_,rfl,h5.ins,aH T,T.zX,Ga _ _ _,S.L,rfl,jt,uz,λgd H6 s6 CN Zk=>?_⟩;have hdG:(a5.gs.map V.ref).length<sizeLine:=by rw[ad6,h5.rG.1];show S.gaps.length<sizeLine;rw[hw.g];exact aec hm (by decide)
  have h6:=h5.same s6;have Zm:=h5.yk CN;refine⟨a5.aG,_,_,rfl,rfl,h6.hG,hdG,?_⟩;have h7:=h6.QJ Zk (λz=>Zm (.inr (.inr z)));have u7:dg a5 r H6 (upd H6 a5.aG (.lst (a5.gs.map V.ref++[.ref gd]))):=dg.upd (.inr (.inl jK));generalize upd H6 a5.aG (.lst (a5.gs.map V.ref++[.ref gd]))=H7 at h7 u7 ⊢;generalize ea7:({ a5 with gs:=a5.gs++[gd] }:RA)=a7 at h7
  have RJ:∀b,a7.own r b->a5.own r b\/b=gd:=λb hb=>by
   rw[←ea7]at hb;rcases hb with hb|hb|hb
   ·exact .inl (.inl hb)
   ·exact .inl (.inr (.inl hb))
   ·simp only[RA.eV,aei,ad1]at hb;rcases hb with hb|hb|hb
    ·exact .inl (.inr (.inr (aex _ hb)))
    ·exact .inl (.inr (.inr (ad5 _ hb)))
    ·exact .inr hb
  have w5:H wd=none\/a.own r wd:=Mf
  have RK:∀b o,¬a.own r b->H b=some o->¬a5.own r b:=λb o hb e z=>by
   rcases CT b z with z|rfl
   ·exact hb (KW b z)
   ·rcases Mf with q|q
    ·rw[q]at e;cases e
    ·exact hb q
  have U7:dg a r H H7:=λb o hb e=>u7 b o (RK b o hb e) (s6 _ _ (U5 b o hb e))
  have Ru:H gd=none\/a.own r gd:=by
   by_cases ho:a.own r gd
   ·exact .inr ho
   ·refine .inl ?_
    cases e:H gd with
    |none=>rfl
    |some o=>rw[U5 gd o ho e]at CN;cases CN
  refine⟨_,rfl,r,_,a7.dx,_,_,rfl,h7.ins,aH T,T.j8,ke _ _ _,.inl ⟨rfl,_,aI.of h7.hE⟩,_,rfl,a7.aE,_,_,rfl,rfl,h7.hE,?_,?_⟩
  ·rw[aL,cX];show S.bI.length<sizeLine;rw[hw.e];exact aec hm (by decide)
  have eE:ak (nI S.bI)++[V.int (S.made:Int)]=ak (nI (S.bI++[S.made])):=by rw[kJ,ints_app];rfl
  show _;have h8:=h7.zK (S.bI++[S.made]);rw[←eE]at h8;have u8:dg a7 r H7 (upd H7 a7.aE (.lst (ak (nI S.bI)++[V.int (S.made:Int)]))):=dg.upd (.inr (.inl gZ));generalize upd H7 a7.aE (.lst (ak (nI S.bI)++[V.int (S.made:Int)]))=H8 at h8 u8 ⊢
  have KY:∀b o,¬a.own r b->H b=some o->¬a7.own r b:=λb o hb e z=>by
   rcases RJ b z with z|rfl
   ·exact RK b o hb e z
   ·rcases Ru with q|q
    ·rw[q]at e;cases e
    ·exact hb q
  have U8:dg a r H H8:=λb o hb e=>u8 b o (KY b o hb e) (U7 b o hb e)
  refine⟨_,rfl,r,_,a7.dx,_,_,rfl,h8.ins,aH T,T.pD,pU _ _ _,.inl ⟨rfl,_,aI.of h8.hC⟩,_,rfl,(by show 1<=sizeLine;decide),λcl p8=>⟨a7.aC,_,_,rfl,rfl,au.upd p8 _ _ h8.hC,?_,?_⟩⟩
  ·rw[ad6,h8.rC.1];show S.called.length<sizeLine;rw[hw.c];exact aec hm (by decide)
  have s9:=au.upd (o:=.lst [.int (S.made:Int)]) p8;have RL:upd H8 cl (.lst [.int (S.made:Int)]) cl=some (.lst (ak (nI [S.made]))):=aj;have Zn:=h8.yk p8;generalize upd H8 cl (.lst [.int (S.made:Int)])=H9 at s9 RL ⊢;have CV:=(h8.same s9).HR RL (λz=>Zn (.inr (.inl z)));have L5:dg a7 r H9 (upd H9 a7.aC (.lst (a7.cs.map V.ref++[.ref cl]))):=dg.upd (.inr (.inl je));generalize upd H9 a7.aC (.lst (a7.cs.map V.ref++[.ref cl]))=vK at CV L5 ⊢;generalize Zo:({ a7 with cs:=a7.cs++[cl] }:RA)=xX at CV
  have Mr:∀b,xX.own r b->a7.own r b\/b=cl:=λb hb=>by
   rw[←Zo]at hb;rcases hb with hb|hb|hb
   ·exact .inl (.inl hb)
   ·have E1:b∈a7.lists++[cl]:=hb;rcases aei.mp E1 with hb|hb
    ·exact .inl (.inr (.inl hb))
    ·exact .inr (ad1.mp hb)
   ·exact .inl (.inr (.inr hb))
  have Rz:H cl=none\/a.own r cl:=by
   by_cases ho:a.own r cl
   ·exact .inr ho
   ·refine .inl ?_
    cases e:H cl with
    |none=>rfl
    |some o=>rw[U8 cl o ho e]at p8;cases p8
  have Va:∀b o,¬a.own r b->H b=some o->¬xX.own r b:=λb o hb e z=>by
   rcases Mr b z with z|rfl
   ·exact KY b o hb e z
   ·rcases Rz with q|q
    ·rw[q]at e;cases e
    ·exact hb q
  have U10:dg a r H vK:=λb o hb e=>L5 b o (KY b o hb e) (s9 _ _ (U8 b o hb e))
  have hS:ay A.aq vK r (S.grown c z (cy (2* S.L))) xX:=CV;refine⟨_,rfl,r,xX.dx,_,rfl,hS.ins,cz _ _ _ (by decide +kernel),_,rfl,_,rfl,_,rfl,r,S.grown c z (cy (2* S.L)),xX,c,S.made,z,rfl,hS,⟨?_,?_,?_,?_⟩,?_,?_,?_,λIA QV h11=>?_⟩
  ·show (S.ways++[[]]).length=S.made+ 1;rw[adZ,hw.w];rfl
  ·show (S.gaps++[_]).length=S.made+ 1;rw[adZ,hw.g];rfl
  ·show (S.bI++[_]).length=S.made+ 1;rw[adZ,hw.e];rfl
  ·show (S.called++[_]).length=S.made+ 1;rw[adZ,hw.c];rfl
  ·show c<S.made+ 1;omega
  ·show S.made<S.made+ 1;omega
  ·intro l hl;rcases aei.mp hl with hl|hl
   ·exact hz l hl
   ·rw[ad1.mp hl];exact aeA _
  ·refine⟨_,rfl,k xX IA (λb o hb e=>QV b o (Va b o hb e) (U10 b o hb e)) h11 λb hb=>?_⟩;rcases Mr b hb with hb|rfl
   ·rcases RJ b hb with hb|rfl
    ·rcases CT b hb with hb|rfl
     ·exact .inl (KW b hb)
     ·exact Mf.symm
    ·exact Ru.symm
   ·exact Rz.symm
theorem jz (T:Txt K mg A):aK P w K mg base bq 1 A.fj A.fk ["self"] (nY A.aq):=by
 refine T.eh.F.ok vk (λvs H Q E h=>?_) (λbK AA outer s H vs Q E hr h=>?_)
 ·obtain⟨r,S,a,rfl,_⟩:=h;rfl
 ·obtain⟨r,S,a,rfl,h,hw,hm,k⟩:=h;refine⟨_,(aw (bM (Hv (fns:=["self"]) (ixs:=[0]) (cl:=_) rfl (mN rfl T.fK (ae (aF (pv 0) rfl) ah)) (nM rfl rfl (by decide +kernel) rfl (by decide +kernel) rfl (by decide +kernel) (by decide +kernel) rfl rfl rfl rfl) (λC s H ex=>(bu gY (bJ (BM (K:=K) rfl) (N7 (K:=K) rfl (pv 1) rfl) (pv 0) (λ_ _=>rfl)) (pv 0) (bE _))) (λC s H ex=>(pv 0))))),?_⟩
  try dsimp only[bz,cD]
  refine⟨_,rfl,r,_,a.dx,_,_,rfl,h.ins,aH T,T.uw,yZ _ _ _,(S.made:Int),rfl,by omega,by omega,?_⟩;rw[aeC];refine⟨λi m ys H2=>m=S.made - i/\i<=S.made/\ys=ak (nI ((List.range i).filter λc=>decide (S.bI[c]?=some c)))/\H2=H,⟨S.made,by simp,aeA _,rfl,rfl⟩,?_⟩;rintro i m ys H2 ⟨rfl,hi,rfl,rfl⟩
  have hlen:(ak (nI ((List.range i).filter λc=>decide (S.bI[c]?=some c)))).length<=i:=by
   rw[aL,cX];exact aep (afZ _ _) (by rw[aeR];exact ad7 _)
  by_cases bG:i<S.made
  ·refine .inr ⟨bG,?_,λx H3 t9=>?_⟩
   ·exact aec (aep hlen (show i<=100000 by omega)) (by decide)
   obtain⟨rfl,rfl⟩:=t9;obtain⟨e,he⟩:=get_some (xs:=S.bI) (i:=i) (by rw[hw.e];exact bG);refine⟨_,rfl,r,_,a.dx,_,_,rfl,h.ins,aH T,T.j8,ke _ _ _,_,rfl,a.aE,_,_,_,rfl,rfl,aI.of h.hE,(by rw[ahb];exact c9 (cI (rh he))),?_⟩;refine⟨_,rfl,rfl,_,rfl,?_⟩;by_cases ud:e=i
   ·subst ud;rw[show decide (V.int (e:Int)=V.int (0+ (e:Int)))=true from aey (by rw[ahb])];refine⟨_,rfl,S.made - (e+ 1),by omega,rfl,bG,?_,rfl⟩;rw[afI,List.filter_append,agV (by rw[he];exact aey rfl),List.filter_nil,kJ,ints_app,ahb];rfl
   ·rw[show decide (V.int (e:Int)=V.int (0+ (i:Int)))=false from aeK (λz=>ud (by injection z with z;omega))];refine⟨S.made - (i+ 1),by omega,rfl,bG,?_,rfl⟩;rw[afI,List.filter_append,agU (by rw[he];intro z;exact ud (Option.some.inj (aeI z))),List.filter_nil,aeP]
  ·have e:i=S.made:=by omega
   subst e;exact .inl ⟨ad7 _,aep hlen (aep hm (by decide)),λD hD=>k D hD⟩
def dz (H:Hp)(p:Addr)(pend:List Way):Prop:=∃qs:List Addr,H p=some (.lst (qs.map V.ref))/\Each (λq (w:Way)=>H q=some (.tup [.int (w.1:Int),.int w.2.1,.int (w.2.2:Int)])) qs pend
def sI (a:RA)(r p:Addr)(H H':Hp):Prop:=∀b o,¬a.own r b->b≠p->H b=some o->H' b=some o
theorem dz.keep {H H':Hp}{p:Addr}{pend:List Way}(h:dz H p pend)(k:∀o,H p=some o->H' p=some o)(kt:∀b xs,H b=some (.tup xs)->H' b=some (.tup xs)):dz H' p pend:=by
 obtain⟨qs,h1,h2⟩:=h;exact⟨qs,k _ h1,h2.imp λq w _ _ e=>kt _ _ e⟩
structure Small (S:RS):Prop where
 m:S.made<=100000
 w:∀l∈S.ways,l.length<=100000
 r:S.rows.length<=1000000
 n:S.bf.length<=1000000
 c:∀l∈S.called,l.length<=1000000
def CW (C:Addr):Sp:=λvs H Q _=>∃(r p:Addr) (S:RS) (a:RA) (c:Nat) (pend:List Way),vs=[.ref r,.int c,.ref p]/\ay C H r S a/\S.Wf/\c<S.made/\Gb S c/\(∀l∈S.ways,l.length<=100000)/\dz H p pend/\¬a.own r p/\pend.length<=1000000/\∀a' H',sI a r p H H'->ay C H' r (S.rn c pend).1 a'->dz H' p (S.rn c pend).2->(∀b,a'.own r b->a.own r b\/H b=none)->Q .non H'
def E2 (C:Addr):Sp:=λvs H Q _=>∃(r p:Addr) (S:RS) (a:RA) (c x y:Nat) (z:Int) (pend:List Way),vs=[.ref r,.int c,.int z,.int x,.int y,.ref p]/\ay C H r S a/\S.Wf/\x<S.made/\y<S.made/\x≠y/\Gb S (max x y)/\(∀n∈S.cx (max x y),n<S.made)/\Small S/\dz H p pend/\¬a.own r p/\pend.length<=1000000/\∀a' H',sI a r p H H'->ay C H' r (S.meet c z x y pend).1 a'->dz H' p (S.meet c z x y pend).2->(∀b,a'.own r b->a.own r b\/H b=none)->Q .non H'
structure uB (S:RS):Prop where
 wf:S.Wf
 el:∀c,c<S.made->S.ax c<S.made
 bl:∀c z d,S.by c z=some d->d<S.made
 cl:∀c,∀n∈S.cx c,n<S.made
 off:∀c,c<S.made->Gb S c
 sm:Small S
def CY (C:Addr):Sp:=λvs H Q _=>∃(r t p:Addr) (S:RS) (a:RA) (w:Way) (pend:List Way),vs=[.ref r,.ref t,.ref p]/\ay C H r S a/\H t=some (.tup [.int (w.1:Int),.int w.2.1,.int (w.2.2:Int)])/\uB S/\w.1<S.made/\w.2.2<S.made/\dz H p pend/\¬a.own r p/\pend.length<=1000000/\∀a' H',sI a r p H H'->ay C H' r (S.takeIn pend w).1 a'->dz H' p (S.takeIn pend w).2->(∀b,a'.own r b->a.own r b\/H b=none)->Q .non H'
def AV (C:Addr):Sp:=λvs H Q _=>∃(r q:Addr) (S:RS) (a:RA) (c d:Nat) (z:Int) (row:Dt) (I:RS->List Way->Prop) (μ:RS->List Way->Nat),vs=[.ref r,.int c,.int z,.int d,.ref q]/\ay C H r S a/\S.rows.length<=1000000/\ck H 2 (.ref q) row/\mR row/\
 I { S with rows:=S.rows++[row] } [(c,z,d)]/\(∀S pend w,I S (pend++[w])->uB S/\w.1<S.made/\w.2.2<S.made/\pend.length<=1000000/\I (S.takeIn pend w).1 (S.takeIn pend w).2/\μ (S.takeIn pend w).1 (S.takeIn pend w).2 < μ S (pend++[w]))/\
 ∀S' a' H',dg a r H H'->ay C H' r S' a'->I S' []->(∀b,a'.own r b->a.own r b\/H b=none)->Q .non H'
theorem rE {n i:Nat}(h:i<n):xD n (i:Int)=some i:=by
 unfold xD;rw[ael (by omega),ael (by omega),aeC]
theorem KZ {l:List (Int×Nat)}(nd:(l.map (·.1)).Nodup){q:Int×Nat}(h:q∈l):eU l q.1=some q.2:=by
 induction l with
 |nil=>cases h
 |cons p l ih=>
  unfold eU;rw[aeN,aeJ]at nd;by_cases e:p.1=q.1
  ·rw[afS (by exact aey e)];rcases aea.mp h with rfl|h
   ·rfl
   ·exact absurd (by rw[e];exact afA h) nd.1
  ·rw[afT (by simpa using e)];rcases aea.mp h with rfl|h
   ·exact absurd rfl e
   ·exact ih nd.2 h
theorem wL (T:Txt K mg A):aK P w K mg base bq 1 A.lj A.lu ["self","room","pending"] (CW A.aq):=by
 refine T.ny.F.ok ic (λvs H Q E h=>?_) (λbK AA outer s H vs Q E hr h=>?_)
 ·obtain⟨r,p,S,a,c,pend,rfl,_⟩:=h;rfl
 ·obtain⟨r,p,S,a,c,pend,rfl,h,hw,hc,ok,sm,hP,np,dU,k⟩:=h;have ku:=jJ hr
  refine⟨_,(ai (aZ (i:=3) ic.nd rfl (Or.inl rfl) (bJ bR (aF (pv 0) rfl) (pv 1) (λ_ _=>rfl)))
   (ai (tL fX (xm (aF (pv 0) rfl) (pv 1) set_list))
   (aw (du aez rfl (eG (di (kK rfl) rfl T.i6 ae2 (ae (pv 3) ah))) (bN (i:=4) ic.nd rfl (Or.inl rfl))
    (ai (aZ (i:=5) ic.nd rfl (Or.inl rfl) (NS ku (pv 3) (pv 4) (λ_ _=>rfl)))
    (ai (cj (bU (bu rT (pv 5) (pv 1) (bE _))
     (aw (aX (J1 (bJ bR (aF (pv 0) rfl) (pv 5) (λ_ _=>rfl)) (gg eR (pv 4)) ⟨rfl,rfl,rfl,rfl⟩)))
     bB))
    (aw (aX (dk aeg aeq aer b6 (pv 2) (ae (cM (ae (pv 1) (ae (pv 4) (ae (pv 5) ah)))) ah)))))))))),?_⟩
  try dsimp only[bz,cD]
  refine iS ?_;intro gL fD;have EI:c<S.ways.length:=by rw[hw.w];exact hc
  obtain⟨wd,E3,Wc⟩:=h.rW.at (rD EI);have Wd:(S.way c).length<=100000:=CK sm;refine⟨_,rfl,r,_,a.dx,_,_,rfl,h.ins,aH T,T.jG,jc _ _ _,_,rfl,a.aW,_,_,_,rfl,rfl,aI.of h.hW,fq E3,?_⟩;intro nd E4;have s1:=au.upd (o:=.dK []) E4;have RM:upd H nd (.dK []) nd=some (.dK (wK [])):=aj;have nn:=h.yk E4;have nnp:nd≠p:=λz=>by obtain⟨qs,q1,_⟩:=hP;rw[←z,E4]at q1;cases q1
  generalize upd H nd (.dK [])=H1 at s1 RM ⊢;have h1:=h.same s1;have hi:c<a.ws.length:=by rw[h.rW.1];exact EI
  refine⟨_,rfl,r,_,a.dx,_,_,rfl,h1.ins,aH T,T.jG,jc _ _ _,_,rfl,a.aW,_,_,c,rfl,rfl,h1.hW,rE (by rw[ad6];exact hi),?_⟩;have h2:=h1.QM hi RM (λz=>nn (.inr (.inr z)));have u2:∀b o,b≠a.aW->H1 b=some o->upd H1 a.aW (.lst ((a.ws.map V.ref).set c (.ref nd))) b=some o:=λb o nb e=>by rw[ao nb];exact e
  generalize upd H1 a.aW (.lst ((a.ws.map V.ref).set c (.ref nd)))=H2 at h2 u2 ⊢;have npW:p≠a.aW:=λz=>np (.inr (.inl (by rw[z];exact gk)))
  have wdW:wd≠a.aW:=(h.ld gk (dM (adY E3))).symm;have GA:H2 wd=some (.dK (wK (S.way c))):=u2 _ _ wdW (s1 _ _ Wc);generalize E5:({ a with ws:=a.ws.set c nd }:RA)=a2 at h2;have Ms:ay A.aq H2 r (df c S pend []).1 a2:=h2
  have Zq:¬a2.own r wd:=λz=>by
   rw[←E5]at z;rcases z with z|z|z
   ·exact(h.rd (dM (adY E3))) z.symm
   ·exact h.ld z (dM (adY E3)) rfl
   ·have Wg:=aeX.mp h.oO;have z':wd∈a.ws.set c nd++a.gs:=z;rcases aei.mp z' with z|z
    ·obtain⟨j,hj⟩:=ae9 z;by_cases e:c=j
     ·subst e;rw[aeH hi]at hj;have:nd=wd:=Option.some.inj hj;rw[this,Wc]at E4;cases E4
     ·rw[ae3 e]at hj;exact e ((List.getElem?_inj hi Wg.1).mp (E3.trans hj.symm))
    ·exact Wg.2.2 wd (adY E3) wd z rfl
  have K0:∀b,a2.own r b->a.own r b\/H b=none:=λb hb=>by
   rw[←E5]at hb;rcases hb with hb|hb|hb
   ·exact .inl (.inl hb)
   ·exact .inl (.inr (.inl hb))
   ·have E1:b∈a.ws.set c nd++a.gs:=hb;rcases aei.mp E1 with hb|hb
    ·rcases af1 hb with hb|rfl
     ·exact .inl (.inr (.inr (aex _ hb)))
     ·exact .inr E4
    ·exact .inl (.inr (.inr (ad5 _ hb)))
  have rF:¬a2.own r p:=λz=>by
   rcases K0 p z with q|q
   ·exact np q
   ·obtain⟨qs,q1,_⟩:=hP;rw[q]at q1;cases q1
  have HK:dz H2 p (df c S pend []).2:=hP.keep (λo e=>u2 _ _ npW (s1 _ _ e)) (λb xs e=>u2 _ _ (h.tl e gk) (s1 _ _ e));have B2:sI a r p H H2:=λb o nb _ e=>u2 _ _ (λz=>nb (.inr (.inl (by rw[z];exact gk)))) (s1 _ _ e)
  refine⟨_,rfl,wd,_,rfl,GA,λl nl=>?_⟩;have s3:=au.upd (o:=.lst ((wK (S.way c)).map λkv=>kV kv.1)) nl;have xU:upd H2 l (.lst ((wK (S.way c)).map λkv=>kV kv.1)) l=some (.lst ((wK (S.way c)).map λkv=>kV kv.1)):=aj;have E6:=Ms.yk nl;have E7:l≠p:=λz=>by obtain⟨qs,q1,_⟩:=HK;rw[←z,nl]at q1;cases q1
  have nlw:l≠wd:=λz=>by rw[z,GA]at nl;cases nl
  have nlH:H l=none\/a.own r l:=by
   by_cases ho:a.own r l
   ·exact .inr ho
   ·refine .inl ?_
    cases e:H l with
    |none=>rfl
    |some o=>rw[B2 l o ho E7 e]at nl;cases nl
  generalize upd H2 l (.lst ((wK (S.way c)).map λkv=>kV kv.1))=H3 at s3 xU ⊢;refine⟨l,rfl,⟨_,aI.of xU⟩,?_⟩;have hlen:((wK (S.way c)).map λkv=>kV kv.1).length=(S.way c).length:=by rw[ad6,BX]
  let gf:Nat->St->Hp->Prop:=λi σ H4=>∃v4 v5,σ=[some (.ref r),some (.int (c:Int)),some (.ref p),some (.ref wd),v4,v5]/\ay A.aq H4 r (df c S pend ((S.way c).take i)).1 a2/\dz H4 p (df c S pend ((S.way c).take i)).2/\(∀b o,¬a2.own r b->b≠p->H3 b=some o->H4 b=some o)
  refine gX (xs:=(wK (S.way c)).map λkv=>kV kv.1) gf ⟨none,none,rfl,Ms.same s3,HK.keep (λo e=>s3 _ _ e) (λb xs e=>s3 _ _ e),λb o _ _ e=>e⟩ (λi σ H4 _ ⟨_,_,_,_,_,kk⟩=>aI.of (kk _ _ E6 E7 xU)) ?_ ?_
  ·intro i x σ H4 hx bA;refine aY ?_;intro q_;obtain⟨v4,v5,rfl,h4,zY,kk⟩:=bA;dsimp only[q_];clear q_;dsimp only[dE];refine wy ?_;intro eJ RN Iw;have Wh:i<(S.way c).length:=by rw[←hlen];exact(ad4.mp hx).1
   obtain⟨w,hg⟩:=get_some (xs:=(S.way c)) (i:=i) Wh
   have ex:x=.int w.1:=by
    unfold wK at hx;rw[aeo,aeo,hg]at hx;exact(Option.some.inj hx).symm
   subst ex;have hm:=adY hg;have BU:(S.way c).take (i+ 1)=(S.way c).take i++[w]:=by rw[af0,hg];rfl
   have Gz:H4 wd=some (.dK (wK (S.way c))):=kk _ _ Zq (λz=>by obtain⟨qs,q1,_⟩:=HK;rw[←z,GA]at q1;cases q1) (s3 _ _ GA);have hv:bD (wK (S.way c)) (Sum.inl w.1)=some (.int (w.2:Int)):=by rw[mQ,KZ ok.nd hm];rfl
   have bG:=ok.lt w hm;have HZ:=(km c S pend ((S.way c).take i)).1;refine⟨_,rfl,_,rfl,wd,_,rfl,(by have:=jw.k (k:=Sum.inl w.1) Gz;rw[hv]at this;exact this),?_⟩
   let mB:St->Hp->Prop:=λ aJ H'=>aJ=[some (.ref r),some (.int (c:Int)),some (.ref p),some (.ref wd),some (.int w.1),some (.int (w.2:Int))]/\ay A.aq H' r (df c S pend ((S.way c).take (i+ 1))).1 a2/\dz H' p (df c S pend ((S.way c).take i)).2/\(∀b o,¬a2.own r b->b≠p->H3 b=some o->H' b=some o)
   refine⟨mB,?_,?_⟩
   ·refine bO ?_;intro eJ;refine⟨_,rfl,_,rfl,rfl,_,rfl,cO (λcK=>?_) (λcK=>?_)⟩
    ·have CZ:w.2≠c:=λz=>by rw[z]at cK;simp at cK
     have hd2:w.2<(df c S pend ((S.way c).take i)).1.ways.length:=by rw[HZ,hw.w];exact bG
     obtain⟨pd,C0,IG⟩:=h4.rW.at (rD hd2)
     have uj:((df c S pend ((S.way c).take i)).1.by w.2 (-w.1)).isSome=true:=by
      rw[EF EI _ (λq hq=>by rw[hw.w];exact ok.lt q (List.mem_of_mem_take hq)),aed]
      ·exact ok.bk w hm CZ
      ·rintro (q|⟨q,hq,q1,q2⟩)
       ·exact CZ q
       ·obtain⟨j,hj⟩:=ae9 hq
        have uC:j<i:=by
         have:=(ad4.mp hj).1;rw[aeG]at this;omega
        rw[List.getElem?_take_of_lt uC]at hj;have e1:((S.way c).map (·.1))[j]?=some q.1:=by rw[aeo,hj];rfl
        have e2:((S.way c).map (·.1))[i]?=some w.1:=by rw[aeo,hg];rfl
        have e3:q.1=w.1:=by omega
        rw[e3]at e1;have:=(List.getElem?_inj (by rw[ad6];exact Wh) ok.nd).mp (e2.trans e1.symm);omega
     obtain⟨m,vM⟩:=agL.mp uj;refine⟨_,rfl,r,_,a2.dx,_,_,rfl,h4.ins,aH T,T.jG,jc _ _ _,_,rfl,a2.aW,_,_,_,rfl,rfl,aI.of h4.hW,fq C0,pd,rfl,.inl ⟨_,.inl IG⟩,_,rfl,_,rfl,_,Sum.inl (-w.1),.int (m:Int),IG,rfl,?_,?_⟩
     ·rw[mQ];show ((df c S pend ((S.way c).take i)).1.by w.2 (-w.1)).map _=_;rw[vM];rfl
     ·rw[N8];refine⟨rfl,?_,zY.keep (λo e=>?_) (λb xs e=>?_),λb o nb kx e=>?_⟩
      ·rw[BU,iR];unfold kj;simp only[CZ,agH,agc,ne_eq];exact h4.B7 C0 _
      ·rw[ao (λz=>rF (.inr (.inr (dM (by rw[z];exact adY C0)))))];exact e
      ·rw[ao (h4.td e (dM (adY C0)))];exact e
      ·rw[ao (λz=>nb (.inr (.inr (dM (by rw[z];exact adY C0)))))];exact kk b o nb kx e
    ·have CZ:w.2=c:=by
      by_cases e:w.2=c
      ·exact e
      ·exact absurd (by simp;omega) cK
     refine⟨rfl,?_,zY,kk⟩;rw[BU,iR];unfold kj;simp only[CZ,ne_eq,not_true_eq_false,ago];exact h4
   rintro aJ H5 ⟨rfl,h5,hP5,kk5⟩;obtain⟨qs,IH,Mt⟩:=hP5
   have qc:(qs.map V.ref).length<sizeLine:=by
    rw[ad6,Mt.1,zN,adZ,ad6,aeG];exact aec (show _<=1100000 by omega) (by decide)
   refine⟨_,rfl,.inl ⟨rfl,_,aI.of IH⟩,_,rfl,_,rfl,_,rfl,(by show 3<=sizeLine;decide),λt nt=>?_⟩;have s6:=au.upd (o:=.tup [.int (c:Int),.int w.1,.int (w.2:Int)]) nt;have Wi:upd H5 t (.tup [.int (c:Int),.int w.1,.int (w.2:Int)]) t=some (.tup [.int (c:Int),.int w.1,.int (w.2:Int)]):=aj;generalize upd H5 t (.tup [.int (c:Int),.int w.1,.int (w.2:Int)])=H6 at s6 Wi ⊢;refine⟨p,_,_,rfl,rfl,s6 _ _ IH,qc,?_⟩;have kp:∀b o,b≠p->H6 b=some o->upd H6 p (.lst (qs.map V.ref++[.ref t])) b=some o:=λb o nb e=>by rw[ao nb];exact e
   have RP:∀b xs,H6 b=some (.tup xs)->upd H6 p (.lst (qs.map V.ref++[.ref t])) b=some (.tup xs):=λb xs e=>kp _ _ (cF e (s6 _ _ IH) (by intro z;cases z)) e
   refine⟨_,_,rfl,(h5.same s6).keep (λb o hb e=>kp b o (λz=>rF (z ▸ hb)) e) RP,⟨qs++[t],?_,?_⟩,λb o nb kx e=>kp b o kx (s6 _ _ (kk5 b o nb kx e))⟩
   ·rw[aj,aeu];rfl
   ·rw[BU,iR];exact(Mt.imp λq w' _ _ e=>RP _ _ (s6 _ _ e)).snoc (RP _ _ Wi)
  ·intro σ H4 bA;refine aY ?_;intro q_;obtain⟨v4,v5,rfl,h4,zY,kk⟩:=bA;dsimp only[q_];clear q_;rw[hlen,afL]at h4 zY;refine k a2 H4 (λb o nb kx e=>?_) h4 zY K0;have e2:=B2 b o nb kx e;exact kk b o (λz=>by rcases K0 b z with q|q;exact nb q;rw[q]at e;cases e) kx (s3 _ _ e2)
theorem yl {S:RS}{c:Nat}(h:c<S.called.length):S.called[c]?=some (S.cx c):=by unfold RS.cx;rw[ad2,adX h];rfl
theorem mW {S:RS}{c:Nat}(h:c<S.bI.length):S.bI[c]?=some (S.ax c):=by unfold RS.ax;rw[ad2,adX h];rfl
theorem II {S:RS}{c n:Nat}(h:∀l∈S.called,l.length<=n):(S.cx c).length<=n:=by
 unfold RS.cx;rw[ad2]
 cases e:S.called[c]? with
 |none=>exact aeA _
 |some l=>exact h l (adY e)
theorem wM (x:Nat):∀(l es:List Nat),(l.foldl (λes n=>es.set n x) es).length=es.length
 |[],_=>rfl
 |n::l,es=>by rw[agq,wM x l,aew]
theorem ints_set (ns:List Int)(i:Nat)(z:Int):(ak ns).set i (.int z)=ak (ns.set i z):=by
 unfold ak;rw[List.map_set]
theorem rH (T:Txt K mg A):aK P w K mg base bq 2 A.hV A.hX ["self","room","step","one","other","pending"] (E2 A.aq):=by
 have ym:aK P w K mg base bq 1 A.lj A.lu ["self","room","pending"] (CW A.aq):=wL T;refine T.eB.F.ok eI (λvs H Q E h=>?_) (λbK AA outer s H vs Q E hr h=>?_)
 ·obtain⟨r,p,S,a,c,x,y,z,pend,rfl,_⟩:=h;rfl
 ·obtain⟨r,p,S,a,c,x,y,z,pend,rfl,h,hw,hx,hy,qW,ok,Wj,sm,hP,np,dU,k⟩:=h
  refine⟨_,(ai (aZ (i:=6) eI.nd rfl (Or.inl rfl) (bL (G5 rfl) rfl T.U2 PyProof.Rows.boot_min (ae (pv 3) (ae (pv 4) ah))))
   (ai (aZ (i:=7) eI.nd rfl (Or.inl rfl) (bL (G4 rfl) rfl T.U4 PyProof.Rows.boot_max (ae (pv 3) (ae (pv 4) ah))))
   (ai (aX (dk aeg aeq aer b6 (aF (pv 0) rfl) (ae (cM (ae (uT (l:=[109,101,101,116]) rfl) (ae (pv 1) (ae (pv 2) (ae (pv 6) (ae (pv 7) ah)))))) ah)))
   (ai (aX (dk aeg aeq aer b6 (aF (pv 0) rfl) (ae (pv 7) ah)))
   (ai (du aez rfl (eG (bJ bR (aF (pv 0) rfl) (pv 7) (λ_ _=>rfl))) (bN (i:=8) eI.nd rfl (Or.inl rfl))
    (aw (tL (pv 6) (xm (aF (pv 0) rfl) (pv 8) set_list))))
   (ai (aX (dk aeg PySem.F.slot_list_extend PySem.F.type_list_extend zA (bJ bR (aF (pv 0) rfl) (pv 6) (λ_ _=>rfl)) (ae (bJ bR (aF (pv 0) rfl) (pv 7) (λ_ _=>rfl)) ah)))
   (aw (aX (bH (pv 0) (aH T) T.ny.m (ym) (hr.mono (by decide)) T.ny.b .nil aP (ae (pv 7) (ae (pv 5) ah))))))))))),?_⟩
  try dsimp only[bz,cD]
  refine r6 ?_;intro CL vJ tf lD gL fD;have e1:(if (y:Int)<(x:Int) then (y:Int) else (x:Int))=((min x y:Nat):Int):=by split <;> omega
  have e2:(if (y:Int) > (x:Int) then (y:Int) else (x:Int))=((max x y:Nat):Int):=by split <;> omega
  have Wk:min x y<max x y:=by omega
  have IJ:max x y<S.made:=by omega
  generalize ev:min x y=u at e1 Wk;have ek:∀a' H',sI a r p H H'->ay A.aq H' r ((S.joined c z u (max x y)).rn (max x y) pend).1 a'->dz H' p ((S.joined c z u (max x y)).rn (max x y) pend).2->(∀b,a'.own r b->a.own r b\/H b=none)->Q .non H':=λa' H' h1 h2 h3 h4=>k a' H' h1 (by unfold RS.meet;rw[ev];exact h2) (by unfold RS.meet;rw[ev];exact h3) h4
  clear k;generalize max x y=v at e2 Wk IJ ok Wj ek;refine⟨_,rfl,_,rfl,_,_,rfl,?_⟩;rw[e1];refine⟨_,rfl,_,rfl,_,_,rfl,?_⟩;rw[e2];have lR:(a.rs.map V.ref).length<sizeLine:=by rw[ad6,h.rR.1];exact aec sm.r (by decide)
  refine⟨_,rfl,r,_,a.dx,_,_,rfl,h.ins,aH T,T.yd,y3 _ _ _,.inl ⟨rfl,_,aI.of h.hR⟩,_,rfl,_,rfl,_,rfl,_,rfl,(by show 5<=sizeLine;decide),λt nt=>⟨a.aR,_,_,rfl,rfl,au.upd nt _ _ h.hR,lR,?_⟩⟩;have s1:=au.upd (o:=.tup [.str (tx [109,101,101,116]),.int (c:Int),.int z,.int (u:Int),.int (v:Int)]) nt;have IK:upd H t (.tup [.str (tx [109,101,101,116]),.int (c:Int),.int z,.int (u:Int),.int (v:Int)]) t=some (.tup [.str (tx [109,101,101,116]),.int (c:Int),.int z,.int (u:Int),.int (v:Int)]):=aj;generalize upd H t (.tup [.str (tx [109,101,101,116]),.int (c:Int),.int z,.int (u:Int),.int (v:Int)])=H1 at s1 IK ⊢
  have zF:ck H1 4 (.ref t) (ki c z u v):=by
   refine .t IK rfl λj w d e1 e2=>?_
   rcases j with _|_|_|_|_|j
   ·simp at e1 e2;subst e1 e2;exact .s
   ·simp at e1 e2;subst e1 e2;exact .i
   ·simp at e1 e2;subst e1 e2;exact .i
   ·simp at e1 e2;subst e1 e2;exact .i
   ·simp at e1 e2;subst e1 e2;exact .i
   ·simp at e1
  have nl:mR (ki c z u v):=.t (by show 5<=100000;decide) λd hd=>by
   simp only[aea,aeT,agj]at hd;rcases hd with rfl|rfl|rfl|rfl|rfl
   ·exact .s
   ·exact .i
   ·exact .i
   ·exact .i
   ·exact .i
  have h2:=(h.same s1).B6 zF nl;have B2:sI a r p H (upd H1 a.aR (.lst (a.rs.map V.ref++[.ref t]))):=λb o nb _ e=>by rw[ao (λz=>nb (.inr (.inl (by rw[z];exact gj))))];exact s1 _ _ e
  have Ab:∀{b},b∈a.lists->p≠b:=λhb z=>np (.inr (.inl (by rw[z];exact hb)))
  have P2:dz (upd H1 a.aR (.lst (a.rs.map V.ref++[.ref t]))) p pend:=hP.keep (λo e=>by rw[ao (Ab gj)];exact s1 _ _ e) (λb xs e=>by rw[ao (h.tl e gj)];exact s1 _ _ e);generalize upd H1 a.aR (.lst (a.rs.map V.ref++[.ref t]))=H2 at h2 B2 P2 ⊢;generalize E5:({ a with rs:=a.rs++[t] }:RA)=a2 at h2;have eo:∀b,a2.own r b↔a.own r b:=λb=>by rw[←E5];exact Iff.rfl
  have rF:¬a2.own r p:=λz=>np ((eo p).mp z)
  have K1:∀{b},b∈a2.lists->p≠b:=λhb z=>rF (.inr (.inl (by rw[z];exact hb)))
  have lN:(ak (nI S.bf)).length<sizeLine:=by rw[aL,cX];exact aec sm.n (by decide)
  refine⟨_,rfl,r,_,a2.dx,_,_,rfl,h2.ins,aH T,T.ux,u0 _ _ _,.inl ⟨rfl,_,aI.of h2.hN⟩,_,rfl,a2.aN,_,_,rfl,rfl,h2.hN,lN,?_⟩;have eN:ak (nI S.bf)++[V.int (v:Int)]=ak (nI (S.bf++[v])):=by rw[kJ,ints_app];rfl
  have h3:=h2.N6 (S.bf++[v]);rw[←eN]at h3;have B3:sI a r p H (upd H2 a2.aN (.lst (ak (nI S.bf)++[V.int (v:Int)]))):=λb o nb kx e=>by rw[ao (λz=>nb ((eo b).mp (.inr (.inl (by rw[z];exact iF)))))];exact B2 b o nb kx e
  have P3:dz (upd H2 a2.aN (.lst (ak (nI S.bf)++[V.int (v:Int)]))) p pend:=P2.keep (λo e=>by rw[ao (K1 iF)];exact e) (λb xs e=>by rw[ao (h2.tl e iF)];exact e);show _;generalize upd H2 a2.aN (.lst (ak (nI S.bf)++[V.int (v:Int)]))=H3 at h3 B3 P3 ⊢;obtain⟨pv,IL,hPV⟩:=h3.rC.at (show S.called[v]?=some (S.cx v) from yl (by rw[hw.c];exact IJ));have mpv:=adY IL;refine⟨_,rfl,r,_,a2.dx,_,_,rfl,h3.ins,aH T,T.pD,pU _ _ _,_,rfl,a2.aC,_,_,_,rfl,rfl,aI.of h3.hC,fq IL,pv,rfl,⟨_,aI.of hPV⟩,?_⟩;obtain⟨-,-,-,-,-,nc⟩:=xV h3.jr;have npE:pv≠a2.aE:=(nc pv mpv).2.2.2.1
  let gf:Nat->St->Hp->Prop:=λi σ H4=>∃v8,σ=[some (.ref r),some (.int (c:Int)),some (.int z),some (.int (x:Int)),some (.int (y:Int)),some (.ref p),some (.int (u:Int)),some (.int (v:Int)),v8]/\ay A.aq H4 r { S with rows:=S.rows++[ki c z u v],bf:=S.bf++[v],bI:=((S.cx v).take i).foldl (λes n=>es.set n u) S.bI } a2/\sI a r p H H4/\dz H4 p pend
  refine gX (xs:=ak (nI (S.cx v))) gf ⟨none,rfl,h3,B3,P3⟩ (λi σ H4 _ ⟨_,_,h4,_,_⟩=>aI.of (h4.rC.2 v pv _ IL (show S.called[v]?=some (S.cx v) from yl (by rw[hw.c];exact IJ)))) ?_ ?_
  ·rintro i w σ H4 Wm ⟨v8,rfl,h4,B4,P4⟩;dsimp only[dE];refine bO ?_;intro eJ;obtain⟨m,rfl,hm⟩:=cS Wm;unfold nI at hm;rw[aeo]at hm
   cases hn:(S.cx v)[i]? with
   |none=>rw[hn]at hm;cases hm
   |some n=>
    rw[hn]at hm;obtain rfl:(n:Int)=m:=Option.some.inj hm;have RQ:=Wj n (adY hn);have kF:(((S.cx v).take i).foldl (λes n=>es.set n u) S.bI).length=S.made:=by rw[wM,hw.e]
    refine⟨_,rfl,_,rfl,r,_,a2.dx,_,_,rfl,h4.ins,aH T,T.j8,ke _ _ _,_,rfl,a2.aE,_,_,n,rfl,rfl,h4.hE,rE (by rw[aL,cX,kF];exact RQ),?_⟩;rw[ints_set,QF];have h5:=h4.zK ((((S.cx v).take i).foldl (λes n=>es.set n u) S.bI).set n u);refine⟨_,rfl,?_,λb o nb kx e=>?_,P4.keep (λo e=>?_) (λb xs e=>?_)⟩
    ·have BU:(S.cx v).take (i+ 1)=(S.cx v).take i++[n]:=by rw[af0,hn];rfl
     rw[BU,agb];exact h5
    ·rw[ao (λz=>nb ((eo b).mp (.inr (.inl (by rw[z];exact gZ)))))];exact B4 b o nb kx e
    ·rw[ao (K1 gZ)];exact e
    ·rw[ao (h4.tl e gZ)];exact e
  ·rintro σ H4 ⟨v8,rfl,h4,B4,P4⟩;rw[aL,cX,afL]at h4;have hul:u<S.called.length:=by rw[hw.c];omega
   have HX:v<S.called.length:=by rw[hw.c];exact IJ
   obtain⟨pu,RT,Wn⟩:=h4.rC.at (show S.called[u]?=some (S.cx u) from yl hul);have Zr:=h4.rC.2 v pv _ IL (show S.called[v]?=some (S.cx v) from yl HX);have b1:(S.cx u).length<=1000000:=II sm.c;have b2:(S.cx v).length<=1000000:=II sm.c;refine⟨_,rfl,r,_,a2.dx,_,_,rfl,h4.ins,aH T,T.pD,pU _ _ _,_,rfl,a2.aC,_,_,_,rfl,rfl,aI.of h4.hC,fq RT,.inl ⟨rfl,_,aI.of Wn⟩,?_⟩;refine⟨_,rfl,r,_,a2.dx,_,_,rfl,h4.ins,aH T,T.pD,pU _ _ _,_,rfl,a2.aC,_,_,_,rfl,rfl,aI.of h4.hC,fq IL,pu,pv,_,_,rfl,rfl,Wn,Zr,?_,?_⟩
   ·rw[aL,aL,cX,cX];exact aep (show _<=2000000 by omega) (by decide)
   have eC:ak (nI (S.cx u))++ak (nI (S.cx v))=ak (nI (S.cx u++S.cx v)):=by rw[kJ,ints_app]
   rw[eC];have h5:=h4.HS RT (S.cx u++S.cx v);have RV:=gC (adY RT);have B5:sI a r p H (upd H4 pu (.lst (ak (nI (S.cx u++S.cx v))))):=λb o nb kx e=>by rw[ao (λz=>nb ((eo b).mp (.inr (.inl (by rw[z];exact RV)))))];exact B4 b o nb kx e
   have P5:dz (upd H4 pu (.lst (ak (nI (S.cx u++S.cx v))))) p pend:=P4.keep (λo e=>by rw[ao (K1 RV)];exact e) (λb xs e=>by rw[ao (h4.tl e RV)];exact e);generalize upd H4 pu (.lst (ak (nI (S.cx u++S.cx v))))=H5 at h5 B5 P5 ⊢;have Wo:ay A.aq H5 r (S.joined c z u v) a2:=h5;refine⟨_,rfl,r,a2.dx,_,rfl,Wo.ins,cz _ _ _ (by decide +kernel),_,rfl,_,rfl,r,p,S.joined c z u v,a2,v,pend,rfl,Wo,⟨hw.w,hw.g,?_,?_⟩,IJ,⟨ok.nd,ok.lt,ok.bk⟩,sm.w,P5,rF,dU,λa' H' b' r' p' o'=>ek a' H' (λb o nb kx e=>b' b o (λz=>nb ((eo b).mp z)) kx (B5 b o nb kx e)) r' p' (λb hb=>?_)⟩
   ·show ((S.cx v).foldl (λes n=>es.set n u) S.bI).length=S.made;rw[wM];exact hw.e
   ·show (S.called.set u (S.cx u++S.cx v)).length=S.made;rw[aew];exact hw.c
   ·rcases o' b hb with q|q
    ·exact .inl ((eo b).mp q)
    ·by_cases ho:a.own r b
     ·exact .inl ho
     ·refine .inr ?_
      cases e:H b with
      |none=>rfl
      |some o=>
       by_cases E8:b=p
       ·obtain⟨qs,q1,_⟩:=P5;rw[E8,q1]at q;cases q
       ·rw[B5 b o ho E8 e]at q;cases q
theorem wN (T:Txt K mg A):aK P w K mg base bq 3 A.lg A.lh ["self","way","pending"] (CY A.aq):=by
 have lE:aK P w K mg base bq 2 A.hV A.hX ["self","room","step","one","other","pending"] (E2 A.aq):=rH T;have pI:aK P w K mg base bq 1 A.kZ A.k8 ["self","room","step","other"] (CH A.aq):=sZ T;refine T.nj.F.ok et (λvs H Q E h=>?_) (λbK AA outer s H vs Q E hr h=>?_)
 ·obtain⟨r,t,p,S,a,w,pend,rfl,_⟩:=h;rfl
 ·obtain⟨r,t,p,S,a,w,pend,rfl,h,ht,ok,Mu,Mv,hP,np,dU,k⟩:=h;have ku:=jJ hr
  refine⟨_,(ai (aZ (i:=3) et.nd rfl (Or.inl rfl) (bJ bR (aF (pv 0) rfl) (bJ fL (pv 1) aB (λ_ _=>rfl)) (λ_ _=>rfl)))
   (ai (aZ (i:=4) et.nd rfl (Or.inl rfl) (bJ fL (pv 1) aB (λ_ _=>rfl)))
   (ai (aZ (i:=5) et.nd rfl (Or.inl rfl) (bJ bR (aF (pv 0) rfl) (bJ fL (pv 1) aB (λ_ _=>rfl)) (λ_ _=>rfl)))
   (ai (aZ (i:=6) et.nd rfl (Or.inl rfl) (oM ku (bJ bR (aF (pv 0) rfl) (pv 3) (λ_ _=>rfl)) (pv 4) (pv 5) ⟨rfl,rfl,rfl,rfl⟩))
   (ai (aZ (i:=7) et.nd rfl (Or.inl rfl) (oM ku (bJ bR (aF (pv 0) rfl) (pv 5) (λ_ _=>rfl)) (gg eR (pv 4)) (pv 3) ⟨rfl,rfl,rfl,rfl⟩))
   (aw (cj (bU (bu rT (pv 6) (pv 5) (bE _))
    (aw (aX (bH (pv 0) (aH T) T.eB.m (lE) (hr.mono (by decide)) T.eB.b .nil aP (ae (pv 3) (ae (pv 4) (ae (pv 6) (ae (pv 5) (ae (pv 2) ah))))))))
    (aw (cj (bU (bu rT (pv 7) (pv 3) (bE _))
     (aw (aX (bH (pv 0) (aH T) T.eB.m (lE) (hr.mono (by decide)) T.eB.b .nil aP (ae (pv 5) (ae (gg eR (pv 4)) (ae (pv 7) (ae (pv 3) (ae (pv 2) ah))))))))
     (aw (aX (bH (pv 0) (aH T) T.lA.m (pI) (hr.mono (by decide)) T.lA.b .nil aP (ae (pv 3) (ae (pv 4) (ae (pv 5) ah))))))))))))))))),?_⟩
  try dsimp only[bz,cD]
  refine wz ?_;intro vJ tf lD gL fD;have sq:bV K H t [.int (w.1:Int),.int w.2.1,.int (w.2.2:Int)]:=bV.of ht;have kF:∀{c:Nat},c<S.made->S.bI[c]?=some (S.ax c):=λ{c} hc=>mW (by rw[ok.wf.e];exact hc)
  have hc:=ok.el _ Mu;have hd:=ok.el _ Mv;refine⟨_,rfl,r,_,a.dx,_,_,rfl,h.ins,aH T,T.j8,ke _ _ _,_,rfl,t,_,_,_,rfl,rfl,sq,(rfl:lI _ (0:Int)=_),a.aE,_,_,_,rfl,rfl,aI.of h.hE,c9 (cI (rh (kF Mu))),?_⟩;refine⟨_,rfl,t,_,_,_,rfl,rfl,sq,(rfl:lI _ (1:Int)=_),?_⟩;refine⟨_,rfl,r,_,a.dx,_,_,rfl,h.ins,aH T,T.j8,ke _ _ _,_,rfl,t,_,_,_,rfl,rfl,sq,(rfl:lI _ (2:Int)=_),a.aE,_,_,_,rfl,rfl,aI.of h.hE,c9 (cI (rh (kF Mv))),?_⟩;have k':=k;clear k;unfold RS.takeIn at k';generalize S.ax w.1=c at hc k' ⊢;generalize S.ax w.2.2=d at hd k' ⊢;generalize w.2.1=z at k' ⊢;obtain⟨pc,IQ,Wq⟩:=h.rW.at (rD (S:=S) (c:=c) (by rw[ok.wf.w];exact hc));obtain⟨pd,C0,IG⟩:=h.rW.at (rD (S:=S) (c:=d) (by rw[ok.wf.w];exact hd));have gd:∀(o:Option Nat) (n:Nat),(o.map λr:Nat=>V.int (r:Int)).getD (.int (n:Int))=V.int ((o.getD n:Nat):Int):=λo n=>by cases o <;> rfl
  refine⟨_,rfl,r,_,a.dx,_,_,rfl,h.ins,aH T,T.jG,jc _ _ _,_,rfl,a.aW,_,_,_,rfl,rfl,aI.of h.hW,fq IQ,pc,rfl,.inl ⟨_,.inl Wq⟩,_,rfl,_,rfl,_,jw.k (k:=Sum.inl z) Wq,?_⟩;rw[mQ,gd];show _;refine⟨_,rfl,r,_,a.dx,_,_,rfl,h.ins,aH T,T.jG,jc _ _ _,_,rfl,a.aW,_,_,_,rfl,rfl,aI.of h.hW,fq C0,pd,rfl,.inl ⟨_,.inl IG⟩,_,rfl,_,rfl,_,rfl,_,jw.k (k:=Sum.inl (-z)) IG,?_⟩;rw[mQ,gd];have e1:eU (S.way c) z=S.by c z:=rfl;have e2:eU (S.way d) (-z)=S.by d (-z):=rfl;rw[e1,e2]
  have hl:(S.by c z).getD d<S.made:=by
   cases e:S.by c z with
   |none=>exact hd
   |some m=>exact ok.bl _ _ _ e
  have hf:(S.by d (-z)).getD c<S.made:=by
   cases e:S.by d (-z) with
   |none=>exact hc
   |some m=>exact ok.bl _ _ _ e
  generalize (S.by c z).getD d=l at hl k' ⊢;generalize (S.by d (-z)).getD c=f at hf k' ⊢
  have ne:∀{m n:Nat},m≠n->(!decide (V.int (m:Int)=V.int (n:Int)))=true:=λ{m n} q=>by
   rw[aeK (λz=>q (by injection z with z;omega))];rfl
  refine⟨λ_ H'=>Q .non H',?_,λ_ _ q=>q⟩;by_cases h1:l≠d
  ·rw[ael h1]at k';refine⟨_,rfl,_,rfl,rfl,_,rfl,?_⟩;rw[ne h1];refine lP ?_;exact⟨_,rfl,r,a.dx,_,rfl,h.ins,cz _ _ _ (by decide +kernel),_,rfl,_,rfl,_,rfl,_,rfl,_,rfl,r,p,S,a,c,l,d,z,pend,rfl,h,ok.wf,hl,hd,h1,ok.off _ (by omega),λn hn=>ok.cl _ n hn,ok.sm,hP,np,dU,k'⟩
  ·have EB:l=d:=agA.mp h1;rw[aed h1]at k';refine⟨_,rfl,_,rfl,rfl,_,rfl,xG (by rw[EB]) ?_⟩;refine⟨λ_ H'=>Q .non H',?_,λ_ _ q=>q⟩;by_cases h2:f≠c
   ·rw[ael h2]at k';refine⟨_,rfl,_,rfl,rfl,_,rfl,?_⟩;rw[ne h2];refine lP ?_;exact⟨_,rfl,r,a.dx,_,rfl,h.ins,cz _ _ _ (by decide +kernel),_,rfl,_,rfl,_,rfl,_,rfl,_,rfl,_,rfl,r,p,S,a,d,f,c,-z,pend,rfl,h,ok.wf,hf,hc,h2,ok.off _ (by omega),λn hn=>ok.cl _ n hn,ok.sm,hP,np,dU,k'⟩
   ·have Ms:f=c:=agA.mp h2;rw[aed h2]at k';refine⟨_,rfl,_,rfl,rfl,_,rfl,xG (by rw[Ms]) ?_⟩;refine⟨_,rfl,r,a.dx,_,rfl,h.ins,cz _ _ _ (by decide +kernel),_,rfl,_,rfl,_,rfl,r,S,a,c,d,z,rfl,h,ok.wf,hc,hd,ok.sm.w,λH' b' r'=>k' a H' (λb o nb _ e=>b' b o nb e) r' (hP.keep (λo e=>b' _ _ np e) (λb xs e=>b' _ _ (h.va e) e)) λb hb=>.inl hb⟩
theorem pJ (T:Txt K mg A):aK P w K mg base bq 5 A.jE A.jF ["self","room","step","other","row"] (AV A.aq):=by
 have jn:aK P w K mg base bq 4 A.nV A.nX ["value"] (vf 2):=Iv T;have yn:aK P w K mg base bq 3 A.lg A.lh ["self","way","pending"] (CY A.aq):=wN T;refine T.mU.F.ok uy (λvs H Q E h=>?_) (λbK AA outer s H vs Q E hr h=>?_)
 ·obtain⟨r,q,S,a,c,d,z,row,I,μ,rfl,_⟩:=h;rfl
 ·obtain⟨r,q,S,a,c,d,z,row,I,μ,rfl,h,p9,hq,K2,hI,step,k⟩:=h
  refine⟨_,(ai (aX (dk aeg aeq aer b6 (aF (pv 0) rfl) (ae (bp (jn) (hr.mono (by decide)) rfl T.own.m T.own.F.kp T.own.b .nil aP (ae (pv 4) ah)) ah)))
   (ai (aZ (i:=5) uy.nd rfl (Or.inl rfl) (cR (ae (cM (ae (pv 1) (ae (pv 2) (ae (pv 3) ah)))) ah)))
   (aw (cj (jQ aez (A7 (pv 5) (λ_=>rfl))
    (aw (aX (bH (pv 0) (aH T) T.nj.m (yn) (hr.mono (by decide)) T.nj.b .nil aP (ae (He aeg PySem.F.slot_list_pop PySem.F.type_list_pop Hf (pv 5)) (ae (pv 5) ah)))))))))),?_⟩
  try dsimp only[bz,cD]
  refine iS ?_;intro gL fD;have lR:(a.rs.map V.ref).length<sizeLine:=by rw[ad6,h.rR.1];exact aec p9 (by decide)
  obtain⟨ds,rfl⟩:∃ds,row=.t ds:=by
   cases hq with
   |t=>exact⟨_,rfl⟩
   |l=>cases K2
  refine⟨_,rfl,r,_,a.dx,_,_,rfl,h.ins,aH T,T.yd,y3 _ _ _,.inl ⟨rfl,_,aI.of h.hR⟩,_,rfl,.ref q,.t ds,rfl,hq,K2,λv' H1 s1 Lp=>?_⟩;obtain⟨q',rfl⟩:∃q',v'=.ref q':=by cases Lp with|t=>exact⟨_,rfl⟩
  refine⟨a.aR,_,_,rfl,rfl,s1 _ _ h.hR,lR,?_⟩;have h2:=(h.same s1).B6 (Lp.le (by decide)) K2;have B2:dg a r H (upd H1 a.aR (.lst (a.rs.map V.ref++[.ref q']))):=λb o nb e=>by rw[ao (λz=>nb (.inr (.inl (by rw[z];exact gj))))];exact s1 _ _ e
  generalize upd H1 a.aR (.lst (a.rs.map V.ref++[.ref q']))=H2 at h2 B2 ⊢;generalize E5:({ a with rs:=a.rs++[q'] }:RA)=a2 at h2;have eo:∀b,a2.own r b↔a.own r b:=λb=>by rw[←E5];exact Iff.rfl
  refine⟨_,rfl,_,rfl,_,rfl,(by show 3<=sizeLine;decide),λt nt=>?_⟩;have s3:=au.upd (o:=.tup [.int (c:Int),.int z,.int (d:Int)]) nt;have E9:upd H2 t (.tup [.int (c:Int),.int z,.int (d:Int)]) t=some (.tup [.int (c:Int),.int z,.int (d:Int)]):=aj;generalize upd H2 t (.tup [.int (c:Int),.int z,.int (d:Int)])=H3 at s3 E9 ⊢;refine⟨(by show 1<=sizeLine;decide),λp RW=>?_⟩;have s4:=au.upd (o:=.lst [.ref t]) RW;have Iy:upd H3 p (.lst [.ref t]) p=some (.lst [.ref t]):=aj;have Wr:¬a2.own r p:=(h2.same s3).yk RW;generalize upd H3 p (.lst [.ref t])=H4 at s4 Iy ⊢
  have Wt:H p=none:=by
   cases e:H p with
   |none=>rfl
   |some o=>have:=s3 _ _ (B2 p o (λz=>Wr ((eo p).mpr z)) e);rw[RW]at this;cases this
  have B4:dg a r H H4:=λb o nb e=>s4 _ _ (s3 _ _ (B2 b o nb e))
  have P4:dz H4 p [(c,z,d)]:=⟨[t],Iy,Each.snoc (ps:=[]) (xs:=[]) ⟨rfl,λi p d h=>by simp at h⟩ (s4 _ _ E9)⟩;refine⟨λ_ H'=>Q .non H',?_,λ_ _ q=>q⟩;refine⟨λm σ H5=>∃S5 a5 pend,m=μ S5 pend/\σ=[some (.ref r),some (.int (c:Int)),some (.int z),some (.int (d:Int)),some (.ref q),some (.ref p)]/\ay A.aq H5 r S5 a5/\dz H5 p pend/\I S5 pend/\¬a5.own r p/\(∀b o,¬a.own r b->b≠p->H b=some o->H5 b=some o)/\∀b,a5.own r b->a.own r b\/H b=none,⟨_,_,a2,[(c,z,d)],rfl,rfl,(h2.same s3).same s4,P4,hI,Wr,λb o nb _ e=>B4 b o nb e,λb hb=>.inl ((eo b).mp hb)⟩,?_⟩;intro m σ H5 bA;refine aY ?_;intro q_;obtain⟨S5,a5,pend,rfl,rfl,h5,P5,I5,Fb,B5,O5⟩:=bA;dsimp only[q_];clear q_;obtain⟨qs,xW,Mw⟩:=id P5;refine⟨_,rfl,!(qs.map V.ref).isEmpty,.inl ⟨_,aI.of xW,rfl⟩,?_⟩;by_cases cK:pend=[]
  ·subst cK;have eq0:qs=[]:=agk Mw.1;subst eq0;refine cU ?_;exact k S5 a5 H5 (λb o nb e=>B5 b o nb (λz=>by rw[z,Wt]at e;cases e) e) h5 I5 O5
  ·have nJ:=afN cK;generalize pend.getLast cK=w at nJ;generalize pend.dropLast=pre at nJ;subst nJ;have qc:qs.length=pre.length+ 1:=by rw[Mw.1,adZ];rfl
   have Wu:qs≠[]:=λz=>by rw[z]at qc;cases qc
   have K3:=afN Wu;generalize qs.getLast Wu=tq at K3;generalize qs.dropLast=pK at K3;subst K3;have dU:pK.length=pre.length:=by rw[adZ]at qc;have:([tq]:List Addr).length=1:=rfl;omega
   obtain⟨ok,Mu,Mv,hb,hI2,IU⟩:=step S5 pre w I5;have htq:H5 tq=some (.tup [.int (w.1:Int),.int w.2.1,.int (w.2.2:Int)]):=Mw.2 pre.length tq w (by rw[←dU,aee (ad7 _),afJ];rfl) (by rw[aee (ad7 _),afJ];rfl);have ht:(!((pK++[tq]).map V.ref).isEmpty)=true:=by simp
   rw[ht];refine lP ?_;refine⟨λ aJ H'=>∃S6 a6 yo,μ S6 yo < μ S5 (pre++[w])/\aJ=[some (.ref r),some (.int (c:Int)),some (.int z),some (.int (d:Int)),some (.ref q),some (.ref p)]/\ay A.aq H' r S6 a6/\dz H' p yo/\I S6 yo/\¬a6.own r p/\(∀b o,¬a.own r b->b≠p->H b=some o->H' b=some o)/\∀b,a6.own r b->a.own r b\/H b=none,λ aJ H' ⟨S6,a6,yo,lt,e1,e2,e3,e4,e5,e6,e7⟩=>⟨_,lt,S6,a6,yo,rfl,e1,e2,e3,e4,e5,e6,e7⟩,?_⟩;refine⟨_,rfl,r,a5.dx,_,rfl,h5.ins,cz _ _ _ (by decide +kernel),_,rfl,.inl ⟨rfl,_,aI.of xW⟩,p,_,.ref tq,rfl,rfl,xW,?_,?_⟩
   ·rw[aeu,adZ];show ((pK.map V.ref)++[V.ref tq])[(pK.map V.ref).length+ 1 - 1]?=_
    rw[Nat.add_sub_cancel,aee (ad7 _),afJ];rfl
   have RX:((pK++[tq]).map V.ref).dropLast=pK.map V.ref:=by rw[aeu];exact List.dropLast_concat
   rw[RX];have kp:∀b o,b≠p->H5 b=some o->upd H5 p (.lst (pK.map V.ref)) b=some o:=λb o nb e=>by rw[ao nb];exact e
   have kt:∀b xs,H5 b=some (.tup xs)->upd H5 p (.lst (pK.map V.ref)) b=some (.tup xs):=λb xs e=>kp b _ (cF e xW (by intro z;cases z)) e
   have h6:=h5.keep (λb o hb e=>kp b o (λz=>Fb (z ▸ hb)) e) kt;have P6:dz (upd H5 p (.lst (pK.map V.ref))) p pre:=⟨pK,aj,dU,λi t' w' e1 e2=>kt _ _ (Mw.2 i t' w' (by rw[aej (ad4.mp e1).1];exact e1) (by rw[aej (ad4.mp e2).1];exact e2))⟩;generalize upd H5 p (.lst (pK.map V.ref))=H6 at kp kt h6 P6 ⊢;refine⟨_,rfl,r,tq,p,S5,a5,w,pre,rfl,h6,kt _ _ htq,ok,Mu,Mv,P6,Fb,hb,λa7 H7 b7 h7 P7 o7=>?_⟩;refine⟨_,a7,_,IU,rfl,h7,P7,hI2,λz=>?_,λb o nb kx e=>b7 b o (λz=>?_) kx (kp b o kx (B5 b o nb kx e)),λb hb=>?_⟩
   ·rcases o7 p z with q1|q1
    ·exact Fb q1
    ·obtain⟨_,q2,_⟩:=P6;rw[q1]at q2;cases q2
   ·rcases O5 b z with q1|q1
    ·exact nb q1
    ·rw[q1]at e;cases e
   ·rcases o7 b hb with q1|q1
    ·exact O5 b q1
    ·by_cases ho:a.own r b
     ·exact .inl ho
     ·refine .inr ?_
      cases e:H b with
      |none=>rfl
      |some o=>
       by_cases E8:b=p
       ·rw[E8,Wt]at e;cases e
       ·rw[kp b o E8 (B5 b o ho E8 e)]at q1;cases q1
theorem Ov {α:Type}{ws:List α}{i:Nat}{z:α}(h:ws[i]?=some z):ws.drop i=z::ws.drop (i+ 1):=by
 have hi:=(ad4.mp h).1;rw[agE hi,(ad4.mp h).2]
def C1 (C:Addr):Sp:=λvs H Q _=>∃(r:Addr) (S:RS) (a:RA) (c:Nat) (t:Addr) (ws:List Int),vs=[.ref r,.int c,.ref t]/\ay C H r S a/\S.Wf/\c<S.made/\(∀c z d,S.by c z=some d->d<S.made)/\H t=some (.tup (ak ws))/\ws.length<=1000/\∀l H',au H H'->H' l=some (.lst (ak (nI (c::eY S.by c ws))))->Q (.ref l) H'
theorem IV (T:Txt K mg A):aK P w K mg base bq 2 A.wF A.wG ["rooms","room","word"] (C1 A.aq):=by
 have dA:aK P w K mg base bq 1 A.fQ A.fS ["self","room","step"] (sF A.aq):=iA T;refine T.walked.F.ok pY (λvs H Q E h=>?_) (λbK AA outer s H vs Q E hr h=>?_)
 ·obtain⟨r,S,a,c,t,ws,rfl,_⟩:=h;rfl
 ·obtain⟨r,S,a,c,t,ws,rfl,h,hw,hc,C2,ht,oC,k⟩:=h
  refine⟨_,(ai (aZ (i:=3) pY.nd rfl (Or.inl rfl) (cR (ae (pv 1) ah)))
   (ai (du aez rfl (iO (pv 2)) (bN (i:=4) pY.nd rfl (Or.inl rfl))
    (ai (aZ (i:=1) pY.nd rfl (Or.inl rfl) (bH (pv 0) (aH T) T.dB.m (dA) (hr.mono (by decide)) T.dB.b .nil aP (ae (pv 1) (ae (pv 4) ah))))
    (ai (bU (bu qN (pv 1) iN (bE _))
     (aw vT)
     bB)
    (aw (aX (dk aeg aeq aer b6 (pv 3) (ae (pv 1) ah)))))))
   (aw (bM (pv 3))))),?_⟩
  try dsimp only[bz,cD]
  refine iS ?_;intro gL fD;refine⟨_,rfl,(by show 1<=sizeLine;decide),λl nl=>?_⟩;have s1:=au.upd (o:=.lst [.int (c:Int)]) nl;have Mx:upd H l (.lst [.int (c:Int)]) l=some (.lst (ak (nI [c]))):=aj;have nlo:¬a.own r l:=h.yk nl;generalize upd H l (.lst [.int (c:Int)])=H1 at s1 Mx ⊢;have IK:=s1 _ _ ht;have ntl:t≠l:=av ht nl;refine⟨_,rfl,t,rfl,⟨_,bV.of IK⟩,?_⟩
  have fin:∀{H2:Hp} {pre:List Nat},(∀b o,b≠l->H1 b=some o->H2 b=some o)->H2 l=some (.lst (ak (nI (c::pre))))->eY S.by c ws=pre->Q (.ref l) H2:=λ{H2 pre} kk iu e=>by
   subst e;exact k l H2 (λb o e=>kk b o (av e nl) (s1 _ _ e)) iu
  let gf:Nat->St->Hp->Prop:=λi σ H2=>∃cur:Nat,∃pre v4,σ=[some (.ref r),some (.int (cur:Int)),some (.ref t),some (.ref l),v4]/\cur<S.made/\pre.length=i/\eY S.by c ws=pre++eY S.by cur (ws.drop i)/\(∀b o,b≠l->H1 b=some o->H2 b=some o)/\H2 l=some (.lst (ak (nI (c::pre))))
  refine Ei (xs:=ak ws) gf ⟨c,[],none,rfl,hc,rfl,rfl,λ_ _ _ e=>e,Mx⟩ (λi σ H2 _ ⟨_,_,_,_,_,_,_,kk,_⟩=>bV.of (kk _ _ ntl IK)) ?_ ?_
  ·intro i x σ H2 hx bA;refine aY ?_;intro q_;obtain⟨cur,pre,v4,rfl,RZ,dU,hg,kk,iu⟩:=bA;dsimp only[q_];clear q_;dsimp only[dE];refine wy ?_;intro eJ RN Iw;obtain⟨z,rfl,hz⟩:=cS hx;have hi:i<ws.length:=(ad4.mp hz).1;have h2:ay A.aq H2 r S a:=(h.same s1).keep (λb o hb e=>kk b o (λq=>nlo (q ▸ hb)) e) (λb xs e=>kk b _ (cF e Mx (by intro q;cases q)) e);rw[Ov hz]at hg;refine⟨_,rfl,r,a.dx,_,rfl,h2.ins,cz _ _ _ (by decide +kernel),_,rfl,_,rfl,r,S,a,cur,z,rfl,h2,by rw[hw.w];exact RZ,?_⟩
   cases eb:S.by cur z with
   |none=>
    refine⟨_,rfl,rfl,_,rfl,lP ?_⟩;rw[zU eb,aeP]at hg;exact⟨_,rfl,fin kk iu hg⟩
   |some b=>
    rw[show (Option.map (λn:Nat=>V.int (n:Int)) (some b)).getD V.non=V.int (b:Int) from rfl];refine⟨_,rfl,rfl,_,rfl,cU ?_⟩;rw[zV eb]at hg;refine⟨_,rfl,.inl ⟨rfl,_,aI.of iu⟩,_,rfl,l,_,_,rfl,rfl,iu,?_,?_⟩
    ·rw[aL,cX,aes,dU];exact aec (show i+ 1<=1001 by omega) (by decide)
    refine⟨b,pre++[b],_,rfl,C2 _ _ _ eb,by rw[adZ,dU];rfl,by rw[hg,ae6];rfl,λx o n e=>by rw[ao n];exact kk x o n e,?_⟩;rw[aj,←List.cons_append,kJ,ints_app];rfl
  ·intro σ H2 bA;refine aY ?_;intro q_;obtain⟨cur,pre,v4,rfl,RZ,dU,hg,kk,iu⟩:=bA;dsimp only[q_];clear q_;rw[aL,ahf]at hg;exact⟨_,rfl,fin kk iu (by rw[hg];exact aeP _)⟩
def gM (g:Gg)(wa:Addr):List (Str×V):=[("which",.int g.which),("word",.ref wa),("start",.int g.start),("front",.int g.front),("first",.int g.first),("rear",.int g.bj),("last",.int g.last)]
theorem K4 (g:Gg)(wa:Addr):(gM g wa).lookup ("which":Str)=some (.int g.which):=by kernel_rfl
theorem mC (g:Gg)(wa:Addr):(gM g wa).lookup ("word":Str)=some (.ref wa):=by kernel_rfl
theorem wO (g:Gg)(wa:Addr):(gM g wa).lookup ("start":Str)=some (.int g.start):=by kernel_rfl
theorem mD (g:Gg)(wa:Addr):(gM g wa).lookup ("front":Str)=some (.int g.front):=by kernel_rfl
theorem ie (g:Gg)(wa:Addr):(gM g wa).lookup ("first":Str)=some (.int g.first):=by kernel_rfl
theorem mE (g:Gg)(wa:Addr):(gM g wa).lookup ("rear":Str)=some (.int g.bj):=by kernel_rfl
theorem mF (g:Gg)(wa:Addr):(gM g wa).lookup ("last":Str)=some (.int g.last):=by kernel_rfl
theorem My {g:Gg}{wa:Addr}{x:Str}(h:x∉(["which","word","start","front","first","rear","last"]:List Str)):(gM g wa).lookup x=none:=by
 simp only[aea,aeT,agj,not_or]at h;obtain⟨h1,h2,h3,h4,h5,h6,h7⟩:=h;unfold gM;simp only[List.lookup,aef.mpr h1,aef.mpr h2,aef.mpr h3,aef.mpr h4,aef.mpr h5,aef.mpr h6,aef.mpr h7]
theorem C3 (g:Gg)(wa:Addr)(n:Nat):bW "front" (.int n) (gM g wa)=gM { g with front:=n } wa:=by kernel_rfl
theorem K5 (g:Gg)(wa:Addr)(n:Nat):bW "first" (.int n) (gM g wa)=gM { g with first:=n } wa:=by kernel_rfl
theorem Fd (g:Gg)(wa:Addr)(n:Nat):bW "rear" (.int n) (gM g wa)=gM { g with bj:=n } wa:=by kernel_rfl
theorem Ow (g:Gg)(wa:Addr)(n:Nat):bW "last" (.int n) (gM g wa)=gM { g with last:=n } wa:=by kernel_rfl
structure eF (CG:Addr) (H:Hp) (p dx wa:Addr) (g:Gg):Prop where
 ins:H p=some (.ins CG dx (gM g wa))
 wo:H wa=some (.tup (ak g.word))
theorem eF.same {CG:Addr}{H H':Hp}{p dx wa:Addr}{g:Gg}(h:eF CG H p dx wa g)(s:au H H'):eF CG H' p dx wa g:=⟨s _ _ h.ins,s _ _ h.wo⟩
theorem eF.set {CG:Addr}{H:Hp}{p dx wa:Addr}{g g':Gg}(h:eF CG H p dx wa g)(e:g'.word=g.word):eF CG (upd H p (.ins CG dx (gM g' wa))) p dx wa g':=⟨aj,by rw[ao (cF h.wo h.ins (by intro z;cases z)),e];exact h.wo⟩
def jH (fp:List (List Int×Nat)):List (List Key×V):=fp.map λp=>(p.1.map Sum.inl,V.int p.2)
structure zg (rs:List (List Int)) (fp:List (List Int×Nat)):Prop where
 a:∀p∈fp,rs[p.2]?=some p.1
 b:∀w∈rs,∃n,(w,n)∈fp
 n:(fp.map (·.1)).Nodup
theorem C4 {fp:List (List Int×Nat)}(w:List Int):bD (jH fp) (w.map Sum.inl)=((fp.find? λp=>decide (p.1=w)).map λp=>V.int p.2):=by
 induction fp with
 |nil=>rfl
 |cons p l ih=>
  by_cases h:p.1=w
  ·rw[afS (by exact aey h)];exact cW (p:=(p.1.map Sum.inl,V.int p.2)) (by rw[h])
  ·rw[afT (by simpa using h)];refine(cP (p:=(p.1.map Sum.inl,V.int p.2)) (λz=>h ?_)).trans ih
   have inj:∀{a b:List Int},a.map (Sum.inl:Int->Key)=b.map Sum.inl->a=b:=λ{a b} e=>by
    induction a generalizing b with
    |nil=>cases b with|nil=>rfl|cons=>cases e
    |cons x a ih=>cases b with
     |nil=>cases e
     |cons y b=>rw[aeN,aeN]at e;injection e with e1 e2;rw[Sum.inl.inj e1,ih e2]
   exact inj z
def C5:Sp:=λvs H Q _=>∃(l:Addr) (rs:List (List Int)),vs=[.ref l]/\dn H l rs/\rs.length<=1000/\∀d fp H',au H H'->H d=none->H' d=some (.dT (jH fp))->zg rs fp->Q (.ref d) H'
theorem yp (T:Txt K mg A):aK P w K mg base bq 1 A.mh A.mj ["rules"] C5:=by
 refine T.lz.F.ok iI (λvs H Q E h=>?_) (λbK AA outer s H vs Q E hr h=>?_)
 ·obtain⟨l,rs,rfl,_⟩:=h;rfl
 ·obtain⟨l,rs,rfl,hW,hl,k⟩:=h;have ku:=jJ hr
  refine⟨_,(ai (aZ (i:=1) iI.nd rfl (Or.inl rfl) JZ)
   (ai (du aez rfl (BR rfl T.qD (pv 0)) (tK rfl (dZ (bN (i:=2) iI.nd rfl (Or.inl rfl)) (dZ (bN (i:=3) iI.nd rfl (Or.inl rfl)) qL)))
    (aw (aX (Ko ku (pv 1) (pv 3) (pv 2) ⟨rfl,rfl,rfl,rfl⟩))))
   (aw (bM (pv 1))))),?_⟩
  try dsimp only[bz,cD]
  refine iS ?_;intro gL fD;obtain⟨ps,sW,R5⟩:=id hW;refine λd nd=>?_
  have s1:=au.upd (o:=.dT []) nd;have q1:upd H d (.dT []) d=some (.dT (jH [])):=aj;generalize upd H d (.dT [])=H1 at s1 q1 ⊢;have VA:l≠d:=av sW nd;refine⟨_,rfl,l,rfl,⟨_,aI.of (s1 _ _ sW)⟩,?_⟩
  let gf:Nat->St->Hp->Prop:=λi σ H2=>∃fp v2 v3,σ=[some (.ref l),some (.ref d),v2,v3]/\au H H2/\H2 d=some (.dT (jH fp))/\(∀p∈fp,rs[p.2]?=some p.1/\p.2<i)/\(∀(j:Nat) (w:List Int),j<i->rs[j]?=some w->∃n,(w,n)∈fp)/\(fp.map (·.1)).Nodup/\fp.length<=i
  refine zG (K:=K) (a:=l) (xs:=ps.map V.ref) gf
   ⟨[],none,none,rfl,s1,q1,(λp hp=>by cases hp),λj w hj=>absurd hj (by omega),afE,ad7 _⟩ (λi σ H2 _ ⟨_,_,_,_,s2,_⟩=>aI.of (s2 _ _ sW)) ?_ ?_
  ·intro i v σ H2 t hi nt bA;refine aY ?_;intro q_;obtain⟨fp,v2,v3,rfl,s2,hd,ha,hb,hn,hlen⟩:=bA;dsimp only[q_];clear q_
   have sU:i<ps.length:=by
    have:=(ad4.mp hi).1;rw[ad6]at this;exact this
   have hir:i<rs.length:=by rw[←R5.1];exact sU
   obtain⟨q,g1⟩:=get_some (xs:=ps) (i:=i) sU;obtain⟨w,g2⟩:=get_some (xs:=rs) (i:=i) hir;rw[aeo,g1]at hi;obtain rfl:V.ref (q)=v:=Option.some.inj hi;have s3:=au.upd (o:=.tup [.int (i:Int),.ref q]) nt;refine⟨t,_,rfl,bV.of aj,rfl,_,_,rfl,_,_,rfl,rfl,?_⟩;generalize upd H2 t (.tup [.int (i:Int),.ref q])=H3 at s3 ⊢;have HL:=s3 _ _ hd;have hq:H3 q=some (.tup ((w.map (Sum.inl:Int->Key)).map kV)):=by rw[ae8];exact(s2.trans s3) _ _ (R5.2 i q w g1 g2)
   refine⟨_,rfl,d,rfl,.inr ⟨_,.inl HL⟩,_,rfl,_,rfl,jH fp,w.map Sum.inl,q,HL,rfl,hq,?_,λv hv=>?_,λhv=>?_⟩
   ·unfold jH;rw[ad6];exact aec (show fp.length<=1000 by omega) (by decide)
   ·rw[C4]at hv;obtain⟨p,hp,rfl⟩:=afw.mp hv;have e:p.1=w:=by have h9:=List.find?_some hp;simpa using h9
    have hm:=agD hp;refine⟨fp,_,_,rfl,s2.trans s3,HL,λp hp=>⟨(ha p hp).1,by have:=(ha p hp).2;omega⟩,λj u hj eu=>?_,hn,by omega⟩;by_cases uC:j<i
    ·exact hb j u uC eu
    ·rw[show j=i by omega,g2]at eu;rw[←Option.some.inj eu,←e];exact⟨p.2,hm⟩
   ·rw[C4]at hv
    have Eo:∀p∈fp,p.1≠w:=λp hp e=>by
     have:=List.find?_eq_none.mp (agY.mp hv) p hp;exact this (aey e)
    have ep:putK (jH fp) (w.map Sum.inl) (V.int (i:Int))=jH (fp++[(w,i)]):=by
     rw[BF _ (by rw[C4];exact hv)];unfold jH;rw[aeu];rfl
    rw[ep];have R6:H d=none:=nd;refine⟨fp++[(w,i)],_,_,rfl,λb o e=>by rw[ao (av e R6)];exact(s2.trans s3) _ _ e,aj,λp hp=>?_,λj u hj eu=>?_,?_,by rw[adZ];show _+ 1<=_;omega⟩
    ·rcases aei.mp hp with z|z
     ·exact⟨(ha p z).1,by have:=(ha p z).2;omega⟩
     ·rw[ad1.mp z];exact⟨g2,by show i<i+ 1;omega⟩
    ·by_cases uC:j<i
     ·obtain⟨n,hn⟩:=hb j u uC eu;exact⟨n,aex _ hn⟩
     ·rw[show j=i by omega,g2]at eu;rw[←Option.some.inj eu];exact⟨i,ad5 _ (ad1.mpr rfl)⟩
    ·rw[aeu,aeX];refine⟨hn,by simp,λx hx y hy e=>?_⟩;have hy:y=w:=ad1.mp hy;obtain⟨p,hp,rfl⟩:=aeL.mp hx;exact Eo p hp (e.trans hy)
  ·intro σ H2 bA;refine aY ?_;intro q_;obtain⟨fp,v2,v3,rfl,s2,hd,ha,hb,hn,hlen⟩:=bA;dsimp only[q_];clear q_;refine⟨_,rfl,k d fp H2 s2 nd hd ⟨λp hp=>(ha p hp).1,λw hw=>?_,hn⟩⟩;obtain⟨j,hj⟩:=ae9 hw;exact hb j w (by rw[ad6,R5.1];exact(ad4.mp hj).1) hj
def Ac (which:Nat)(word:List Int)(start:Nat):Gg:=⟨which,word,start,start,0,start,word.length - 1⟩
def IW (CG:Addr):Sp:=λvs H Q _=>∃(x dx wa:Addr) (which start:Nat) (word:List Int),vs=[.ref x,.int which,.ref wa,.int start]/\H x=some (.ins CG dx [])/\H wa=some (.tup (ak word))/\1<=word.length/\word.length<=1000/\∀H',(∀b o,H b=some o->b≠x->H' b=some o)->eF CG H' x dx wa (Ac which word start)->Q .non H'
def Mz (which start:Nat)(wa:Addr)(l:Int):List (Str×V):=[("which",.int which)]
def MA (which start:Nat)(wa:Addr)(l:Int):List (Str×V):=[("which",.int which),("word",.ref wa)]
def MB (which start:Nat)(wa:Addr)(l:Int):List (Str×V):=[("which",.int which),("word",.ref wa),("start",.int start)]
def MC (which start:Nat)(wa:Addr)(l:Int):List (Str×V):=[("which",.int which),("word",.ref wa),("start",.int start),("front",.int start)]
def MD (which start:Nat)(wa:Addr)(l:Int):List (Str×V):=[("which",.int which),("word",.ref wa),("start",.int start),("front",.int start),("first",.int 0)]
def MF (which start:Nat)(wa:Addr)(l:Int):List (Str×V):=[("which",.int which),("word",.ref wa),("start",.int start),("front",.int start),("first",.int 0),("rear",.int start)]
def R7 (which start:Nat)(wa:Addr)(l:Int):List (Str×V):=[("which",.int which),("word",.ref wa),("start",.int start),("front",.int start),("first",.int 0),("rear",.int start),("last",.int l)]
theorem gy2 (which start:Nat)(wa:Addr)(l:Int):bW "word" (.ref wa) (Mz which start wa l)=MA which start wa l:=eP (by kernel_rfl)
theorem gy3 (which start:Nat)(wa:Addr)(l:Int):bW "start" (.int start) (MA which start wa l)=MB which start wa l:=eP (by kernel_rfl)
theorem gy4 (which start:Nat)(wa:Addr)(l:Int):bW "front" (.int start) (MB which start wa l)=MC which start wa l:=eP (by kernel_rfl)
theorem gy5 (which start:Nat)(wa:Addr)(l:Int):bW "first" (.int 0) (MC which start wa l)=MD which start wa l:=eP (by kernel_rfl)
theorem gy6 (which start:Nat)(wa:Addr)(l:Int):bW "rear" (.int start) (MD which start wa l)=MF which start wa l:=eP (by kernel_rfl)
theorem gy7 (which start:Nat)(wa:Addr)(l:Int):bW "last" (.int l) (MF which start wa l)=R7 which start wa l:=eP (by kernel_rfl)
theorem vn (T:Txt K mg A):aK P w K mg base bq 1 A.hJ A.j0 ["self","which","word","start"] (IW A.aD):=by
 refine T.jk.F.ok vh (λvs H Q E h=>?_) (λbK AA outer s H vs Q E hr h=>?_)
 ·obtain⟨x,dx,wa,which,start,word,rfl,_⟩:=h;rfl
 ·obtain⟨x,dx,wa,which,start,word,rfl,hx,ju,Mx,iu,k⟩:=h
  refine⟨_,(ai (cu (pv 0) (pv 1) rfl)
   (ai (cu (pv 0) (pv 2) rfl)
   (ai (cu (pv 0) (pv 3) rfl)
   (ai (cu (pv 0) (pv 3) rfl)
   (ai (cu (pv 0) aB rfl)
   (ai (cu (pv 0) (pv 3) rfl)
   (aw (cu (pv 0) (aV ou (bL bX rfl T.fT aeW (ae (pv 2) ah)) aB) rfl)))))))),?_⟩
  try dsimp only[bz,cD]
  refine r6 ?_;intro CL vJ tf lD gL fD;have st:∀{H0:Hp} {fs gs:List (Str×V)},H0 x=some (.ins A.aD dx fs)->(∀b o,H b=some o->b≠x->H0 b=some o)->upd H0 x (.ins A.aD dx gs) x=some (.ins A.aD dx gs)/\∀b o,H b=some o->b≠x->upd H0 x (.ins A.aD dx gs) b=some o:=λ_ h=>⟨aj,λb o e n=>by rw[ao n];exact h b o e n⟩
  have Wv:wa≠x:=cF ju hx (by intro z;cases z);have o0:∀b o,H b=some o->b≠x->H b=some o:=λb o e _=>e
  refine⟨_,rfl,_,rfl,x,_,dx,_,rfl,hx,aS T,T.Cw,(by show 0<1000;decide),?_⟩;rw[show bW "which" (.int which) []=Mz which start wa (((word.length - 1:Nat):Int)) from rfl];obtain⟨x1,o1⟩:=st (gs:=Mz which start wa (((word.length - 1:Nat):Int))) hx o0;generalize upd H x (.ins A.aD dx (Mz which start wa (((word.length - 1:Nat):Int))))=H1 at x1 o1 ⊢;refine⟨_,rfl,_,rfl,x,_,dx,_,rfl,x1,aS T,T.ko,(by show 1<1000;decide),?_⟩;rw[gy2];obtain⟨x2,o2⟩:=st (gs:=MA which start wa (((word.length - 1:Nat):Int))) x1 o1;generalize upd H1 x (.ins A.aD dx (MA which start wa (((word.length - 1:Nat):Int))))=H2 at x2 o2 ⊢;refine⟨_,rfl,_,rfl,x,_,dx,_,rfl,x2,aS T,T.sC,(by show 2<1000;decide),?_⟩;rw[gy3];obtain⟨x3,o3⟩:=st (gs:=MB which start wa (((word.length - 1:Nat):Int))) x2 o2;generalize upd H2 x (.ins A.aD dx (MB which start wa (((word.length - 1:Nat):Int))))=H3 at x3 o3 ⊢;refine⟨_,rfl,_,rfl,x,_,dx,_,rfl,x3,aS T,T.ia,(by show 3<1000;decide),?_⟩;rw[gy4];obtain⟨x4,o4⟩:=st (gs:=MC which start wa (((word.length - 1:Nat):Int))) x3 o3;generalize upd H3 x (.ins A.aD dx (MC which start wa (((word.length - 1:Nat):Int))))=H4 at x4 o4 ⊢;refine⟨_,rfl,x,_,dx,_,rfl,x4,aS T,T.fm,(by show 4<1000;decide),?_⟩;rw[gy5];obtain⟨x5,o5⟩:=st (gs:=MD which start wa (((word.length - 1:Nat):Int))) x4 o4;generalize upd H4 x (.ins A.aD dx (MD which start wa (((word.length - 1:Nat):Int))))=H5 at x5 o5 ⊢;refine⟨_,rfl,_,rfl,x,_,dx,_,rfl,x5,aS T,T.iz,(by show 5<1000;decide),?_⟩;rw[gy6];obtain⟨x6,o6⟩:=st (gs:=MF which start wa (((word.length - 1:Nat):Int))) x5 o5;generalize upd H5 x (.ins A.aD dx (MF which start wa (((word.length - 1:Nat):Int))))=H6 at x6 o6 ⊢;refine⟨_,rfl,wa,_,rfl,.inr (bV.of (o6 _ _ ju Wv)),_,_,rfl,rfl,_,rfl,x,_,dx,_,rfl,x6,aS T,T.jm,(by show 6<1000;decide),?_⟩;rw[show (λ(i j:Int)=>V.int (i - j)) ((ak word).length:Int) 1=V.int (((word.length - 1:Nat):Int)) by show V.int (((ak word).length:Int) - 1)=_;rw[aL];congr 1;omega];rw[gy7];obtain⟨x7,o7⟩:=st (gs:=R7 which start wa (((word.length - 1:Nat):Int))) x6 o6;generalize upd H6 x (.ins A.aD dx (R7 which start wa (((word.length - 1:Nat):Int))))=H7 at x7 o7 ⊢;exact k H7 o7 ⟨x7,o7 _ _ ju Wv⟩
structure uD (S:RS) (g g':Gg):Prop where
 wh:g'.which=g.which
 wo:g'.word=g.word
 st:g'.start=g.start
 gi:GI S g'
 ef:S.ax g'.front=g'.front
 er:S.ax g'.bj=g'.bj
 k1:S.ax g.front=g.front->S.by g.front g.z1=none->g'.front=g.front/\g'.first=g.first
 k2:S.ax g.bj=g.bj->S.by g.bj g.z2=none->g'.bj=g.bj/\g'.last=g.last
theorem uD.fwd {S:RS}{R:Nat->Int->Nat->Prop}{g g1:Gg}(h:uD S g g1)(gd:Good S [] R)(bG:g1.first<g1.last){c:Nat}(hc:S.by g1.front g1.z1=some c):uD S g { g1 with front:=c,first:=g1.first+ 1 }:=by
 obtain⟨_,tm,_,ec⟩:=gd.st _ _ _ hc;have ll:=h.gi.ll;have hz:=Gg.x8 (g:=g1) (by omega);refine⟨h.wh,h.wo,h.st,⟨bG,ll,h.gi.s,tm,h.gi.r,?_,h.gi.wr⟩,ec,h.er,λe1 e2=>?_,h.k2⟩
 ·have:=h.gi.wf;rw[h.ef]at this;show wk S.by _ (g1.word.take (g1.first+ 1))=some (S.ax c);rw[take_snoc hz,xZ this,Q7 hc,ec]
 ·obtain⟨q1,q2⟩:=h.k1 e1 e2;unfold Gg.z1 at hc e2;rw[q1,q2,h.wo,e2]at hc;cases hc
theorem uD.bwd {S:RS}{R:Nat->Int->Nat->Prop}{g g1:Gg}(h:uD S g g1)(gd:Good S [] R)(bG:g1.first<g1.last){c:Nat}(hc:S.by g1.bj g1.z2=some c):uD S g { g1 with bj:=c,last:=g1.last - 1 }:=by
 obtain⟨_,tm,_,ec⟩:=gd.st _ _ _ hc;have ll:=h.gi.ll;have hz:=Gg.at2 (g:=g1) ll;refine⟨h.wh,h.wo,h.st,⟨by show g1.first<=g1.last - 1;omega,by show g1.last - 1<g1.word.length;omega,h.gi.s,h.gi.f,tm,h.gi.wf,?_⟩,h.ef,ec,h.k1,λe1 e2=>?_⟩
 ·have:=h.gi.wr;rw[h.er]at this;show wk S.by (S.ax c) (g1.word.drop (g1.last - 1+ 1))=some (S.ax g1.start);rw[show g1.last - 1+ 1=g1.last by omega,drop_cons hz,ec,lU (gd.sy _ _ _ hc)];exact this
 ·obtain⟨q1,q2⟩:=h.k2 e1 e2;unfold Gg.z2 at hc e2;rw[q1,q2,h.wo,e2]at hc;cases hc
def MG (CR CG:Addr):Sp:=λvs H Q _=>∃(p dx wa r:Addr) (g:Gg) (S:RS) (a:RA) (R:Nat->Int->Nat->Prop),vs=[.ref p,.ref r]/\eF CG H p dx wa g/\ay CR H r S a/\Good S [] R/\GI S g/\¬a.own r p/\g.word.length<=1000/\∀g' H',(∀b o,b≠p->H b=some o->H' b=some o)->eF CG H' p dx wa g'->VQ S g g'->Q .non H'
theorem wQ (T:Txt K mg A):aK P w K mg base bq 2 A.kT A.kU ["self","rooms"] (MG A.aq A.aD):=by
 have dQ:aK P w K mg base bq 1 A.fI A.fJ ["self","room"] (rB A.aq):=jo T;have dA:aK P w K mg base bq 1 A.fQ A.fS ["self","room","step"] (sF A.aq):=iA T;refine T.nh.F.ok j9 (λvs H Q E h=>?_) (λbK AA outer s H vs Q E hr h=>?_)
 ·obtain⟨p,dx,wa,r,g,S,a,R,rfl,_⟩:=h;rfl
 ·obtain⟨p,dx,wa,r,g,S,a,R,rfl,hp,hR,gd,gi,C6,oC,k⟩:=h
  refine⟨_,(ai (cu (pv 0) (bH (pv 1) (aH T) T.dy.m (dQ) (hr.mono (by decide)) T.dy.b .nil aP (ae (aF (pv 0) rfl) ah)) rfl)
   (ai (cu (pv 0) (bH (pv 1) (aH T) T.dy.m (dQ) (hr.mono (by decide)) T.dy.b .nil aP (ae (aF (pv 0) rfl) ah)) rfl)
   (ai (cj (jQ aez (bu xt (aF (pv 0) rfl) (aF (pv 0) rfl) (bE _))
    (ai (aZ (i:=2) j9.nd rfl (Or.inl rfl) (bH (pv 1) (aH T) T.dB.m (dA) (hr.mono (by decide)) T.dB.b .nil aP (ae (aF (pv 0) rfl) (ae (bJ fL (aF (pv 0) rfl) (aF (pv 0) rfl) (λ_ _=>rfl)) ah))))
    (ai (bU (bu qN (pv 2) iN (bE _))
     (aw vT)
     bB)
    (ai (cu (pv 0) (pv 2) rfl)
    (aw (cu (pv 0) (aV dC (aF (pv 0) rfl) aB) rfl)))))))
   (aw (cj (jQ aez (bu xt (aF (pv 0) rfl) (aF (pv 0) rfl) (bE _))
    (ai (aZ (i:=2) j9.nd rfl (Or.inl rfl) (bH (pv 1) (aH T) T.dB.m (dA) (hr.mono (by decide)) T.dB.b .nil aP (ae (aF (pv 0) rfl) (ae (gg eR (bJ fL (aF (pv 0) rfl) (aF (pv 0) rfl) (λ_ _=>rfl))) ah))))
    (ai (bU (bu qN (pv 2) iN (bE _))
     (aw vT)
     bB)
    (ai (cu (pv 0) (pv 2) rfl)
    (aw (cu (pv 0) (aV ou (aF (pv 0) rfl) aB) rfl))))))))))),?_⟩
  try dsimp only[bz,cD]
  refine jV ?_;intro lD gL fD;have eo:∀{c:Nat},c<S.made->S.bI[c]?=some (S.ax c):=λ{c} hc=>mW (by rw[gd.wf.e];exact hc)
  have kp:∀{H2:Hp},(∀b o,b≠p->H b=some o->H2 b=some o)->ay A.aq H2 r S a:=λ{H2} f=>hR.keep (λb o hb e=>f b o (λz=>C6 (z ▸ hb)) e) (λb xs e=>f b _ (cF e hp.ins (by intro z;cases z)) e)
  have up:∀{H2:Hp} {o2:HO},(∀b o,b≠p->H b=some o->H2 b=some o)->∀b o,b≠p->H b=some o->upd H2 p o2 b=some o:=λf b o n e=>by rw[ao n];exact f b o n e
  refine⟨_,rfl,r,a.dx,_,rfl,hR.ins,cz _ _ _ (by decide +kernel),_,rfl,p,_,dx,_,_,rfl,hp.ins,aS T,T.ia,mD _ _,r,S,a,g.front,S.ax g.front,rfl,hR,eo gi.f,_,rfl,p,_,dx,_,rfl,hp.ins,aS T,T.ia,(by show 7<1000;decide),?_⟩;rw[C3];have p1:=hp.set (g':={ g with front:=S.ax g.front }) rfl;have f1:=up (o2:=.ins A.aD dx (gM { g with front:=S.ax g.front } wa)) (λb o _ e=>e);generalize upd H p (.ins A.aD dx (gM { g with front:=S.ax g.front } wa))=H1 at p1 f1 ⊢;have R1:=kp f1;refine⟨_,rfl,r,a.dx,_,rfl,R1.ins,cz _ _ _ (by decide +kernel),_,rfl,p,_,dx,_,_,rfl,p1.ins,aS T,T.iz,mE _ _,r,S,a,g.bj,S.ax g.bj,rfl,R1,eo gi.r,_,rfl,p,_,dx,_,rfl,p1.ins,aS T,T.iz,(by show 7<1000;decide),?_⟩;rw[Fd];have p2:=p1.set (g':={ g with front:=S.ax g.front,bj:=S.ax g.bj }) rfl;have f2:=up (o2:=.ins A.aD dx (gM { g with front:=S.ax g.front,bj:=S.ax g.bj } wa)) f1;generalize upd H1 p (.ins A.aD dx (gM { g with front:=S.ax g.front,bj:=S.ax g.bj } wa))=H2 at p2 f2 ⊢;have e1:=(gd.el _ gi.f).2;have e2:=(gd.el _ gi.r).2;have R8:uD S g { g with front:=S.ax g.front,bj:=S.ax g.bj }:=⟨rfl,rfl,rfl,⟨gi.fl,gi.ll,gi.s,gd.lt gi.f,gd.lt gi.r,by show wk _ _ _=some (S.ax (S.ax g.front));rw[e1];exact gi.wf,by show wk _ (S.ax (S.ax g.bj)) _=_;rw[e2];exact gi.wr⟩,e1,e2,λe _=>⟨e,rfl⟩,λe _=>⟨e,rfl⟩⟩
  let pL:St->Hp->Prop:=λ aJ H'=>∃g1 v2,aJ=[some (.ref p),some (.ref r),v2]/\(∀b o,b≠p->H b=some o->H' b=some o)/\eF A.aD H' p dx wa g1/\uD S g g1/\(g1.first<g1.last->S.by g1.front g1.z1=none)
  refine⟨pL,?_,?_⟩
  ·refine bO ?_;intro eJ;refine⟨λm σ H'=>∃g1 v2,m=g1.last - g1.first/\σ=[some (.ref p),some (.ref r),v2]/\(∀b o,b≠p->H b=some o->H' b=some o)/\eF A.aD H' p dx wa g1/\uD S g g1,⟨_,_,none,rfl,rfl,f2,p2,R8⟩,?_⟩;intro m σ H' bA;refine aY ?_;intro q_;obtain⟨g1,v2,rfl,rfl,f',p',ad⟩:=bA;dsimp only[q_];clear q_;have R':=kp f';have ll:=ad.gi.ll;have fl:=ad.gi.fl;have lw:g1.word.length<=1000:=by rw[ad.wo];exact oC
   refine⟨_,rfl,p,_,dx,_,_,rfl,p'.ins,aS T,T.fm,ie _ _,_,rfl,p,_,dx,_,_,rfl,p'.ins,aS T,T.jm,mF _ _,_,_,rfl,rfl,_,rfl,?_⟩;refine cO (λq=>?_) (λq=>?_)
   ·have q:(g1.first:Int)<(g1.last:Int):=aeI q;refine⟨_,λ_ _ z=>z,?_⟩;have hz:=Gg.x8 (g:=g1) (by omega);refine⟨_,rfl,r,a.dx,_,rfl,R'.ins,cz _ _ _ (by decide +kernel),_,rfl,p,_,dx,_,_,rfl,p'.ins,aS T,T.ia,mD _ _,_,rfl,p,_,dx,_,_,rfl,p'.ins,aS T,T.ko,mC _ _,_,rfl,p,_,dx,_,_,rfl,p'.ins,aS T,T.fm,ie _ _,wa,_,_,.int g1.z1,rfl,rfl,bV.of p'.wo,c9 (cI hz),r,S,a,g1.front,g1.z1,rfl,R',by rw[gd.wf.w];exact ad.gi.f,?_⟩
    cases eb:S.by g1.front g1.z1 with
    |none=>exact⟨_,rfl,rfl,_,rfl,lP ⟨g1,_,rfl,f',p',ad,λ_=>eb⟩⟩
    |some c=>
     rw[show (Option.map (λn:Nat=>V.int (n:Int)) (some c)).getD V.non=V.int (c:Int) from rfl];refine⟨_,rfl,rfl,_,rfl,cU ?_⟩;refine⟨_,rfl,_,rfl,p,_,dx,_,rfl,p'.ins,aS T,T.ia,(by show 7<1000;decide),?_⟩;rw[C3];have p3:=p'.set (g':={ g1 with front:=c }) rfl;have f3:=up (o2:=.ins A.aD dx (gM { g1 with front:=c } wa)) f';generalize upd H' p (.ins A.aD dx (gM { g1 with front:=c } wa))=H3 at p3 f3 ⊢;refine⟨_,rfl,p,_,dx,_,_,rfl,p3.ins,aS T,T.fm,ie _ _,_,_,rfl,rfl,_,rfl,p,_,dx,_,rfl,p3.ins,aS T,T.fm,(by show 7<1000;decide),?_⟩;rw[show (λ(i j:Int)=>V.int (i+ j)) (({ g1 with front:=c }:Gg).first:Int) 1=V.int ((g1.first+ 1:Nat):Int) from rfl,K5];exact⟨_,by show g1.last - (g1.first+ 1)<_;omega,_,_,rfl,rfl,up f3,p3.set rfl,ad.fwd gd (by omega) eb⟩
   ·exact⟨g1,v2,rfl,f',p',ad,λz=>absurd (aey (show (g1.first:Int)<(g1.last:Int) by omega)) q⟩
  intro aJ H' bA;refine aY ?_;intro q_;obtain⟨g0,v0,rfl,f0,p0,R8,n0⟩:=bA;dsimp only[q_];clear q_
  let mB:St->Hp->Prop:=λ aJ H'=>∃g1 v2,aJ=[some (.ref p),some (.ref r),v2]/\(∀b o,b≠p->H b=some o->H' b=some o)/\eF A.aD H' p dx wa g1/\uD S g g1/\(g1.first<g1.last->S.by g1.front g1.z1=none)/\(g1.first<g1.last->S.by g1.bj g1.z2=none)
  refine⟨mB,?_,?_⟩
  ·refine bO ?_;intro eJ;refine⟨λm σ H'=>∃g1 v2,m=g1.last - g1.first/\σ=[some (.ref p),some (.ref r),v2]/\(∀b o,b≠p->H b=some o->H' b=some o)/\eF A.aD H' p dx wa g1/\uD S g g1/\(g1.first<g1.last->S.by g1.front g1.z1=none),⟨_,_,v0,rfl,rfl,f0,p0,R8,n0⟩,?_⟩;intro m σ H' bA;refine aY ?_;intro q_;obtain⟨g1,v2,rfl,rfl,f',p',ad,n1⟩:=bA;dsimp only[q_];clear q_;have R':=kp f';have ll:=ad.gi.ll;have fl:=ad.gi.fl;have lw:g1.word.length<=1000:=by rw[ad.wo];exact oC
   refine⟨_,rfl,p,_,dx,_,_,rfl,p'.ins,aS T,T.fm,ie _ _,_,rfl,p,_,dx,_,_,rfl,p'.ins,aS T,T.jm,mF _ _,_,_,rfl,rfl,_,rfl,?_⟩;refine cO (λq=>?_) (λq=>?_)
   ·have q:(g1.first:Int)<(g1.last:Int):=aeI q;refine⟨_,λ_ _ z=>z,?_⟩;have hz:=Gg.at2 (g:=g1) ll;refine⟨_,rfl,r,a.dx,_,rfl,R'.ins,cz _ _ _ (by decide +kernel),_,rfl,p,_,dx,_,_,rfl,p'.ins,aS T,T.iz,mE _ _,_,rfl,p,_,dx,_,_,rfl,p'.ins,aS T,T.ko,mC _ _,_,rfl,p,_,dx,_,_,rfl,p'.ins,aS T,T.jm,mF _ _,wa,_,_,.int (-g1.z2),rfl,rfl,bV.of p'.wo,c9 (cI hz),_,rfl,r,S,a,g1.bj,g1.z2,(by show [V.ref r,V.int (g1.bj:Int),V.int (- -g1.z2)]=_;rw[afB]),R',by rw[gd.wf.w];exact ad.gi.r,?_⟩
    cases eb:S.by g1.bj g1.z2 with
    |none=>exact⟨_,rfl,rfl,_,rfl,lP ⟨g1,_,rfl,f',p',ad,n1,λ_=>eb⟩⟩
    |some c=>
     rw[show (Option.map (λn:Nat=>V.int (n:Int)) (some c)).getD V.non=V.int (c:Int) from rfl];refine⟨_,rfl,rfl,_,rfl,cU ?_⟩;refine⟨_,rfl,_,rfl,p,_,dx,_,rfl,p'.ins,aS T,T.iz,(by show 7<1000;decide),?_⟩;rw[Fd];have p3:=p'.set (g':={ g1 with bj:=c }) rfl;have f3:=up (o2:=.ins A.aD dx (gM { g1 with bj:=c } wa)) f';generalize upd H' p (.ins A.aD dx (gM { g1 with bj:=c } wa))=H3 at p3 f3 ⊢;refine⟨_,rfl,p,_,dx,_,_,rfl,p3.ins,aS T,T.jm,mF _ _,_,_,rfl,rfl,_,rfl,p,_,dx,_,rfl,p3.ins,aS T,T.jm,(by show 7<1000;decide),?_⟩;rw[show (λ(i j:Int)=>V.int (i - j)) (({ g1 with bj:=c }:Gg).last:Int) 1=V.int ((g1.last - 1:Nat):Int) by show V.int ((g1.last:Int) - 1)=_;congr 1;omega,Ow];exact⟨_,by show (g1.last - 1) - g1.first<_;omega,_,_,rfl,rfl,up f3,p3.set rfl,ad.bwd gd (by omega) eb,λz=>n1 (by have z:g1.first<g1.last - 1:=z;omega)⟩
   ·exact⟨g1,v2,rfl,f',p',ad,n1,λz=>absurd (aey (show (g1.first:Int)<(g1.last:Int) by omega)) q⟩
  intro aJ H' bA;refine aY ?_;intro q_;obtain⟨g1,v2,rfl,f',p',ad,n1,n2⟩:=bA;dsimp only[q_];clear q_;exact k g1 H' f' p' ⟨ad.wh,ad.wo,ad.st,ad.gi,ad.ef,ad.er,n1,n2,ad.k1,ad.k2⟩
theorem Vb (ns:List Int)(j:Nat):fV (ak ns) none (some (j:Int))=ak (ns.take j):=by
 rw[Bz,HT.qT];show ak ((List.drop 0 ns).take (min j ns.length - 0))=_;rw[List.drop_zero,Nat.sub_zero];by_cases h:j<=ns.length
 ·rw[age h]
 ·rw[agG (by omega),afL,afx (by omega)]
theorem Ox (ns:List Int)(j:Nat)(h:j<=ns.length):fV (ak ns) (some (j:Int)) none=ak (ns.drop j):=by
 rw[Bz,HT.qT,age h];show ak ((ns.drop j).take (ns.length - j))=_;rw[afx (by rw[aeU];exact ad7 _)]
theorem rJ {by_:Nat->Int->Option Nat}:∀{ws:List Int} {r:Nat},(eY by_ r ws).length<=ws.length
 |[],_=>ad7 _
 |z::ws,r=>by
  cases q:by_ r z with
  |none=>rw[zU q];exact aeA _
  |some d=>rw[zV q,aes,aes];exact Nat.succ_le_succ rJ
def IX (CR CG:Addr):Sp:=λvs H Q _=>∃(p dx wa r:Addr) (g:Gg) (S:RS) (a:RA) (R:Nat->Int->Nat->Prop),vs=[.ref p,.ref r]/\eF CG H p dx wa g/\ay CR H r S a/\Good S [] R/\g.start<S.made/\g.bj<S.made/\g.last<g.word.length/\g.word.length<=1000/\∀q H',au H H'->ck H' 2 (.ref q) (y7 g.which ((g.start::eY S.by g.start (g.word.take g.first))++(g.bj::eY S.by g.bj (g.word.drop (g.last+ 1)))) g.first)->Q (.ref q) H'
theorem C7 (T:Txt K mg A):aK P w K mg base bq 3 A.qA A.qB ["self","rooms"] (IX A.aq A.aD):=by
 have C8:aK P w K mg base bq 2 A.wF A.wG ["rooms","room","word"] (C1 A.aq):=IV T;refine T.uv.F.ok pF (λvs H Q E h=>?_) (λbK AA outer s H vs Q E hr h=>?_)
 ·obtain⟨p,dx,wa,r,g,S,a,R,rfl,_⟩:=h;rfl
 ·obtain⟨p,dx,wa,r,g,S,a,R,rfl,hp,hR,gd,hs,hr9,L0,oC,k⟩:=h
  refine⟨_,(ai (aZ (i:=2) pF.nd rfl (Or.inl rfl) (bp (C8) (hr.mono (by decide)) rfl T.walked.m T.walked.F.kp T.walked.b .nil aP (ae (pv 1) (ae (aF (pv 0) rfl) (ae (oB By (aF (pv 0) rfl) yK (lO (aF (pv 0) rfl))) ah)))))
   (ai (aZ (i:=3) pF.nd rfl (Or.inl rfl) (bp (C8) (hr.mono (by decide)) rfl T.walked.m T.walked.F.kp T.walked.b .nil aP (ae (pv 1) (ae (aF (pv 0) rfl) (ae (oB By (aF (pv 0) rfl) (lO (aV dC (aF (pv 0) rfl) aB)) yK) ah)))))
   (aw (bM (cM (ae (uT (l:=[114,117,108,101]) rfl) (ae (aF (pv 0) rfl) (ae (di jI rfl T.my afg (ae (aV Bf (pv 2) (pv 3)) ah)) (ae (aF (pv 0) rfl) ah))))))))),?_⟩
  try dsimp only[bz,cD]
  refine iS ?_;intro gL fD;have C2:∀c z d,S.by c z=some d->d<S.made:=λc z d e=>(gd.st c z d e).2.1
  refine⟨_,rfl,_,rfl,p,_,dx,_,_,rfl,hp.ins,aS T,T.sC,wO _ _,_,rfl,p,_,dx,_,_,rfl,hp.ins,aS T,T.ko,mC _ _,_,rfl,p,_,dx,_,_,rfl,hp.ins,aS T,T.fm,ie _ _,_,rfl,wa,_,rfl,hp.wo,λt1 H1 s1 e1=>?_⟩;rw[Vb]at e1;refine⟨r,S,a,g.start,t1,g.word.take g.first,rfl,hR.same s1,gd.wf,hs,C2,e1,by rw[aeG];omega,λl1 H2 s2 h2=>?_⟩;have MH:=s1.trans s2;have p2:=hp.same MH;refine⟨_,rfl,_,rfl,p,_,dx,_,_,rfl,p2.ins,aS T,T.iz,mE _ _,_,rfl,p,_,dx,_,_,rfl,p2.ins,aS T,T.ko,mC _ _,_,rfl,p,_,dx,_,_,rfl,p2.ins,aS T,T.jm,mF _ _,_,_,rfl,rfl,_,rfl,wa,_,rfl,p2.wo,λt2 H3 s3 e3=>?_⟩;rw[show (g.last:Int)+ 1=((g.last+ 1:Nat):Int) by omega,Ox _ _ (by omega)]at e3;have Ww:=MH.trans s3;refine⟨r,S,a,g.bj,t2,g.word.drop (g.last+ 1),rfl,hR.same Ww,gd.wf,hr9,C2,e3,by rw[aeU];omega,λl2 H4 s4 h4=>?_⟩;have Wx:=Ww.trans s4;have p4:=hp.same Wx;have lx:=rJ (by_:=S.by) (ws:=g.word.take g.first) (r:=g.start);have ly:=rJ (by_:=S.by) (ws:=g.word.drop (g.last+ 1)) (r:=g.bj);rw[aeG]at lx;rw[aeU]at ly;refine⟨_,rfl,p,_,dx,_,_,rfl,p4.ins,aS T,T.Cw,K4 _ _,_,rfl,_,rfl,l1,l2,_,_,rfl,rfl,(s3.trans s4) _ _ h2,h4,?_,λl3 n3=>?_⟩
  ·rw[aL,aL,cX,cX,aes,aes];exact aep (show _<=100000 by omega) (by decide)
  refine⟨l3,_,rfl,.inl ⟨aI.of aj,λt3 n4=>?_⟩⟩;rw[←ints_app,←kJ]at n4 ⊢;have s5:=au.upd (o:=.lst (ak (nI ((g.start::eY S.by g.start (g.word.take g.first))++(g.bj::eY S.by g.bj (g.word.drop (g.last+ 1))))))) n3;generalize (g.start::eY S.by g.start (g.word.take g.first))++(g.bj::eY S.by g.bj (g.word.drop (g.last+ 1)))=path at *;have s6:=s5.trans (au.upd (o:=.tup (ak (nI path))) n4);have e6:upd (upd H4 l3 (.lst (ak (nI path)))) t3 (.tup (ak (nI path))) t3=_:=aj;generalize upd (upd H4 l3 (.lst (ak (nI path)))) t3 (.tup (ak (nI path)))=H6 at s6 e6 ⊢;refine⟨_,rfl,p,_,dx,_,_,rfl,(s6 _ _ p4.ins),aS T,T.fm,ie _ _,(by show 4<=sizeLine;decide),λq nq=>?_⟩;have s7:=au.upd (o:=.tup [.str (tx [114,117,108,101]),.int (g.which:Int),.ref t3,.int (g.first:Int)]) nq;refine k q _ (Wx.trans (s6.trans s7)) (.t aj rfl λj v d e7 e8=>?_)
  match j,e7,e8 with
  |0,e7,e8=>cases e7;cases e8;exact .s
  |1,e7,e8=>cases e7;cases e8;exact .i
  |2,e7,e8=>
   cases e7;cases e8;refine .t (s7 _ _ e6) (by rw[aL,cX,ad6]) λi u x f1 f2=>?_
   obtain⟨z,rfl,hz⟩:=cS f1;unfold nI at hz;rw[aeo]at hz f2
   cases q1:path[i]? with
   |none=>rw[q1]at hz;cases hz
   |some c=>
    rw[q1]at hz f2;cases hz;cases f2;exact .i
  |3,e7,e8=>cases e7;cases e8;exact .i
  |j+ 4,e7,e8=>simp at e7
theorem same_none {H H':Hp}(s:au H H'){b:Addr}(h:H' b=none):H b=none:=by
 cases e:H b with
 |none=>rfl
 |some o=>rw[s _ _ e]at h;cases h
structure KA where
 dx:Addr
 aQ:Addr
 aG:Addr
 aA:Addr
 aW:Addr
def rK (r:Addr)(c:KA)(hd:Nat):List (Str×V):=[("rooms",.ref r),("rules",.ref c.aQ),("goings",.ref c.aG),("agenda",.ref c.aA),("waiting",.ref c.aW),("heard",.int hd)]
theorem ig (r:Addr)(c:KA)(hd:Nat):(rK r c hd).lookup ("rooms":Str)=some (.ref r):=by kernel_rfl
theorem K6 (r:Addr)(c:KA)(hd:Nat):(rK r c hd).lookup ("rules":Str)=some (.ref c.aQ):=by kernel_rfl
theorem mX (r:Addr)(c:KA)(hd:Nat):(rK r c hd).lookup ("goings":Str)=some (.ref c.aG):=by kernel_rfl
theorem qd (r:Addr)(c:KA)(hd:Nat):(rK r c hd).lookup ("agenda":Str)=some (.ref c.aA):=by kernel_rfl
theorem nZ (r:Addr)(c:KA)(hd:Nat):(rK r c hd).lookup ("waiting":Str)=some (.ref c.aW):=by kernel_rfl
theorem wR (r:Addr)(c:KA)(hd:Nat):(rK r c hd).lookup ("heard":Str)=some (.int hd):=by kernel_rfl
theorem iJ {r:Addr}{c:KA}{hd:Nat}{x:Str}(h:x∉(["rooms","rules","goings","agenda","waiting","heard"]:List Str)):(rK r c hd).lookup x=none:=by
 simp only[aea,aeT,agj,not_or]at h;obtain⟨h1,h2,h3,h4,h5,h6⟩:=h;unfold rK;simp only[List.lookup,aef.mpr h1,aef.mpr h2,aef.mpr h3,aef.mpr h4,aef.mpr h5,aef.mpr h6]
theorem K7 (r:Addr)(c:KA)(hd n:Nat):bW "heard" (.int n) (rK r c hd)=rK r c n:=by kernel_rfl
structure sJ (CG:Addr) (H:Hp) (gv:List V) (gs:List (Option Gg)) (O:Addr->Prop):Prop where
 l:gv.length=gs.length
 n:∀(i:Nat) (v:V),gv[i]?=some v->gs[i]?=some none->v=.non
 s:∀(i:Nat) (v:V) (g:Gg),gv[i]?=some v->gs[i]?=some (some g)->∃p dx wa,v=.ref p/\eF CG H p dx wa g/\O p
 i:∀(i j:Nat) (p:Addr),gv[i]?=some (.ref p)->gv[j]?=some (.ref p)->i=j
structure cE (CG CC:Addr) (H:Hp) (x r:Addr) (c:KA) (gs:List (Option Gg)) (ag:List Nat) (W:bQ) (hd:Nat) (fp:List (List Int×Nat)) (O:Addr->Prop):Prop where
 ins:H x=some (.ins CC c.dx (rK r c hd))
 hG:∃gv,H c.aG=some (.lst gv)/\sJ CG H gv gs O
 hA:H c.aA=some (.lst (ak (nI ag)))
 wt:rq H c.aW W O
 ne:c.aG≠c.aA
 ox:O x
 oG:O c.aG
 oA:O c.aA
 th:∀b,O b->∃o,H b=some o/\(∀xs,o≠.tup xs)/\∀kv,o≠.dT kv
section
variable {CG CC:Addr} {H H':Hp} {x r:Addr} {c:KA} {gs:List (Option Gg)} {ag:List Nat} {W:bQ} {hd:Nat} {fp:List (List Int×Nat)} {O:Addr->Prop}
theorem sJ.keep {gv:List V}(h:sJ CG H gv gs O)(f:∀b o,O b->H b=some o->H' b=some o)(ft:∀b xs,H b=some (.tup xs)->H' b=some (.tup xs)):sJ CG H' gv gs O:=by
 refine⟨h.l,h.n,λi v g e1 e2=>?_,h.i⟩;obtain⟨p,dx,wa,e,q,o⟩:=h.s i v g e1 e2;exact⟨p,dx,wa,e,⟨f _ _ o q.ins,ft _ _ q.wo⟩,o⟩
theorem cE.keep (h:cE CG CC H x r c gs ag W hd fp O)(f:∀b o,O b->H b=some o->H' b=some o)(ft:∀b xs,H b=some (.tup xs)->H' b=some (.tup xs)):cE CG CC H' x r c gs ag W hd fp O:=by
 obtain⟨gv,g1,g2⟩:=h.hG;refine⟨f _ _ h.ox h.ins,⟨gv,f _ _ h.oG g1,g2.keep f ft⟩,f _ _ h.oA h.hA,h.wt.keep f,h.ne,h.ox,h.oG,h.oA,λb hb=>?_⟩;obtain⟨o,e,q⟩:=h.th b hb;exact⟨o,f _ _ hb e,q⟩
theorem cE.same (h:cE CG CC H x r c gs ag W hd fp O)(s:au H H'):cE CG CC H' x r c gs ag W hd fp O:=h.keep (λb o _ e=>s b o e) (λb o e=>s _ _ e)
theorem cE.lL (h:cE CG CC H x r c gs ag W hd fp O){b:Addr}{xs:List V}(e:H b=some (.tup xs)):¬O b:=λz=>by
 obtain⟨o,q,n,_⟩:=h.th b z;rw[e]at q;exact n xs (Option.some.inj q).symm
theorem cE.Sb (h:cE CG CC H x r c gs ag W hd fp O){b:Addr}{kv:List (List Key×V)}(e:H b=some (.dT kv)):¬O b:=λz=>by
 obtain⟨o,q,_,n⟩:=h.th b z;rw[e]at q;exact n kv (Option.some.inj q).symm
theorem cE.waits (h:cE CG CC H x r c gs ag W hd fp O){W':bQ}{O':Addr->Prop}(f:∀b o,(∀kv,o≠.dK kv)->H b=some o->H' b=some o)(oo:∀b,O b->O' b)(w:rq H' c.aW W' O')(th:∀b,O' b->∃o,H' b=some o/\(∀xs,o≠.tup xs)/\∀kv,o≠.dT kv):cE CG CC H' x r c gs ag W' hd fp O':=by
 obtain⟨gv,g1,g2⟩:=h.hG;refine⟨f _ _ (by intro _ z;cases z) h.ins,⟨gv,f _ _ (by intro _ z;cases z) g1,g2.l,g2.n,λi v g e1 e2=>?_,g2.i⟩,f _ _ (by intro _ z;cases z) h.hA,w,h.ne,oo _ h.ox,oo _ h.oG,oo _ h.oA,th⟩;obtain⟨p,dx,wa,e,q,o⟩:=g2.s i v g e1 e2;exact⟨p,dx,wa,e,⟨f _ _ (by intro _ z;cases z) q.ins,f _ _ (by intro _ z;cases z) q.wo⟩,oo _ o⟩
theorem cE.agenda (h:cE CG CC H x r c gs ag W hd fp O)(gN:List Nat):cE CG CC (upd H c.aA (.lst (ak (nI gN)))) x r c gs gN W hd fp O:=by
 obtain⟨gv,g1,g2⟩:=h.hG;have k:∀b o,b≠c.aA->H b=some o->upd H c.aA (.lst (ak (nI gN))) b=some o:=λb o n e=>by rw[ao n];exact e
 have kn:∀b o,(∀xs,o≠.lst xs)->H b=some o->upd H c.aA (.lst (ak (nI gN))) b=some o:=λb o n e=>k b o (λz=>by rw[z,h.hA]at e;exact n _ (Option.some.inj e).symm) e
 refine⟨kn _ _ (by intro _ z;cases z) h.ins,⟨gv,k _ _ h.ne g1,g2.l,g2.n,λi v g e1 e2=>?_,g2.i⟩,aj,?_,h.ne,h.ox,h.oG,h.oA,λb hb=>?_⟩
 ·obtain⟨p,dx,wa,e,q,o⟩:=g2.s i v g e1 e2;exact⟨p,dx,wa,e,⟨kn _ _ (by intro _ z;cases z) q.ins,kn _ _ (by intro _ z;cases z) q.wo⟩,o⟩
 ·obtain⟨D,E,k1,k2⟩:=h.wt;exact⟨D,E,k1.keep λb o hb e=>by obtain⟨kv,q⟩:=k1.there hb;rw[q]at e;cases e;exact kn _ _ (by intro _ z;cases z) q,k2⟩
 ·by_cases e:b=c.aA
  ·exact⟨_,by rw[e];exact aj,(by intro _ z;cases z),by intro _ z;cases z⟩
  ·obtain⟨o,q,n⟩:=h.th b hb;exact⟨o,k _ _ e q,n⟩
end
def Bt (O:Addr->Prop)(H H':Hp):Prop:=∀b o,¬O b->H b=some o->H' b=some o
theorem Bt.trans {O O':Addr->Prop}{H H1 H2:Hp}(h:Bt O H H1)(h':Bt O' H1 H2)(f:∀b,O' b->O b\/H b=none):Bt O H H2:=λb o n e=>h' b o (λz=>(f b z).elim n λq=>by rw[q]at e;cases e) (h b o n e)
theorem Bt.of {O:Addr->Prop}{H H':Hp}(s:au H H'):Bt O H H':=λb o _ e=>s b o e
def IY (CR CG CC:Addr):Sp:=λvs H Q _=>∃(x r:Addr) (c:KA) (gs:List (Option Gg)) (ag:List Nat) (W:bQ) (hd:Nat) (fp:List (List Int×Nat)) (O:Addr->Prop) (n m:Nat) (s:Int),vs=[.ref x,.int n,.int m,.int s]/\cE CG CC H x r c gs ag W hd fp O/\m<100000/\n<100000/\(-1000<=s/\s<=1000)/\∀O' H',Bt O H H'->(∀b o,(∀kv,o≠.dK kv)->H b=some o->H' b=some o)->(∀b,O b->O' b)->(∀b,O' b->O b\/H b=none)->cE CG CC H' x r c gs ag (addW W m s n) hd fp O'->Q .non H'
structure lF (H:Hp) (O:Addr->Prop) (H1:Hp) (O1:Addr->Prop):Prop where
 f:∀b o,(∀kv,o≠.dK kv)->H b=some o->H1 b=some o
 bt:Bt O H H1
 le:∀b,O b->O1 b
 nw:∀b,O1 b->O b\/H b=none
 th:∀b,O1 b->∃o,H1 b=some o/\(∀xs,o≠.tup xs)/\∀kv,o≠.dT kv
theorem lF.new {H H1:Hp}{O O1:Addr->Prop}(h:lF H O H1 O1){p:Addr}{kv:List (Key×V)}(np:H1 p=none):lF H O (upd H1 p (.dK kv)) O1:=by
 have s:=au.upd (o:=.dK kv) np;refine⟨λb o n e=>s _ _ (h.f b o n e),λb o n e=>s _ _ (h.bt b o n e),h.le,h.nw,λb hb=>?_⟩;obtain⟨o,e,q⟩:=h.th b hb;exact⟨o,s _ _ e,q⟩
theorem lF.put {H H1:Hp}{O O1:Addr->Prop}(h:lF H O H1 O1){d:Addr}(hd:O1 d){kv kv':List (Key×V)}(ed:H1 d=some (.dK kv)):lF H O (upd H1 d (.dK kv')) O1:=by
 have k:∀b o,b≠d->H1 b=some o->upd H1 d (.dK kv') b=some o:=λb o n e=>by rw[ao n];exact e
 refine⟨λb o n e=>k _ _ (λz=>by have:=h.f b o n e;rw[z,ed]at this;exact n _ (Option.some.inj this).symm) (h.f b o n e),λb o n e=>k _ _ (λz=>?_) (h.bt b o n e),h.le,h.nw,λb hb=>?_⟩
 ·rcases h.nw d hd with q|q
  ·exact n (by rw[z];exact q)
  ·rw[z,q]at e;cases e
 ·by_cases e:b=d
  ·exact⟨_,by rw[e];exact aj,(by intro _ z;cases z),by intro _ z;cases z⟩
  ·obtain⟨o,q,m⟩:=h.th b hb;exact⟨o,k _ _ e q,m⟩
theorem lF.Wy {H H1:Hp}{O O1:Addr->Prop}(h:lF H O H1 O1){p:Addr}(np:H p=none){o:HO}(ep:H1 p=some o)(h1:∀xs,o≠.tup xs)(h2:∀kv,o≠.dT kv):lF H O H1 (Ii O1 p):=by
 refine⟨h.f,h.bt,λb z=>.inl (h.le b z),λb z=>z.elim (h.nw b) λq=>.inr (by rw[q];exact np),λb z=>?_⟩;rcases z with z|z
 ·exact h.th b z
 ·rw[z];exact⟨o,ep,h1,h2⟩
theorem lF.no {H H1:Hp}{O O1:Addr->Prop}(h:lF H O H1 O1){p:Addr}(np:H1 p=none):H p=none:=by
 cases e:H p with
 |none=>rfl
 |some o=>
  by_cases q:O p
  ·obtain⟨o1,e1,_⟩:=h.th p (h.le p q);rw[np]at e1;cases e1
  ·rw[h.bt p o q e]at np;cases np
theorem cE.mid {CG CC:Addr}{H:Hp}{x r:Addr}{c:KA}{gs:List (Option Gg)}{ag:List Nat}{W:bQ}{hd:Nat}{fp:List (List Int×Nat)}{O:Addr->Prop}(h:cE CG CC H x r c gs ag W hd fp O):lF H O H O:=⟨λ_ _ _ e=>e,λ_ _ _ e=>e,λ_ z=>z,λ_ z=>.inl z,h.th⟩
theorem yq (T:Txt K mg A):aK P w K mg base bq 1 A.mq A.mr ["self","number","room","step"] (IY A.aq A.aD A.az):=by
 refine T.i5.F.ok lC (λvs H Q E h=>?_) (λbK AA outer s H vs Q E hr h=>?_)
 ·obtain⟨x,r,c,gs,ag,W,hd,fp,O,n,m,s,rfl,_⟩:=h;rfl
 ·obtain⟨x,r,c,gs,ag,W,hd,fp,O,n,m,s,rfl,h,hm,hn,hs,k⟩:=h;have ku:=jJ hr
  refine⟨_,(ai (cj (aZ (i:=4) lC.nd rfl (Or.inl rfl) (pW (aF (pv 0) rfl) (pv 2) fX ⟨rfl,rfl,rfl,rfl⟩)))
   (ai (cj (aZ (i:=5) lC.nd rfl (Or.inl rfl) (pW (pv 4) (pv 3) fX ⟨rfl,rfl,rfl,rfl⟩)))
   (aw (yR ku (pv 5) (pv 1) uQ rfl)))),?_⟩
  try dsimp only[bz,cD]
  refine iS ?_;intro gL fD
  let pL:St->Hp->Prop:=λ aJ H1=>∃d O1,aJ=[some (.ref x),some (.int (n:Int)),some (.int (m:Int)),some (.int s),some (.ref d),none]/\lF H O H1 O1/\fN H1 c.aW W O1 m d
  refine⟨pL,?_,?_⟩
  ·refine bO ?_;intro eJ;refine⟨_,rfl,x,_,c.dx,_,_,rfl,h.ins,aM T,T.lB,nZ _ _ _,c.aW,rfl,h.wt.vH,_,rfl,λp np=>?_⟩;obtain⟨kvs,q1,q2,q3,q4⟩:=h.wt.room np (c:=(m:Int)) (by omega);refine⟨kvs,Sum.inl (m:Int),q1,rfl,q2,λv hv=>?_,λhv=>?_⟩
   ·obtain⟨d,rfl,w⟩:=q3 v hv;exact⟨d,O,rfl,h.mid.new np,w⟩
   ·have w:=q4 hv;have hk:O c.aW:=by obtain⟨D,E,_,z⟩:=h.wt;exact z.o _ (.inl rfl)
    exact⟨p,_,rfl,((h.mid.new np).put hk q1).Wy np (by rw[ao (λz=>by rw[z]at np;obtain⟨o,e,_⟩:=h.th _ hk;rw[np]at e;cases e)];exact aj) (by intro _ z;cases z) (by intro _ z;cases z),w⟩
  rintro aJ H1 ⟨d,O1,rfl,m1,w1⟩
  let mB:St->Hp->Prop:=λ aJ H2=>∃e O2,aJ=[some (.ref x),some (.int (n:Int)),some (.int (m:Int)),some (.int s),some (.ref d),some (.ref e)]/\lF H O H2 O2/\sg H2 c.aW W O2 m s e
  refine⟨mB,?_,?_⟩
  ·refine bO ?_;intro eJ;refine⟨_,rfl,d,rfl,w1.vH,_,rfl,λp np=>?_⟩;obtain⟨kvs,q1,q2,q3,q4⟩:=w1.cell np hs;refine⟨kvs,Sum.inl s,q1,rfl,q2,λv hv=>?_,λhv=>?_⟩
   ·obtain⟨e,rfl,w⟩:=q3 v hv;exact⟨e,O1,rfl,m1.new np,w⟩
   ·have w:=q4 hv;have hd:=w1.own;exact⟨p,_,rfl,((m1.new np).put hd q1).Wy (m1.no np) (by rw[ao (λz=>by rw[z]at np;obtain⟨o,e,_⟩:=m1.th _ hd;rw[np]at e;cases e)];exact aj) (by intro _ z;cases z) (by intro _ z;cases z),w⟩
  rintro aJ H2 ⟨e,O2,rfl,m2,w2⟩;obtain⟨kvs,q1,q2,q3⟩:=w2.put (n:=(n:Int)) (by omega);refine⟨_,rfl,_,rfl,e,_,rfl,wc.k (k:=Sum.inl (n:Int)) q1 q2,?_⟩;have m3:=m2.put (kv':=putK kvs (Sum.inl (n:Int)) (.bl true)) w2.own q1;exact k O2 _ m3.bt m3.f m3.le m3.nw (h.waits m3.f m3.le q3 m3.th)
def C9 (CR CG CC:Addr):Sp:=λvs H Q _=>∃(x r:Addr) (c:KA) (gs:List (Option Gg)) (ag:List Nat) (W:bQ) (hd:Nat) (fp:List (List Int×Nat)) (O:Addr->Prop) (m:Nat) (s:Int),vs=[.ref x,.int m,.int s]/\cE CG CC H x r c gs ag W hd fp O/\(∀ns:List Nat,ns.Nodup->(∀n:Nat,n∈ns↔W m s n=true)->ag.length+ ns.length<=1000000)/\∀ns H',Bt O H H'->ns.Nodup->(∀n:Nat,n∈ns↔W m s n=true)->cE CG CC H' x r c gs (ag++ns) (iB W m s) hd fp O->Q .non H'
theorem qh (T:Txt K mg A):aK P w K mg base bq 1 A.ji A.jj ["self","room","step"] (C9 A.aq A.aD A.az):=by
 refine T.dP.F.ok yg (λvs H Q E h=>?_) (λbK AA outer s H vs Q E hr h=>?_)
 ·obtain⟨x,r,c,gs,ag,W,hd,fp,O,m,s,rfl,_⟩:=h;rfl
 ·obtain⟨x,r,c,gs,ag,W,hd,fp,O,m,s,rfl,h,hz,k⟩:=h;have ku:=jJ hr;refine⟨_,(aw (aX (dk aeg PySem.F.slot_list_extend PySem.F.type_list_extend zA (aF (pv 0) rfl) (ae (di (kK rfl) rfl T.i6 ae2 (ae (wg (oM ku (aF (pv 0) rfl) (pv 1) fX ⟨rfl,rfl,rfl,rfl⟩) (pv 2) fX ⟨rfl,rfl,rfl,rfl⟩) ah)) ah)))),?_⟩
  try dsimp only[bz,cD]
  have rest:∀{H2:Hp} {W':bQ} {l:Addr} {ns:List Nat},cE A.aD A.az H2 x r c gs ag W' hd fp O->Bt O H H2->H2 l=none->ns.Nodup->(∀n:Nat,n∈ns↔W m s n=true)->W'=iB W m s->∃l' b xs zs,V.ref c.aA=.ref l'/\[V.ref l]=[.ref b]/\upd H2 l (.lst (ak (nI ns))) l'=some (.lst xs)/\upd H2 l (.lst (ak (nI ns))) b=some (.lst zs)/\xs.length+ zs.length<=sizeLine/\Q .non (upd (upd H2 l (.lst (ak (nI ns)))) l' (.lst (xs++zs))):=λ{H2 W' l ns} h2 b2 nl nd hn eW=>by
   subst eW;have s3:=au.upd (o:=.lst (ak (nI ns))) nl;refine⟨c.aA,l,_,_,rfl,rfl,s3 _ _ h2.hA,aj,?_,?_⟩
   ·rw[aL,aL,cX,cX];exact aep (hz ns nd hn) (by decide)
   ·rw[←ints_app,←kJ];exact k ns _ (λb o n e=>by rw[ao (λz=>n (by rw[z];exact h.oA))];exact s3 _ _ (b2 b o n e)) nd hn ((h2.same s3).agenda (ag++ns))
  refine⟨_,rfl,x,_,c.dx,_,_,rfl,h.ins,aM T,T.mV,qd _ _ _,.inl ⟨rfl,_,aI.of h.hA⟩,_,rfl,x,_,c.dx,_,_,rfl,h.ins,aM T,T.lB,nZ _ _ _,c.aW,rfl,h.wt.vH,_,rfl,λp1 Dc=>?_⟩;have s1:=au.upd (o:=.dK []) Dc;have q1:upd H p1 (.dK []) p1=some (.dK []):=aj;generalize upd H p1 (.dK [])=H1 at s1 q1 ⊢;have h1:=h.same s1;obtain⟨o,g1,g2⟩:=h1.wt.get (c:=(m:Int));refine⟨o,g1,?_⟩;rcases g2 with ⟨rfl,no⟩|⟨d,rfl,w⟩
  ·refine⟨p1,rfl,.inl ⟨_,.inl q1⟩,_,rfl,λp2 rF=>?_⟩;have s2:=au.upd (o:=.dK []) rF;have q2:upd H1 p2 (.dK []) p2=some (.dK []):=aj;generalize upd H1 p2 (.dK [])=H2 at s2 q2 ⊢;refine⟨[],Sum.inl s,s2 _ _ q1,rfl,(λv hv=>by cases hv),λ_=>⟨p2,[],rfl,q2,λl nl=>?_⟩⟩;exact rest (ns:=[]) (h1.same s2) (.of (s1.trans s2)) nl afE (λn=>⟨(λz=>by cases z),λz=>by rw[no]at z;cases z⟩) (y8 (no s)).symm
  ·refine⟨d,rfl,w.vH,_,rfl,λp2 rF=>?_⟩;have s2:=au.upd (o:=.dK []) rF;have q2:upd H1 p2 (.dK []) p2=some (.dK []):=aj;generalize upd H1 p2 (.dK [])=H2 at s2 q2 ⊢;have h2:=h1.same s2;obtain⟨kvs,e1,e2,e3⟩:=(w.same s2).pop s;refine⟨kvs,Sum.inl s,e1,rfl,λv hv=>?_,λhv=>⟨p2,[],rfl,q2,λl nl=>?_⟩⟩
   ·obtain⟨e,sV,ns,rfl,sX,f1,f2,f3,f4,f5⟩:=e3 v hv;refine⟨e,sV,rfl,by rw[ao sX];exact f1,λl nl=>?_⟩;have m3:=(h2.mid.put (kv':=eT kvs (Sum.inl s)) w.own e1);rw[f2];exact rest (h2.waits m3.f m3.le f5 m3.th) (Bt.trans (.of (s1.trans s2)) m3.bt λb z=>.inl z) nl f3 f4 rfl
   ·exact rest (ns:=[]) h2 (.of (s1.trans s2)) nl afE (λn=>⟨(λz=>by cases z),λz=>by rw[e2 hv]at z;cases z⟩) (y8 (e2 hv)).symm
theorem _root_.L2.CI.Sd {S:RS}{bs:List (Nat×List Int×Nat)}{gs:List (Option Gg)}{ag:List Nat}{W:bQ}{Ex:Nat->Int->Prop}{x:Option Nat}(h:CI S bs gs ag W Ex x){m:Nat}{s:Int}{ns:List Nat}(nd:ns.Nodup)(hn:∀n:Nat,n∈ns↔W m s n=true):ns.length+ ya S.made gs.length (iB W m s)<=ya S.made gs.length W:=by
 cases ns with
 |nil=>
  have:∀n,W m s n=false:=λn=>by
   cases q:W m s n with
   |false=>rfl
   |true=>
    obtain⟨_,n',_,e,_⟩:=h.en _ _ _ q;rw[e]at q;have:=(hn n').mpr q;cases this
  rw[y8 this,afG,Nat.zero_add];exact ad7 _
 |cons n r=>
  obtain⟨m',n',e1,_,hm,_,hs,_⟩:=h.en _ _ _ ((hn n).mp (aeb ..));have hm:m<S.made:=by omega
  have h1:=Oi (G:=gs.length) (W:=W) hm hs
  have h2:=Ij (P:=λn:Nat=>W m s n) (G:=gs.length) nd λn hm=>by
   have w:=(hn n).mp hm;obtain⟨_,n',_,e,_,hl,_⟩:=h.en _ _ _ w;exact⟨by omega,w⟩
  omega
theorem _root_.L2.CI.two {S:RS}{bs:List (Nat×List Int×Nat)}{gs:List (Option Gg)}{ag:List Nat}{W:bQ}{Ex:Nat->Int->Prop}{x:Option Nat}(h:CI S bs gs ag W Ex x):ya S.made gs.length W<=2* gs.length:=Ol λn=>by
 obtain⟨p,q,e,_⟩:=h.sl n;exact⟨p,q,e⟩
theorem _root_.L2.fN.keys {H:Hp}{k:Addr}{W:bQ}{O:Addr->Prop}{c:Int}{d:Addr}(h:fN H k W O c d):∃(kvs:List (Key×V)) (zs:List Int),H d=some (.dK kvs)/\kvs.map (λkv=>kV kv.1)=ak zs/\zs.length<=2001/\∀s n,W c s n=true->s∈zs:=by
 obtain⟨D,E,h1,h2,hd⟩:=h;obtain⟨kvs,q1,q2,q3,q4⟩:=h1.Kn hd
 have hl:kvs.length<=2001:=xY (n:=2001) (lo:=-1000) q2 q3 q4 λi v hv=>by
  cases e:E c i with
  |none=>rw[e]at hv;cases hv
  |some x=>have:=h2.e c i x e;omega
 have ex:∃zs:List Int,kvs.map (·.1)=zs.map Sum.inl:=by
  clear q1 q2 q4 hl
  induction kvs with
  |nil=>exact⟨[],rfl⟩
  |cons kv r ih=>
   obtain⟨zs,e⟩:=ih λx hx=>q3 x (aek _ hx)
   obtain⟨i,hi⟩:=q3 kv (aeb ..);exact⟨i::zs,by rw[aeN,aeN,e,hi]⟩
 obtain⟨zs,e⟩:=ex;refine⟨kvs,zs,q1,?_,?_,λs n w=>?_⟩
 ·rw[show (λkv:Key×V=>kV kv.1)=kV ∘ (·.1) from rfl,←ae8,e,ae8];rfl
 ·have:=afh List.length e;rw[ad6,ad6]at this;omega
 ·obtain⟨x,hx⟩:=h1.se _ _ _ w;have:Sum.inl s∈kvs.map (·.1):=EV (v:=.ref x) (by rw[q4,hx];rfl);rw[e]at this;obtain⟨y,hy,q⟩:=aeL.mp this;rw[←Sum.inl.inj q];exact hy
structure nK (CG CC:Addr) (S:RS) (bs:List (Nat×List Int×Nat)) (gs:List (Option Gg)) (W0:bQ) (Ex:Nat->Int->Prop) (B:Nat) (x r:Addr) (c:KA) (hd:Nat) (fp:List (List Int×Nat)) (O:Addr->Prop) (H:Hp) (ag:List Nat) (W:bQ):Prop where
 c:cE CG CC H x r c gs ag W hd fp O
 i:CI S bs gs ag W Ex none
 s:∀r s n,W r s n=true->W0 r s n=true
 b:ag.length+ ya S.made gs.length W<=B
theorem nK.wake {CG CC:Addr}{S:RS}{bs:List (Nat×List Int×Nat)}{gs:List (Option Gg)}{W0:bQ}{Ex:Nat->Int->Prop}{B:Nat}{x r:Addr}{c:KA}{hd:Nat}{fp:List (List Int×Nat)}{O:Addr->Prop}{H H':Hp}{ag:List Nat}{W:bQ}(h:nK CG CC S bs gs W0 Ex B x r c hd fp O H ag W){m:Nat}{s:Int}{ns:List Nat}(nd:ns.Nodup)(hn:∀n:Nat,n∈ns↔W m s n=true)(q:cE CG CC H' x r c gs (ag++ns) (iB W m s) hd fp O):nK CG CC S bs gs W0 Ex B x r c hd fp O H' (ag++ns) (iB W m s):=
 ⟨q,h.i.wake hn,λr s n w=>h.s _ _ _ (dO.mp w).1,by have:=h.i.Sd nd hn;have:=h.b;rw[adZ];omega⟩
theorem nK.fits {CG CC:Addr}{S:RS}{bs:List (Nat×List Int×Nat)}{gs:List (Option Gg)}{W0:bQ}{Ex:Nat->Int->Prop}{B:Nat}{x r:Addr}{c:KA}{hd:Nat}{fp:List (List Int×Nat)}{O:Addr->Prop}{H:Hp}{ag:List Nat}{W:bQ}(h:nK CG CC S bs gs W0 Ex B x r c hd fp O H ag W)(hB:B<=1000000){m:Nat}{s:Int}:∀ns:List Nat,ns.Nodup->(∀n:Nat,n∈ns↔W m s n=true)->ag.length+ ns.length<=1000000:=λns nd hn=>by have:=h.i.Sd nd hn;have:=h.b;omega
def Fe (CR CG CC:Addr):Sp:=λvs H Q _=>∃(x r:Addr) (c:KA) (S:RS) (a:RA) (bs:List (Nat×List Int×Nat)) (gs:List (Option Gg)) (ag:List Nat) (W:bQ) (Ex:Nat->Int->Prop) (B hd:Nat) (fp:List (List Int×Nat)) (O:Addr->Prop) (m:Nat),vs=[.ref x,.int m]/\nK CG CC S bs gs W Ex B x r c hd fp O H ag W/\B<=1000000/\ay CR H r S a/\S.Wf/\(∀b,a.own r b->¬O b)/\m<S.made/\S.ax m<S.made/\
 ∀gN W' H',Bt O H H'->nK CG CC S bs gs W Ex B x r c hd fp O H' gN W'->(∀s n,W' m s n=false)->(∀s n,W' (S.ax m) s n=true->S.by (S.ax m) s=none)->Q .non H'
theorem tE (T:Txt K mg A):aK P w K mg base bq 2 A.iZ A.i3 ["self","room"] (Fe A.aq A.aD A.az):=by
 have dQ:aK P w K mg base bq 1 A.fI A.fJ ["self","room"] (rB A.aq):=jo T;have gO:aK P w K mg base bq 1 A.ji A.jj ["self","room","step"] (C9 A.aq A.aD A.az):=qh T;have dA:aK P w K mg base bq 1 A.fQ A.fS ["self","room","step"] (sF A.aq):=iA T;refine T.j7.F.ok fz (λvs H Q E h=>?_) (λbK AA outer s H vs Q E hr h=>?_)
 ·obtain⟨x,r,c,S,a,bs,gs,ag,W,Ex,B,hd,fp,O,m,rfl,_⟩:=h;rfl
 ·obtain⟨x,r,c,S,a,bs,gs,ag,W,Ex,B,hd,fp,O,m,rfl,h,hB,hR,wf,dj,hm,he,k⟩:=h;have ku:=jJ hr
  refine⟨_,(ai (du aez rfl (eG (di (kK rfl) rfl T.i6 ae2 (ae (oM ku (aF (pv 0) rfl) (pv 1) fX ⟨rfl,rfl,rfl,rfl⟩) ah))) (bN (i:=2) fz.nd rfl (Or.inl rfl))
   (aw (aX (bH (pv 0) (aM T) T.dP.m (gO) (hr.mono (by decide)) T.dP.b .nil aP (ae (pv 1) (ae (pv 2) ah))))))
   (ai (aZ (i:=3) fz.nd rfl (Or.inl rfl) (bH (aF (pv 0) rfl) (aH T) T.dy.m (dQ) (hr.mono (by decide)) T.dy.b .nil aP (ae (pv 1) ah)))
   (aw (du aez rfl (eG (di (kK rfl) rfl T.i6 ae2 (ae (oM ku (aF (pv 0) rfl) (pv 3) fX ⟨rfl,rfl,rfl,rfl⟩) ah))) (bN (i:=2) fz.nd rfl (Or.inl rfl))
    (aw (cj (bU (bu Nw (bH (aF (pv 0) rfl) (aH T) T.dB.m (dA) (hr.mono (by decide)) T.dB.b .nil aP (ae (pv 3) (ae (pv 2) ah))) iN (bE _))
     (aw (aX (bH (pv 0) (aM T) T.dP.m (gO) (hr.mono (by decide)) T.dP.b .nil aP (ae (pv 3) (ae (pv 2) ah)))))
     bB))))))),?_⟩
  try dsimp only[bz,cD]
  refine iS ?_;intro gL fD;have rk:∀{H2:Hp},Bt O H H2->ay A.aq H2 r S a:=λ{H2} b=>hR.keep (λb' o hb e=>b b' o (dj b' hb) e) (λb' xs e=>b b' _ (h.c.lL e) e)
  have get:∀{H1:Hp} {Wz:List Nat} {W1:bQ} (m1:Nat),nK A.aD A.az S bs gs W Ex B x r c hd fp O H1 Wz W1->∀p1,H1 p1=none->∃(o:Option V) (d:Addr) (kvs:List (Key×V)) (zs:List Int),jw (upd H1 p1 (.dK [])) c.aW (.int (m1:Int)) o/\o.getD (.ref p1)=.ref d/\upd H1 p1 (.dK []) d=some (.dK kvs)/\kvs.map (λkv=>kV kv.1)=ak zs/\∀s n,W1 m1 s n=true->s∈zs:=λ{H1 Wz W1} m1 h1 p1 Dc=>by
   have s1:=au.upd (o:=.dK []) Dc;obtain⟨o,g1,g2⟩:=(h1.c.same s1).wt.get (c:=(m1:Int));rcases g2 with ⟨rfl,no⟩|⟨d,rfl,w⟩
   ·exact⟨none,p1,[],[],g1,rfl,aj,rfl,λs n z=>by rw[no]at z;cases z⟩
   ·obtain⟨kvs,zs,e1,e2,_,e4⟩:=w.keys;exact⟨_,d,kvs,zs,g1,rfl,e1,e2,e4⟩
  refine⟨_,rfl,x,_,c.dx,_,_,rfl,h.c.ins,aM T,T.lB,nZ _ _ _,c.aW,rfl,h.c.wt.vH,_,rfl,λp1 Dc=>?_⟩;obtain⟨o,d,kvs,zs,g1,g2,g3,g4,LW⟩:=get m h p1 Dc;refine⟨o,g1,d,kvs,(by rw[g2]),g3,λl nl=>?_⟩;rw[g4];have s1:=(au.upd (o:=.dK []) Dc).trans (au.upd (o:=.lst (ak zs)) nl);have hl:upd (upd H p1 (.dK [])) l (.lst (ak zs)) l=some (.lst (ak zs)):=aj;replace nl:=same_none (au.upd (o:=.dK []) Dc) nl;generalize upd (upd H p1 (.dK [])) l (.lst (ak zs))=H1 at s1 hl ⊢;clear g1 g2 g3 g4;have WB:¬O l:=λz=>by obtain⟨o,e,_⟩:=h.c.th l z;rw[nl]at e;cases e
  have h1:nK A.aD A.az S bs gs W Ex B x r c hd fp O H1 ag W:=⟨h.c.same s1,h.i,h.s,h.b⟩;refine⟨l,rfl,⟨_,aI.of hl⟩,?_⟩
  let gf:Nat->St->Hp->Prop:=λi σ H2=>∃dW W2 v2,σ=[some (.ref x),some (.int (m:Int)),v2,none]/\Bt O H1 H2/\nK A.aD A.az S bs gs W Ex B x r c hd fp O H2 dW W2/\∀(j:Nat) (s:Int),j<i->zs[j]?=some s->∀n,W2 m s n=false
  refine gX (K:=K) (a:=l) (xs:=ak zs) gf
   ⟨ag,W,none,rfl,λ_ _ _ e=>e,h1,λj s hj=>absurd hj (by omega)⟩ (λi σ H2 _ ⟨_,_,_,_,b2,_⟩=>aI.of (b2 _ _ WB hl)) ?_ ?_
  ·intro i v σ H2 hi bA;refine aY ?_;intro q_;obtain⟨dW,W2,v2,rfl,b2,h2,hj⟩:=bA;dsimp only[q_];clear q_;dsimp only[dE];refine bO ?_;intro eJ;obtain⟨s,rfl,hs⟩:=cS hi;refine⟨_,rfl,x,c.dx,_,rfl,h2.c.ins,iJ (by decide +kernel),_,rfl,_,rfl,x,r,c,gs,dW,W2,hd,fp,O,m,s,rfl,h2.c,h2.fits hB,λns H3 b3 nd hn h3=>?_⟩;refine⟨_,_,_,rfl,b2.trans b3 λb z=>.inl z,h2.wake nd hn h3,λj s' Ad e n=>?_⟩
   cases q:iB W2 m s m s' n with
   |false=>rfl
   |true=>
    obtain⟨q1,q2⟩:=dO.mp q;by_cases uC:j<i
    ·rw[hj j s' uC e n]at q1;cases q1
    ·rw[show j=i by omega,hs]at e;exact absurd ⟨rfl,(Option.some.inj e).symm⟩ q2
  intro σ H2 bA;refine aY ?_;intro q_;obtain⟨dW,W2,v2,rfl,b2,h2,hj⟩:=bA;dsimp only[q_];clear q_;rw[aL]at hj;have yr:Bt O H H2:=Bt.trans (.of s1) b2 λb z=>.inl z
  have off:∀s n,W2 m s n=false:=λs n=>by
   cases q:W2 m s n with
   |false=>rfl
   |true=>
    obtain⟨j,Ad,e⟩:=af4.mp (LW s n (h2.s _ _ _ q));rw[hj j s Ad (by rw[adX Ad,e]) n]at q;cases q
  clear hj LW hl WB h1;have R2:=rk yr;refine⟨_,rfl,x,_,c.dx,_,_,rfl,h2.c.ins,aM T,T.fZ,ig _ _ _,r,a.dx,_,rfl,R2.ins,cz _ _ _ (by decide +kernel),_,rfl,r,S,a,m,S.ax m,rfl,R2,mW (by rw[wf.e];exact hm),?_⟩;generalize S.ax m=e at he k ⊢;refine⟨_,rfl,x,_,c.dx,_,_,rfl,h2.c.ins,aM T,T.lB,nZ _ _ _,c.aW,rfl,h2.c.wt.vH,_,rfl,λp2 rF=>?_⟩;obtain⟨o2,d2,Zt,Ff,g1,g2,g3,g4,Zu⟩:=get e h2 p2 rF;refine⟨o2,g1,d2,Zt,(by rw[g2]),g3,λl2 E6=>?_⟩;rw[g4];have s3:=(au.upd (o:=.dK []) rF).trans (au.upd (o:=.lst (ak Ff)) E6);have iu:upd (upd H2 p2 (.dK [])) l2 (.lst (ak Ff)) l2=some (.lst (ak Ff)):=aj;replace E6:=same_none (au.upd (o:=.dK []) rF) E6;generalize upd (upd H2 p2 (.dK [])) l2 (.lst (ak Ff))=H3 at s3 iu ⊢;clear g1 g2 g3 g4;have Zv:¬O l2:=λz=>by obtain⟨o,e,_⟩:=h2.c.th l2 z;rw[E6]at e;cases e
  have h3:nK A.aD A.az S bs gs W Ex B x r c hd fp O H3 dW W2:=⟨h2.c.same s3,h2.i,h2.s,h2.b⟩;refine⟨l2,rfl,⟨_,aI.of iu⟩,?_⟩
  let wU:Nat->St->Hp->Prop:=λi σ H4=>∃Ae W4 v2,σ=[some (.ref x),some (.int (m:Int)),v2,some (.int (e:Int))]/\Bt O H3 H4/\nK A.aD A.az S bs gs W Ex B x r c hd fp O H4 Ae W4/\(∀r s n,W4 r s n=true->W2 r s n=true)/\∀(j:Nat) (s:Int),j<i->Ff[j]?=some s->∀n,W4 e s n=true->S.by e s=none
  refine gX (K:=K) (a:=l2) (xs:=ak Ff) wU
   ⟨dW,W2,_,rfl,λ_ _ _ q=>q,h3,λ_ _ _ q=>q,λj s hj=>absurd hj (by omega)⟩ (λi σ H4 _ ⟨_,_,_,_,b4,_⟩=>aI.of (b4 _ _ Zv iu)) ?_ ?_
  ·intro i v σ H4 hi bA;refine aY ?_;intro q_;obtain⟨Ae,W4,v4,rfl,b4,h4,De,hj⟩:=bA;dsimp only[q_];clear q_;dsimp only[dE];refine bO ?_;intro eJ;obtain⟨s,rfl,hs⟩:=cS hi;have b04:Bt O H H4:=yr.trans (Bt.trans (.of s3) b4 λb z=>.inl z) λb z=>.inl z
   have R4:=rk b04;refine⟨_,?_,λ_ _ z=>z⟩;refine⟨_,rfl,x,_,c.dx,_,_,rfl,h4.c.ins,aM T,T.fZ,ig _ _ _,r,a.dx,_,rfl,R4.ins,cz _ _ _ (by decide +kernel),_,rfl,_,rfl,r,S,a,e,s,rfl,R4,by rw[wf.w];exact he,?_⟩
   cases eb:S.by e s with
   |none=>
    refine⟨rfl,_,rfl,?_⟩;refine cO (λz=>absurd z (by decide)) (λ_=>?_);refine⟨_,_,_,rfl,b4,h4,De,λj s' Ad q n w=>?_⟩;by_cases uC:j<i
    ·exact hj j s' uC q n w
    ·rw[show j=i by omega,hs]at q;rw[←Option.some.inj q];exact eb
   |some d=>
    rw[show (Option.map (λn:Nat=>V.int (n:Int)) (some d)).getD V.non=V.int (d:Int) from rfl];refine⟨rfl,_,rfl,?_⟩;refine cO (λ_=>?_) (λz=>absurd rfl z);refine⟨_,rfl,x,c.dx,_,rfl,h4.c.ins,iJ (by decide +kernel),_,rfl,_,rfl,x,r,c,gs,Ae,W4,hd,fp,O,e,s,rfl,h4.c,h4.fits hB,λns H5 b5 nd hn h5=>?_⟩;refine⟨_,_,_,rfl,b4.trans b5 λb z=>.inl z,h4.wake nd hn h5,λr s n w=>De _ _ _ (dO.mp w).1,λj s' Ad q n w=>?_⟩;obtain⟨w1,w2⟩:=dO.mp w;by_cases uC:j<i
    ·exact hj j s' uC q n w1
    ·rw[show j=i by omega,hs]at q;exact absurd ⟨rfl,(Option.some.inj q).symm⟩ w2
  intro σ H4 bA;refine aY ?_;intro q_;obtain⟨Ae,W4,v4,rfl,b4,h4,De,hj⟩:=bA;dsimp only[q_];clear q_;rw[aL]at hj;refine k Ae W4 H4 (yr.trans (Bt.trans (.of s3) b4 λb z=>.inl z) λb z=>.inl z) h4 (λs n=>?_) λs n w=>?_
  ·cases q:W4 m s n with
   |false=>rfl
   |true=>have:=De _ _ _ q;rw[off s n]at this;cases this
  ·obtain⟨j,Ad,q⟩:=af4.mp (Zu s n (De _ _ _ w));exact hj j s Ad (by rw[adX Ad,q]) n w
theorem cE.Vc {CG CC:Addr}{H:Hp}{x r:Addr}{c:KA}{gs:List (Option Gg)}{ag:List Nat}{W:bQ}{hd:Nat}{fp:List (List Int×Nat)}{O:Addr->Prop}(h:cE CG CC H x r c gs ag W hd fp O)(ng:∀(n:Nat) (g:Gg) (p dx wa:Addr),gs[n]?=some (some g)->eF CG H p dx wa g->p≠x)(n:Nat):cE CG CC (upd H x (.ins CC c.dx (rK r c n))) x r c gs ag W n fp O:=by
 have kn:∀b o,(∀C d fs,o≠.ins C d fs)->H b=some o->upd H x (.ins CC c.dx (rK r c n)) b=some o:=λb o q e=>by rw[ao (λz=>by rw[z,h.ins]at e;exact q _ _ _ (Option.some.inj e).symm)];exact e
 obtain⟨gv,g1,g2⟩:=h.hG;refine⟨aj,⟨gv,kn _ _ (by intro _ _ _ z;cases z) g1,g2.l,g2.n,λi v g e1 e2=>?_,g2.i⟩,kn _ _ (by intro _ _ _ z;cases z) h.hA,?_,h.ne,h.ox,h.oG,h.oA,λb hb=>?_⟩
 ·obtain⟨p,dx,wa,e,q,o⟩:=g2.s i v g e1 e2;exact⟨p,dx,wa,e,⟨by rw[ao (ng i g p dx wa e2 q)];exact q.ins,kn _ _ (by intro _ _ _ z;cases z) q.wo⟩,o⟩
 ·obtain⟨D,E,k1,k2⟩:=h.wt;exact⟨D,E,k1.keep λb o hb e=>by obtain⟨kv,q⟩:=k1.there hb;rw[q]at e;cases e;exact kn _ _ (by intro _ _ _ z;cases z) q,k2⟩
 ·by_cases e:b=x
  ·exact⟨_,by rw[e];exact aj,(by intro _ z;cases z),by intro _ z;cases z⟩
  ·obtain⟨o,q,m⟩:=h.th b hb;exact⟨o,by rw[ao e];exact q,m⟩
theorem Df {CG CC:Addr}{H:Hp}{x r:Addr}{c:KA}{gs:List (Option Gg)}{ag:List Nat}{W:bQ}{hd:Nat}{fp:List (List Int×Nat)}{O:Addr->Prop}(h:cE CG CC H x r c gs ag W hd fp O){p dx wa:Addr}{g:Gg}(q:eF CG H p dx wa g):p≠x:=λz=>by
 have:=q.ins;rw[z,h.ins]at this;have e:=afh (λo:Option HO=>match o with|some (.ins _ _ fs)=>fs.length|_=>0) this;exact absurd (show 6=7 from e) (by decide)
def MJ (S:RS)(hd:Nat):Nat->Int->Prop:=λr _=>∃m∈S.bf.drop hd,r=m\/r=S.ax m
def IZ (CR CG CC:Addr):Sp:=λvs H Q _=>∃(x r:Addr) (c:KA) (S:RS) (a:RA) (R:Nat->Int->Nat->Prop) (bs:List (Nat×List Int×Nat)) (gs:List (Option Gg)) (ag:List Nat) (W:bQ) (B hd:Nat) (fp:List (List Int×Nat)) (O:Addr->Prop),vs=[.ref x]/\nK CG CC S bs gs W (MJ S hd) B x r c hd fp O H ag W/\B<=1000000/\hd<=S.bf.length/\ay CR H r S a/\Good S [] R/\(∀m∈S.bf,m<S.made)/\(∀b,a.own r b->¬O b)/\
 ∀gN W' H',Bt O H H'->nK CG CC S bs gs W eX B x r c S.bf.length fp O H' gN W'->Q .non H'
theorem yt (T:Txt K mg A):aK P w K mg base bq 3 A.mv A.mw ["self"] (IZ A.aq A.aD A.az):=by
 have uE:aK P w K mg base bq 2 A.iZ A.i3 ["self","room"] (Fe A.aq A.aD A.az):=tE T;refine T.pB.F.ok yh (λvs H Q E h=>?_) (λbK AA outer s H vs Q E hr h=>?_)
 ·obtain⟨x,r,c,S,a,R,bs,gs,ag,W,B,hd,fp,O,rfl,_⟩:=h;rfl
 ·obtain⟨x,r,c,S,a,R,bs,gs,ag,W,B,hd,fp,O,rfl,h,hB,hhd,hR,gd,hwm,dj,k⟩:=h
  refine⟨_,(aw (cj (jQ aez (bu xt (aF (pv 0) rfl) (bL bX rfl T.fT aeW (ae (aF (aF (pv 0) rfl) rfl) ah)) (bE _))
   (ai (aX (bH (pv 0) (aM T) T.j7.m (uE) (hr.mono (by decide)) T.j7.b .nil aP (ae (bJ bR (aF (aF (pv 0) rfl) rfl) (aF (pv 0) rfl) (λ_ _=>rfl)) ah)))
   (aw (cu (pv 0) (aV dC (aF (pv 0) rfl) aB) rfl)))))),?_⟩
  try dsimp only[bz,cD]
  have rk:∀{H2:Hp},Bt O H H2->ay A.aq H2 r S a:=λ{H2} b=>hR.keep (λb' o hb e=>b b' o (dj b' hb) e) (λb' xs e=>b b' _ (h.c.lL e) e)
  refine⟨λ aJ H'=>Q .non H',?_,λ_ _ q=>q⟩;refine⟨λm σ H2=>∃hd2 dW W2,m=S.bf.length - hd2/\σ=[some (.ref x)]/\hd2<=S.bf.length/\Bt O H H2/\nK A.aD A.az S bs gs W (MJ S hd2) B x r c hd2 fp O H2 dW W2,⟨_,hd,ag,W,rfl,rfl,hhd,λ_ _ _ e=>e,h⟩,?_⟩;intro m σ H2 bA;refine aY ?_;intro q_;obtain⟨hd2,dW,W2,rfl,rfl,iu,b2,h2⟩:=bA;dsimp only[q_];clear q_;have R2:=rk b2;have Se:=R2.ins;refine⟨_,rfl,x,_,c.dx,_,_,rfl,h2.c.ins,aM T,T.pE,wR _ _ _,_,rfl,x,_,c.dx,_,_,rfl,h2.c.ins,aM T,T.fZ,ig _ _ _,r,_,a.dx,_,_,rfl,Se,aH T,T.ux,u0 _ _ _,a.aN,_,rfl,.inl (aI.of R2.hN),_,_,rfl,rfl,_,rfl,?_⟩;refine cO (λq=>?_) (λq=>?_)
  ·have q:(hd2:Int)<((ak (nI S.bf)).length:Int):=aeI q;rw[aL,cX]at q;have bG:hd2<S.bf.length:=by omega
   obtain⟨m,hm⟩:=get_some (xs:=S.bf) (i:=hd2) bG;have ER:=hwm m (adY hm);refine⟨_,λ_ _ z=>z,?_⟩;refine⟨_,rfl,x,c.dx,_,rfl,h2.c.ins,iJ (by decide +kernel),_,rfl,x,_,c.dx,_,_,rfl,h2.c.ins,aM T,T.fZ,ig _ _ _,r,_,a.dx,_,_,rfl,Se,aH T,T.ux,u0 _ _ _,_,rfl,x,_,c.dx,_,_,rfl,h2.c.ins,aM T,T.pE,wR _ _ _,a.aN,_,_,.int (m:Int),rfl,rfl,aI.of R2.hN,c9 (cI (rh hm)),?_⟩;refine⟨x,r,c,S,a,bs,gs,dW,W2,MJ S hd2,B,hd2,fp,O,m,rfl,⟨h2.c,h2.i,λ_ _ _ z=>z,h2.b⟩,hB,R2,gd.wf,dj,ER,gd.lt ER,λuF W3 H3 b3 h3 w1 w2=>?_⟩;refine⟨_,rfl,x,_,c.dx,_,_,rfl,h3.c.ins,aM T,T.pE,wR _ _ _,_,_,rfl,rfl,_,rfl,x,_,c.dx,_,rfl,h3.c.ins,aM T,T.pE,(by show 6<1000;decide),?_⟩;rw[show (λ(i j:Int)=>V.int (i+ j)) (hd2:Int) 1=V.int ((hd2+ 1:Nat):Int) from rfl,K7];have c4:=h3.c.Vc (λn g p dx wa _ z=>Df h3.c z) (hd2+ 1);refine⟨S.bf.length - (hd2+ 1),by omega,hd2+ 1,uF,W3,rfl,rfl,bG,?_,c4,h3.i.ex λr' s n w hr ex=>?_,λr s n w=>h2.s _ _ _ (h3.s _ _ _ w),h3.b⟩
   ·exact(b2.trans b3 λb z=>.inl z).trans (λb o n e=>by rw[ao (λz=>n (by rw[z];exact h3.c.ox))];exact e:Bt O H3 _) λb z=>.inl z
   ·obtain⟨m',iQ,q'⟩:=ex;rw[agE bG]at iQ;rcases aea.mp iQ with z|z
    ·have em:m'=m:=by rw[z];rw[adX bG]at hm;exact Option.some.inj hm
     subst em;rcases q' with q'|q'
     ·rw[q',w1]at w;cases w
     ·subst q';exact .inl ⟨(gd.el _ ER).2,w2 s n w⟩
    ·exact .inr ⟨m',z,q'⟩
  ·have q:¬(hd2:Int)<((ak (nI S.bf)).length:Int):=λz=>q (aey z)
   rw[aL,cX]at q;have e:hd2=S.bf.length:=by omega
   subst e;refine k dW W2 H2 b2 ⟨h2.c,h2.i.ex λr' s n w hr ex=>?_,h2.s,h2.b⟩;obtain⟨m',iQ,_⟩:=ex;rw[ahf]at iQ;cases iQ
theorem I0 {S:RS}{pend:List Way}{R:Nat->Int->Nat->Prop}{ks:List Int}(g:Good S pend R)(hk:∀a z b,R a z b->z∈ks)(h1:S.made<=100000)(h2:ks.length<=100000)(h3:S.rows.length<=1000000)(h4:S.bf.length<=1000000):uB S:=by
 refine⟨g.wf,λc hc=>g.lt hc,λc z d e=>(g.st c z d e).2.1,λc n hn=>g.cb c n hn,λc _=>⟨g.kn c,λq hq=>(g.st c q.1 q.2 (lT (g.kn c) hq)).2.1,λq hq _=>?_⟩,⟨h1,λl hl=>?_,h3,h4,λl hl=>?_⟩⟩
 ·rw[g.sy c q.1 q.2 (lT (g.kn c) hq)];rfl
 ·obtain⟨c,hc⟩:=ae9 hl;have:S.way c=l:=by unfold RS.way;rw[ad2,hc];rfl
  rw[←this];exact aep (g.Cb hk c) h2
 ·obtain⟨c,hc⟩:=ae9 hl;have:S.cx c=l:=by unfold RS.cx;rw[ad2,hc];rfl
  rw[←this];exact aep (g.QT c) (by omega)
theorem wV (S:RS):S.stand<=S.made:=by
 unfold RS.stand;exact aep List.countP_le_length (by rw[aeR];exact ad7 _)
def MK (R:Nat->Int->Nat->Prop)(m L B B2 M:Nat)(ks:List Int)(S0:RS)(p0:List Way)(S:RS)(pend:List Way):Prop:=Good S pend R/\S.made=m/\S.L=L/\S.rows.length+ S.stand<=B/\S.bf.length+ S.stand<=B2/\mu ks.length S pend<=M/\∀S',r9 S pend S'->r9 S0 p0 S'
theorem Dg {R:Nat->Int->Nat->Prop}{m L B B2 M:Nat}{ks:List Int}{S0:RS}{p0:List Way}(hk:∀a z b,R a z b->z∈ks)(h1:m<=100000)(h2:ks.length<=100000)(h3:B<=1000000)(h5:B2<=1000000)(h4:M<=1000000)(S:RS)(pend:List Way)(w:Way)(h:MK R m L B B2 M ks S0 p0 S (pend++[w])):
 uB S/\w.1<S.made/\w.2.2<S.made/\pend.length<=1000000/\MK R m L B B2 M ks S0 p0 (S.takeIn pend w).1 (S.takeIn pend w).2/\mu ks.length (S.takeIn pend w).1 (S.takeIn pend w).2<mu ks.length S (pend++[w]):=by
 obtain⟨g,e1,e2,e3,e4,e5,e6⟩:=h;obtain⟨a1,a2,a3,a4,a5⟩:=g.take hk;have hw:=g.pl w (ad5 _ aeb);refine⟨I0 g hk (by omega) h2 (by omega) (by omega),hw.1,hw.2,?_,⟨a1,by rw[a3,e1],by rw[a4,e2],?_,?_,by omega,λS' l=>e6 S' (.take l)⟩,a2⟩
 ·unfold mu at e5;rw[adZ]at e5;omega
 ·rcases a5 with ⟨q1,q2,q3⟩|⟨q1,c,z,x,y,_,_,_,_,_,q2,q3,_⟩
  ·rw[q1,q2];exact e3
  ·rw[q2,adZ];have:([ki c z (min x y) (max x y)]:List Dt).length=1:=rfl;omega
 ·rcases a5 with ⟨q1,q2,q3⟩|⟨q1,c,z,x,y,_,_,_,_,_,q2,q3,_⟩
  ·rw[q1,q3];exact e4
  ·rw[q3,adZ];have:([max x y]:List Nat).length=1:=rfl;omega
theorem fc {L:Nat}{z:Int}:z∈cy (2* L)↔z≠0/\z.natAbs<=L:=by
 unfold cy;rw[aeL];constructor
 ·rintro ⟨i,hi,rfl⟩;exact M12.U0 (aeQ.mp hi)
 ·rintro ⟨h1,h2⟩;by_cases hp:0<z
  ·refine⟨2* (z.toNat - 1),aeQ.mpr (by omega),?_⟩;unfold M12.st;rw[ael (by omega)];omega
  ·refine⟨2* (z.natAbs - 1)+ 1,aeQ.mpr (by omega),?_⟩;unfold M12.st;rw[aed (by omega)];omega
structure i7 (CR:Addr) (H:Hp) (r:Addr) (S:RS) (a:RA) (R:Nat->Int->Nat->Prop) (ks:List Int) (B:Nat):Prop where
 at_:ay CR H r S a
 g:Good S [] R
 w:jf S
 k:∀a z b,R a z b->z∈ks
 m:S.made<=2000
 l:ks.length<=400
 rb:S.rows.length+ S.stand<=B
 wb:S.bf.length+ S.stand<=900000
theorem i7.keep {CR:Addr}{H H':Hp}{r:Addr}{S:RS}{a:RA}{R:Nat->Int->Nat->Prop}{ks:List Int}{B:Nat}(h:i7 CR H r S a R ks B)(k:∀b o,a.own r b->H b=some o->H' b=some o)(kt:∀b xs,H b=some (.tup xs)->H' b=some (.tup xs)):i7 CR H' r S a R ks B:=⟨h.at_.keep k kt,h.g,h.w,h.k,h.m,h.l,h.rb,h.wb⟩
theorem i7.same {CR:Addr}{H H':Hp}{r:Addr}{S:RS}{a:RA}{R:Nat->Int->Nat->Prop}{ks:List Int}{B:Nat}(h:i7 CR H r S a R ks B)(s:au H H'):i7 CR H' r S a R ks B:=h.keep (λb o _ e=>s _ _ e) (λb o e=>s _ _ e)
theorem K8 (w:Nat)(p:List Nat)(k:Nat)(h:p.length<=100000):mR (y7 w p k):=by
 refine .t (by show 4<=100000;decide) λd hd=>?_
 simp only[aea,aeT,agj]at hd;rcases hd with rfl|rfl|rfl|rfl
 ·exact .s
 ·exact .i
 ·refine .t (by rw[ad6];exact h) λd hd=>?_
  obtain⟨c,_,rfl⟩:=aeL.mp hd;exact .i
 ·exact .i
def Dh (CR CG CC:Addr):Sp:=λvs H Q _=>∃(x r p dx wa:Addr) (c:KA) (S:RS) (a:RA) (R:Nat->Int->Nat->Prop) (ks:List Int) (B:Nat) (ws:List (List Int)) (nr:Nat) (bs:List (Nat×List Int×Nat)) (gs:List (Option Gg)) (ag:List Nat) (W:bQ) (fp:List (List Int×Nat)) (O:Addr->Prop) (n:Nat) (g:Gg),vs=[.ref x,.ref p]/\cE CG CC H x r c gs ag W S.bf.length fp O/\i7 CR H r S a R ks B/\B<900000/\(∀b,a.own r b->¬O b)/\CI S bs gs ag W eX (some n)/\gs[n]?=some none/\bs[n]?=some (g.which,g.word,g.start)/\eF CG H p dx wa g/\¬O p/\¬a.own r p/\GI S g/\g.first=g.last/\S.ax g.start=g.start/\S.ax g.front=g.front/\S.ax g.bj=g.bj/\ws[g.which]?=some g.word/\(g.which<nr\/g.start=0)/\(∀z∈g.word,z∈ks/\-z∈ks)/\g.word.length<=1000/\ag.length+ 2* gs.length<=1000000/\
 ∀S' a' R' gN W' H',(∀b o,¬O b->¬a.own r b->H b=some o->H' b=some o)->cE CG CC H' x r c gs gN W' S'.bf.length fp O->i7 CR H' r S' a' R' ks (B+ 1)->(∀b,a'.own r b->a.own r b\/H b=none)->CI S' bs gs gN W' eX none->gN.length<=ag.length+ 2* gs.length->(∀a z b,R a z b->R' a z b)->S'.made=S.made->S'.L=S.L->Tr ws nr S S'->Q .non H'
theorem rL (T:Txt K mg A):aK P w K mg base bq 6 A.jN A.jO ["self","going"] (Dh A.aq A.aD A.az):=by
 have mL:aK P w K mg base bq 5 A.jE A.jF ["self","room","step","other","row"] (AV A.aq):=pJ T;have gO:aK P w K mg base bq 1 A.ji A.jj ["self","room","step"] (C9 A.aq A.aD A.az):=qh T;have zh:aK P w K mg base bq 3 A.mv A.mw ["self"] (IZ A.aq A.aD A.az):=yt T;have dA:aK P w K mg base bq 1 A.fQ A.fS ["self","room","step"] (sF A.aq):=iA T;have Ea:aK P w K mg base bq 3 A.qA A.qB ["self","rooms"] (IX A.aq A.aD):=C7 T;refine T.qC.F.ok rA (λvs H Q E h=>?_) (λbK AA outer s H vs Q E hr h=>?_)
 ·obtain⟨x,r,p,dx,wa,c,S,a,R,ks,B,ws,nr,bs,gs,ag,W,fp,O,n,g,rfl,_⟩:=h;rfl
 ·obtain⟨x,r,p,dx,wa,c,S,a,R,ks,B,ws,nr,bs,gs,ag,W,fp,O,n,g,rfl,hc,hR,hB,dj,ci,uG,Fg,hp,Dj,C6,gi,Fh,es,ef,er,ML,hnr,pX,oC,I8,k⟩:=h
  refine⟨_,(ai (aZ (i:=2) rA.nd rfl (Or.inl rfl) (bJ fL (aF (pv 1) rfl) (aF (pv 1) rfl) (λ_ _=>rfl)))
   (ai (bU (bu gY (bH (aF (pv 0) rfl) (aH T) T.dB.m (dA) (hr.mono (by decide)) T.dB.b .nil aP (ae (aF (pv 1) rfl) (ae (pv 2) ah))) (aF (pv 1) rfl) (bE _))
    (aw yH)
    bB)
   (ai (aX (bH (aF (pv 0) rfl) (aH T) T.mU.m (mL) (hr.mono (by decide)) T.mU.b .nil aP (ae (aF (pv 1) rfl) (ae (pv 2) (ae (aF (pv 1) rfl) (ae (bH (pv 1) (aS T) T.uv.m (Ea) (hr.mono (by decide)) T.uv.b .nil aP (ae (aF (pv 0) rfl) ah)) ah))))))
   (ai (aX (bH (pv 0) (aM T) T.dP.m (gO) (hr.mono (by decide)) T.dP.b .nil aP (ae (aF (pv 1) rfl) (ae (pv 2) ah))))
   (ai (aX (bH (pv 0) (aM T) T.dP.m (gO) (hr.mono (by decide)) T.dP.b .nil aP (ae (aF (pv 1) rfl) (ae (gg eR (pv 2)) ah))))
   (aw (aX (oy (pv 0) (aM T) T.pB.m (zh) (hr.mono (by decide)) T.pB.b .nil aP)))))))),?_⟩
  try dsimp only[bz,cD]
  refine wz ?_;intro vJ tf lD gL fD;have hz:=Gg.x8 (g:=g) (by rw[Fh];exact gi.ll);have x8:lI (ak g.word) (g.first:Int)=some (.int g.z1):=c9 (cI hz);have gd:=hR.g;refine⟨_,rfl,p,_,dx,_,_,rfl,hp.ins,aS T,T.ko,mC _ _,_,rfl,p,_,dx,_,_,rfl,hp.ins,aS T,T.fm,ie _ _,wa,_,_,.int g.z1,rfl,rfl,bV.of hp.wo,x8,?_⟩;refine⟨_,rfl,x,_,c.dx,_,_,rfl,hc.ins,aM T,T.fZ,ig _ _ _,r,a.dx,_,rfl,hR.at_.ins,cz _ _ _ (by decide +kernel),_,rfl,p,_,dx,_,_,rfl,hp.ins,aS T,T.ia,mD _ _,_,rfl,r,S,a,g.front,g.z1,rfl,hR.at_,by rw[gd.wf.w];exact gi.f,_,rfl,p,_,dx,_,_,rfl,hp.ins,aS T,T.iz,mE _ _,?_⟩
  have fin:S.by g.front g.z1=some g.bj->Q .non H:=λhb=>by
   refine k S a R ag W H (λ_ _ _ _ e=>e) hc ⟨hR.at_,hR.g,hR.w,hR.k,hR.m,hR.l,by have:=hR.rb;omega,hR.wb⟩ (λb z=>.inl z) (ci.done uG λb eb=>?_) (by omega) (λ_ _ _ z=>z) rfl rfl (.refl S);rw[Fg]at eb;obtain rfl:=Option.some.inj eb;exact .inr (gi.whole Fh es ef er hb)
  by_cases hb:S.by g.front g.z1=some g.bj
  ·rw[hb];refine⟨rfl,_,rfl,?_⟩;exact cO (λ_=>fin hb) (λz=>absurd (aey rfl) z)
  have Sf:JH (((S.by g.front g.z1).map λn:Nat=>V.int (n:Int)).getD .non) (.int (g.bj:Int))=true/\decide ((((S.by g.front g.z1).map λn:Nat=>V.int (n:Int)).getD .non)=V.int (g.bj:Int))=false:=by
   cases q:S.by g.front g.z1 with
   |none=>exact⟨rfl,aeK (by intro z;cases z)⟩
   |some d=>exact⟨rfl,aeK (λz=>hb (by rw[q];have:=V.int.inj z;congr 1;omega))⟩
  refine⟨Sf.1,_,rfl,?_⟩;rw[Sf.2];refine cU ?_;clear fin Sf;refine⟨_,rfl,x,_,c.dx,_,_,rfl,hc.ins,aM T,T.fZ,ig _ _ _,r,a.dx,_,rfl,hR.at_.ins,cz _ _ _ (by decide +kernel),_,rfl,p,_,dx,_,_,rfl,hp.ins,aS T,T.ia,mD _ _,_,rfl,_,rfl,p,_,dx,_,_,rfl,hp.ins,aS T,T.iz,mE _ _,_,rfl,p,dx,_,rfl,hp.ins,My (by decide +kernel),_,rfl,x,_,c.dx,_,_,rfl,hc.ins,aM T,T.fZ,ig _ _ _,p,dx,wa,r,g,S,a,R,rfl,hp,hR.at_,gd,gi.s,gi.r,gi.ll,oC,λq H1 s1 dt=>?_⟩;have lx:=rJ (by_:=S.by) (ws:=g.word.take g.first) (r:=g.start);have ly:=rJ (by_:=S.by) (ws:=g.word.drop (g.last+ 1)) (r:=g.bj);rw[aeG]at lx;rw[aeU]at ly;have f1:=gi.wf;have f2:=gi.wr;rw[es,ef]at f1;rw[es,er,←Fh]at f2;rw[←Fh]at dt ly;have ra:Ie ws nr S g.which g.word g.start g.first g.front g.bj g.z1:=⟨ML,hnr,⟨gi.s,es⟩,hz,f1,f2,⟨gi.f,ef⟩,⟨gi.r,er⟩,hb⟩
  have K9:∀a y b,jy R g.front g.z1 g.bj a y b->y∈ks:=by
   have:=pX g.z1 (adY hz);rintro a y b (z|⟨_,e,_⟩|⟨_,e,_⟩)
   ·exact hR.k _ _ _ z
   ·rw[e];exact this.1
   ·rw[e];exact this.2
  have stl:=wV S
  have IU:mu ks.length (vd S g.which g.word g.start g.first g.bj) [(g.front,g.z1,g.bj)]<=1000000:=by
   unfold mu;have h1:(vd S g.which g.word g.start g.first g.bj).stand=S.stand:=rfl;have:S.stand* (ks.length+ 1)<=2000* 401:=ag8 (by have:=hR.m;omega) (by have:=hR.l;omega);rw[h1];show S.stand* (ks.length+ 1)+ 1<=_;omega
  have gl:=gd.lay g.z1 gi.f gi.r (vd S g.which g.word g.start g.first g.bj).rows;refine⟨r,q,S,a,g.front,g.bj,g.z1,_,MK (jy R g.front g.z1 g.bj) S.made S.L (B+ 1) 900000 1000000 ks (vd S g.which g.word g.start g.first g.bj) [(g.front,g.z1,g.bj)],mu ks.length,rfl,hR.at_.same s1,by have:=hR.rb;omega,dt,K8 _ _ _ (by rw[adZ,aes,aes];omega),⟨gl,rfl,rfl,?_,hR.wb,IU,λ_ z=>z⟩,Dg K9 (by have:=hR.m;omega) (by have:=hR.l;omega) (by omega) (by decide) (by decide),λS' a' H2 b2 h2 i2 o2=>?_⟩
  ·show (S.rows++[_]).length+ S.stand<=_;rw[adZ];have:=hR.rb;show _+ 1+ _<=_;omega
  obtain⟨g2,em,eL,rb2,wb2,_,re⟩:=i2;have lay:=re S' (.nil S');obtain⟨_,w2,_,_,l,el⟩:=lay.all gl K9 (⟨hR.w.a,hR.w.b,hR.w.c⟩:jf (vd S g.which g.word g.start g.first g.bj));have el:S'.bf=S.bf++l:=el;have yr:∀b o,¬a.own r b->H b=some o->H2 b=some o:=λb o nb e=>b2 b o nb (s1 _ _ e)
  have WC:∀b,a'.own r b->a.own r b\/H b=none:=λb z=>(o2 b z).imp id (same_none s1)
  have Dl:∀b,a'.own r b->¬O b:=λb z y=>by
   rcases WC b z with q|q
   ·exact dj b q y
   ·obtain⟨o,e,_⟩:=hc.th b y;rw[q]at e;cases e
  have c2:cE A.aD A.az H2 x r c gs ag W S.bf.length fp O:=hc.keep (λb o hb e=>yr b o (λz=>dj b z hb) e) (λb xs e=>yr b _ (hR.at_.va e) e);have p2:eF A.aD H2 p dx wa g:=⟨yr _ _ C6 hp.ins,yr _ _ (hR.at_.va hp.wo) hp.wo⟩;have lt:=Later.of gd g2 oU (afW em.symm)
  have uH:=ci.lay uG gd g2 em hR.w w2 el gi.f ef gi.r er λb eb=>by
   rw[Fg]at eb;obtain rfl:=Option.some.inj eb;show S'.ax g.start≠g.start\/wk S'.by g.start g.word=some g.start;by_cases e1:S'.ax g.start=g.start
   ·right
    have h1:=lt.wk f1;have h3:=lt.wk f2;have PX:=g2.Cd.mpr ⟨g.front,g.bj,wu,rfl,rfl⟩;rw[e1]at h1 h3;have:g.word=g.word.take g.first++(g.z1::g.word.drop (g.first+ 1)):=by rw[←drop_cons hz,List.take_append_drop]
    rw[this,xZ h1,lU PX];exact h3
   ·exact .inl e1
  have WD:nK A.aD A.az S' bs gs W _ (ag.length+ 2* gs.length) x r c S.bf.length fp O H2 ag W:=⟨c2,uH,λ_ _ _ z=>z,by have:=uH.two;omega⟩;refine⟨_,rfl,x,c.dx,_,rfl,c2.ins,iJ (by decide +kernel),_,rfl,p,_,dx,_,_,rfl,p2.ins,aS T,T.ia,mD _ _,_,rfl,x,r,c,gs,ag,W,S.bf.length,fp,O,g.front,g.z1,rfl,c2,WD.fits I8,λns H3 b3 nd hn c3=>?_⟩;have WG:=WD.wake nd hn c3;have p3:eF A.aD H3 p dx wa g:=⟨b3 _ _ Dj p2.ins,b3 _ _ (c2.lL p2.wo) p2.wo⟩;refine⟨_,rfl,x,c.dx,_,rfl,c3.ins,iJ (by decide +kernel),_,rfl,p,_,dx,_,_,rfl,p3.ins,aS T,T.iz,mE _ _,_,rfl,_,rfl,x,r,c,gs,_,_,S.bf.length,fp,O,g.bj,-g.z1,rfl,c3,WG.fits I8,λns2 H4 b4 R6 xx c4=>?_⟩;have WH:=WG.wake R6 xx c4;have Sg:Bt O H2 H4:=b3.trans b4 λb z=>.inl z
  have R4:ay A.aq H4 r S' a':=h2.keep (λb o hb e=>Sg b o (Dl b hb) e) (λb xs e=>Sg b _ (c2.lL e) e)
  have i4:CI S' bs gs (ag++ns++ns2) (iB (iB W g.front g.z1) g.bj (-g.z1)) (MJ S' S.bf.length) none:=WH.i.ex λr' s n' w hr ex=>by
   obtain⟨w1,n1⟩:=dO.mp w;obtain⟨w2,n2⟩:=dO.mp w1;rcases ex with ⟨e1,e2⟩|⟨e1,e2⟩|⟨m,hm,e⟩
   ·exact absurd ⟨by rw[e1],e2⟩ n2
   ·exact absurd ⟨by rw[e1],e2⟩ n1
   ·exact .inr ⟨m,by rw[el,List.drop_append_of_le_length (ad7 _),ahf];exact hm,e⟩
  refine⟨_,rfl,x,c.dx,_,rfl,c4.ins,iJ (by decide +kernel),x,r,c,S',a',_,bs,gs,_,_,_,S.bf.length,fp,O,rfl,⟨c4,i4,λ_ _ _ z=>z,WH.b⟩,I8,by rw[el,adZ];omega,R4,g2,w2.c,Dl,λSh W5 H5 b5 h5=>?_⟩;have Si:Bt O H2 H5:=Sg.trans b5 λb z=>.inl z
  refine k S' a' _ Sh W5 H5 (λb o n1 n2 e=>Si b o n1 (yr b o n2 e)) h5.c ⟨h2.keep (λb o hb e=>Si b o (Dl b hb) e) (λb xs e=>Si b _ (c2.lL e) e),g2,w2,K9,by rw[em];exact hR.m,hR.l,rb2,wb2⟩ WC h5.i (by have:=h5.b;omega) oU em eL (.step (.refl S) ra lay)
theorem GB {x y:V}{A B:Prop}(h:x=y)(k:B):if (!decide (x=y))=true then A else B:=by rw[aed (by simp[h])];exact k
section
variable {CG CC:Addr} {H H':Hp} {x r:Addr} {c:KA} {gs:List (Option Gg)} {ag:List Nat} {W:bQ} {hd:Nat} {fp:List (List Int×Nat)} {O:Addr->Prop} {gv:List V} {n:Nat} {p dx wa:Addr} {g g':Gg}
theorem cE.Vd (h:cE CG CC H x r c gs ag W hd fp O)(hG:H c.aG=some (.lst gv))(hs:sJ CG H gv gs O)(ev:gv[n]?=some (.ref p))(op:O p)(q:eF CG H p dx wa g)(f:∀b o,b≠p->H b=some o->H' b=some o)(q':eF CG H' p dx wa g'):cE CG CC H' x r c (gs.set n (some g')) ag W hd fp O/\sJ CG H' gv (gs.set n (some g')) O:=by
 have kn:∀b o,(∀C d fs,o≠.ins C d fs)->H b=some o->H' b=some o:=λb o w e=>f b o (λz=>by rw[z,q.ins]at e;exact w _ _ _ (Option.some.inj e).symm) e
 have WK:sJ CG H' gv (gs.set n (some g')) O:=by
  refine⟨by rw[aew];exact hs.l,λi v e1 e2=>?_,λi v u e1 e2=>?_,hs.i⟩
  ·rcases fi e2 with ⟨_,z⟩|⟨_,z⟩
   ·cases z
   ·exact hs.n i v e1 z
  ·rcases fi e2 with ⟨z1,z⟩|⟨z1,z⟩
   ·cases z;rw[z1,ev]at e1;exact⟨p,dx,wa,(Option.some.inj e1).symm,q',op⟩
   ·obtain⟨p1,I9,Ja,e,q1,o1⟩:=hs.s i v u e1 z;have np:p1≠p:=λz=>z1 (hs.i i n p (by rw[←z,←e];exact e1) ev)
    exact⟨p1,I9,Ja,e,⟨f _ _ np q1.ins,kn _ _ (by intro _ _ _ z;cases z) q1.wo⟩,o1⟩
 refine⟨⟨f _ _ (Df h q).symm h.ins,⟨gv,kn _ _ (by intro _ _ _ z;cases z) hG,WK⟩,kn _ _ (by intro _ _ _ z;cases z) h.hA,?_,h.ne,h.ox,h.oG,h.oA,λb hb=>?_⟩,WK⟩
 ·obtain⟨D,E,k1,k2⟩:=h.wt;exact⟨D,E,k1.keep λb o hb e=>by obtain⟨kv,q⟩:=k1.there hb;rw[q]at e;cases e;exact kn _ _ (by intro _ _ _ z;cases z) q,k2⟩
 ·by_cases e:b=p
  ·exact⟨_,by rw[e];exact q'.ins,(by intro _ z;cases z),by intro _ z;cases z⟩
  ·obtain⟨o,q,m⟩:=h.th b hb;exact⟨o,f _ _ e q,m⟩
theorem cE.Fi (h:cE CG CC H x r c gs ag W hd fp O)(hG:H c.aG=some (.lst gv))(hs:sJ CG H gv gs O)(ev:gv[n]?=some (.ref p))(q:eF CG H p dx wa g):cE CG CC (upd H c.aG (.lst (gv.set n .non))) x r c (gs.set n none) ag W hd fp (λb=>O b/\b≠p):=by
 have k:∀b o,b≠c.aG->H b=some o->upd H c.aG (.lst (gv.set n .non)) b=some o:=λb o n e=>by rw[ao n];exact e
 have kn:∀b o,(∀xs,o≠.lst xs)->H b=some o->upd H c.aG (.lst (gv.set n .non)) b=some o:=λb o w e=>k b o (λz=>by rw[z,hG]at e;exact w _ (Option.some.inj e).symm) e
 have nl:∀{b xs},H b=some (.lst xs)->b≠p:=λ{b xs} e z=>by rw[z,q.ins]at e;cases e
 refine⟨kn _ _ (by intro _ z;cases z) h.ins,⟨_,aj,by rw[aew,aew];exact hs.l,λi v e1 e2=>?_,λi v u e1 e2=>?_,λi j p' e1 e2=>?_⟩,k _ _ h.ne.symm h.hA,?_,h.ne,⟨h.ox,(Df h q).symm⟩,⟨h.oG,nl hG⟩,⟨h.oA,nl h.hA⟩,λb hb=>?_⟩
 ·rcases fi e1 with ⟨z1,z⟩|⟨z1,z⟩
  ·exact z
  ·rcases fi e2 with ⟨y1,_⟩|⟨_,y⟩
   ·exact absurd y1 z1
   ·exact hs.n i v z y
 ·rcases fi e2 with ⟨_,z⟩|⟨z1,z⟩
  ·cases z
  ·rcases fi e1 with ⟨y1,_⟩|⟨_,y⟩
   ·exact absurd y1 z1
   ·obtain⟨p1,I9,Ja,e,q1,o1⟩:=hs.s i v u y z;have np:p1≠p:=λw=>z1 (hs.i i n p (by rw[←w,←e];exact y) ev)
    exact⟨p1,I9,Ja,e,⟨kn _ _ (by intro _ z;cases z) q1.ins,kn _ _ (by intro _ z;cases z) q1.wo⟩,o1,np⟩
 ·rcases fi e1 with ⟨_,z⟩|⟨_,z⟩
  ·cases z
  ·rcases fi e2 with ⟨_,y⟩|⟨_,y⟩
   ·cases y
   ·exact hs.i i j p' z y
 ·obtain⟨D,E,k1,k2⟩:=h.wt;refine⟨D,E,k1.keep λb o hb e=>by obtain⟨kv,q⟩:=k1.there hb;rw[q]at e;cases e;exact kn _ _ (by intro _ z;cases z) q,λb hb=>⟨k2.o b hb,λz=>?_⟩,k2.d,k2.e,k2.w⟩;obtain⟨kv,q2⟩:=k1.there hb;rw[z,q.ins]at q2;cases q2
 ·by_cases e:b=c.aG
  ·exact⟨_,by rw[e];exact aj,(by intro _ z;cases z),by intro _ z;cases z⟩
  ·obtain⟨o,q,m⟩:=h.th b hb.1;exact⟨o,k _ _ e q,m⟩
end
structure La (ws:List (List Int)) (nr:Nat) (ks:List Int) (bs:List (Nat×List Int×Nat)):Prop where
 w:∀b∈bs,ws[b.1]?=some b.2.1
 n:∀b∈bs,b.1<nr\/b.2.2=0
 l:∀b∈bs,b.2.1.length<=1000
 k:∀b∈bs,∀z∈b.2.1,z∈ks/\-z∈ks
 c:bs.length<100000
def live (gs:List (Option Gg)):Nat:=gs.countP (·.isSome)
theorem Dm {gs:List (Option Gg)}{n:Nat}{g:Gg}(h:gs[n]?=some (some g)):(∀u:Gg,live (gs.set n (some u))=live gs)/\live (gs.set n none)+ 1=live gs:=by
 unfold live
 induction gs generalizing n with
 |nil=>simp at h
 |cons y r ih=>
  cases n with
  |zero=>
   have:y=some g:=by simpa using h
   subst this;simp[List.countP_cons]
  |succ n=>
   obtain⟨i1,i2⟩:=ih (n:=n) (by simpa using h);simp only[List.set_cons_succ,List.countP_cons];exact⟨λu=>by rw[i1 u],by omega⟩
def Jb (CR CG CC:Addr):Sp:=λvs H Q _=>∃(x r:Addr) (c:KA) (S:RS) (a:RA) (R:Nat->Int->Nat->Prop) (ks:List Int) (B:Nat) (ws:List (List Int)) (nr:Nat) (bs:List (Nat×List Int×Nat)) (gs:List (Option Gg)) (ag:List Nat) (W:bQ) (fp:List (List Int×Nat)) (O:Addr->Prop) (n:Nat),vs=[.ref x,.int n]/\cE CG CC H x r c gs ag W S.bf.length fp O/\i7 CR H r S a R ks B/\B<900000/\(∀b,a.own r b->¬O b)/\CI S bs gs (ag++[n]) W eX none/\La ws nr ks bs/\ag.length+ 2* gs.length<=1000000/\
 ∀S' a' R' pM gN W' O' B' H',(∀b o,¬O b->¬a.own r b->H b=some o->H' b=some o)->cE CG CC H' x r c pM gN W' S'.bf.length fp O'->i7 CR H' r S' a' R' ks B'->(∀b,a'.own r b->a.own r b\/H b=none)->(∀b,O' b->O b\/H b=none)->(∀b,a'.own r b->¬O' b)->CI S' bs pM gN W' eX none->(∀a z b,R a z b->R' a z b)->S'.made=S.made->S'.L=S.L->Tr ws nr S S'->(live pM=live gs/\gN.length=ag.length/\B'=B)\/(live pM+ 1=live gs/\gN.length<=ag.length+ 2* gs.length/\B'<=B+ 1)->Q .non H'
theorem wW (T:Txt K mg A):aK P w K mg base bq 7 A.kX A.kY ["self","number"] (Jb A.aq A.aD A.az):=by
 have yu:aK P w K mg base bq 2 A.kT A.kU ["self","rooms"] (MG A.aq A.aD):=wQ T;have dQ:aK P w K mg base bq 1 A.fI A.fJ ["self","room"] (rB A.aq):=jo T;have rM:aK P w K mg base bq 1 A.mq A.mr ["self","number","room","step"] (IY A.aq A.aD A.az):=yq T;have tu:aK P w K mg base bq 6 A.jN A.jO ["self","going"] (Dh A.aq A.aD A.az):=rL T;have mL:aK P w K mg base bq 5 A.jE A.jF ["self","room","step","other","row"] (AV A.aq):=pJ T;refine T.ni.F.ok pG (λvs H Q E h=>?_) (λbK AA outer s H vs Q E hr h=>?_)
 ·obtain⟨x,r,c,S,a,R,ks,B,ws,nr,bs,gs,ag,W,fp,O,n,rfl,_⟩:=h;rfl
 ·obtain⟨x,r,c,S,a,R,ks,B,ws,nr,bs,gs,ag,W,fp,O,n,rfl,h,hR,hB,dj,ci,yw,I8,k⟩:=h
  refine⟨_,(ai (aZ (i:=2) pG.nd rfl (Or.inl rfl) (bJ bR (aF (pv 0) rfl) (pv 1) (λ_ _=>rfl)))
   (ai (bU (bu qN (pv 2) iN (bE _))
    (aw yH)
    bB)
   (ai (bU (bu rT (bH (aF (pv 0) rfl) (aH T) T.dy.m (dQ) (hr.mono (by decide)) T.dy.b .nil aP (ae (aF (pv 2) rfl) ah)) (aF (pv 2) rfl) (bE _))
    (ai (tL iN (xm (aF (pv 0) rfl) (pv 1) set_list))
    (aw yH))
    bB)
   (ai (aX (bH (pv 2) (aS T) T.nh.m (yu) (hr.mono (by decide)) T.nh.b .nil aP (ae (aF (pv 0) rfl) ah)))
   (aw (cj (bU (bu xt (aF (pv 2) rfl) (aF (pv 2) rfl) (bE _))
    (ai (aX (bH (pv 0) (aM T) T.i5.m (rM) (hr.mono (by decide)) T.i5.b .nil aP (ae (pv 1) (ae (aF (pv 2) rfl) (ae (bJ fL (aF (pv 2) rfl) (aF (pv 2) rfl) (λ_ _=>rfl)) ah)))))
    (aw (aX (bH (pv 0) (aM T) T.i5.m (rM) (hr.mono (by decide)) T.i5.b .nil aP (ae (pv 1) (ae (aF (pv 2) rfl) (ae (gg eR (bJ fL (aF (pv 2) rfl) (aF (pv 2) rfl) (λ_ _=>rfl))) ah)))))))
    (ai (tL iN (xm (aF (pv 0) rfl) (pv 1) set_list))
    (aw (aX (bH (pv 0) (aM T) T.qC.m (tu) (hr.mono (by decide)) T.qC.b .nil aP (ae (pv 2) ah)))))))))))),?_⟩
  try dsimp only[bz,cD]
  refine Ci ?_;intro tf lD gL fD;have hn:n<gs.length:=ci.ab n (ad5 _ (ad1.mpr rfl));obtain⟨gv,hG,hs⟩:=h.hG;obtain⟨v,hv⟩:=get_some (xs:=gv) (i:=n) (by rw[hs.l];exact hn);have gd:=hR.g;refine⟨_,rfl,x,_,c.dx,_,_,rfl,h.ins,aM T,T.kr,mX _ _ _,_,rfl,c.aG,_,_,v,rfl,rfl,aI.of hG,c9 hv,?_⟩;obtain⟨og,uG⟩:=get_some (xs:=gs) (i:=n) hn
  cases og with
  |none=>
   obtain rfl:=hs.n n v hv uG;refine⟨_,rfl,rfl,_,rfl,lP ?_⟩;exact k S a R gs ag W O B H (λ_ _ _ _ e=>e) h hR (λb z=>.inl z) (λb z=>.inl z) dj (ci.pop.done uG λb eb=>ci.de n b uG (by intro z;cases z) eb) (λ_ _ _ z=>z) rfl rfl (.refl S) (.inl ⟨rfl,rfl,rfl⟩)
  |some g=>
   obtain⟨p,dx,wa,rfl,hp,op⟩:=hs.s n v g hv uG;obtain⟨Fg,gi,_⟩:=ci.al n g uG;have Jc:=adY Fg;have oC:g.word.length<=1000:=yw.l _ Jc;have C6:¬a.own r p:=λz=>dj p z op
   refine⟨_,rfl,rfl,_,rfl,cU ?_⟩;refine⟨_,rfl,x,_,c.dx,_,_,rfl,h.ins,aM T,T.fZ,ig _ _ _,r,a.dx,_,rfl,hR.at_.ins,cz _ _ _ (by decide +kernel),_,rfl,p,_,dx,_,_,rfl,hp.ins,aS T,T.sC,wO _ _,r,S,a,g.start,S.ax g.start,rfl,hR.at_,mW (by rw[gd.wf.e];exact gi.s),_,rfl,p,_,dx,_,_,rfl,hp.ins,aS T,T.sC,wO _ _,rfl,_,rfl,?_⟩;have Sj:∀b,a.own r b->¬(O b/\b≠p):=λb z y=>dj b z y.1
   by_cases es:S.ax g.start=g.start
   ·refine GB (by rw[es]) ?_;refine⟨_,rfl,p,dx,_,rfl,hp.ins,My (by decide +kernel),_,rfl,x,_,c.dx,_,_,rfl,h.ins,aM T,T.fZ,ig _ _ _,p,dx,wa,r,g,S,a,R,rfl,hp,hR.at_,gd,gi,C6,oC,λg' H1 f1 p1 ad=>?_⟩;have R1:i7 A.aq H1 r S a R ks B:=hR.keep (λb o hb e=>f1 b o (λz=>C6 (z ▸ hb)) e) (λb xs e=>f1 b _ (cF e hp.ins (by intro z;cases z)) e);obtain⟨c1,gs1⟩:=h.Vd hG hs hv op hp f1 p1;have Dp:H1 c.aG=some (.lst gv):=f1 _ _ (cF hG hp.ins (by intro z;cases z)) hG;have Jd:=ad.gi;have L0:=Jd.ll;have LJ:=Jd.fl;have Zw:g'.word.length<=1000:=by rw[ad.wo];exact oC
    have z1:=Gg.x8 (g:=g') (by omega);have z2:=Gg.at2 (g:=g') L0;have adk:(gs.set n (some g'))[n]?=some (some g'):=aeH hn
    have lv:=Dm uG;have lm:=hR.m;refine⟨λ_ H'=>Q .non H',?_,λ_ _ q=>q⟩;refine⟨_,rfl,p,_,dx,_,_,rfl,p1.ins,aS T,T.fm,ie _ _,_,rfl,p,_,dx,_,_,rfl,p1.ins,aS T,T.jm,mF _ _,_,_,rfl,rfl,_,rfl,?_⟩;refine cO (λq=>?_) (λq=>?_)
    ·have q:(g'.first:Int)<(g'.last:Int):=aeI q;have bw:∀z∈g'.word,-1000<=z/\z<=1000:=λz hz=>ci.bd _ Jc z (by rw[←ad.wo];exact hz)
     have b1:=bw _ (adY z1);have b2:=bw _ (adY z2);have hf:=Jd.f;have hrr:=Jd.r;have WL:n<100000:=by have:=ci.len;have:=yw.c;omega
     refine⟨_,rfl,x,c.dx,_,rfl,c1.ins,iJ (by decide +kernel),_,rfl,_,rfl,p,_,dx,_,_,rfl,p1.ins,aS T,T.ia,mD _ _,_,rfl,p,_,dx,_,_,rfl,p1.ins,aS T,T.ko,mC _ _,_,rfl,p,_,dx,_,_,rfl,p1.ins,aS T,T.fm,ie _ _,wa,_,_,.int g'.z1,rfl,rfl,bV.of p1.wo,c9 (cI z1),x,r,c,_,ag,W,S.bf.length,fp,O,n,g'.front,g'.z1,rfl,c1,by omega,WL,b1,λO2 H2 WM f2 Sl Dq c2=>?_⟩;have p2:eF A.aD H2 p dx wa g':=⟨f2 _ _ (by intro _ z;cases z) p1.ins,f2 _ _ (by intro _ z;cases z) p1.wo⟩;refine⟨_,rfl,x,c.dx,_,rfl,c2.ins,iJ (by decide +kernel),_,rfl,_,rfl,p,_,dx,_,_,rfl,p2.ins,aS T,T.iz,mE _ _,_,rfl,p,_,dx,_,_,rfl,p2.ins,aS T,T.ko,mC _ _,_,rfl,p,_,dx,_,_,rfl,p2.ins,aS T,T.jm,mF _ _,wa,_,_,.int (-g'.z2),rfl,rfl,bV.of p2.wo,c9 (cI z2),_,rfl,x,r,c,_,ag,_,S.bf.length,fp,O2,n,g'.bj,g'.z2,(by show [V.ref x,V.int (n:Int),V.int (g'.bj:Int),V.int (- -g'.z2)]=_;rw[afB]),c2,by omega,WL,by omega,λO3 H3 bt3 f3 WN Af c3=>?_⟩
     have Zx:∀b,O3 b->O b\/H1 b=none:=λb z=>by
      rcases Af b z with y|y
      ·exact Dq b y
      ·by_cases w:O b
       ·exact .inl w
       ·refine .inr ?_
        cases e:H1 b with
        |none=>rfl
        |some o=>rw[WM b o w e]at y;cases y
     have nw:∀b,O3 b->O b\/H b=none:=λb z=>by
      rcases Zx b z with y|y
      ·exact .inl y
      ·by_cases w:b=p
       ·exact .inl (by rw[w];exact op)
       ·refine .inr ?_
        cases e:H b with
        |none=>rfl
        |some o=>rw[f1 b o w e]at y;cases y
     have Lb:Bt O H1 H3:=WM.trans bt3 Dq
     have dj3:∀b,a.own r b->¬O3 b:=λb z y=>by
      rcases nw b y with w|w
      ·exact dj b z w
      ·obtain⟨o,e⟩:=hR.at_.there z;rw[w]at e;cases e
     refine k S a R _ ag _ O3 B H3 (λb o n1 _ e=>Lb b o n1 (f1 b o (λz=>n1 (by rw[z];exact op)) e)) c3 (R1.keep (λb o hb e=>Lb b o (dj b hb) e) (λb xs e=>Lb b _ (c1.lL e) e)) (λb z=>.inl z) nw dj3 (ci.pop.waits uG ad (by omega)) (λ_ _ _ z=>z) rfl rfl (.refl S) (.inl ⟨lv.1 g',rfl,rfl⟩)
    ·have q:¬(g'.first:Int)<(g'.last:Int):=λz=>q (aey z)
     have Fh:g'.first=g'.last:=by omega
     refine⟨_,rfl,x,_,c.dx,_,_,rfl,c1.ins,aM T,T.kr,mX _ _ _,_,rfl,c.aG,_,_,n,rfl,rfl,Dp,rE (by rw[hs.l];exact hn),?_⟩;have c2:=c1.Fi Dp gs1 hv p1;have kn:∀b o,(∀xs,o≠.lst xs)->H1 b=some o->upd H1 c.aG (.lst (gv.set n .non)) b=some o:=λb o w e=>by rw[ao (λz=>by rw[z,Dp]at e;exact w _ (Option.some.inj e).symm)];exact e
     have p2:eF A.aD (upd H1 c.aG (.lst (gv.set n .non))) p dx wa g':=⟨kn _ _ (by intro _ z;cases z) p1.ins,kn _ _ (by intro _ z;cases z) p1.wo⟩;have Sn:¬a.own r c.aG:=λz=>dj _ z h.oG
     have R2:i7 A.aq (upd H1 c.aG (.lst (gv.set n .non))) r S a R ks B:=R1.keep (λb o hb e=>by rw[ao (λz=>Sn (by rw[←z];exact hb))];exact e) (λb xs e=>kn _ _ (by intro _ z;cases z) e);have ess:(gs.set n (some g')).set n none=gs.set n none:=List.set_set ..;rw[ess]at c2;have Sq:∀b o,¬O b->H b=some o->upd H1 c.aG (.lst (gv.set n .non)) b=some o:=λb o n1 e=>by rw[ao (λz=>n1 (by rw[z];exact h.oG))];exact f1 b o (λz=>n1 (by rw[z];exact op)) e
     have Sr:∀b,upd H1 c.aG (.lst (gv.set n .non)) b=none->H b=none:=λb z=>by
      cases e:H b with
      |none=>rfl
      |some o=>
       by_cases w:O b
       ·by_cases y:b=p
        ·rw[y,p2.ins]at z;cases z
        ·obtain⟨o2,e2,_⟩:=c2.th b ⟨w,y⟩;rw[z]at e2;cases e2
       ·rw[Sq b o w e]at z;cases z
     generalize upd H1 c.aG (.lst (gv.set n .non))=H2 at c2 p2 R2 Sq Sr ⊢;refine⟨_,rfl,x,c.dx,_,rfl,c2.ins,iJ (by decide +kernel),_,rfl,x,r,p,dx,wa,c,S,a,R,ks,B,ws,nr,bs,gs.set n none,ag,W,fp,_,n,g',rfl,c2,R2,hB,Sj,ci.pop.kill,aeH hn,by rw[Fg,ad.wh,ad.wo,ad.st],p2,(λz=>z.2 rfl),C6,Jd,Fh,by rw[ad.st];exact es,ad.ef,ad.er,by rw[ad.wh,ad.wo];exact yw.w _ Jc,by rw[ad.wh,ad.st];exact yw.n _ Jc,by rw[ad.wo];exact yw.k _ Jc,Zw,by rw[aew];exact I8,λS' a' R' gN W' H' f3 c3 R3 o3 yx la rr em eL tr=>?_⟩;have o03:∀b,a'.own r b->a.own r b\/H b=none:=λb z=>(o3 b z).imp id (Sr b)
     rw[aew]at la;refine k S' a' R' _ gN W' _ (B+ 1) H' (λb o n1 n2 e=>f3 b o (λz=>n1 z.1) n2 (Sq b o n1 e)) c3 R3 o03 (λb z=>.inl z.1) (λb z y=>?_) yx rr em eL tr (.inr ⟨lv.2,la,ad7 _⟩);rcases o3 b z with w|w
     ·exact Sj b w y
     ·obtain⟨o2,e2,_⟩:=c2.th b y;rw[w]at e2;cases e2
   ·refine cO (λ_=>?_) (λz=>absurd (by rw[aeK λw=>es (by have:=V.int.inj w;omega)];rfl) z);refine⟨_,rfl,x,_,c.dx,_,_,rfl,h.ins,aM T,T.kr,mX _ _ _,_,rfl,c.aG,_,_,n,rfl,rfl,hG,rE (by rw[hs.l];exact hn),?_⟩;have c2:=h.Fi hG hs hv hp;have Sn:¬a.own r c.aG:=λz=>dj _ z h.oG
    refine k S a R _ ag W _ B _ (λb o n1 _ e=>by rw[ao (λz=>n1 (by rw[z];exact h.oG))];exact e) c2 (hR.keep (λb o hb e=>by rw[ao (λz=>Sn (by rw[←z];exact hb))];exact e) (λb xs e=>by rw[ao (λz=>by rw[z,hG]at e;cases e)];exact e)) (λb z=>.inl z) (λb z=>.inl z.1) Sj (ci.pop.kill.done (aeH hn) λb eb=>?_) (λ_ _ _ z=>z) rfl rfl (.refl S) (.inr ⟨(Dm uG).2,by omega,by omega⟩);rw[Fg]at eb;obtain rfl:=Option.some.inj eb;exact .inl es
theorem _root_.L2.Tr.trans {ws:List (List Int)}{nr:Nat}{S S1 S2:RS}(h:Tr ws nr S S1)(k:Tr ws nr S1 S2):Tr ws nr S S2:=by
 induction k with
 |refl=>exact h
 |step _ a b ih=>exact .step ih a b
def Dr (CR CG CC:Addr):Sp:=λvs H Q _=>∃(x r:Addr) (c:KA) (S:RS) (a:RA) (R:Nat->Int->Nat->Prop) (ks:List Int) (B:Nat) (ws:List (List Int)) (nr:Nat) (bs:List (Nat×List Int×Nat)) (gs:List (Option Gg)) (ag:List Nat) (W:bQ) (fp:List (List Int×Nat)) (O:Addr->Prop),vs=[.ref x]/\cE CG CC H x r c gs ag W S.bf.length fp O/\i7 CR H r S a R ks B/\B+ live gs<900000/\(∀b,a.own r b->¬O b)/\CI S bs gs ag W eX none/\La ws nr ks bs/\live gs* (2* bs.length+ 1)+ ag.length+ 2* bs.length<=1000000/\
 ∀S' a' R' pM W' O' B' H',(∀b o,¬O b->¬a.own r b->H b=some o->H' b=some o)->cE CG CC H' x r c pM [] W' S'.bf.length fp O'->i7 CR H' r S' a' R' ks B'->(∀b,a'.own r b->a.own r b\/O b\/H b=none)->(∀b,O' b->O b\/a.own r b\/H b=none)->(∀b,a'.own r b->¬O' b)->CI S' bs pM [] W' eX none->(∀a z b,R a z b->R' a z b)->S'.made=S.made->S'.L=S.L->Tr ws nr S S'->B'+ live pM<=B+ live gs->Q .non H'
theorem vo (T:Txt K mg A):aK P w K mg base bq 8 A.j3 A.j4 ["self"] (Dr A.aq A.aD A.az):=by
 have yy:aK P w K mg base bq 7 A.kX A.kY ["self","number"] (Jb A.aq A.aD A.az):=wW T;refine T.mx.F.ok vi (λvs H Q E h=>?_) (λbK AA outer s H vs Q E hr h=>?_)
 ·obtain⟨x,r,c,S,a,R,ks,B,ws,nr,bs,gs,ag,W,fp,O,rfl,_⟩:=h;rfl
 ·obtain⟨x,r,c,S,a,R,ks,B,ws,nr,bs,gs,ag,W,fp,O,rfl,h,hR,hB,dj,ci,yw,hm,k⟩:=h
  refine⟨_,(aw (cj (jQ aez (A7 (aF (pv 0) rfl) (λ_=>rfl))
   (aw (aX (bH (pv 0) (aM T) T.ni.m (yy) (hr.mono (by decide)) T.ni.b .nil aP (ae (He aeg PySem.F.slot_list_pop PySem.F.type_list_pop Hf (aF (pv 0) rfl)) ah))))))),?_⟩
  try dsimp only[bz,cD]
  have Qs:=ci.len;refine⟨λ_ H'=>Q .non H',?_,λ_ _ q=>q⟩;refine⟨λm σ H2=>∃S2 a2 R2 i9 dW W2 O2 B2,m=live i9* (2* bs.length+ 1)+ dW.length/\σ=[some (.ref x)]/\(∀b o,¬O b->¬a.own r b->H b=some o->H2 b=some o)/\cE A.aD A.az H2 x r c i9 dW W2 S2.bf.length fp O2/\i7 A.aq H2 r S2 a2 R2 ks B2/\(∀b,a2.own r b->a.own r b\/O b\/H b=none)/\(∀b,O2 b->O b\/a.own r b\/H b=none)/\(∀b,a2.own r b->¬O2 b)/\CI S2 bs i9 dW W2 eX none/\(∀a z b,R a z b->R2 a z b)/\S2.made=S.made/\S2.L=S.L/\Tr ws nr S S2/\B2+ live i9<=B+ live gs/\live i9* (2* bs.length+ 1)+ dW.length+ 2* bs.length<=1000000,⟨_,S,a,R,gs,ag,W,O,B,rfl,rfl,λ_ _ _ _ e=>e,h,hR,λb z=>.inl z,λb z=>.inl z,dj,ci,λ_ _ _ z=>z,rfl,rfl,.refl S,ad7 _,hm⟩,?_⟩;intro m σ H2 bA;refine aY ?_;intro q_;obtain⟨S2,a2,R2,i9,dW,W2,O2,B2,rfl,rfl,f2,c2,r2,Ss,MN,Dl,uH,WO,WQ,WR,WT,LX,vM⟩:=bA;dsimp only[q_];clear q_;refine⟨_,rfl,x,_,c.dx,_,_,rfl,c2.ins,aM T,T.mV,qd _ _ _,!(ak (nI dW)).isEmpty,.inl ⟨_,aI.of c2.hA,rfl⟩,?_⟩;by_cases cK:dW=[]
  ·subst cK;refine cU ?_;exact k S2 a2 R2 i9 W2 O2 B2 H2 f2 c2 r2 Ss MN Dl uH WO WQ WR WT LX
  ·have nJ:=afN cK;generalize dW.getLast cK=n at nJ;generalize dW.dropLast=pre at nJ;subst nJ;rw[show (!(ak (nI (pre++[n]))).isEmpty)=true by unfold ak nI;simp];refine lP ?_;refine⟨_,λ_ _ z=>z,?_⟩;refine⟨_,rfl,x,c.dx,_,rfl,c2.ins,iJ (by decide +kernel),_,rfl,x,_,c.dx,_,_,rfl,c2.ins,aM T,T.mV,qd _ _ _,.inl ⟨rfl,_,aI.of c2.hA⟩,c.aA,_,.int (n:Int),rfl,rfl,c2.hA,?_,?_⟩
   ·rw[aL,cX,adZ];exact cI (rh (by show (pre++[n])[pre.length+ 1 - 1]?=some n;rw[Nat.add_sub_cancel,aee (ad7 _),afJ];rfl))
   have RX:(ak (nI (pre++[n]))).dropLast=ak (nI pre):=by rw[kJ,ints_app];exact List.dropLast_concat
   rw[RX];have c3:=c2.agenda pre;have Bb:¬a2.own r c.aA:=λz=>Dl _ z c2.oA
   have f3:∀b o,b≠c.aA->H2 b=some o->upd H2 c.aA (.lst (ak (nI pre))) b=some o:=λb o n1 e=>by rw[ao n1];exact e
   have r3:i7 A.aq (upd H2 c.aA (.lst (ak (nI pre)))) r S2 a2 R2 ks B2:=r2.keep (λb o hb e=>f3 b o (λz=>Bb (by rw[←z];exact hb)) e) (λb xs e=>f3 b _ (λz=>by rw[z,c2.hA]at e;cases e) e)
   have Sv:∀b,upd H2 c.aA (.lst (ak (nI pre))) b=none->H2 b=none:=λb z=>by
    by_cases e:b=c.aA
    ·rw[e,aj]at z;cases z
    ·rw[ao e]at z;exact z
   generalize upd H2 c.aA (.lst (ak (nI pre)))=H3 at c3 f3 r3 Sv ⊢;have ln2:=uH.len;rw[adZ]at vM;have:([n]:List Nat).length=1:=rfl
   have WU:∀b,H2 b=none->a.own r b\/O b\/H b=none:=λb z=>by
    by_cases w:a.own r b
    ·exact .inl w
    ·by_cases w2:O b
     ·exact .inr (.inl w2)
     ·refine .inr (.inr ?_)
      cases e:H b with
      |none=>rfl
      |some o=>rw[f2 b o w2 w e]at z;cases z
   refine⟨x,r,c,S2,a2,R2,ks,B2,ws,nr,bs,i9,pre,W2,fp,O2,n,rfl,c3,r3,by omega,Dl,uH,yw,by omega,λS4 a4 R4 Sw Ae W4 O4 B4 H4 f4 c4 r4 ow4 oo4 dj4 ci4 rr4 em4 eL4 tr4 ms=>?_⟩;have ow:∀b,a4.own r b->a.own r b\/O b\/H b=none:=λb z=>(ow4 b z).elim (Ss b) λw=>WU b (Sv b w)
   have oo:∀b,O4 b->O b\/a.own r b\/H b=none:=λb z=>(oo4 b z).elim (MN b) λw=>by
    rcases WU b (Sv b w) with y|y|y
    ·exact .inr (.inl y)
    ·exact .inl y
    ·exact .inr (.inr y)
   have Sx:B4+ live Sw<=B+ live gs/\live Sw* (2* bs.length+ 1)+ Ae.length<live i9* (2* bs.length+ 1)+ (pre++[n]).length:=by
    rw[adZ];rcases ms with ⟨e1,e2,e3⟩|⟨e1,e2,e3⟩
    ·rw[e1,e2,e3];exact⟨LX,by omega⟩
    ·rw[←e1,Nat.add_mul];exact⟨by omega,by omega⟩
   refine⟨_,Sx.2,S4,a4,R4,Sw,Ae,W4,O4,B4,rfl,rfl,λb o n1 n2 e=>?_,c4,r4,ow,oo,dj4,ci4,λa z b q=>rr4 _ _ _ (WO _ _ _ q),em4.trans WQ,eL4.trans WR,WT.trans tr4,Sx.1,by have:=Sx.2;rw[adZ]at this;omega⟩;refine f4 b o (λz=>?_) (λz=>?_) (f3 b o (λz=>n1 ?_) (f2 b o n1 n2 e))
   ·rcases MN b z with w|w|w
    ·exact n1 w
    ·exact n2 w
    ·rw[w]at e;cases e
   ·rcases Ss b z with w|w|w
    ·exact n2 w
    ·exact n1 w
    ·rw[w]at e;cases e
   ·subst z;rcases MN c.aA c2.oA with w|w|w
    ·exact w
    ·exact absurd w n2
    ·rw[w]at e;cases e
theorem _root_.L2.CI.begin {S:RS}{bs:List (Nat×List Int×Nat)}{gs:List (Option Gg)}{ag:List Nat}{W:bQ}(h:CI S bs gs ag W eX none){which m:Nat}{word:List Int}(hw:word≠[])(hm:m<S.made)(hb:∀z∈word,-1000<=z/\z<=1000):CI S (bs++[(which,word,m)]) (gs++[some (Ac which word m)]) (ag++[gs.length]) W eX none:=by
 have hl:=agI.mpr hw
 have old:∀{k:Nat} {y:Option Gg},(gs++[some (Ac which word m)])[k]?=some y->(k<gs.length/\gs[k]?=some y)\/(k=gs.length/\y=some (Ac which word m)):=λ{k y} e=>by
  by_cases hk:k<gs.length
  ·rw[aej hk]at e;exact .inl ⟨hk,e⟩
  ·rw[aee (by omega)]at e;have:=(ad4.mp e).1;have zH:k=gs.length:=by simp at this;omega
   subst zH;rw[afJ]at e;exact .inr ⟨rfl,(Option.some.inj e).symm⟩
 have Sy:∀{k:Nat},k<gs.length->(bs++[(which,word,m)])[k]?=bs[k]?:=λ{k} hk=>aej (by rw[←h.len];exact hk)
 refine⟨by rw[adZ,adZ,h.len];rfl,λk g e=>?_,λk b e hx eb=>?_,λk hk=>?_,λr s k q=>?_,λk=>?_,λb E1=>?_⟩
 ·rcases old e with ⟨hk,e⟩|⟨hk,e⟩
  ·obtain⟨h1,h2,h3⟩:=h.al k g e;exact⟨by rw[Sy hk];exact h1,h2,h3.imp (aex _) id⟩
  ·cases e;refine⟨?_,⟨aeA _,by show word.length - 1<word.length;omega,hm,hm,hm,rfl,?_⟩,.inl (ad5 _ (ad1.mpr hk))⟩
   ·rw[aee (by rw[hk,h.len];exact ad7 _),hk,h.len,afJ];rfl
   ·show wk S.by _ (word.drop (word.length - 1+ 1))=_;rw[show word.length - 1+ 1=word.length by omega,ahf];rfl
 ·rcases old e with ⟨hk,e⟩|⟨hk,e⟩
  ·rw[Sy hk]at eb;exact h.de k b e hx eb
  ·cases e
 ·rw[adZ];rcases aei.mp hk with q|q
  ·have:=h.ab k q;show k<_+ 1;omega
  ·rw[ad1.mp q];show _<_+ 1;omega
 ·obtain⟨r',n',e1,e2,e3,e4,e5⟩:=h.en r s k q;exact⟨r',n',e1,e2,e3,by rw[adZ];show n'<_+ 1;omega,e5⟩
 ·by_cases hk:k<gs.length
  ·obtain⟨p,q,h1,h2⟩:=h.sl k;refine⟨p,q,h1,λg e=>h2 g ?_⟩;rw[aej hk]at e;exact e
  ·refine⟨((Ac which word m).front,(Ac which word m).z1),((Ac which word m).bj,(Ac which word m).z2),λr s w=>?_,λg e=>?_⟩
   ·obtain⟨_,n',_,e,_,hl,_⟩:=h.en r s k w;omega
   ·rcases old e with ⟨z,_⟩|⟨_,e⟩
    ·exact absurd z hk
    ·cases e;exact⟨rfl,rfl⟩
 ·rcases aei.mp E1 with q|q
  ·exact h.bd b q
  ·rw[ad1.mp q];exact hb
theorem cE.Ve {CG CC:Addr}{H H':Hp}{x r:Addr}{c:KA}{gs:List (Option Gg)}{ag:List Nat}{W:bQ}{hd:Nat}{fp:List (List Int×Nat)}{O:Addr->Prop}{gv:List V}{p dx wa:Addr}{g:Gg}(h:cE CG CC H x r c gs ag W hd fp O)(hG:H c.aG=some (.lst gv))(hs:sJ CG H gv gs O)(np:H p=none)(s:au H H')(q:eF CG H' p dx wa g):cE CG CC (upd H' c.aG (.lst (gv++[.ref p]))) x r c (gs++[some g]) ag W hd fp (Ii O p):=by
 have k:∀b o,b≠c.aG->H' b=some o->upd H' c.aG (.lst (gv++[.ref p])) b=some o:=λb o n e=>by rw[ao n];exact e
 have kn:∀b o,(∀xs,o≠.lst xs)->H' b=some o->upd H' c.aG (.lst (gv++[.ref p])) b=some o:=λb o w e=>k b o (λz=>by rw[z,s _ _ hG]at e;exact w _ (Option.some.inj e).symm) e
 have fresh:∀(i:Nat),gv[i]?≠some (.ref p):=λi e=>by
  have hi:i<gs.length:=by rw[←hs.l];exact(ad4.mp e).1
  cases q2:gs[i]? with
  |none=>rw[adX hi]at q2;cases q2
  |some y=>
   cases y with
   |none=>cases hs.n i _ e q2
   |some u=>
    obtain⟨p1,_,_,e1,q1,_⟩:=hs.s i _ u e q2;cases e1;have:=q1.ins;rw[np]at this;cases this
 have old:∀{i:Nat} {v:V},(gv++[.ref p])[i]?=some v->(i<gv.length/\gv[i]?=some v)\/(i=gv.length/\v=.ref p):=λ{i v} e=>by
  by_cases hk:i<gv.length
  ·rw[aej hk]at e;exact .inl ⟨hk,e⟩
  ·rw[aee (by omega)]at e;have:=(ad4.mp e).1;have zH:i=gv.length:=by simp at this;omega
   subst zH;rw[afJ]at e;exact .inr ⟨rfl,(Option.some.inj e).symm⟩
 refine⟨kn _ _ (by intro _ z;cases z) (s _ _ h.ins),⟨_,aj,by rw[adZ,adZ,hs.l];rfl,λi v e1 e2=>?_,λi v u e1 e2=>?_,λi j p' e1 e2=>?_⟩,k _ _ h.ne.symm (s _ _ h.hA),?_,h.ne,.inl h.ox,.inl h.oG,.inl h.oA,λb hb=>?_⟩
 ·rcases old e1 with ⟨hi,e⟩|⟨hi,e⟩
  ·rw[aej (by rw[←hs.l];exact hi)]at e2;exact hs.n i v e e2
  ·rw[hi,hs.l,aee (ad7 _),afJ]at e2;cases Option.some.inj e2
 ·rcases old e1 with ⟨hi,e⟩|⟨hi,e⟩
  ·rw[aej (by rw[←hs.l];exact hi)]at e2;obtain⟨p1,I9,Ja,e3,q1,o1⟩:=hs.s i v u e e2;exact⟨p1,I9,Ja,e3,⟨kn _ _ (by intro _ z;cases z) (s _ _ q1.ins),kn _ _ (by intro _ z;cases z) (s _ _ q1.wo)⟩,.inl o1⟩
  ·rw[hi,hs.l,aee (ad7 _),afJ]at e2;cases Option.some.inj e2;exact⟨p,dx,wa,e,⟨kn _ _ (by intro _ z;cases z) q.ins,kn _ _ (by intro _ z;cases z) q.wo⟩,.inr rfl⟩
 ·rcases old e1 with ⟨hi,e⟩|⟨hi,e⟩
  ·rcases old e2 with ⟨hj,e'⟩|⟨hj,e'⟩
   ·exact hs.i i j p' e e'
   ·cases e';exact absurd e (fresh i)
  ·rcases old e2 with ⟨hj,e'⟩|⟨hj,e'⟩
   ·cases e;exact absurd e' (fresh j)
   ·omega
 ·obtain⟨D,E,k1,k2⟩:=h.wt;exact⟨D,E,(k1.same s).keep λb o hb e=>by obtain⟨kv,q⟩:=(k1.same s).there hb;rw[q]at e;cases e;exact kn _ _ (by intro _ z;cases z) q,λb hb=>.inl (k2.o b hb),k2.d,k2.e,k2.w⟩
 ·rcases hb with hb|hb
  ·by_cases e:b=c.aG
   ·exact⟨_,by rw[e];exact aj,(by intro _ z;cases z),by intro _ z;cases z⟩
   ·obtain⟨o,q,m⟩:=h.th b hb;exact⟨o,k _ _ e (s _ _ q),m⟩
  ·rw[hb];exact⟨_,kn _ _ (by intro _ z;cases z) q.ins,(by intro _ z;cases z),by intro _ z;cases z⟩
def nz (which:Nat)(word:List Int)(m:Nat):List (Nat×List Int×Nat):=if word=[] then [] else [(which,word,m)]
def zi (CR CG CC:Addr):Sp:=λvs H Q _=>∃(x r wa:Addr) (c:KA) (S:RS) (bs:List (Nat×List Int×Nat)) (gs:List (Option Gg)) (ag:List Nat) (W:bQ) (hd:Nat) (fp:List (List Int×Nat)) (O:Addr->Prop) (which m:Nat) (word:List Int),vs=[.ref x,.int which,.ref wa,.int m]/\cE CG CC H x r c gs ag W hd fp O/\CI S bs gs ag W eX none/\H wa=some (.tup (ak word))/\word.length<=1000/\(∀z∈word,-1000<=z/\z<=1000)/\m<S.made/\bs.length<100000/\ag.length<=bs.length/\∀pM gN O' H',Bt O H H'->(∀b,O b->O' b)->(∀b,O' b->O b\/H b=none)->cE CG CC H' x r c pM gN W hd fp O'->CI S (bs++nz which word m) pM gN W eX none->gN.length<=(bs++nz which word m).length->Q .non H'
theorem pN (T:Txt K mg A):aK P w K mg base bq 3 A.iG A.iH ["self","which","word","room"] (zi A.aq A.aD A.az):=by
 have wX:aK P w K mg base bq 1 A.hJ A.j0 ["self","which","word","start"] (IW A.aD):=vn T;refine T.ix.F.ok wJ (λvs H Q E h=>?_) (λbK AA outer s H vs Q E hr h=>?_)
 ·obtain⟨x,r,wa,c,S,bs,gs,ag,W,hd,fp,O,which,m,word,rfl,_⟩:=h;rfl
 ·obtain⟨x,r,wa,c,S,bs,gs,ag,W,hd,fp,O,which,m,word,rfl,h,ci,ju,oC,MP,hm,C2,Sz,k⟩:=h
  refine⟨_,(aw (cj (bU (bu AF (bL bX rfl T.fT aeW (ae (pv 2) ah)) aB (bE _))
   (ai (aX (dk aeg aeq aer b6 (aF (pv 0) rfl) (ae (bL bX rfl T.fT aeW (ae (aF (pv 0) rfl) ah)) ah)))
   (aw (aX (dk aeg aeq aer b6 (aF (pv 0) rfl) (ae (yJ (wI T) (wX) (hr.mono (by decide)) rfl T.Ot T.jk.b .nil aP (ae (pv 1) (ae (pv 2) (ae (pv 3) ah)))) ah)))))
   bB))),?_⟩
  try dsimp only[bz,cD]
  have Qs:=ci.len;refine⟨λ_ H'=>Q .non H',?_,λ_ _ q=>q⟩;refine⟨_,rfl,wa,_,rfl,.inr (bV.of ju),_,_,rfl,rfl,_,rfl,?_⟩;refine cO (λq=>?_) (λq=>?_)
  ·have q:(0:Int)<((ak word).length:Int):=aeI q;rw[aL]at q;have cK:word≠[]:=λz=>by rw[z]at q;exact absurd q (by show ¬(0:Int)<((0:Nat):Int);decide)
   obtain⟨gv,hG,hs⟩:=h.hG;refine⟨_,rfl,x,_,c.dx,_,_,rfl,h.ins,aM T,T.mV,qd _ _ _,.inl ⟨rfl,_,aI.of h.hA⟩,_,rfl,x,_,c.dx,_,_,rfl,h.ins,aM T,T.kr,mX _ _ _,c.aG,_,rfl,.inl (aI.of hG),c.aA,_,_,rfl,rfl,h.hA,?_,?_⟩
   ·rw[aL,cX];exact aec (show ag.length<=100000 by omega) (by decide)
   have ea:ak (nI ag)++[V.int (gv.length:Int)]=ak (nI (ag++[gs.length])):=by rw[kJ,ints_app,hs.l];rfl
   rw[ea];have h1:=h.agenda (ag++[gs.length]);have k1:∀b o,b≠c.aA->H b=some o->upd H c.aA (.lst (ak (nI (ag++[gs.length])))) b=some o:=λb o n e=>by rw[ao n];exact e
   have n1:∀b,upd H c.aA (.lst (ak (nI (ag++[gs.length])))) b=none->H b=none:=λb z=>by
    by_cases e:b=c.aA
    ·rw[e,aj]at z;cases z
    ·rw[ao e]at z;exact z
   generalize upd H c.aA (.lst (ak (nI (ag++[gs.length]))))=H1 at h1 k1 n1 ⊢;have Zy:=k1 _ _ (cF ju h.hA (by intro z;cases z)) ju;obtain⟨gv1,Dp,Fj⟩:=h1.hG;refine⟨_,rfl,x,_,c.dx,_,_,rfl,h1.ins,aM T,T.kr,mX _ _ _,.inl ⟨rfl,_,aI.of Dp⟩,_,rfl,_,rfl,_,rfl,λp dx np Ag sX=>?_⟩;have s2:au H1 (upd (upd H1 dx (.own p)) p (.ins A.aD dx [])):=(au.upd Ag).trans (au.upd (by rw[ao sX.symm];exact np));refine⟨p,dx,wa,which,m,word,rfl,aj,s2 _ _ Zy,by omega,oC,λH3 f3 g3=>⟨rfl,?_⟩⟩;have s3:au H1 H3:=λb o e=>f3 b o (s2 _ _ e) (av e np)
   refine⟨c.aG,_,_,rfl,rfl,s3 _ _ Dp,(by rw[Fj.l];exact aec (show gs.length<=100000 by omega) (by decide)),?_⟩;have en:nz which word m=[(which,word,m)]:=aed cK;refine k _ _ (Ii O p) _ (λb o n e=>?_) (λb z=>.inl z) (λb z=>z.imp id λw=>by rw[w];exact n1 p np) (h1.Ve Dp Fj np s3 g3) (by rw[en];exact ci.begin cK hm MP) (by rw[en,adZ,adZ];show _+ 1<=_+ 1;omega);rw[ao (λz=>n (by rw[z];exact h.oG))];exact s3 _ _ (k1 b o (λz=>n (by rw[z];exact h.oA)) e)
  ·have q:¬(0:Int)<((ak word).length:Int):=λz=>q (aey z)
   rw[aL]at q;have cK:word=[]:=List.length_eq_zero_iff.mp (by omega);have en:nz which word m=[]:=ael cK;exact k gs ag O H (λ_ _ _ e=>e) (λb z=>z) (λb z=>.inl z) h (by rw[en,aeP];exact ci) (by rw[en,aeP];exact Sz)
def nB (fp:List (List Int×Nat))(m:Nat):List (Nat×List Int×Nat):=fp.flatMap λp=>nz p.2 p.1 m
theorem MQ (w:Nat)(u:List Int)(m:Nat):(nz w u m).length<=1:=by
 unfold nz;split
 ·exact aeA _
 ·exact ad7 _
theorem wY (m:Nat):∀fp:List (List Int×Nat),(nB fp m).length<=fp.length
 |[]=>ad7 _
 |p::l=>by
  have:=wY m l;have:=MQ p.2 p.1 m;unfold nB at *;rw[List.flatMap_cons,adZ,aes];omega
theorem Je {fp:List (List Int×Nat)}{i:Nat}{p:List Int×Nat}(h:fp[i]?=some p)(m:Nat):nB (fp.take (i+ 1)) m=nB (fp.take i) m++nz p.2 p.1 m:=by
 unfold nB;rw[af0,h,agJ];show _++(nz p.2 p.1 m++[])=_;rw[aeP]
theorem SD {fp:List (List Int×Nat)}{i:Nat}{kv:List Key×V}(h:(jH fp)[i]?=some kv):∃p,fp[i]?=some p/\kv=(p.1.map Sum.inl,.int p.2):=by
 unfold jH at h;rw[aeo]at h
 cases q:fp[i]? with
 |none=>rw[q]at h;cases h
 |some p=>rw[q]at h;exact⟨p,rfl,(Option.some.inj h).symm⟩
def Jf (CR CG CC:Addr):Sp:=λvs H Q _=>∃(x r:Addr) (c:KA) (S:RS) (bs:List (Nat×List Int×Nat)) (gs:List (Option Gg)) (ag:List Nat) (W:bQ) (hd:Nat) (fp:List (List Int×Nat)) (O:Addr->Prop) (m:Nat),vs=[.ref x,.int m]/\cE CG CC H x r c gs ag W hd fp O/\H c.aQ=some (.dT (jH fp))/\CI S bs gs ag W eX none/\(∀p∈fp,p.1.length<=1000/\∀z∈p.1,-1000<=z/\z<=1000)/\m<S.made/\bs.length+ fp.length<100000/\ag.length<=bs.length/\∀pM gN O' H',Bt O H H'->(∀b,O b->O' b)->(∀b,O' b->O b\/H b=none)->cE CG CC H' x r c pM gN W hd fp O'->CI S (bs++nB fp m) pM gN W eX none->gN.length<=(bs++nB fp m).length->Q .non H'
theorem qF (T:Txt K mg A):aK P w K mg base bq 4 A.gG A.gH ["self","room"] (Jf A.aq A.aD A.az):=by
 have lG:aK P w K mg base bq 3 A.iG A.iH ["self","which","word","room"] (zi A.aq A.aD A.az):=pN T;refine T.iC.F.ok gb (λvs H Q E h=>?_) (λbK AA outer s H vs Q E hr h=>?_)
 ·obtain⟨x,r,c,S,bs,gs,ag,W,hd,fp,O,m,rfl,_⟩:=h;rfl
 ·obtain⟨x,r,c,S,bs,gs,ag,W,hd,fp,O,m,rfl,h,hQ,ci,hfp,hm,C2,Sz,k⟩:=h
  refine⟨_,(aw (N1 (du aez rfl (UY (aF (pv 0) rfl)) (tK rfl (dZ (bN (i:=2) gb.nd rfl (Or.inl rfl)) (dZ (bN (i:=3) gb.nd rfl (Or.inl rfl)) qL)))
   (aw (aX (bH (pv 0) (aM T) T.ix.m (lG) (hr.mono (by decide)) T.ix.b .nil aP (ae (pv 3) (ae (pv 2) (ae (pv 1) ah))))))))),?_⟩
  try dsimp only[bz,cD]
  have nQ:¬O c.aQ:=h.Sb hQ;have nxQ:x≠c.aQ:=cF h.ins hQ (by intro z;cases z);refine⟨c.aQ,_,hQ,trivial,_,rfl,x,_,c.dx,_,_,rfl,h.ins,aM T,T.Cy,K6 _ _ _,c.aQ,jH fp,rfl,hQ,λfo=>?_⟩;have k0:∀b o,b≠c.aQ->H b=some o->upd H c.aQ (.fB fo (.dT (jH fp))) b=some o:=λb o n e=>by rw[ao n];exact e
  have h0:cE A.aD A.az (upd H c.aQ (.fB fo (.dT (jH fp)))) x r c gs ag W hd fp O:=h.keep (λb o hb e=>k0 b o (λz=>nQ (by rw[←z];exact hb)) e) (λb xs e=>k0 b _ (cF e hQ (by intro z;cases z)) e)
  let gf:Nat->St->Hp->Prop:=λi σ H5=>∃i9 dW O2 v2 v3,σ=[some (.ref x),some (.int (m:Int)),v2,v3]/\H5 c.aQ=some (.fB fo (.dT (jH fp)))/\(∀b o,b≠c.aQ->¬O b->H b=some o->H5 b=some o)/\(∀b,O b->O2 b)/\(∀b,O2 b->O b\/H b=none)/\cE A.aD A.az H5 x r c i9 dW W hd fp O2/\CI S (bs++nB (fp.take i) m) i9 dW W eX none/\dW.length<=(bs++nB (fp.take i) m).length
  refine QY (d:=c.aQ) (o:=fo) (kvs:=jH fp) gf
   ⟨gs,ag,O,none,none,rfl,aj,λb o n _ e=>k0 b o n e,λb z=>z,λb z=>.inl z,h0,by rw[List.take_zero];show CI S (bs++[]) _ _ _ _ _;rw[aeP];exact ci,by rw[List.take_zero];show _<=(bs++[]).length;rw[aeP];exact Sz⟩ (λi σ H5 _ ⟨_,_,_,_,_,_,q,_⟩=>q) ?_ ?_
  ·intro i kv σ H5 t kp gB nt SF bA;refine aY ?_;intro q_;obtain⟨i9,dW,O2,v2,v3,rfl,q5,f5,MR,Ah,c5,Ds,Du⟩:=bA;dsimp only[q_];clear q_;obtain⟨p,hp,rfl⟩:=SD gB;have hi:=(ad4.mp hp).1
   replace SF:H5 kp=some (.tup (ak p.1)):=by
    rw[SF];show some (HO.tup (((p.1.map (Sum.inl:Int->Key)).map kV)))=_;rw[ae8];rfl
   have s6:=au.upd (o:=.tup [.ref kp,.int (p.2:Int)]) nt;refine⟨t,_,rfl,bV.of aj,rfl,_,_,rfl,_,_,rfl,rfl,?_⟩;generalize upd H5 t (.tup [.ref kp,.int (p.2:Int)])=H6 at s6 ⊢;have hb:=hfp p (adY hp);have bl:=wY m (fp.take i);rw[aeG]at bl;have c6:=c5.same s6;refine⟨_,rfl,x,c.dx,_,rfl,c6.ins,iJ (by decide +kernel),_,rfl,_,rfl,_,rfl,x,r,kp,c,S,_,i9,dW,W,hd,fp,O2,p.2,m,p.1,rfl,c6,Ds,s6 _ _ SF,hb.1,hb.2,hm,by rw[adZ];omega,Du,λgs7 ag7 O7 H7 WV le7 nw7 c7 WW WX=>?_⟩;have SG:¬O2 c.aQ:=λz=>(Ah _ z).elim nQ λq=>by rw[hQ]at q;cases q
   rw[ae6,←Je hp]at WW WX;refine⟨gs7,ag7,O7,_,_,rfl,WV _ _ SG (s6 _ _ q5),λb o n1 n2 e=>WV b o (λz=>(Ah b z).elim n2 λq=>by rw[q]at e;cases e) (s6 _ _ (f5 b o n1 n2 e)),λb z=>le7 b (MR b z),λb z=>?_,c7,WW,WX⟩;rcases nw7 b z with w|w
   ·exact Ah b w
   ·by_cases y:O b
    ·exact .inl y
    ·refine .inr ?_
     cases e:H b with
     |none=>rfl
     |some o=>
      by_cases y2:b=c.aQ
      ·rw[y2,s6 _ _ q5]at w;cases w
      ·rw[s6 _ _ (f5 b o y2 y e)]at w;cases w
  ·intro σ H5 bA;refine aY ?_;intro q_;obtain⟨i9,dW,O2,v2,v3,rfl,q5,f5,MR,Ah,c5,Ds,Du⟩:=bA;dsimp only[q_];clear q_;rw[show (jH fp).length=fp.length by unfold jH;rw[ad6],afL]at Ds Du;have SG:¬O2 c.aQ:=λz=>(Ah _ z).elim nQ λq=>by rw[hQ]at q;cases q
   refine⟨fo,q5,k i9 dW O2 _ (λb o n e=>?_) MR Ah (c5.keep (λb o hb e=>by rw[ao (λz=>SG (by rw[←z];exact hb))];exact e) (λb xs e=>by rw[ao (λz=>by rw[z,q5]at e;cases e)];exact e)) Ds Du⟩;by_cases z:b=c.aQ
   ·rw[z,aj,←hQ,←z];exact e
   ·rw[ao z];exact f5 b o z n e
def MS (r:Addr):List (Str×V):=[("rooms",.ref r)]
def MT (r q:Addr):List (Str×V):=[("rooms",.ref r),("rules",.ref q)]
def MV (r q g:Addr):List (Str×V):=[("rooms",.ref r),("rules",.ref q),("goings",.ref g)]
def MX (r q g e:Addr):List (Str×V):=[("rooms",.ref r),("rules",.ref q),("goings",.ref g),("agenda",.ref e)]
def MY (r q g e w:Addr):List (Str×V):=[("rooms",.ref r),("rules",.ref q),("goings",.ref g),("agenda",.ref e),("waiting",.ref w)]
def SJ (r q g e w:Addr)(n:Int):List (Str×V):=[("rooms",.ref r),("rules",.ref q),("goings",.ref g),("agenda",.ref e),("waiting",.ref w),("heard",.int n)]
theorem cz2 (r q:Addr):bW "rules" (.ref q) (MS r)=MT r q:=eP (by kernel_rfl)
theorem cz3 (r q g:Addr):bW "goings" (.ref g) (MT r q)=MV r q g:=eP (by kernel_rfl)
theorem cz4 (r q g e:Addr):bW "agenda" (.ref e) (MV r q g)=MX r q g e:=eP (by kernel_rfl)
theorem cz5 (r q g e w:Addr):bW "waiting" (.ref w) (MX r q g e)=MY r q g e w:=eP (by kernel_rfl)
theorem cz6 (r q g e w:Addr)(n:Int):bW "heard" (.int n) (MY r q g e w)=SJ r q g e w n:=eP (by kernel_rfl)
theorem kat_nil {H:Hp}{k:Addr}(h:H k=some (.dK [])):ez H k (λ_=>none) (λ_ _=>none) (λ_ _ _=>false):=⟨⟨[],h,by simp,(λkv z=>by cases z),λ_=>rfl⟩,(λ_ _ z=>by cases z),(λ_ _ _ z=>by cases z),(λ_ _ _ z=>by cases z),(λ_ _ _ z=>by cases z),(λ_ _ z=>by cases z),(λ_ _ _ z=>by cases z),(λ_ _ _ z=>by cases z),(λ_ _ _ _ z=>by cases z),(λ_ _ _ _ _ z=>by cases z)⟩
def bP (S:RS):List Nat:=(List.range S.made).filter λc=>decide (S.bI[c]?=some c)
def dX (fp:List (List Int×Nat))(st:List Nat):List (Nat×List Int×Nat):=st.flatMap λm=>nB fp m
def gp (ps:List (List Int))(nr i:Nat):List (Nat×List Int×Nat):=(List.range i).flatMap λj=>nz (nr+ j) (ps.getD j []) 0
theorem oh (fp:List (List Int×Nat)):∀st:List Nat,(dX fp st).length<=st.length* fp.length
 |[]=>aeA _
 |m::st=>by
  have:=oh fp st;have:=wY m fp;unfold dX at *;rw[List.flatMap_cons,adZ,aes,Nat.add_mul];omega
theorem uI (ps:List (List Int))(nr:Nat):∀i,(gp ps nr i).length<=i
 |0=>ad7 _
 |i+ 1=>by
  have:=uI ps nr i;have:=MQ (nr+ i) (ps.getD i []) 0;unfold gp at *;rw[afI,agJ,adZ];show _+ (nz _ _ 0++[]).length<=_;rw[aeP];omega
def uJ:bQ:=λ_ _ _=>false
theorem SK {S:RS}:CI S [] [] [] uJ eX none:=⟨rfl,(λn g e=>by simp at e),(λn b e=>by simp at e),(λn z=>by cases z),(λr s n z=>by cases z),λn=>⟨(0,0),(0,0),(λr s z=>by cases z),λg e=>by simp at e⟩,(λb z=>by cases z)⟩
def Jg (CR CG CC:Addr):Sp:=λvs H Q _=>∃(x dx r ru pa:Addr) (S:RS) (a:RA) (R:Nat->Int->Nat->Prop) (rs ps:List (List Int)),vs=[.ref x,.ref r,.ref ru,.ref pa]/\H x=some (.ins CC dx [])/\ay CR H r S a/\Good S [] R/\0<S.made/\S.made<=2000/\¬a.own r x/\dn H ru rs/\dn H pa ps/\rs.length<=400/\ps.length<=400/\(∀u∈rs++ps,u.length<=1000/\∀z∈u,-1000<=z/\z<=1000)/\(∀fp,zg rs fp->S.made* fp.length+ ps.length<50000)/\
 ∀c gs ag fp O H',(∀b o,H b=some o->b≠x->H' b=some o)->cE CG CC H' x r c gs ag uJ S.bf.length fp O->H' c.aQ=some (.dT (jH fp))->(∀b,O b->b=x\/H b=none)->CI S (dX fp (bP S)++gp ps rs.length ps.length) gs ag uJ eX none->ag.length<=(dX fp (bP S)++gp ps rs.length ps.length).length->zg rs fp->Q .non H'
theorem tF (T:Txt K mg A):aK P w K mg base bq 5 A.fP A.iY ["self","rooms","rules","part"] (Jg A.aq A.aD A.az):=by
 have zj:aK P w K mg base bq 1 A.mh A.mj ["rules"] C5:=yp T;have fu:aK P w K mg base bq 1 A.fj A.fk ["self"] (nY A.aq):=jz T;have rN:aK P w K mg base bq 4 A.gG A.gH ["self","room"] (Jf A.aq A.aD A.az):=qF T;have lG:aK P w K mg base bq 3 A.iG A.iH ["self","which","word","room"] (zi A.aq A.aD A.az):=pN T;refine T.hZ.F.ok fy (λvs H Q E h=>?_) (λbK AA outer s H vs Q E hr h=>?_)
 ·obtain⟨x,dx,r,ru,pa,S,a,R,rs,ps,rfl,_⟩:=h;rfl
 ·obtain⟨x,dx,r,ru,pa,S,a,R,rs,ps,rfl,hx,hR,gd,MZ,hm,Fl,SM,qi,p9,dU,MP,Bu,k⟩:=h
  refine⟨_,(ai (cu (pv 0) (pv 1) rfl)
   (ai (cu (pv 0) (bp (zj) (hr.mono (by decide)) rfl T.lz.m T.lz.F.kp T.lz.b .nil aP (ae (pv 2) ah)) rfl)
   (ai (cu (pv 0) (cR ah) rfl)
   (ai (cu (pv 0) (cR ah) rfl)
   (ai (cu (pv 0) fX rfl)
   (ai (cu (pv 0) (bL bX rfl T.fT aeW (ae (aF (pv 1) rfl) ah)) rfl)
   (ai (du aez rfl (eG (oy (pv 1) (aH T) T.eh.m (fu) (hr.mono (by decide)) T.eh.b .nil aP)) (bN (i:=4) fy.nd rfl (Or.inl rfl))
    (aw (aX (bH (pv 0) (aM T) T.iC.m (rN) (hr.mono (by decide)) T.iC.b .nil aP (ae (pv 4) ah)))))
   (aw (du aez rfl (Ih rfl T.qD (pv 3) (bL bX rfl T.fT aeW (ae (pv 2) ah))) (tK rfl (dZ (bN (i:=5) fy.nd rfl (Or.inl rfl)) (dZ (bN (i:=6) fy.nd rfl (Or.inl rfl)) qL)))
    (aw (aX (bH (pv 0) (aM T) T.ix.m (lG) (hr.mono (by decide)) T.ix.b .nil aP (ae (pv 5) (ae (pv 6) (ae aB ah))))))))))))))),?_⟩
  try dsimp only[bz,cD]
  refine Cj ?_;intro Rn CL vJ tf lD gL fD;obtain⟨SN,M0,M3⟩:=id SM;obtain⟨M4,M5,Hr⟩:=id qi
  have st:∀{H0:Hp} {fs gs:List (Str×V)},H0 x=some (.ins A.az dx fs)->(∀b o,H b=some o->b≠x->H0 b=some o)->upd H0 x (.ins A.az dx gs) x=some (.ins A.az dx gs)/\(∀b o,H b=some o->b≠x->upd H0 x (.ins A.az dx gs) b=some o)/\(∀b o,b≠x->H0 b=some o->upd H0 x (.ins A.az dx gs) b=some o)/\∀b,upd H0 x (.ins A.az dx gs) b=none->H0 b=none:=λ_ h=>⟨aj,λb o e n=>by rw[ao n];exact h b o e n,λb o n e=>by rw[ao n];exact e,λb z=>by
   by_cases e:b=x
   ·rw[e,aj]at z;cases z
   ·rw[ao e]at z;exact z⟩
  have o0:∀b o,H b=some o->b≠x->H b=some o:=λb o e _=>e
  have SQ:ru≠x:=cF M0 hx (by intro z;cases z);have SR:pa≠x:=cF M5 hx (by intro z;cases z);refine⟨_,rfl,_,rfl,x,_,dx,_,rfl,hx,aM T,T.fZ,(by show 0<1000;decide),?_⟩;rw[show bW "rooms" (.ref r) []=MS r from rfl];obtain⟨x1,o1,-,n1⟩:=st (gs:=MS r) hx o0;generalize upd H x (.ins A.az dx (MS r))=H1 at x1 o1 n1 ⊢;have xT:dn H1 ru rs:=⟨SN,o1 _ _ M0 SQ,M3.1,λi q u e1 e2=>o1 _ _ (M3.2 i q u e1 e2) (cF (M3.2 i q u e1 e2) hx (by intro z;cases z))⟩;refine⟨_,rfl,ru,rs,rfl,xT,by omega,λq fp H2 s2 nq hq IQ=>?_⟩;have x2:=s2 _ _ x1;have o2:∀b o,H b=some o->b≠x->H2 b=some o:=λb o e n=>s2 _ _ (o1 b o e n)
  have n2:∀b,H2 b=none->H b=none:=λb z=>n1 b (same_none s2 z)
  refine⟨_,rfl,x,_,dx,_,rfl,x2,aM T,T.Cy,(by show 1<1000;decide),?_⟩;rw[cz2];have Jh:q≠x:=cF hq x2 (by intro z;cases z);obtain⟨x3,o3,k3,n3⟩:=st (gs:=MT r q) x2 o2;generalize upd H2 x (.ins A.az dx (MT r q))=H3 at x3 o3 k3 n3 ⊢;have q3:=k3 _ _ Jh hq;refine⟨aeA _,λg ng=>?_⟩;have s4:=au.upd (o:=.lst []) ng;have g4:upd H3 g (.lst []) g=some (.lst []):=aj;have n4:∀b,upd H3 g (.lst []) b=none->H b=none:=λb z=>n2 b (n3 b (same_none s4 z))
  have WY:=n2 g (n3 g ng);generalize upd H3 g (.lst [])=H4 at s4 g4 n4 ⊢;refine⟨_,rfl,x,_,dx,_,rfl,s4 _ _ x3,aM T,T.kr,(by show 2<1000;decide),?_⟩;rw[cz3];obtain⟨x5,o5,k5,n5⟩:=st (gs:=MV r q g) (s4 _ _ x3) (λb o e n=>s4 _ _ (o3 b o e n));generalize upd H4 x (.ins A.az dx (MV r q g))=H5 at x5 o5 k5 n5 ⊢;have Ji:g≠x:=cF g4 (s4 _ _ x3) (by intro z;cases z);have q5:=k5 _ _ Jh (s4 _ _ q3);have g5:=k5 _ _ Ji g4;refine⟨aeA _,λe ne=>?_⟩;have s6:=au.upd (o:=.lst []) ne;have e6:upd H5 e (.lst []) e=some (.lst []):=aj;have n6:∀b,upd H5 e (.lst []) b=none->H b=none:=λb z=>n4 b (n5 b (same_none s6 z))
  have Ai:=n4 e (n5 e ne);have WZ:g≠e:=av g5 ne;generalize upd H5 e (.lst [])=H6 at s6 e6 n6 ⊢;refine⟨_,rfl,x,_,dx,_,rfl,s6 _ _ x5,aM T,T.mV,(by show 3<1000;decide),?_⟩;rw[cz4];obtain⟨x7,o7,k7,n7⟩:=st (gs:=MX r q g e) (s6 _ _ x5) (λb o e n=>s6 _ _ (o5 b o e n));generalize upd H6 x (.ins A.az dx (MX r q g e))=H7 at x7 o7 k7 n7 ⊢;have iD:e≠x:=cF e6 (s6 _ _ x5) (by intro z;cases z);have q7:=k7 _ _ Jh (s6 _ _ q5);have g7:=k7 _ _ Ji (s6 _ _ g5);have e7:=k7 _ _ iD e6;refine λw nw=>?_
  have s8:=au.upd (o:=.dK []) nw;have w8:upd H7 w (.dK []) w=some (.dK []):=aj;have n8:∀b,upd H7 w (.dK []) b=none->H b=none:=λb z=>n6 b (n7 b (same_none s8 z))
  have W6:=n6 w (n7 w nw);generalize upd H7 w (.dK [])=H8 at s8 w8 n8 ⊢;refine⟨_,rfl,x,_,dx,_,rfl,s8 _ _ x7,aM T,T.lB,(by show 4<1000;decide),?_⟩;rw[cz5];obtain⟨x9,o9,k9,n9⟩:=st (gs:=MY r q g e w) (s8 _ _ x7) (λb o e n=>s8 _ _ (o7 b o e n));generalize upd H8 x (.ins A.az dx (MY r q g e w))=H9 at x9 o9 k9 n9 ⊢;have SV:w≠x:=cF w8 (s8 _ _ x7) (by intro z;cases z);have R9:ay A.aq H9 r S a:=hR.keep (λb o hb e=>o9 b o e (λz=>Fl (by rw[←z];exact hb))) (λb xs e=>o9 b _ e (cF e hx (by intro z;cases z)));refine⟨_,rfl,r,_,a.dx,_,_,rfl,R9.ins,aH T,T.ux,u0 _ _ _,a.aN,_,rfl,.inl (aI.of R9.hN),_,rfl,x,_,dx,_,rfl,x9,aM T,T.pE,(by show 5<1000;decide),?_⟩;rw[aL,cX,cz6];obtain⟨xa,oa,ka,na⟩:=st (gs:=SJ r q g e w S.bf.length) x9 o9;generalize upd H9 x (.ins A.az dx (SJ r q g e w S.bf.length))=Ha at xa oa ka na ⊢;have up:∀b o,b≠x->H8 b=some o->Ha b=some o:=λb o n z=>ka b o n (k9 b o n z)
  have cA:cE A.aD A.az Ha x r ⟨dx,q,g,e,w⟩ [] [] uJ S.bf.length fp (λb=>b=x\/b=g\/b=e\/b=w):=by
   refine⟨xa,⟨[],up _ _ Ji (s8 _ _ g7),rfl,(λi v z=>by simp at z),(λi v u z=>by simp at z),(λi j p z=>by simp at z)⟩,up _ _ iD (s8 _ _ e7),⟨_,_,kat_nil (up _ _ SV w8),⟨λb hb=>?_,(λ_ _ z=>by cases z),(λ_ _ _ z=>by cases z),(λ_ _ _ z=>by cases z)⟩⟩,WZ,.inl rfl,.inr (.inl rfl),.inr (.inr (.inl rfl)),λb hb=>?_⟩
   ·rcases hb with z|⟨_,z⟩|⟨_,_,z⟩
    ·exact .inr (.inr (.inr z))
    ·cases z
    ·cases z
   ·rcases hb with z|z|z|z
    ·rw[z];exact⟨_,xa,(by intro _ z;cases z),by intro _ z;cases z⟩
    ·rw[z];exact⟨_,up _ _ Ji (s8 _ _ g7),(by intro _ z;cases z),by intro _ z;cases z⟩
    ·rw[z];exact⟨_,up _ _ iD (s8 _ _ e7),(by intro _ z;cases z),by intro _ z;cases z⟩
    ·rw[z];exact⟨_,up _ _ SV w8,(by intro _ z;cases z),by intro _ z;cases z⟩
  have qa:=up _ _ Jh (s8 _ _ q7)
  have Oa:∀b,(b=x\/b=g\/b=e\/b=w)->b=x\/H b=none:=λb z=>by
   rcases z with z|z|z|z
   ·exact .inl z
   ·rw[z];exact .inr WY
   ·rw[z];exact .inr Ai
   ·rw[z];exact .inr W6
  have Ra:ay A.aq Ha r S a:=hR.keep (λb o hb e=>oa b o e (λz=>Fl (by rw[←z];exact hb))) (λb xs e=>oa b _ e (cF e hx (by intro z;cases z)));have nA:∀b,Ha b=none->H b=none:=λb z=>n8 b (n9 b (na b z))
  obtain⟨O,eO⟩:∃O:Addr->Prop,O=λb=>b=x\/b=g\/b=e\/b=w:=⟨_,rfl⟩
  rw[←eO]at cA;replace Oa:∀b,O b->b=x\/H b=none:=by rw[eO];exact Oa
  clear eO;generalize ec:(⟨dx,q,g,e,w⟩:KA)=c at cA;have qa:Ha c.aQ=some (.dT (jH fp)):=by rw[←ec];exact qa
  clear g7 e7 w8 x9 o9 k9 n9 s8 n8 x7 o7 k7 n7 s6 n6 e6 x5 o5 k5 n5 s4 g4 n4 x3 o3 k3 n3 x1 o1 n1 x2 o2 n2 up ka q7 q5 q3 g5 xa na R9 W6 Ai WY nw ne ng WZ iD Ji SV hq nq s2 Jh xT;have hfb:∀p∈fp,p.1.length<=1000/\∀z∈p.1,-1000<=z/\z<=1000:=λp hp=>MP _ (aex _ (adY (IQ.a p hp)))
  have Bu:=Bu fp IQ;refine⟨_,rfl,r,a.dx,_,rfl,Ra.ins,cz _ _ _ (by decide +kernel),r,S,a,rfl,Ra,gd.wf,by omega,λl nl=>?_⟩;have sl:(bP S).length<=S.made:=aep (afZ _ _) (by rw[aeR];exact ad7 _);have stm:∀m∈bP S,m<S.made:=λm hm=>aeQ.mp (af5.mp hm).1
  have hmf:(bP S).length* fp.length<=S.made* fp.length:=agC _ sl;have sb:=au.upd (o:=.lst (ak (nI (bP S)))) nl;have hl:upd Ha l (.lst (ak (nI (bP S)))) l=some (.lst (ak (nI (bP S)))):=aj;show ∃a_1,_;rw[show (List.range S.made).filter (λc=>decide (S.bI[c]?=some c))=bP S from rfl];have nl0:=nA l nl;have nlO:¬O l:=λz=>by obtain⟨o,e,_⟩:=cA.th l z;rw[nl]at e;cases e
  generalize upd Ha l (.lst (ak (nI (bP S))))=Hb at sb hl ⊢;have cB:=cA.same sb;refine⟨l,rfl,⟨_,aI.of hl⟩,?_⟩
  let gf:Nat->St->Hp->Prop:=λi σ H2=>∃i9 dW O2 v4,σ=[some (.ref x),some (.ref r),some (.ref ru),some (.ref pa),v4,none,none]/\(∀b o,¬O b->Hb b=some o->H2 b=some o)/\(∀b,O b->O2 b)/\(∀b,O2 b->O b\/Hb b=none)/\cE A.aD A.az H2 x r c i9 dW uJ S.bf.length fp O2/\CI S (dX fp ((bP S).take i)) i9 dW uJ eX none/\dW.length<=(dX fp ((bP S).take i)).length
  refine gX (K:=K) (a:=l) (xs:=ak (nI (bP S))) gf
   ⟨[],[],O,none,rfl,λ_ _ _ e=>e,λb z=>z,λb z=>.inl z,cB,SK,ad7 _⟩ (λi σ H2 _ ⟨_,_,_,_,_,f,_⟩=>aI.of (f _ _ nlO hl)) ?_ ?_
  ·intro i v σ H2 hi bA;refine aY ?_;intro q_;obtain⟨i9,dW,O2,v4,rfl,f2,Sl,Dq,c2,uH,M6⟩:=bA;dsimp only[q_];clear q_;dsimp only[dE];refine bO ?_;intro eJ;obtain⟨z,rfl,hz⟩:=cS hi
   obtain⟨m,SW,rfl⟩:∃m,(bP S)[i]?=some m/\z=(m:Int):=by
    unfold nI at hz;rw[aeo]at hz
    cases y:(bP S)[i]? with
    |none=>rw[y]at hz;cases hz
    |some m=>rw[y]at hz;exact⟨m,rfl,(Option.some.inj hz).symm⟩
   have sU:=(ad4.mp SW).1;have nQ:¬O c.aQ:=cA.Sb qa;have q2:=f2 _ _ nQ (sb _ _ qa);have ll:=oh fp ((bP S).take i);rw[aeG,age (by omega)]at ll;have li:(i+ 1)* fp.length<=(bP S).length* fp.length:=agC _ sU;rw[Nat.add_mul]at li;refine⟨_,rfl,x,c.dx,_,rfl,c2.ins,iJ (by decide +kernel),_,rfl,x,r,c,S,_,i9,dW,uJ,S.bf.length,fp,O2,m,rfl,c2,q2,uH,hfb,stm m (adY SW),by omega,M6,λAj uF O3 H3 b3 WN Af c3 yx Dv=>?_⟩
   have es:dX fp ((bP S).take (i+ 1))=dX fp ((bP S).take i)++nB fp m:=by
    unfold dX;rw[af0,SW,agJ];show _++(nB fp m++[])=_;rw[aeP]
   rw[←es]at yx Dv;refine⟨Aj,uF,O3,_,rfl,λb o n e=>b3 b o (λz=>(Dq b z).elim n λy=>by rw[y]at e;cases e) (f2 b o n e),λb z=>WN b (Sl b z),λb z=>?_,c3,yx,Dv⟩;rcases Af b z with y|y
   ·exact Dq b y
   ·by_cases y2:O b
    ·exact .inl y2
    ·refine .inr ?_
     cases e:Hb b with
     |none=>rfl
     |some o=>rw[f2 b o y2 e]at y;cases y
  intro σ H2 bA;refine aY ?_;intro q_;obtain⟨i9,dW,O2,v4,rfl,f2,Sl,Dq,c2,uH,M6⟩:=bA;dsimp only[q_];clear q_;rw[aL,cX,afL]at uH M6;have ll:=oh fp (bP S);have SX:Hb pa=some (.lst (M4.map V.ref)):=sb _ _ (oa _ _ M5 SR);have Dj:∀{b o},H b=some o->b≠x->¬O b:=λ{b o} e n z=>(Oa b z).elim n λy=>by rw[y]at e;cases e
  have Zz:=f2 _ _ (Dj M5 SR) SX;have ZC:=f2 _ _ (Dj M0 SQ) (sb _ _ (oa _ _ M0 SQ));have lr:(SN.map V.ref).length=rs.length:=by rw[ad6,M3.1]
  refine⟨_,rfl,_,rfl,ru,_,rfl,.inl (aI.of ZC),pa,((SN.map V.ref).length:Int),rfl,rfl,by omega,by omega,⟨_,aI.of Zz⟩,?_⟩;rw[lr]
  let wU:Nat->St->Hp->Prop:=λi σ H3=>∃Aj uF O3 v5 v6,σ=[some (.ref x),some (.ref r),some (.ref ru),some (.ref pa),v4,v5,v6]/\(∀b o,¬O b->Hb b=some o->H3 b=some o)/\(∀b,O3 b->O b\/Hb b=none)/\cE A.aD A.az H3 x r c Aj uF uJ S.bf.length fp O3/\CI S (dX fp (bP S)++gp ps rs.length i) Aj uF uJ eX none/\uF.length<=(dX fp (bP S)++gp ps rs.length i).length
  refine F6 (K:=K) (a:=pa) (xs:=M4.map V.ref) wU
   ⟨i9,dW,O2,none,none,rfl,f2,Dq,c2,by show CI S (_++[]) _ _ _ _ _;rw[aeP];exact uH,by show _<=(_++[]).length;rw[aeP];exact M6⟩ (λi σ H3 _ ⟨_,_,_,_,_,_,f,_⟩=>aI.of (f _ _ (Dj M5 SR) SX)) ?_ ?_
  ·intro i v σ H3 t hi nt bA;refine aY ?_;intro q_;obtain⟨Aj,uF,O3,v5,v6,rfl,f3,Af,c3,yx,Dv⟩:=bA;dsimp only[q_];clear q_
   have sU:i<M4.length:=by
    have:=(ad4.mp hi).1;rw[ad6]at this;exact this
   have SY:i<ps.length:=by rw[←Hr.1];exact sU
   obtain⟨wa,g1⟩:=get_some (xs:=M4) (i:=i) sU;obtain⟨u,g2⟩:=get_some (xs:=ps) (i:=i) SY;rw[aeo,g1]at hi;obtain rfl:V.ref (wa)=v:=Option.some.inj hi;have ju:=Hr.2 i wa u g1 g2;have W7:wa≠x:=cF ju hx (by intro z;cases z);have ZD:=f3 _ _ (Dj ju W7) (sb _ _ (oa _ _ ju W7));have s4:=au.upd (o:=.tup [.int ((rs.length:Int)+ (i:Int)),.ref wa]) nt;refine⟨t,_,rfl,bV.of aj,rfl,_,_,rfl,_,_,rfl,rfl,?_⟩;generalize upd H3 t (.tup [.int ((rs.length:Int)+ (i:Int)),.ref wa])=H4 at s4 ⊢;have c4:=c3.same s4;have pl:=uI ps rs.length i;have W8:=MP u (ad5 _ (adY g2));refine⟨_,rfl,x,c.dx,_,rfl,c4.ins,iJ (by decide +kernel),_,rfl,_,rfl,x,r,wa,c,S,_,Aj,uF,uJ,S.bf.length,fp,O3,rs.length+ i,0,u,rfl,c4,yx,s4 _ _ ZD,W8.1,W8.2,MZ,by rw[adZ];omega,Dv,λgs5 Sh O5 H5 b5 MR Ah c5 Ds Du=>?_⟩
   have ep:gp ps rs.length (i+ 1)=gp ps rs.length i++nz (rs.length+ i) u 0:=by
    unfold gp;rw[afI,agJ];show _++(nz (rs.length+ i) (ps.getD i []) 0++[])=_;rw[aeP,ad2,g2];rfl
   rw[ae6,←ep]at Ds Du;refine⟨gs5,Sh,O5,_,_,rfl,λb o n e=>b5 b o (λz=>(Af b z).elim n λy=>by rw[y]at e;cases e) (s4 _ _ (f3 b o n e)),λb z=>?_,c5,Ds,Du⟩;rcases Ah b z with y|y
   ·exact Af b y
   ·by_cases y2:O b
    ·exact .inl y2
    ·refine .inr ?_
     cases e:Hb b with
     |none=>rfl
     |some o=>rw[s4 _ _ (f3 b o y2 e)]at y;cases y
  ·intro σ H3 bA;refine aY ?_;intro q_;obtain⟨Aj,uF,O3,v5,v6,rfl,f3,Af,c3,yx,Dv⟩:=bA;dsimp only[q_];clear q_;rw[ad6,Hr.1]at yx Dv;refine k c Aj uF fp O3 H3 (λb o e n=>f3 b o (Dj e n) (sb _ _ (oa b o e n))) c3 (f3 _ _ (cA.Sb qa) (sb _ _ qa)) (λb z=>?_) yx Dv IQ;rcases Af b z with y|y
   ·exact Oa b y
   ·exact .inr (nA b (same_none sb y))
theorem Lc {rs:List (List Int)}{fp:List (List Int×Nat)}(h:zg rs fp):fp.length<=rs.length:=by
 have nd:(fp.map (·.2)).Nodup:=by
  have:=h.n;unfold List.Nodup at this ⊢;rw[afQ]at this ⊢
  exact this.imp_of_mem λ{p q} hp hq n e=>n (by
   have h1:=h.a p hp;have h2:=h.a q hq;rw[e,h2]at h1;exact(Option.some.inj h1).symm)
 have:=nP rs.length _ nd λn hn=>by
  obtain⟨p,hp,rfl⟩:=aeL.mp hn;exact(ad4.mp (h.a p hp)).1
 rw[ad6]at this;exact this
theorem Jj {b:Nat×List Int×Nat}{w m:Nat}{u:List Int}(h:b∈nz w u m):b=(w,u,m)/\u≠[]:=by
 unfold nz at h;split at h
 ·cases h
 ·rename_i q;exact⟨ad1.mp h,q⟩
theorem M7 {w m:Nat}{u:List Int}(h:u≠[]):(w,u,m)∈nz w u m:=by
 unfold nz;rw[aed h];exact ad1.mpr rfl
theorem Oy {fp:List (List Int×Nat)}{st:List Nat}{ps:List (List Int)}{nr:Nat}{b:Nat×List Int×Nat}(h:b∈dX fp st++gp ps nr ps.length):(∃p∈fp,b.1=p.2/\b.2.1=p.1/\b.2.2∈st)\/∃j u,ps[j]?=some u/\b=(nr+ j,u,0):=by
 rcases aei.mp h with q|q
 ·obtain⟨m,hm,q⟩:=agl.mp q;obtain⟨p,hp,q⟩:=agl.mp q;obtain⟨rfl,_⟩:=Jj q;exact .inl ⟨p,hp,rfl,rfl,hm⟩
 ·obtain⟨j,hj,q⟩:=agl.mp q;obtain⟨rfl,_⟩:=Jj q;have hj:=aeQ.mp hj;exact .inr ⟨j,ps.getD j [],by rw[ad2,adX hj];rfl,rfl⟩
theorem ends {S:RS}{R:Nat->Int->Nat->Prop}{bs:List (Nat×List Int×Nat)}{gs:List (Option Gg)}{W:bQ}(ci:CI S bs gs [] W eX none)(gd:Good S [] R){b:Nat×List Int×Nat}(hb:b∈bs)(es:S.ax b.2.2=b.2.2):Rc S b.2.2 b.2.1:=by
 obtain⟨n,hn⟩:=ae9 hb;have hl:n<gs.length:=by rw[ci.len];exact(ad4.mp hn).1
 cases q:gs[n]? with
 |none=>rw[adX hl]at q;cases q
 |some y=>
  cases y with
  |none=>
   rcases ci.de n b q (by intro z;cases z) hn with z|z
   ·exact absurd es z
   ·exact .inl z
  |some g=>
   obtain⟨e,gi,z⟩:=ci.al n g q;rw[hn]at e;obtain rfl:=Option.some.inj e;rcases z with z|z|⟨lt,w1,w2⟩
   ·cases z
   ·cases z
   ·obtain⟨r1,_,e1,_,_,_,_,f1⟩:=ci.en _ _ _ w1;obtain⟨r2,_,e2,_,_,_,_,f2⟩:=ci.en _ _ _ w2;have e1:r1=g.front:=by omega
    have e2:r2=g.bj:=by omega
    subst e1 e2;rcases f1 with ⟨a1,a2⟩|f1
    ·rcases f2 with ⟨b1,b2⟩|f2
     ·have h1:=gi.wf;have h2:=gi.wr;have es:S.ax g.start=g.start:=es;rw[es,a1]at h1;rw[es,b1]at h2;exact .inr ⟨g.first,g.last,g.front,g.bj,g.z1,-g.z2,lt,Gg.x8 (by have:=gi.ll;omega),Gg.at2 gi.ll,h1,a2,h2,by rw[afB];exact b2⟩
     ·exact f2.elim
    ·exact f1.elim
theorem Oz {S S':RS}{R:Nat->Int->Nat->Prop}{rs ps:List (List Int)}{fp:List (List Int×Nat)}{gs:List (Option Gg)}{W:bQ}(hp:zg rs fp)(ci:CI S' (dX fp (bP S)++gp ps rs.length ps.length) gs [] W eX none)(gd:Good S' [] R)(em:S'.made=S.made)(wf:S.Wf)(h0:0<S.made)(st:∀c,c<S.made->S'.ax c=c->S.ax c=c):Rf rs ps S':=by
 refine⟨λw hw c hc ec=>?_,λw hw=>?_⟩
 ·by_cases cK:w=[]
  ·rw[cK];exact .inl rfl
  ·obtain⟨n,hn⟩:=hp.b w hw;rw[em]at hc;have xC:c∈bP S:=af5.mpr ⟨aeQ.mpr hc,aey (by rw[mW (by rw[wf.e];exact hc),st c hc ec])⟩;exact ends (b:=(n,w,c)) ci gd (aex _ (agl.mpr ⟨c,xC,agl.mpr ⟨(w,n),hn,M7 cK⟩⟩)) ec
 ·by_cases cK:w=[]
  ·rw[cK];exact .inl rfl
  ·obtain⟨j,hj⟩:=ae9 hw;have hl:=(ad4.mp hj).1;have e0:S'.ax 0=0:=by have:=(gd.el 0 (by omega)).1;omega
   refine ends (b:=(rs.length+ j,w,0)) ci gd (ad5 _ (agl.mpr ⟨j,aeQ.mpr hl,?_⟩)) e0;rw[ad2,hj];exact M7 cK
def Fm (CR CG CC:Addr):Sp:=λvs H Q _=>∃(r ru pa:Addr) (S:RS) (a:RA) (R:Nat->Int->Nat->Prop) (ks:List Int) (B:Nat) (rs ps:List (List Int)),vs=[.ref r,.ref ru,.ref pa]/\i7 CR H r S a R ks B/\0<S.made/\B<800000/\dn H ru rs/\dn H pa ps/\rs.length<=400/\ps.length<=400/\S.made* rs.length+ ps.length<=700/\(∀u∈rs++ps,u.length<=1000/\∀z∈u,(-1000<=z/\z<=1000)/\z∈ks/\-z∈ks)/\
 ∀S' a' R' B' H',(∀b o,¬a.own r b->H b=some o->H' b=some o)->i7 CR H' r S' a' R' ks B'->(∀b,a'.own r b->a.own r b\/H b=none)->(∀a z b,R a z b->R' a z b)->S'.made=S.made->S'.L=S.L->Tr (rs++ps) rs.length S S'->Rf rs ps S'->B'<=B+ 700->Q .non H'
theorem Ld (T:Txt K mg A):aK P w K mg base bq 9 A.za A.zb ["rooms","rules","part"] (Fm A.aq A.aD A.az):=by
 have wZ:aK P w K mg base bq 8 A.j3 A.j4 ["self"] (Dr A.aq A.aD A.az):=vo T;have uK:aK P w K mg base bq 5 A.fP A.iY ["self","rooms","rules","part"] (Jg A.aq A.aD A.az):=tF T;refine T.close.F.ok KC (λvs H Q E h=>?_) (λbK AA outer s H vs Q E hr h=>?_)
 ·obtain⟨r,ru,pa,S,a,R,ks,B,rs,ps,rfl,_⟩:=h;rfl
 ·obtain⟨r,ru,pa,S,a,R,ks,B,rs,ps,rfl,hR,MZ,hB,SM,qi,p9,dU,hG,hw,k⟩:=h;refine⟨_,(aw (aX (oy (yJ (sE T) (uK) (hr.mono (by decide)) rfl T.Il T.hZ.b .nil aP (ae (pv 0) (ae (pv 1) (ae (pv 2) ah)))) (aM T) T.mx.m (wZ) (hr.mono (by decide)) T.mx.b .nil aP))),?_⟩
  try dsimp only[bz,cD]
  refine⟨_,rfl,_,rfl,_,rfl,λx dx nx Ag sX=>?_⟩;have s0:au H (upd (upd H dx (.own x)) x (.ins A.az dx [])):=(au.upd Ag).trans (au.upd (by rw[ao sX.symm];exact nx));have S7:upd (upd H dx (.own x)) x (.ins A.az dx []) x=some (.ins A.az dx []):=aj;have Fl:¬a.own r x:=λz=>by obtain⟨o,e⟩:=hR.at_.there z;rw[nx]at e;cases e
  have n0:∀b,upd (upd H dx (.own x)) x (.ins A.az dx []) b=none->H b=none:=λb z=>same_none s0 z
  generalize upd (upd H dx (.own x)) x (.ins A.az dx [])=H0 at s0 S7 n0 ⊢;have gd:=hR.g
  have fit:∀fp,zg rs fp->S.made* fp.length+ ps.length<=700:=λfp h=>by
   have:=Nat.mul_le_mul_left S.made (Lc h);omega
  refine⟨x,dx,r,ru,pa,S,a,R,rs,ps,rfl,S7,hR.at_.same s0,gd,MZ,hR.m,Fl,SM.same s0,qi.same s0,p9,dU,λu hu=>⟨(hw u hu).1,λz hz=>((hw u hu).2 z hz).1⟩,λfp h=>by have:=fit fp h;omega,λc gs ag fp O H1 f1 c1 q1 o1 W9 al1 hp=>⟨rfl,?_⟩⟩;have hf:=fit fp hp;have sl:(bP S).length<=S.made:=aep (afZ _ _) (by rw[aeR];exact ad7 _);have hmf:(bP S).length* fp.length<=S.made* fp.length:=agC _ sl;have l1:=oh fp (bP S);have l2:=uI ps rs.length ps.length;have C2:(dX fp (bP S)++gp ps rs.length ps.length).length<=700:=by rw[adZ];omega
  have hlv:live gs<=(dX fp (bP S)++gp ps rs.length ps.length).length:=by rw[←W9.len];exact List.countP_le_length
  have r1:i7 A.aq H1 r S a R ks B:=(hR.same s0).keep (λb o hb e=>f1 b o e (λz=>Fl (by rw[←z];exact hb))) (λb xs e=>f1 b _ e (cF e S7 (by intro z;cases z)))
  have dj:∀b,a.own r b->¬O b:=λb z y=>by
   obtain⟨o,e⟩:=(hR.at_.same s0).there z;rcases o1 b y with w|w
   ·exact Fl (by rw[←w];exact z)
   ·rw[w]at e;cases e
  have ZE:La (rs++ps) rs.length ks (dX fp (bP S)++gp ps rs.length ps.length):=by
   have at_:∀b∈dX fp (bP S)++gp ps rs.length ps.length,(rs++ps)[b.1]?=some b.2.1/\(b.1<rs.length\/b.2.2=0):=λb hb=>by
    rcases Oy hb with ⟨p,xH,e1,e2,_⟩|⟨j,u,hj,rfl⟩
    ·have h1:=hp.a p xH;have h2:=(ad4.mp h1).1;rw[e1,e2,aej h2];exact⟨h1,.inl h2⟩
    ·exact⟨by show (rs++ps)[rs.length+ j]?=_;rw[aee (by omega),Nat.add_sub_cancel_left];exact hj,.inr rfl⟩
   exact⟨λb hb=>(at_ b hb).1,λb hb=>(at_ b hb).2,λb hb=>(hw _ (adY (at_ b hb).1)).1,λb hb z hz=>((hw _ (adY (at_ b hb).1)).2 z hz).2,by omega⟩
  generalize yw:dX fp (bP S)++gp ps rs.length ps.length=bs at *;have hmul:live gs* (2* bs.length+ 1)<=700* 1401:=ag8 (by omega) (by omega);refine⟨x,c.dx,_,rfl,c1.ins,iJ (by decide +kernel),x,r,c,S,a,R,ks,B,rs++ps,rs.length,bs,gs,ag,uJ,fp,O,rfl,c1,r1,by omega,dj,W9,ZE,by omega,λS' a' R' pM W' O' B' H' f' c' r' ow oo dj' ci' rr em eL tr E1=>?_⟩;have lt:=Later.of gd r'.g rr (afW em.symm);refine k S' a' R' B' H' (λb o n e=>f' b o (λz=>?_) n (f1 b o (s0 _ _ e) (av e nx))) r' (λb z=>?_) rr em eL tr (Oz (S:=S) hp (by rw[yw];exact ci') r'.g em gd.wf MZ λc hc ec=>?_) (by omega)
  ·rcases o1 b z with w|w
   ·rw[w,nx]at e;cases e
   ·rw[n0 b w]at e;cases e
  ·rcases ow b z with w|w|w
   ·exact .inl w
   ·rcases o1 b w with y|y
    ·rw[y];exact .inr nx
    ·exact .inr (n0 b y)
   ·refine .inr ?_
    cases e:H b with
    |none=>rfl
    |some o=>rw[f1 b o (s0 _ _ e) (av e nx)]at w;cases w
  ·have h1:=lt.el c hc;have h2:=(gd.el c hc).1;have h3:=(r'.g.el (S.ax c) (by rw[em];exact gd.lt hc)).1;rw[h1,ec]at h3;omega
theorem OB {H:Hp}{t:Addr}{w:List Int}{k:Nat}(h:H t=some (.tup (ak w))):ck H (k+ 1) (.ref t) (.t (w.map Dt.i)):=by
 refine .t h (by rw[aL,ad6]) λj v d e1 e2=>?_
 obtain⟨z,rfl,hz⟩:=cS e1;rw[aeo,hz]at e2;rw[←Option.some.inj e2];exact .i
theorem sL {H:Hp}{a:Addr}{ws:List (List Int)}(h:dn H a ws):ck H 4 (.ref a) (.l (ws.map λw=>Dt.t (w.map Dt.i))):=by
 obtain⟨ps,h1,h2⟩:=h;refine .l h1 (by rw[ad6,ad6,h2.1]) λj v d e1 e2=>?_
 rw[aeo]at e1 e2
 cases q1:ps[j]? with
 |none=>rw[q1]at e1;cases e1
 |some p=>
  cases q2:ws[j]? with
  |none=>rw[q2]at e2;cases e2
  |some w=>
   rw[q1]at e1;rw[q2]at e2;rw[←Option.some.inj e1,←Option.some.inj e2];exact OB (h2.2 j p w q1 q2)
theorem words_of {H:Hp}{P:List Int->Prop}:∀{ps:List Addr},(∀(i:Nat) (p:Addr),ps[i]?=some p->∃w,H p=some (.tup (ak w))/\P w)->∃ws,cw H ps ws/\∀w∈ws,P w
 |[],_=>⟨[],⟨rfl,(λi p w e=>by simp at e)⟩,(λw hw=>by cases hw)⟩
 |p::ps,h=>by
  obtain⟨ws,h1,h2⟩:=words_of (ps:=ps) λi q e=>h (i+ 1) q (by simpa using e)
  obtain⟨w,e1,e2⟩:=h 0 p rfl;refine⟨w::ws,⟨by rw[aes,aes,h1.1],λi q u e3 e4=>?_⟩,λu hu=>?_⟩
  ·cases i with
   |zero=>cases e3;cases e4;exact e1
   |succ i=>exact h1.2 i q u (by simpa using e3) (by simpa using e4)
  ·rcases aea.mp hu with rfl|hu
   ·exact e2
   ·exact h2 u hu
def Dw (K:PySem.W.Frag):Sp:=λvs H Q _=>∃(a:Addr) (ns:List Int) (k:Nat),vs=[.ref a,.int k]/\aI K H a (ak ns)/\k<=1000/\∀z,Q (.int z) H
def Fn:Sp:=λvs H Q _=>∃n:Int,vs=[.int n]/\Q (.bl true) H
def Dx:Sp:=λvs H Q _=>∃(z:Int) (L:Nat),vs=[.int z,.int L]/\1<=L/\L<=200/\∀s:Int,s≠0->s.natAbs<=L->Q (.int s) H
theorem qj (T:Txt K mg A):aK P w K mg base bq 1 A.jg A.jh ["_law_script","_law_k"] (Dw K):=by
 refine T._law_cell_at.F.ok yf (λvs H Q E h=>?_) (λbK AA outer s H vs Q E hr h=>?_)
 ·obtain⟨a,ns,n,rfl,_⟩:=h;rfl
 ·obtain⟨a,ns,n,rfl,ha,hn,k⟩:=h
  refine⟨_,(ai (bU (bu xt (pv 1) (bL bX rfl T.fT aeW (ae (pv 0) ah)) (bE _))
   (aw (bM (bJ bR (pv 0) (pv 1) (λ_ _=>rfl))))
   bB)
   (aw (bM aB))),?_⟩
  try dsimp only[bz,cD]
  refine wx ?_;intro fD;refine⟨_,rfl,_,rfl,a,_,rfl,.inl ha,_,_,rfl,rfl,_,rfl,?_⟩;refine cO (λh=>?_) (λh=>?_)
  ·have h':(n:Int)<((ak ns).length:Int):=aeI h;rw[aL]at h';have e0:ns[n]?=some ns[n]:=adX (by omega)
   exact⟨_,rfl,_,rfl,a,_,_,_,rfl,rfl,ha,c9 (cI e0),k _⟩
  ·exact k _
theorem Aw (T:Txt K mg A):aK P w K mg base bq 1 A.pf A.ph ["_law_found"] Fn:=by
 refine T._law_whole.F.ok As (λvs H Q E h=>?_) (λbK AA outer s H vs Q E hr h=>?_)
 ·obtain⟨n,rfl,_⟩:=h;rfl
 ·obtain⟨n,rfl,k⟩:=h;refine⟨_,(aw (bM (GV (bL fh rfl T.cY aeF (ae (pv 0) (ae (gu (v:=.ty "int") rfl T.U6 PyProof.Rows.boot_int rfl) ah))) (GU (Pg (bL fh rfl T.cY aeF (ae (pv 0) (ae (gu (v:=.ty "bool") rfl T.Rl PyProof.Rows.boot_bool rfl) ah)))))))),?_⟩
  try dsimp only[bz,cD]
  refine⟨_,rfl,_,_,_,_,rfl,.int n,vY K "int",_,rfl,lP ?_⟩;exact⟨_,rfl,_,_,_,_,rfl,.int n,Bw K,_,rfl,k⟩
theorem uL (T:Txt K mg A):aK P w K mg base bq 1 A.mJ A.mK ["_law_number","_law_letters"] Dx:=by
 refine T._law_step.F.ok CB (λvs H Q E h=>?_) (λbK AA outer s H vs Q E hr h=>?_)
 ·obtain⟨z,L,rfl,_⟩:=h;rfl
 ·obtain⟨z,L,rfl,jt,uz,k⟩:=h
  refine⟨_,(ai (bU (bu gY (aV cf (pv 0) aB) aB (bE _))
   (aw (bM (gg eR (aV dC aB (aV cf (aV fG (pv 0) aB) (pv 1))))))
   bB)
   (aw (bM (aV dC aB (aV cf (aV fG (pv 0) aB) (pv 1)))))),?_⟩
  try dsimp only[bz,cD]
  refine wx ?_;intro fD;have hm:∀y:Int,0<=y % (L:Int)/\y % (L:Int)<L:=λy=>⟨afF _ (by omega),afs _ (by omega)⟩
  have h1:=hm (z / 2);refine⟨_,rfl,_,_,rfl,rfl,(by show (0:Int)<2;decide),rfl,_,rfl,cO (λh=>?_) (λh=>?_)⟩
  ·refine⟨_,rfl,_,_,rfl,rfl,⟨by decide,by decide⟩,_,rfl,_,_,rfl,rfl,(by show (0:Int)<(L:Int);omega),_,_,rfl,rfl,_,rfl,k _ ?_ ?_⟩ <;> omega
  ·refine⟨_,rfl,_,_,rfl,rfl,⟨by decide,by decide⟩,_,rfl,_,_,rfl,rfl,(by show (0:Int)<(L:Int);omega),_,_,rfl,rfl,k _ ?_ ?_⟩ <;> omega
theorem rO {S:RS}(wf:S.Wf){c:Nat}:c∈bP S↔c<S.made/\S.ax c=c:=by
 unfold bP;rw[af5,aeQ,aeB];constructor
 ·rintro ⟨h1,h2⟩;rw[mW (by rw[wf.e];exact h1)]at h2;exact⟨h1,Option.some.inj h2⟩
 ·rintro ⟨h1,h2⟩;exact⟨h1,by rw[mW (by rw[wf.e];exact h1),h2]⟩
theorem OD {C:Addr}{H H1:Hp}{x dx:Addr}{S:RS}{a:RA}(nx:H x=none)(Ag:H dx=none)(sX:dx≠x)(k:∀b o,upd (upd H dx (.own x)) x (.ins C dx []) b=some o->b≠x->H1 b=some o)(ho:∀b,a.own x b->b=x\/upd (upd H dx (.own x)) x (.ins C dx []) b=none):au H H1/\∀b,a.own x b->H b=none:=by
 have s0:au H (upd (upd H dx (.own x)) x (.ins C dx [])):=(au.upd Ag).trans (au.upd (by rw[ao sX.symm];exact nx));exact⟨λb o e=>k b o (s0 _ _ e) (av e nx),λb z=>(ho b z).elim (λe=>by rw[e];exact nx) (same_none s0)⟩
theorem Fo {R:Nat->Int->Nat->Prop}{L c d:Nat}{z:Int}(k:∀a z b,R a z b->z∈cy (2* L))(h1:z≠0)(h2:z.natAbs<=L):∀a y b,jy R c z d a y b->y∈cy (2* L):=by
 rintro a y b (q|⟨_,e,_⟩|⟨_,e,_⟩)
 ·exact k _ _ _ q
 ·rw[e];exact fc.mpr ⟨h1,h2⟩
 ·rw[e];exact fc.mpr ⟨by omega,by rw[af3];exact h2⟩
def uM (n:Nat):List V:=(List.range n).map λi:Nat=>V.int (i:Int)
theorem pO (n:Nat):(uM n).length=n:=by unfold uM;rw[ad6,aeR]
theorem Fp {n i:Nat}(h:i<n):(uM n)[i]?=some (V.int (i:Int)):=by
 unfold uM;rw[aeo,List.getElem?_range h];rfl
theorem OG {n i:Nat}{x:V}(h:(uM n)[i]?=some x):i<n/\x=V.int (i:Int):=by
 have hi:i<n:=by
  have:=(ad4.mp h).1;rw[pO]at this;exact this
 rw[Fp hi]at h;exact⟨hi,(Option.some.inj h).symm⟩
theorem yz {H1:Hp}{fv:St}{te:TE}{Q:VK}{n:Nat}(g:Nat->Int)(hn:n<=1000)(he:∀i:Nat,i<n->∀R:VK,R (.int (g i)) H1->te (some (.int (i:Int))::fv) H1 R)(hQ:∀D,H1 D=none->Q (.ref D) (upd H1 D (.lst (ak ((List.range n).map g))))):tV te fv Q (xo 0 n) H1:=by
 refine t6 (uM n) (λv=>match v with|.int z=>.int (g z.toNat)|v=>v) (λi hi=>by rw[pO]at hi;exact hi) (λi x H3 hi y=>?_) (by rw[pO];exact ad7 _) (by rw[pO];exact aep hn (by decide)) (λi x hx R hR=>?_) (λD hD=>?_)
 ·rw[pO]at hi;obtain⟨e1,e2⟩:=y;refine⟨by first|exact e1|exact e2,?_⟩;rw[Fp hi]
  congr 1
  first
  |(rw[e2,ahb])
  |(rw[e1,ahb])
 ·obtain⟨hi,rfl⟩:=OG hx;refine he i hi R ?_;have:R (V.int (g ((i:Int)).toNat)) H1:=hR;rw[aeC]at this;exact this
 ·have e:((uM n).map λv=>match v with|.int z=>V.int (g z.toNat)|v=>v)=ak ((List.range n).map g):=by
   unfold uM ak;rw[ae8,ae8];rfl
  rw[e];exact hQ D hD
theorem w9 {H:Hp}{ps:List Addr}{ws:List (List Int)}(h:cw H ps ws){w:Addr}{xs:List V}{o:HO}(hw:H w=some (.lst xs)):cw (upd H w o) ps ws:=h.keep λp us e=>by
 rw[ao (cF e hw (by intro z;cases z))];exact e
def sf (rows:List (List Int))(x:Nat)(s:Int):Nat:=if 0<s then ((rows.getD (s.natAbs - 1) []).getD x 0).toNat else (rows.getD (s.natAbs - 1) []).findIdx (λz=>z==(x:Int))
def rP:Sp:=λvs H Q _=>∃(a wa:Addr) (rows:List (List Int)) (p x:Nat) (w:List Int),vs=[.ref a,.int x,.ref wa]/\TabAt H a rows/\(∀r∈rows,M11.Pm p r)/\x<p/\p<=1000/\H wa=some (.tup (ak w))/\M11.fO rows.length w/\rows.length<=1000/\Q (.int ((w.foldl (sf rows) x:Nat):Int)) H
theorem Fq:∀{r:List Int} {i:Nat} {x:Int},r.Nodup->r[i]?=some x->r.findIdx (λz=>z==x)=i
 |[],i,x,_,h=>by simp at h
 |a::r,0,x,_,h=>by
  have e:a=x:=Option.some.inj h;rw[List.findIdx_cons,e];simp
 |a::r,i+ 1,x,hn,h=>by
  have cK:a≠x:=λz=>(aeJ.mp hn).1 (by rw[z];exact adY (l:=r) (i:=i) h)
  rw[List.findIdx_cons,show (a==x)=false from aef.mpr cK,Fq (aeJ.mp hn).2 h];rfl
theorem Dy {rows:List (List Int)}{s:Int}{x y:Nat}{r:List Int}(h:0<s)(hr:rows[s.natAbs - 1]?=some r)(hy:r[x]?=some (y:Int)):sf rows x s=y:=by
 unfold sf;rw[ael h,ad2,ad2,hr,Option.getD_some,hy,Option.getD_some];rfl
theorem Dz {rows:List (List Int)}{s:Int}{x y:Nat}{r:List Int}(h:¬ 0<s)(hr:rows[s.natAbs - 1]?=some r)(hn:r.Nodup)(hy:r[y]?=some (x:Int)):sf rows x s=y:=by
 unfold sf;rw[aed h,ad2,hr,Option.getD_some];exact Fq hn hy
theorem nF (T:Txt K mg A):aK P w K mg base bq 1 A.iW A.iX ["_law_turns","_law_point","_law_word"] rP:=by
 refine T._law_moved.F.ok jP (λvs H Q E h=>?_) (λbK AA outer s H vs Q E hr h=>?_)
 ·obtain⟨a,wa,rows,p,x,w,rfl,_⟩:=h;rfl
 ·obtain⟨a,wa,rows,p,x,w,rfl,Fs,cV,hx,hp,ju,dF,p9,k⟩:=h
  refine⟨_,(ai (du aez rfl (iO (pv 2)) (bN (i:=3) jP.nd rfl (Or.inl rfl))
   (aw (cj (bU (bu AF (pv 3) aB (bE _))
    (aw (aZ (i:=1) jP.nd rfl (Or.inl rfl) (bJ bR (bJ bR (pv 0) (aV ou (pv 3) aB) (λ_ _=>rfl)) (pv 1) (λ_ _=>rfl))))
    (aw (aZ (i:=1) jP.nd rfl (Or.inl rfl) (dk aeg PySem.F.slot_list_index PySem.F.type_list_index Aq (bJ bR (pv 0) (aV ou (gg eR (pv 3)) aB) (λ_ _=>rfl)) (ae (pv 1) ah))))))))
   (aw (bM (pv 1)))),?_⟩
  try dsimp only[bz,cD]
  refine wx ?_;intro fD;obtain⟨rs,Xa,Xb⟩:=id Fs;refine⟨_,rfl,wa,rfl,⟨_,bV.of ju⟩,?_⟩;refine Ei (K:=K) (a:=wa) (xs:=ak w) (λn σ H2=>∃v:Option V,σ=[some (.ref a),some (.int (((w.take n).foldl (sf rows) x:Nat):Int)),some (.ref wa),v]/\H2=H/\(w.take n).foldl (sf rows) x<p) ⟨none,rfl,rfl,hx⟩ (λn σ H2 _ ⟨_,_,e,_⟩=>by rw[e];exact bV.of ju) ?_ ?_
  ·rintro n y σ H2 hn ⟨v,rfl,rfl,bG⟩;obtain⟨z,rfl,hz⟩:=cS hn;have hs:=dF z (adY hz)
   have Vf:(w.take (n+ 1)).foldl (sf rows) x=sf rows ((w.take n).foldl (sf rows) x) z:=by
    rw[af0,hz,agb];rfl
   rw[Vf];generalize (w.take n).foldl (sf rows) x=pt at bG ⊢;have hm:z.natAbs - 1<rows.length:=by omega
   obtain⟨row,g2⟩:=get_some (xs:=rows) (i:=z.natAbs - 1) hm;have vM:z.natAbs - 1<rs.length:=by rw[Xb.1];exact hm
   obtain⟨ra,g1⟩:=get_some (xs:=rs) (i:=z.natAbs - 1) vM;have yA:=Xb.2 _ _ _ g1 g2;have hP:=cV row (adY g2);refine⟨_,?_,λ_ _ h=>h⟩;refine⟨_,rfl,_,_,rfl,rfl,_,rfl,?_⟩;refine cO (λh=>?_) (λh=>?_)
   ·have h':(0:Int)<z:=aeI h;obtain⟨j,hj,Xd⟩:=hP.at bG
    have e1:lI (rs.map V.ref) (z - 1)=some (.ref ra):=by
     rw[show z - 1=((z.natAbs - 1:Nat):Int) by omega];exact fq g1
    refine⟨_,rfl,_,rfl,_,_,rfl,rfl,a,_,_,.ref ra,rfl,rfl,aI.of Xa,e1,_,rfl,ra,_,_,_,rfl,rfl,aI.of yA,c9 (cI hj),?_⟩;rw[Dy h' g2 hj];exact⟨_,rfl,rfl,Xd⟩
   ·have h':¬(0:Int)<z:=λq=>h (aey q)
    obtain⟨j,hj,Xd⟩:=hP.Rj bG
    have e1:lI (rs.map V.ref) (-z - 1)=some (.ref ra):=by
     rw[show -z - 1=((z.natAbs - 1:Nat):Int) by omega];exact fq g1
    refine⟨_,rfl,_,rfl,_,rfl,_,_,rfl,rfl,a,_,_,.ref ra,rfl,rfl,aI.of Xa,e1,.inl ⟨rfl,_,aI.of yA⟩,_,rfl,ra,row,(pt:Int),rfl,rfl,yA,adY hj,λi h1 _=>?_⟩;rw[Dz h' g2 hP.nd h1]
    have SY:i<p:=by
     have:=(ad4.mp h1).1;rw[hP.len]at this;exact this
    exact⟨_,rfl,rfl,SY⟩
  ·rintro σ H2 ⟨v,rfl,rfl,bG⟩;rw[aL,afL];exact⟨_,rfl,k⟩
theorem sM {rows:List (List Int)}{p x:Nat}{s:Int}(cV:∀r∈rows,M11.Pm p r)(hx:x<p)(h0:s≠0)(hl:s.natAbs<=rows.length):sf rows x s<p/\sf rows (sf rows x s) (-s)=x:=by
 obtain⟨r,g⟩:=get_some (xs:=rows) (i:=s.natAbs - 1) (by omega);have hP:=cV r (adY g);by_cases h:0<s
 ·obtain⟨j,a,b⟩:=hP.at hx;rw[Dy h g a];exact⟨b,Dz (by omega) (by rw[af3];exact g) hP.nd a⟩
 ·obtain⟨j,a,b⟩:=hP.Rj hx;rw[Dz h g hP.nd a];exact⟨b,Dy (by omega) (by rw[af3];exact g) a⟩
theorem yB {L:Nat}{s:Int}{w:List Int}(h:M11.fO L (s::w)):(s≠0/\s.natAbs<=L)/\M11.fO L w:=⟨h s (aeb ..),λx hx=>h x (aek _ hx)⟩
theorem GC {rows:List (List Int)}{p:Nat}(cV:∀r∈rows,M11.Pm p r):∀{w:List Int} {x:Nat},M11.fO rows.length w->x<p->w.foldl (sf rows) x<p
 |[],x,_,hx=>hx
 |s::w,x,hw,hx=>by
  obtain⟨hs,S8⟩:=yB hw;exact GC cV (w:=w) S8 (sM cV hx hs.1 hs.2).1
theorem yC {rows:List (List Int)}{p:Nat}(cV:∀r∈rows,M11.Pm p r):∀{w:List Int} {x y:Nat},M11.fO rows.length w->x<p->y<p->w.foldl (sf rows) x=w.foldl (sf rows) y->x=y
 |[],x,y,_,_,_,e=>e
 |s::w,x,y,hw,hx,hy,e=>by
  obtain⟨hs,S8⟩:=yB hw;have a1:=sM cV hx hs.1 hs.2;have a2:=sM cV hy hs.1 hs.2;have:=yC cV (w:=w) S8 a1.1 a2.1 e;rw[←a1.2,←a2.2,this]
theorem S9 {p:Nat}:M11.Pm p (fA 0 p):=by
 refine⟨qY 0 p,?_,λz hz=>?_⟩
 ·unfold fA;exact List.Pairwise.map _ (λa b (kI:a≠b) (z:(0:Int)+ (a:Int)=0+ (b:Int))=>kI (by omega)) ahe
 ·unfold fA at hz;obtain⟨i,hi,rfl⟩:=aeL.mp hz;have:=aeQ.mp hi;omega
theorem Ta {f:Nat->Nat}{xs:List Nat}{p:Nat}(h:∀x∈xs,x<p)(Tb:∀x,x<p->M17.it f 60 x=x):xs.map (M17.it f 60)=xs.map (M17.it f 0):=afd λx hx=>Tb x (h x hx)
def dY (xs:List Nat):List Int:=xs.map λx:Nat=>(x:Int)
theorem oj (xs:List Nat):(dY xs).length=xs.length:=by unfold dY;rw[ad6]
theorem Ft:∀{xs ys:List Nat},dY xs=dY ys->xs=ys
 |[],[],_=>rfl
 |[],_::_,h=>by cases h
 |_::_,[],h=>by cases h
 |x::xs,y::ys,h=>by
  have h':(x:Int)::dY xs=(y:Int)::dY ys:=h;injection h' with h1 h2
  rw[show x=y by omega,Ft h2]
theorem Tc {xs:List Nat}{i:Nat}{z:Int}(h:(dY xs)[i]?=some z):∃x,xs[i]?=some x/\z=(x:Int):=by
 unfold dY at h;rw[aeo]at h
 cases q:xs[i]? with
 |none=>rw[q]at h;cases h
 |some x=>rw[q]at h;exact⟨x,rfl,(Option.some.inj h).symm⟩
def AW (f:Nat->Nat):V->V
 |.int z=>.int ((f z.toNat:Nat):Int)
 |v=>v
theorem Ak (f:Nat->Nat)(xs:List Nat):(ak (dY xs)).map (AW f)=ak (dY (xs.map f)):=by
 unfold ak dY;rw[ae8,ae8,ae8,ae8];refine afd λx _=>?_
 show V.int ((f ((x:Int)).toNat:Nat):Int)=V.int ((f x:Nat):Int);rw[aeC]
theorem Al {H:Hp}{rs:List Addr}{rows:List (List Int)}{r:Addr}{ns:List Int}(h:oN H rs rows)(hr:H r=some (.lst (ak ns))):oN H (rs++[r]) (rows++[ns]):=by
 refine⟨by rw[adZ,adZ,h.1];rfl,λi q ms h1 h2=>?_⟩;by_cases hi:i<rs.length
 ·rw[aej hi]at h1;rw[aej (by rw[←h.1];exact hi)]at h2;exact h.2 i q ms h1 h2
 ·rw[aee (by omega)]at h1;rw[aee (by rw[←h.1];omega)]at h2;rw[ad1.mp (adY h1),ad1.mp (adY h2)];exact hr
def Fu:Sp:=λvs H Q _=>∃(z:Int) (m:Nat) (b:Bool),vs=[.int z,.int m,.bl b]/\1<=m/\m<=100/\0<=z/\∀l r H',au H H'->H' l=some (.lst (ak r))->M11.Pm m r->Q (.ref l) H'
theorem DB {m:Nat}{a b:Nat}{c:Int}(ha:a<m)(hb:b<m)(h:(c+ (a:Int)) % (m:Int)=(c+ (b:Int)) % (m:Int)):a=b:=by
 have h1:=Int.emod_emod_of_dvd (c+ (a:Int)) (Int.dvd_refl (m:Int));have hd:(m:Int)∣(c+ (a:Int)) - (c+ (b:Int)):=Int.dvd_of_emod_eq_zero (by rw[Int.sub_emod,h,Int.sub_self];rfl);obtain⟨q,hq⟩:=hd
 have hq0:q=0:=by
  refine agF λhn=>?_
  have:(m:Int)<=((m:Int)* q).natAbs:=by
   rw[Int.natAbs_mul];have:1<=q.natAbs:=by omega
   have:=Nat.mul_le_mul_left m this;rw[Nat.mul_one]at this;show (m:Int)<=((m* q.natAbs:Nat):Int);omega
  omega
 rw[hq0,Int.mul_zero]at hq;omega
theorem M8 {m:Nat}{g:Nat->Int}(hr:∀i,i<m->0<=g i/\g i<(m:Int))(hi:∀i j,i<m->j<m->g i=g j->i=j):M11.Pm m ((List.range m).map g):=by
 refine⟨by rw[ad6,aeR],?_,λz hz=>?_⟩
 ·refine afQ.mpr (agQ ?_ ahe);intro a b ha hb kI z;exact kI (hi a b (aeQ.mp ha) (aeQ.mp hb) z)
 ·obtain⟨i,vB,rfl⟩:=aeL.mp hz;exact hr i (aeQ.mp vB)
theorem OI {m:Nat}{r:List Int}(h:r.Perm (fA 0 m)):M11.Pm m r:=by
 have hp:M11.Pm m (fA 0 m):=S9;exact⟨by rw[h.length_eq,hp.len],h.nodup_iff.mpr hp.nd,λz hz=>hp.rg z (h.mem_iff.mp hz)⟩
theorem erase_cons:∀{s:List Int} {k:Nat} {x:Int},s[k]?=some x->(x::s.eraseIdx k).Perm s
 |[],k,x,h=>by simp at h
 |a::s,0,x,h=>by
  have e:a=x:=Option.some.inj h;subst e;exact List.Perm.refl _
 |a::s,k+ 1,x,h=>(List.Perm.swap a x (s.eraseIdx k)).trans ((erase_cons (s:=s) h).cons a)
theorem GD {t s:List Int}{k:Nat}{x:Int}(h:s[k]?=some x):((t++[x])++s.eraseIdx k).Perm (t++s):=by
 rw[ae6];exact List.Perm.append_left t (erase_cons h)
theorem Vg {n k:Nat}(h:k<n):seqIndex? (k:Int) n=some k:=(yL (rE h)).1
theorem yD:∀(ns:List Int) (k:Nat),(ak ns).eraseIdx k=ak (ns.eraseIdx k)
 |[],_=>rfl
 |a::ns,0=>rfl
 |a::ns,k+ 1=>by
  show V.int a::(ak ns).eraseIdx k=V.int a::ak (ns.eraseIdx k);rw[yD ns k]
theorem yE (T:Txt K mg A):aK P w K mg base bq 1 A.ml A.mn ["_law_number","_law_many","_law_plain"] Fu:=by
 refine T._law_turning.F.ok fU (λvs H Q E h=>?_) (λbK AA outer s H vs Q E hr h=>?_)
 ·obtain⟨z,m,b,rfl,_⟩:=h;rfl
 ·obtain⟨z,m,b,rfl,vE,vM,hz,k⟩:=h;have hu:=ag0 (jJ hr)
  refine⟨_,(ai (aZ (i:=3) fU.nd rfl (Or.inr rfl) (aV cf (aV fG (pv 0) aB) (pv 1)))
   (ai (cj (bU (PW.pt (tJ (eQ (pv 2)) (qK (bu gY (aV cf (pv 0) aB) aB (bE _)))))
    (aw (bM (fb (fns:=["_law_many","_law_by"]) (ixs:=[1,3]) (cl:=_) rfl (mN rfl T.fK (ae (pv 1) ah)) (ja rfl rfl rfl (by decide +kernel) rfl (by decide +kernel) rfl (by decide +kernel) (by decide +kernel) rfl rfl rfl rfl rfl rfl rfl) (λC s H ex=>(aV cf (aV ou (pv 2) (pv 0)) (pv 1))))))
    bB))
   (ai (bU (eQ (pv 2))
    (aw (bM (fb (fns:=["_law_many","_law_by"]) (ixs:=[1,3]) (cl:=_) rfl (mN rfl T.fK (ae (pv 1) ah)) (ja rfl rfl rfl (by decide +kernel) rfl (by decide +kernel) rfl (by decide +kernel) (by decide +kernel) rfl rfl rfl rfl rfl rfl rfl) (λC s H ex=>(aV cf (aV dC (pv 2) (pv 0)) (pv 1))))))
    bB)
   (ai (aZ (i:=4) fU.nd rfl (Or.inl rfl) (sT rfl rfl T.i6 rfl T.fK (ae (pv 1) ah)))
   (ai (aZ (i:=5) fU.nd rfl (Or.inl rfl) (cR ah))
   (ai (cj (jQ aez (bu (yV hu) (pv 4) (cR ah) (bE _))
    (ai (aX (dk aeg aeq aer b6 (pv 5) (ae (dk aeg PySem.F.slot_list_pop PySem.F.type_list_pop JQ (pv 4) (ae (aV cf (pv 0) (bL bX rfl T.fT aeW (ae (pv 4) ah))) ah)) ah)))
    (aw (aZ (i:=0) fU.nd rfl (Or.inl rfl) (aV fG (pv 0) (aV dC (bL bX rfl T.fT aeW (ae (pv 4) ah)) aB)))))))
   (aw (bM (pv 5))))))))),?_⟩
  try dsimp only[bz,cD]
  refine r6 ?_;intro CL vJ tf lD gL fD;have b1:=afF (z / 2) (show (m:Int)≠0 by omega);have b2:=afs (z / 2) (show (0:Int)<(m:Int) by omega);refine⟨_,rfl,_,_,rfl,rfl,⟨by decide,by decide⟩,_,rfl,_,_,rfl,rfl,(by show (0:Int)<(m:Int);omega),?_⟩;obtain⟨y,hy⟩:∃y,z / 2 % (m:Int)=y:=⟨_,rfl⟩;rw[hy]at b1 b2;simp only[hy]
  let pL:St->Hp->Prop:=λ aJ H'=>aJ=[some (.int z),some (.int m),some (.bl b),some (.int y),none,none]/\H'=H
  refine⟨pL,?_,?_⟩
  ·refine bO ?_;intro eJ;refine⟨_,rfl,_,rfl,?_⟩;refine cO (λ_=>?_) (λ_=>cU ⟨rfl,rfl⟩);refine⟨_,rfl,_,_,rfl,rfl,(by show (0:Int)<2;decide),rfl,_,rfl,?_⟩;refine cO (λ_=>?_) (λ_=>⟨rfl,rfl⟩);refine⟨_,rfl,(m:Int),rfl,by omega,by omega,?_⟩;rw[aeC];refine yz (λi=>(y - (i:Int)) % (m:Int)) (by omega) (λi hi R hR=>?_) (λD hD=>?_)
   ·exact⟨_,rfl,_,rfl,_,_,rfl,rfl,_,rfl,_,_,rfl,rfl,(by show (0:Int)<(m:Int);omega),hR⟩
   ·refine k D _ _ (au.upd hD) aj (M8 (λi hi=>⟨afF _ (by omega),afs _ (by omega)⟩) λi j hi hj e=>?_)
    have e2:((y - (m:Int)+ 1)+ (((m - 1 - i:Nat)):Int)) % (m:Int)=((y - (m:Int)+ 1)+ (((m - 1 - j:Nat)):Int)) % (m:Int):=by
     rw[show (y - (m:Int)+ 1)+ (((m - 1 - i:Nat)):Int)=y - (i:Int) by omega,show (y - (m:Int)+ 1)+ (((m - 1 - j:Nat)):Int)=y - (j:Int) by omega];exact e
    have:=DB (by omega) (by omega) e2;omega
  rintro aJ H' ⟨rfl,rfl⟩;refine⟨_,rfl,_,rfl,?_⟩;refine cO (λ_=>?_) (λ_=>?_)
  ·refine⟨_,rfl,(m:Int),rfl,by omega,by omega,?_⟩;rw[aeC];refine yz (λi=>(y+ (i:Int)) % (m:Int)) (by omega) (λi hi R hR=>?_) (λD hD=>?_)
   ·exact⟨_,rfl,_,rfl,_,_,rfl,rfl,_,rfl,_,_,rfl,rfl,(by show (0:Int)<(m:Int);omega),hR⟩
   ·exact k D _ _ (au.upd hD) aj (M8 (λi hi=>⟨afF _ (by omega),afs _ (by omega)⟩) λi j hi hj e=>DB hi hj e)
  refine⟨_,rfl,m,rfl,by omega,λls Xe=>?_⟩;have s1:au H' (upd H' ls (.lst (ak (fA 0 m)))):=au.upd Xe;have h1:upd H' ls (.lst (ak (fA 0 m))) ls=some (.lst (ak (fA 0 m))):=aj;generalize upd H' ls (.lst (ak (fA 0 m)))=H1 at s1 h1 ⊢;refine⟨aeA _,λlt bG=>?_⟩;have s2:au H1 (upd H1 lt (.lst [])):=au.upd bG;have h2:upd H1 lt (.lst []) lt=some (.lst (ak [])):=aj;have cK:ls≠lt:=λe=>by rw[←e,h1]at bG;cases bG
  have Td:H' lt=none:=s1.free bG;generalize upd H1 lt (.lst [])=H2 at s2 h2 ⊢
  let mB:St->Hp->Prop:=λ aJ H3=>∃(tv:List Int) (v0:Option V),aJ=[v0,some (.int m),some (.bl b),some (.int y),some (.ref ls),some (.ref lt)]/\au H' H3/\H3 lt=some (.lst (ak tv))/\tv.Perm (fA 0 m)
  refine⟨mB,?_,?_⟩
  ·refine bO ?_;intro eJ;refine⟨λn σ H3=>∃(tv sv:List Int) (x:Int),n=sv.length/\σ=[some (.int x),some (.int m),some (.bl b),some (.int y),some (.ref ls),some (.ref lt)]/\au H' H3/\H3 lt=some (.lst (ak tv))/\H3 ls=some (.lst (ak sv))/\(tv++sv).Perm (fA 0 m),⟨_,[],fA 0 m,z,rfl,rfl,s1.trans s2,h2,s2 _ _ h1,List.Perm.refl _⟩,?_⟩;intro n σ H3 bA;refine aY ?_;intro q_;obtain⟨tv,sv,x,rfl,rfl,s3,E9,Te,hp⟩:=bA;dsimp only[q_];clear q_;have hlen:=hp.length_eq;rw[adZ,qY]at hlen;refine⟨_,rfl,aeA _,λe0 he0=>?_⟩;have s4:au H3 (upd H3 e0 (.lst [])):=au.upd he0;have h4:upd H3 e0 (.lst []) e0=some (.lst (ak [])):=aj;generalize upd H3 e0 (.lst [])=H4 at s4 h4 ⊢;have Tf:=s4 _ _ E9;have M9:=s4 _ _ Te;refine⟨ls,e0,sv,[],rfl,rfl,M9,h4,_,rfl,?_⟩;by_cases Nb:sv=[]
   ·refine xG Nb ?_;rw[Nb,aeP]at hp;exact⟨tv,_,rfl,s3.trans s4,Tf,hp⟩
   ·have ZF:0<sv.length:=agI.mpr Nb;refine cO (λ_=>?_) (λh=>?_)
    ·refine⟨_,λ aJ H' h=>h,?_⟩;obtain⟨kk,BQ,L1⟩:=lS x (n:=sv.length) ZF;obtain⟨c,hx⟩:=get_some (xs:=sv) (i:=kk) L1;have ekk:x % ((ak sv).length:Int)=(kk:Int):=by rw[aL];exact BQ
     refine⟨_,rfl,.inl ⟨rfl,_,aI.of Tf⟩,_,rfl,.inl ⟨rfl,_,aI.of M9⟩,_,rfl,_,rfl,ls,_,rfl,.inl (aI.of M9),_,_,rfl,rfl,(by show (0:Int)<((ak sv).length:Int);rw[aL];omega),?_⟩;simp only[ekk];refine⟨ls,_,(kk:Int),kk,.int c,rfl,rfl,M9,by omega,by omega,Vg (by rw[aL];exact L1),cI hx,?_⟩;rw[yD];have Xf:upd H4 ls (.lst (ak (sv.eraseIdx kk))) lt=some (.lst (ak tv)):=by rw[ao (afe cK)];exact Tf
     have Xg:upd H4 ls (.lst (ak (sv.eraseIdx kk))) ls=some (.lst (ak (sv.eraseIdx kk))):=aj;have Nf:H' ls=none:=Xe;have s5:au H' (upd H4 ls (.lst (ak (sv.eraseIdx kk)))):=λb o e=>by rw[ao (av e Nf)];exact s4 _ _ (s3 _ _ e)
     generalize upd H4 ls (.lst (ak (sv.eraseIdx kk)))=H5 at Xf Xg s5 ⊢;refine⟨lt,_,_,rfl,rfl,Xf,?_,?_⟩
     ·rw[aL];exact aec (show tv.length<=100 by omega) (by decide)
     have kF:(sv.eraseIdx kk).length=sv.length - 1:=List.length_eraseIdx_of_lt L1;have Xh:upd H5 lt (.lst (ak tv++[.int c])) ls=some (.lst (ak (sv.eraseIdx kk))):=by rw[ao cK];exact Xg
     refine⟨_,rfl,_,rfl,ls,_,rfl,.inl (aI.of Xh),_,_,rfl,rfl,_,_,rfl,rfl,⟨by show (0:Int)<((ak (sv.eraseIdx kk)).length:Int)+ 1;omega,by show ((ak (sv.eraseIdx kk)).length:Int)+ 1<1073741824;rw[aL];omega⟩,?_⟩;refine⟨(sv.eraseIdx kk).length,by omega,tv++[c],sv.eraseIdx kk,_,rfl,rfl,λb o e=>?_,by rw[aj,ints_app];rfl,Xh,(GD hx).trans hp⟩;rw[ao (av e Td)];exact s5 _ _ e
    ·exact absurd (by rw[aeK Nb];rfl) h
  intro aJ H3 bA;refine aY ?_;intro q_;obtain⟨tv,v0,rfl,s3,E9,hp⟩:=bA;dsimp only[q_];clear q_;exact⟨_,rfl,k lt tv H3 s3 E9 (OI hp)⟩
theorem Jk {H:Hp}{r lt:Addr}{rs:List Addr}{ns:List Int}(h:H r=some (.lst (ak ns)))(hn:ns≠[])(hl:H lt=some (.lst (rs.map V.ref))):r≠lt:=λe=>by
 rw[e,hl]at h;injection h with h
 injection h with h
 cases ns with
 |nil=>exact hn rfl
 |cons z ns=>
  cases rs with
  |nil=>cases h
  |cons q rs=>cases h
theorem OJ (p:Nat):fA 0 p=dY (List.range p):=by
 unfold fA dY;exact afd λi _=>by show (0:Int)+ (i:Int)=(i:Int);omega
def xc:Sp:=λvs H Q _=>∃(ta pa wa:Addr) (rows:List (List Int)) (p:Nat) (xs:List Nat) (w:List Int),vs=[.ref ta,.ref pa,.ref wa]/\TabAt H ta rows/\(∀r∈rows,M11.Pm p r)/\p<=6/\H pa=some (.lst (ak (dY xs)))/\(∀x∈xs,x<p)/\xs.length<=6/\H wa=some (.tup (ak w))/\M11.fO rows.length w/\rows.length<=40/\∀(n:Nat) H',1<=n->n<=60->(∀x∈xs,M17.it (λx=>w.foldl (sf rows) x) n x=x)->(∀c,1<=c->c<n->¬ ∀x∈xs,M17.it (λx=>w.foldl (sf rows) x) c x=x)->au H H'->Q (.int (n:Int)) H'
theorem rQ (T:Txt K mg A):aK P w K mg base bq 2 A.jL A.jM ["_law_turns","_law_points","_law_word"] xc:=by
 have gQ:aK P w K mg base bq 1 A.iW A.iX ["_law_turns","_law_point","_law_word"] rP:=nF T;refine T._law_rounds.F.ok gI (λvs H Q E h=>?_) (λbK AA outer s H vs Q E hr h=>?_)
 ·obtain⟨ta,pa,wa,rows,p,xs,w,rfl,_⟩:=h;rfl
 ·obtain⟨ta,pa,wa,rows,p,xs,w,rfl,Fs,cV,vN,qi,Xi,Ng,ju,dF,p9,k⟩:=h;have hu:=ag0 (jJ hr)
  refine⟨_,(ai (aZ (i:=3) gI.nd rfl (Or.inl rfl) aB)
   (ai (rZ (iy:=4) gI.nd rfl (Or.inl rfl) (fns:=["_law_word","_law_turns"]) (ixs:=[2,0]) (cl:=_) rfl (eG (pv 1)) (ja rfl rfl rfl (by decide +kernel) rfl (by decide +kernel) rfl (by decide +kernel) (by decide +kernel) rfl rfl rfl rfl rfl rfl rfl) (λC s H ex=>(bp (gQ) (hr.mono (by decide)) rfl T._law_moved.m T._law_moved.F.kp T._law_moved.b .nil aP (ae (pv 2) (ae (pv 0) (ae (pv 1) ah))))))
   (ai (cj (jQ aez (bu (yV hu) (pv 4) (pv 1) (bE _))
    (ai (rZ (iy:=4) gI.nd rfl (Or.inl rfl) (fns:=["_law_word","_law_turns"]) (ixs:=[2,0]) (cl:=_) rfl (eG (pv 4)) (ja rfl rfl rfl (by decide +kernel) rfl (by decide +kernel) rfl (by decide +kernel) (by decide +kernel) rfl rfl rfl rfl rfl rfl rfl) (λC s H ex=>(bp (gQ) (hr.mono (by decide)) rfl T._law_moved.m T._law_moved.F.kp T._law_moved.b .nil aP (ae (pv 2) (ae (pv 0) (ae (pv 1) ah))))))
    (aw (aZ (i:=3) gI.nd rfl (Or.inl rfl) (aV dC (pv 3) aB))))))
   (aw (bM (pv 3)))))),?_⟩
  try dsimp only[bz,cD]
  refine jV ?_;intro lD gL fD;obtain⟨f,hf⟩:∃f:Nat->Nat,f=λx=>w.foldl (sf rows) x:=⟨_,rfl⟩
  rw[←hf]at k;have Nh:∀x,w.foldl (sf rows) x=f x:=λx=>by rw[hf]
  have Ni:∀x,x<p->f x<p:=λx hx=>by rw[←Nh];exact GC cV dF hx
  have Tg:∀x y,x<p->y<p->f x=f y->x=y:=λx y hx hy e=>by rw[←Nh,←Nh]at e;exact yC cV dF hx hy e
  have Tb:=Ta Xi (M17.U1 vN Ni Tg);have hit:=λ(n:Nat) (x:Nat) (hx:x<p)=>M17.ve Ni n x hx
  have e0:xs.map (M17.it f 0)=xs:=(afd λx _=>rfl).trans (List.map_id xs);have step:∀c,(xs.map (M17.it f c)).map f=xs.map (M17.it f (c+ 1)):=λc=>by rw[ae8];exact afd λx _=>rfl
  have lt:∀c,∀x∈xs.map (M17.it f c),x<p:=λc x hx=>by
   obtain⟨y,hy,rfl⟩:=aeL.mp hx;exact hit c y (Xi y hy)
  have body:∀{H2:Hp} {R:VK} {i c:Nat} {x:V},au H H2->(ak (dY (xs.map (M17.it f c))))[i]?=some x->R (AW f x) H2->rP [.ref ta,x,.ref wa] H2 R E0:=λ{H2 R i c x} s2 hx hR=>by
   obtain⟨z,rfl,hz⟩:=cS hx;obtain⟨y,hy,rfl⟩:=Tc hz;have hyp:=lt c y (adY hy);refine⟨ta,wa,rows,p,y,w,rfl,Fs.same s2,cV,hyp,by omega,s2 _ _ ju,dF,by omega,?_⟩;have h1:R (V.int ((f ((y:Nat):Int).toNat:Nat):Int)) H2:=hR;rw[aeC]at h1;rw[Nh];exact h1
  have ln:∀c,(ak (dY (xs.map (M17.it f c)))).length<=sizeLine:=λc=>by rw[aL,oj,ad6];exact aep Ng (by decide)
  have GF:H pa=some (.lst (ak (dY (xs.map (M17.it f 0))))):=by rw[e0];exact qi
  refine⟨_,rfl,pa,rfl,⟨_,aI.of GF⟩,?_⟩;refine t6 (ak (dY (xs.map (M17.it f 0)))) (AW f) (ua (aI.of GF)) (qV (aI.of GF)) (oI (aI.of GF)) (ln 0) (λi x hx R hR=>⟨_,rfl,_,rfl,_,rfl,body (au.refl H) hx hR⟩) (λsl Ti=>?_);rw[Ak,step];have s1:au H (upd H sl (.lst (ak (dY (xs.map (M17.it f 1)))))):=au.upd Ti;have h1:upd H sl (.lst (ak (dY (xs.map (M17.it f 1))))) sl=some (.lst (ak (dY (xs.map (M17.it f 1))))):=aj;generalize upd H sl (.lst (ak (dY (xs.map (M17.it f 1)))))=H1 at s1 h1 ⊢
  let pL:St->Hp->Prop:=λ aJ H2=>∃(sl:Addr) (c:Nat),aJ=[some (.ref ta),some (.ref pa),some (.ref wa),some (.int (c:Int)),some (.ref sl)]/\au H H2/\1<=c/\c<=60/\xs.map (M17.it f c)=xs/\(∀d,1<=d->d<c->xs.map (M17.it f d)≠xs)
  refine⟨pL,?_,?_⟩
  ·refine bO ?_;intro eJ;refine⟨λm σ H2=>∃(sl:Addr) (c:Nat),m=60 - c/\σ=[some (.ref ta),some (.ref pa),some (.ref wa),some (.int (c:Int)),some (.ref sl)]/\au H H2/\H2 sl=some (.lst (ak (dY (xs.map (M17.it f c)))))/\1<=c/\c<=60/\(∀d,1<=d->d<c->xs.map (M17.it f d)≠xs),⟨_,sl,1,rfl,rfl,s1,h1,ad7 _,by omega,λd h1 h2=>by omega⟩,?_⟩;intro m σ H2 bA;refine aY ?_;intro q_;obtain⟨sl,c,rfl,rfl,s2,h2,gy,gU,EA⟩:=bA;dsimp only[q_];clear q_;refine⟨_,rfl,_,rfl,sl,pa,_,_,rfl,rfl,h2,s2 _ _ qi,_,rfl,?_⟩;by_cases e:dY (xs.map (M17.it f c))=dY xs
   ·exact xG e ⟨sl,c,rfl,s2,gy,gU,Ft e,EA⟩
   ·refine cO (λ_=>?_) (λh=>absurd (by rw[aeK e];rfl) h)
    have Xj:c<60:=by
     rcases agP c 60 with q|q
     ·exact q
     ·exact absurd (by rw[show c=60 by omega,Tb,e0]) e
    refine⟨_,λ_ _ h=>h,?_⟩;refine⟨_,rfl,sl,rfl,⟨_,aI.of h2⟩,?_⟩;refine t6 (ak (dY (xs.map (M17.it f c)))) (AW f) (ua (aI.of h2)) (qV (aI.of h2)) (oI (aI.of h2)) (ln c) (λi x hx R hR=>⟨_,rfl,_,rfl,_,rfl,body s2 hx hR⟩) (λs3 Te=>?_);rw[Ak,step];refine⟨_,rfl,_,_,rfl,rfl,60 - (c+ 1),by omega,s3,c+ 1,rfl,?_,s2.trans (au.upd Te),aj,by omega,by omega,λd h1 h2=>?_⟩
    ·rw[show ((c+ 1:Nat):Int)=(c:Int)+ 1 by omega];rfl
    ·by_cases q:d=c
     ·rw[q];exact λz=>e (by rw[z])
     ·exact EA d h1 (by omega)
  intro aJ H2 bA;refine aY ?_;intro q_;obtain⟨sl,c,rfl,s2,gy,gU,Tj,EA⟩:=bA;dsimp only[q_];clear q_;refine⟨_,rfl,k c H2 gy gU (λx hx=>?_) (λd h1 h2 z=>EA d h1 h2 ((afd λx hx=>z x hx).trans (List.map_id xs))) s2⟩;obtain⟨i,hi,rfl⟩:=af4.mp hx;have h9:=afh (λl=>l[i]?) Tj;simp only[aeo,adX hi]at h9;exact Option.some.inj h9
theorem Jl {H1:Hp}{fv:St}{te:TE}{Q:VK}{n:Nat}(lo:Int)(hn:n<=1000)(he:∀(i:Nat) (H2:Hp) (R:VK),i<n->(∀q,H2 q=none->R (.ref q) (upd H2 q (.tup (ak [lo+ (i:Int)]))))->te (some (.int (lo+ (i:Int)))::fv) H2 R)
 (hQ:∀D H2 qs,au H1 H2->H2 D=none->cw H2 qs ((List.range n).map λi:Nat=>[lo+ (i:Int)])->Q (.ref D) (upd H2 D (.lst (qs.map V.ref)))):tV te fv Q (xo lo n) H1:=by
 refine⟨λi m ys H2=>m=n - i/\i<=n/\∃qs:List Addr,ys=qs.map V.ref/\au H1 H2/\cw H2 qs ((List.range i).map λi:Nat=>[lo+ (i:Int)]),⟨n,by simp,aeA _,[],rfl,λ_ _ e=>e,⟨rfl,λi r ns h1=>by simp at h1⟩⟩,?_⟩;rintro i m ys H2 ⟨rfl,hi,qs,rfl,s2,Tn⟩;have qc:qs.length=i:=by have:=Tn.1;rw[ad6,aeR]at this;exact this
 by_cases bG:i<n
 ·refine .inr ⟨bG,by rw[ad6,qc];exact aec (show i<=1000 by omega) (by decide),λx H3 hy=>?_⟩;obtain⟨rfl,rfl⟩:=hy;refine he i H3 _ bG λq hq=>?_
  refine⟨n - (i+ 1),by omega,rfl,bG,qs++[q],by rw[aeu];rfl,s2.trans (au.upd hq),?_⟩;rw[afI,aeu];exact(Tn.same (au.upd hq)).snoc aj
 ·have e:i=n:=by omega
  subst e;exact .inl ⟨ad7 _,by rw[ad6,qc];exact aep (show i<=1000 by omega) (by decide),λD hD=>hQ D H2 qs s2 hD Tn⟩
theorem xg {H:Hp}{ps qs:List Addr}{us vs:List (List Int)}(h:cw H ps us)(h':cw H qs vs):cw H (ps++qs) (us++vs):=by
 refine⟨by rw[adZ,adZ,h.1,h'.1],λi p w h1 h2=>?_⟩;by_cases hi:i<ps.length
 ·rw[aej hi]at h1;rw[aej (by rw[←h.1];exact hi)]at h2;exact h.2 i p w h1 h2
 ·rw[aee (by omega)]at h1;rw[aee (by rw[←h.1];omega),←h.1]at h2;exact h'.2 _ p w h1 h2
theorem DC (w:List Int)(n:Nat):(List.replicate n (ak w)).flatten=ak ((List.replicate n w).flatten):=by
 induction n with
 |zero=>rfl
 |succ n ih=>rw[afc,afz,ih,afc,afz,ints_app]
theorem DE {w:List Int}{n:Nat}{s:Int}(h:s∈(List.replicate n w).flatten):s∈w:=by
 obtain⟨u,hu,hs⟩:=List.mem_flatten.mp h;rw[(List.mem_replicate.mp hu).2]at hs;exact hs
theorem Am (w:List Int)(n:Nat):(List.replicate n w).flatten.length=w.length* n:=by
 induction n with
 |zero=>rfl
 |succ n ih=>rw[afc,afz,adZ,ih,Nat.mul_succ];omega
theorem DF {α:Type}(g:Nat->α->Nat)(w:List α):∀(n x:Nat),((List.replicate n w).flatten).foldl g x=M17.it (λx=>w.foldl g x) n x
 |0,x=>rfl
 |n+ 1,x=>by
  have e:=M17.yc (λx=>w.foldl g x) 1 n x;rw[show n+ 1=1+ n by omega,e,show 1+ n=n+ 1 by omega,afc,afz,agb,DF g w n];rfl
def An (rows:List (List Int))(p:Nat)(u:List Int):Prop:=M11.fO rows.length u/\u.length<=36/\∀x,x<p->u.foldl (sf rows) x=x
def Fv:Sp:=λvs H Q _=>∃(ta:Addr) (rows:List (List Int)) (p:Nat) (z:Int),vs=[.ref ta,.int rows.length,.int z,.int 36]/\TabAt H ta rows/\1<=rows.length/\rows.length<=3/\(∀r∈rows,M11.Pm p r)/\p<=6/\∀l R H',au H H'->dn H' l R->(∀u∈R,An rows p u)->R.length<=21->H l=none->Q (.ref l) H'
theorem Ax (T:Txt K mg A):aK P w K mg base bq 3 A.pj A.pk ["_law_turns","_law_letters","_law_mask","_law_room"] Fv:=by
 have nH:aK P w K mg base bq 2 A.jL A.jM ["_law_turns","_law_points","_law_word"] xc:=rQ T;refine T._law_rules.F.ok cZ (λvs H Q E h=>?_) (λbK AA outer s H vs Q E hr h=>?_)
 ·obtain⟨ta,rows,p,z0,rfl,_⟩:=h;rfl
 ·obtain⟨ta,rows,p,z0,rfl,Fs,jt,vO,cV,vN,k⟩:=h
  refine⟨_,(ai (rZ (iy:=4) cZ.nd rfl (Or.inl rfl) (fns:=[]) (ixs:=[]) (cl:=[]) rfl (mO rfl T.fK (ae aB (ae (aV dC (pv 1) aB) ah))) (fM (by decide +kernel) (by decide +kernel) rfl (by decide +kernel) rfl) (λC s H ex=>(cM (ae (pv 0) ah))))
   (ai (du aez rfl (mO rfl T.fK (ae aB (ae (aV dC (pv 1) aB) ah))) (bN (i:=5) cZ.nd rfl (Or.inl rfl))
    (aw (du aez rfl (mO rfl T.fK (ae aB (ae (pv 5) ah))) (bN (i:=6) cZ.nd rfl (Or.inl rfl))
     (aw (aZ (i:=4) cZ.nd rfl (Or.inl rfl) (aV Bf (pv 4) (cR (ae (cM (ae (pv 6) (ae (pv 5) ah))) (ae (cM (ae (pv 6) (ae (gg eR (pv 5)) ah))) (ae (cM (ae (pv 6) (ae (pv 5) (ae (gg eR (pv 6)) (ae (gg eR (pv 5)) ah))))) ah))))))))))
   (ai (aZ (i:=7) cZ.nd rfl (Or.inl rfl) (cR ah))
   (ai (du aez rfl (eG (pv 4)) (bN (i:=8) cZ.nd rfl (Or.inl rfl))
    (ai (aZ (i:=9) cZ.nd rfl (Or.inl rfl) (bp (nH) (hr.mono (by decide)) rfl T._law_rounds.m T._law_rounds.F.kp T._law_rounds.b .nil aP (ae (pv 0) (ae (sT rfl rfl T.i6 rfl T.fK (ae (bL bX rfl T.fT aeW (ae (bJ bR (pv 0) aB (λ_ _=>rfl)) ah)) ah)) (ae (pv 8) ah)))))
    (ai (cj (bU (PW.pt (tJ (bu AF (aV cf (pv 2) aB) aB (bE _)) (qK (bu Uo (aV qM (bL bX rfl T.fT aeW (ae (pv 8) ah)) (pv 9)) (pv 3) (bE _)))))
     (ai (aX (dk aeg aeq aer b6 (pv 7) (ae (aV Ey (pv 8) (pv 9)) ah)))
     (aw (aZ (i:=3) cZ.nd rfl (Or.inl rfl) (aV ou (pv 3) (aV qM (bL bX rfl T.fT aeW (ae (pv 8) ah)) (pv 9))))))
     bB))
    (aw (aZ (i:=2) cZ.nd rfl (Or.inl rfl) (aV fG (pv 2) aB))))))
   (aw (bM (pv 7))))))),?_⟩
  try dsimp only[bz,cD]
  refine Ci ?_;intro tf lD gL fD;obtain⟨trs,ZG,To⟩:=id Fs;have Tp:0<rows.length:=by omega
  have c0:rows[0]?=some rows[0]:=adX Tp
  have Tq:=cV _ (adY c0);generalize rows[0]=ZH at c0 Tq;obtain⟨Ts,d0⟩:=get_some (xs:=trs) (i:=0) (by rw[To.1];exact Tp);have ZI:=To.2 0 Ts ZH d0 c0;refine⟨_,rfl,_,_,rfl,rfl,1,(rows.length:Int)+ 1,rfl,⟨by omega,by omega,by omega,by omega⟩,?_⟩;refine Jl 1 (n:=((rows.length:Int)+ 1 - 1).toNat) (by omega) (λi H2 R hi hR=>⟨_,rfl,by show 1<=sizeLine;decide,λq hq=>hR q hq⟩) (λlw H1 ps s1 hlw sW=>?_);have Tt:au H1 (upd H1 lw (.lst (ps.map V.ref))):=au.upd hlw;have h2:upd H1 lw (.lst (ps.map V.ref)) lw=some (.lst (ps.map V.ref)):=aj;generalize upd H1 lw (.lst (ps.map V.ref))=H2 at Tt h2 ⊢;have Tv:=sW.same Tt
  have Xk:∀u∈(List.range ((rows.length:Int)+ 1 - 1).toNat).map (λi:Nat=>[(1:Int)+ (i:Int)]),M11.fO rows.length u/\u.length<=4:=λu hu=>by
   obtain⟨i,hi,rfl⟩:=aeL.mp hu;have:=aeQ.mp hi;exact⟨λs hs=>by rw[ad1.mp hs];exact⟨by omega,by omega⟩,by show 1<=4;decide⟩
  have Wd:((List.range ((rows.length:Int)+ 1 - 1).toNat).map (λi:Nat=>[(1:Int)+ (i:Int)])).length<=3:=by rw[ad6,aeR];omega
  generalize (List.range ((rows.length:Int)+ 1 - 1).toNat).map (λi:Nat=>[(1:Int)+ (i:Int)])=W0 at Tv Xk Wd;have MH:=s1.trans Tt;refine⟨_,rfl,_,_,rfl,rfl,2,(rows.length:Int)+ 1,rfl,⟨by omega,by omega,by omega,by omega⟩,?_⟩
  let gf:Nat->St->Hp->Prop:=λi σ H3=>∃(lw:Addr) (ps:List Addr) (Ws:List (List Int)) (v5 v6:Option V),σ=[some (.ref ta),some (.int (rows.length:Int)),some (.int z0),some (.int 36),some (.ref lw),v5,v6,none,none,none]/\au H H3/\H3 lw=some (.lst (ps.map V.ref))/\cw H3 ps Ws/\(∀u∈Ws,M11.fO rows.length u/\u.length<=4)/\Ws.length<=3+ 9* i
  refine kb (lo:=2) (n:=((rows.length:Int)+ 1 - 2).toNat) gf ⟨lw,ps,W0,none,none,rfl,MH,h2,Tv,Xk,by omega⟩ ?_ ?_
  ·intro i σ H3 hi bA;refine aY ?_;intro q_;obtain⟨lw,ps,Ws,v5,v6,rfl,s3,h3,t3,Tw,xU⟩:=bA;dsimp only[q_];clear q_;dsimp only[dE];refine bO ?_;intro eJ;refine⟨_,rfl,1,2+ (i:Int),rfl,⟨by omega,by omega,by omega,by omega⟩,?_⟩
   let wU:Nat->St->Hp->Prop:=λn σ H4=>∃(lw:Addr) (ps:List Addr) (Ws:List (List Int)) (v6:Option V),σ=[some (.ref ta),some (.int (rows.length:Int)),some (.int z0),some (.int 36),some (.ref lw),some (.int (2+ (i:Int))),v6,none,none,none]/\au H H4/\H4 lw=some (.lst (ps.map V.ref))/\cw H4 ps Ws/\(∀u∈Ws,M11.fO rows.length u/\u.length<=4)/\Ws.length<=3+ 9* i+ 3* n
   refine kb (lo:=1) (n:=(2+ (i:Int) - 1).toNat) wU ⟨lw,ps,Ws,v6,rfl,s3,h3,t3,Tw,by omega⟩ ?_ ?_
   ·intro n σ H4 hn bA;refine aY ?_;intro q_;obtain⟨lw,ps,Ws,v6,rfl,s4,h4,t4,Tx,Jm⟩:=bA;dsimp only[q_];clear q_;dsimp only[dE];refine bO ?_;intro eJ;refine⟨_,rfl,_,rfl,_,rfl,by show 2<=sizeLine;decide,λq1 IH=>?_⟩;have s5:=au.upd (o:=.tup [.int (1+ (n:Int)),.int (2+ (i:Int))]) IH;have a5:upd H4 q1 (.tup [.int (1+ (n:Int)),.int (2+ (i:Int))]) q1=some (.tup (ak [1+ (n:Int),2+ (i:Int)])):=aj;generalize upd H4 q1 (.tup [.int (1+ (n:Int)),.int (2+ (i:Int))])=H5 at s5 a5 ⊢;refine⟨_,rfl,_,rfl,_,rfl,by show 2<=sizeLine;decide,λq2 Mt=>?_⟩;have s6:=au.upd (o:=.tup [.int (1+ (n:Int)),.int (-(2+ (i:Int)))]) Mt;have a6:upd H5 q2 (.tup [.int (1+ (n:Int)),.int (-(2+ (i:Int)))]) q2=some (.tup (ak [1+ (n:Int),-(2+ (i:Int))])):=aj;generalize upd H5 q2 (.tup [.int (1+ (n:Int)),.int (-(2+ (i:Int)))])=H6 at s6 a6 ⊢;refine⟨_,rfl,_,rfl,_,rfl,_,rfl,_,rfl,_,rfl,by show 4<=sizeLine;decide,λq3 hq3=>?_⟩;have s7:=au.upd (o:=.tup [.int (1+ (n:Int)),.int (2+ (i:Int)),.int (-(1+ (n:Int))),.int (-(2+ (i:Int)))]) hq3;have a7:upd H6 q3 (.tup [.int (1+ (n:Int)),.int (2+ (i:Int)),.int (-(1+ (n:Int))),.int (-(2+ (i:Int)))]) q3=some (.tup (ak [1+ (n:Int),2+ (i:Int),-(1+ (n:Int)),-(2+ (i:Int))])):=aj;generalize upd H6 q3 (.tup [.int (1+ (n:Int)),.int (2+ (i:Int)),.int (-(1+ (n:Int))),.int (-(2+ (i:Int)))])=H7 at s7 a7 ⊢;refine⟨by show 3<=sizeLine;decide,λql qc=>?_⟩;have s8:=au.upd (o:=.lst [.ref q1,.ref q2,.ref q3]) qc;have a8:upd H7 ql (.lst [.ref q1,.ref q2,.ref q3]) ql=some (.lst ([q1,q2,q3].map V.ref)):=aj;generalize upd H7 ql (.lst [.ref q1,.ref q2,.ref q3])=H8 at s8 a8 ⊢;have Tz:=((s5.trans s6).trans s7).trans s8
    have t8:cw H8 [q1,q2,q3] [[1+ (n:Int),2+ (i:Int)],[1+ (n:Int),-(2+ (i:Int))],[1+ (n:Int),2+ (i:Int),-(1+ (n:Int)),-(2+ (i:Int))]]:=by
     have b0:cw H8 [] []:=⟨rfl,λi p w h1=>by simp at h1⟩;exact((b0.snoc (s8 _ _ (s7 _ _ (s6 _ _ a5)))).snoc (s8 _ _ (s7 _ _ a6))).snoc (s8 _ _ a7)
    have dU:ps.length=Ws.length:=t4.1;refine⟨lw,ql,_,_,rfl,rfl,Tz _ _ h4,a8,?_,λl9 Xl=>?_⟩
    ·rw[ad6,ad6];exact aep (show ps.length+ 3<=1000 by omega) (by decide)
    refine⟨l9,ps++[q1,q2,q3],_,_,rfl,(s4.trans Tz).trans (au.upd Xl),by rw[aj,aeu],(xg (t4.same Tz) t8).same (au.upd Xl),λu hu=>?_,?_⟩
    ·rcases aei.mp hu with hu|hu
     ·exact Tx u hu
     ·have ok:∀s:Int,s=1+ (n:Int)\/s=2+ (i:Int)\/s= -(1+ (n:Int))\/s= -(2+ (i:Int))->s≠0/\s.natAbs<=rows.length:=λs hs=>by
       rcases hs with rfl|rfl|rfl|rfl
       ·exact⟨by omega,by omega⟩
       ·exact⟨by omega,by omega⟩
       ·exact⟨by omega,by omega⟩
       ·exact⟨by omega,by omega⟩
      simp only[aea,aeT,agj]at hu;rcases hu with rfl|rfl|rfl
      ·refine⟨λs hs=>ok s ?_,by show 2<=4;decide⟩;simp only[aea,aeT,agj]at hs;rcases hs with h|h
       ·exact .inl h
       ·exact .inr (.inl h)
      ·refine⟨λs hs=>ok s ?_,by show 2<=4;decide⟩;simp only[aea,aeT,agj]at hs;rcases hs with h|h
       ·exact .inl h
       ·exact .inr (.inr (.inr h))
      ·refine⟨λs hs=>ok s ?_,by show 4<=4;decide⟩;simp only[aea,aeT,agj]at hs;exact hs
    ·rw[adZ];simp only[aes,afG];omega
   ·intro σ H4 bA;refine aY ?_;intro q_;obtain⟨lw,ps,Ws,v6,rfl,s4,h4,t4,Tx,Jm⟩:=bA;dsimp only[q_];clear q_;exact⟨lw,ps,Ws,_,_,rfl,s4,h4,t4,Tx,by omega⟩
  intro σ H3 bA;refine aY ?_;intro q_;obtain⟨lw,ps,Ws,v5,v6,rfl,s3,h3,t3,Tw,xU⟩:=bA;dsimp only[q_];clear q_;refine⟨aeA _,λlf TB=>?_⟩;have TC:au H3 (upd H3 lf (.lst [])):=au.upd TB;have h4:upd H3 lf (.lst []) lf=some (.lst (([]:List Addr).map V.ref)):=aj;generalize upd H3 lf (.lst [])=H4 at TC h4 ⊢;refine⟨_,rfl,lw,rfl,⟨_,aI.of (TC _ _ h3)⟩,?_⟩
  let Le:Nat->St->Hp->Prop:=λn σ H5=>∃(fs:List Addr) (R:List (List Int)) (zm rm:Int) (v8 v9:Option V),σ=[some (.ref ta),some (.int (rows.length:Int)),some (.int zm),some (.int rm),some (.ref lw),v5,v6,some (.ref lf),v8,v9]/\au H3 H5/\H5 lf=some (.lst (fs.map V.ref))/\cw H5 fs R/\(∀u∈R,An rows p u)/\R.length<=n/\rm<=36
  refine gX (K:=K) (a:=lw) (xs:=ps.map V.ref) Le ⟨[],[],z0,36,none,none,rfl,TC,h4,⟨rfl,λi p w h1=>by simp at h1⟩,(λu hu=>by cases hu),aeA _,by omega⟩ (λn σ H5 _ ⟨_,_,_,_,_,_,_,s,_⟩=>aI.of (s _ _ h3)) ?_ ?_
  ·intro n y σ H5 hn bA;refine aY ?_;intro q_;obtain⟨fs,R,zm,rm,v8,v9,rfl,s5,h5,t5,Jn,vP,TF⟩:=bA;dsimp only[q_];clear q_;dsimp only[dE];refine wy ?_;intro eJ RN Iw;rw[aeo]at hn
   have RQ:n<ps.length:=by
    cases e:ps[n]? with
    |none=>rw[e]at hn;cases hn
    |some r=>exact(ad4.mp e).1
   obtain⟨wa,g1⟩:=get_some (xs:=ps) (i:=n) RQ;rw[g1]at hn;have ey:V.ref wa=y:=Option.some.inj hn;subst ey;have dU:ps.length=Ws.length:=t3.1;obtain⟨w,g2⟩:=get_some (xs:=Ws) (i:=n) (by omega);have ju:=t3.2 n wa w g1 g2;obtain⟨ML,Wm⟩:=Tw w (adY g2);have TJ:=s3.trans s5;have Vh:=TJ _ _ ZG;refine⟨_,rfl,_,rfl,ta,_,_,.ref Ts,rfl,rfl,aI.of Vh,fq (i:=0) d0,Ts,_,rfl,.inl (aI.of (TJ _ _ ZI)),p,by rw[aL,Tq.1],by omega,λlp hlp=>?_⟩;have Nj:au H5 (upd H5 lp (.lst (ak (fA 0 p)))):=au.upd hlp;have h6:upd H5 lp (.lst (ak (fA 0 p))) lp=some (.lst (ak (fA 0 p))):=aj;generalize upd H5 lp (.lst (ak (fA 0 p)))=H6 at Nj h6 ⊢;rw[OJ]at h6;refine⟨_,rfl,ta,lp,wa,rows,p,List.range p,w,rfl,Fs.same (TJ.trans Nj),cV,vN,h6,λx hx=>aeQ.mp hx,by rw[aeR];exact vN,Nj _ _ (s5 _ _ ju),ML,by omega,λon H7 vD jB ho3 _ s67=>?_⟩;have Nk:=Nj.trans s67;have GH:=Nk _ _ (s5 _ _ ju);have h7:=Nk _ _ h5;have t7:=t5.same Nk;have Ao:=s5.trans Nk
   let Lf:St->Hp->Prop:=λ aJ H'=>∃(fs:List Addr) (R:List (List Int)) (rm:Int),aJ=[some (.ref ta),some (.int (rows.length:Int)),some (.int zm),some (.int rm),some (.ref lw),v5,v6,some (.ref lf),some (.ref wa),some (.int (on:Int))]/\au H3 H'/\H' lf=some (.lst (fs.map V.ref))/\cw H' fs R/\(∀u∈R,An rows p u)/\R.length<=n+ 1/\rm<=36
   refine⟨Lf,?_,?_⟩
   ·refine bO ?_;intro eJ;refine⟨_,rfl,_,_,rfl,rfl,(by show (0:Int)<3;decide),_,_,rfl,rfl,_,rfl,cO (λ_=>?_) (λ_=>cU ⟨fs,R,rm,rfl,Ao,h7,t7,Jn,by omega,TF⟩)⟩;refine⟨_,rfl,wa,_,rfl,.inr (bV.of GH),_,rfl,_,_,rfl,rfl,.inr ⟨by omega,by omega⟩,_,rfl,_,_,rfl,rfl,_,rfl,cO (λh=>?_) (λ_=>⟨fs,R,rm,rfl,Ao,h7,t7,Jn,by omega,TF⟩)⟩;have hle:((ak w).length:Int)* (on:Int)<=rm:=aeI h;rw[aL]at hle
    have hmul:w.length* on<=36:=by
     have:((w.length* on:Nat):Int)=(w.length:Int)* (on:Int):=Int.natCast_mul ..;omega
    refine⟨_,rfl,.inl ⟨rfl,_,aI.of h7⟩,_,rfl,_,rfl,wa,_,_,rfl,rfl,GH,by omega,by omega,?_,λq8 H8 Jo h8=>?_⟩
    ·rw[aL,aeC];exact aep hmul (by decide)
    rw[aeC,DC]at h8;have TK:=Jo _ _ h7;have LJ:fs.length=R.length:=t5.1;refine⟨lf,_,_,rfl,rfl,TK,?_,?_⟩
    ·rw[ad6];exact aec (show fs.length<=1000 by omega) (by decide)
    have ZJ:upd H8 lf (.lst (fs.map V.ref++[V.ref q8])) wa=some (.tup (ak w)):=by
     rw[ao (cF (Jo _ _ GH) TK (by intro z;cases z))];exact Jo _ _ GH
    refine⟨_,rfl,_,rfl,wa,_,rfl,.inr (bV.of ZJ),_,rfl,_,_,rfl,rfl,.inr ⟨by omega,by omega⟩,_,_,rfl,rfl,?_⟩;refine⟨fs++[q8],R++[(List.replicate on w).flatten],_,rfl,λb o e=>by rw[ao (av e TB)];exact Jo _ _ (Ao _ _ e),by rw[aj,aeu];rfl,w9 ((t7.same Jo).snoc h8) TK,λu hu=>?_,by rw[adZ];simp only[aes,afG];omega,?_⟩
    ·rcases aei.mp hu with hu|hu
     ·exact Jn u hu
     ·rw[ad1.mp hu];exact⟨λs hs=>ML s (DE hs),by rw[Am];exact hmul,λx hx=>by rw[DF];exact ho3 x (aeQ.mpr hx)⟩
    ·rw[aL];have:(0:Int)<=(w.length:Int)* (on:Int):=Int.mul_nonneg (by omega) (by omega);omega
   intro aJ H8 bA;refine aY ?_;intro q_;obtain⟨fs,R,rm,rfl,s8,h8,t8,hR8,ZK,ZL⟩:=bA;dsimp only[q_];clear q_;exact⟨_,rfl,_,_,rfl,rfl,⟨by decide,by decide⟩,fs,R,_,rm,_,_,rfl,s8,h8,t8,hR8,ZK,ZL⟩
  ·intro σ H5 bA;refine aY ?_;intro q_;obtain⟨fs,R,zm,rm,v8,v9,rfl,s5,h5,t5,Jn,vP,TF⟩:=bA;dsimp only[q_];clear q_;have dU:ps.length=Ws.length:=t3.1;rw[ad6]at vP;exact⟨_,rfl,k lf R H5 (s3.trans s5) ⟨fs,h5,t5⟩ Jn (by omega) (same_none s3 TB)⟩
def Fw (rows:List (List Int))(x:Nat)(u:List Int):Prop:=M11.fO rows.length u/\u.length<=1000/\u.foldl (sf rows) x=x
def Jp (K:PySem.W.Frag):Sp:=λvs H Q _=>∃(a ta:Addr) (ns:List Int) (rows:List (List Int)) (p x:Nat),vs=[.ref a,.ref ta,.int rows.length,.int x]/\aI K H a (ak ns)/\ns.length<=63/\TabAt H ta rows/\1<=rows.length/\rows.length<=3/\(∀r∈rows,M11.Pm p r)/\p<=6/\x<p/\∀l P H',au H H'->dn H' l P->(∀u∈P,Fw rows x u)->P.length<=3->Q (.ref l) H'
structure nL (H H':Hp) (l:Addr) (L n m:Nat) (Ws:List (List Int)):Prop where
 s:au H H'
 f:H l=none
 h:dn H' l Ws
 w:∀u∈Ws,M11.fO L u/\u.length<=m
 c:Ws.length<=n
theorem nL.same {H H1 H2:Hp}{l:Addr}{L n m:Nat}{Ws:List (List Int)}(h:nL H H1 l L n m Ws)(s:au H1 H2):nL H H2 l L n m Ws:=⟨h.s.trans s,h.f,h.h.same s,h.w,h.c⟩
theorem nL.le {H H1:Hp}{l:Addr}{L n m n' m':Nat}{Ws:List (List Int)}(h:nL H H1 l L n m Ws)(hn:n<=n')(hm:m<=m'):nL H H1 l L n' m' Ws:=⟨h.s,h.f,h.h,λu hu=>⟨(h.w u hu).1,aep (h.w u hu).2 hm⟩,aep h.c hn⟩
theorem nL.add {H H1:Hp}{l q:Addr}{L n m:Nat}{Ws:List (List Int)}{u:List Int}(h:nL H H1 l L n m Ws)(hq:H1 q=some (.tup (ak u)))(hu:M11.fO L u/\u.length<=m):∃qs:List Addr,H1 l=some (.lst (qs.map V.ref))/\qs.length<=n/\nL H (upd H1 l (.lst (qs.map V.ref++[.ref q]))) l L (n+ 1) m (Ws++[u]):=by
 obtain⟨qs,h1,h2⟩:=h.h;refine⟨qs,h1,by rw[h2.1];exact h.c,λb o e=>by rw[ao (av e h.f)];exact h.s _ _ e,h.f,⟨qs++[q],by rw[aj,aeu];rfl,w9 (h2.snoc hq) h1⟩,λv hv=>?_,by rw[adZ];have:=h.c;show _+ 1<=_;omega⟩;rcases aei.mp hv with y|y
 ·exact h.w v y
 ·rw[ad1.mp y];exact hu
theorem nL.ins {K:PySem.W.Frag}{H H1:Hp}{l:Addr}{L n m:Nat}{Ws:List (List Int)}(h:nL H H1 l L n m Ws):Lx K "list" (.ref l) H1:=by
 obtain⟨qs,h1,_⟩:=h.h;exact .inl ⟨rfl,_,aI.of h1⟩
theorem DG (T:Txt K mg A):aK P w K mg base bq 3 A.qu A.qv ["_law_script","_law_turns","_law_letters","_law_first"] (Jp K):=by
 have bT:aK P w K mg base bq 1 A.jg A.jh ["_law_script","_law_k"] (Dw K):=qj T;have nH:aK P w K mg base bq 2 A.jL A.jM ["_law_turns","_law_points","_law_word"] xc:=rQ T;have qG:aK P w K mg base bq 1 A.mJ A.mK ["_law_number","_law_letters"] Dx:=uL T;refine T._law_part.F.ok gJ (λvs H Q E h=>?_) (λbK AA outer s H vs Q E hr h=>?_)
 ·obtain⟨a,ta,ns,rows,p,x,rfl,_⟩:=h;rfl
 ·obtain⟨a,ta,ns,rows,p,x,rfl,ha,Hj,hT,jt,vO,cV,vN,hx,k⟩:=h;have hu:=ag0 (jJ hr)
  refine⟨_,(ai (aZ (i:=4) gJ.nd rfl (Or.inl rfl) (aV cf (bp (bT) (hr.mono (by decide)) rfl T._law_cell_at.m T._law_cell_at.F.kp T._law_cell_at.b .nil aP (ae (pv 0) (ae aB ah))) aB))
   (ai (aZ (i:=5) gJ.nd rfl (Or.inl rfl) (cR ah))
   (ai (cj (bU (PW.pt (AB (bu gY (pv 4) aB (bE _)) (A2 (bu gY (pv 4) aB (bE _)))))
    (aw (aX (dk aeg aeq aer b6 (pv 5) (ae (cM (ae (aV dC aB (aV cf (aV fG (bp (bT) (hr.mono (by decide)) rfl T._law_cell_at.m T._law_cell_at.F.kp T._law_cell_at.b .nil aP (ae (pv 0) (ae aB ah))) aB) (pv 2))) ah)) ah))))
    bB))
   (ai (cj (bU (bu gY (pv 4) aB (bE _))
    (aw (aX (dk aeg aeq aer b6 (pv 5) (ae (cM (ae (bJ fL (bJ bR (pv 5) aB (λ_ _=>rfl)) aB (λ_ _=>rfl)) (ae (aV ou (gg eR aB) (aV cf (aV fG (bp (bT) (hr.mono (by decide)) rfl T._law_cell_at.m T._law_cell_at.F.kp T._law_cell_at.b .nil aP (ae (pv 0) (ae aB ah))) aB) (pv 2))) ah))) ah))))
    bB))
   (ai (cj (bU (bu gY (pv 4) aB (bE _))
    (ai (aZ (i:=6) gJ.nd rfl (Or.inl rfl) (cM ah))
    (ai (du aez rfl (eG (oB yM (pv 0) (lO aB) (lO aB))) (bN (i:=7) gJ.nd rfl (Or.inl rfl))
     (aw (aZ (i:=6) gJ.nd rfl (Or.inl rfl) (aV JV (pv 6) (cM (ae (bp (qG) (hr.mono (by decide)) rfl T._law_step.m T._law_step.F.kp T._law_step.b .nil aP (ae (aV cf (aV qM (pv 7) aB) aB) (ae (pv 2) ah))) ah))))))
    (aw (cj (bU (bu (NQ hu) (pv 6) (cM ah) (bE _))
     (aw (aX (dk aeg aeq aer b6 (pv 5) (ae (pv 6) ah))))
     bB)))))
    bB))
   (aw (bM (fb (fns:=["_law_turns","_law_first"]) (ixs:=[1,3]) (cl:=_) rfl (eG (pv 5)) (ja rfl rfl rfl (by decide +kernel) rfl (by decide +kernel) rfl (by decide +kernel) (by decide +kernel) rfl rfl rfl rfl rfl rfl rfl) (λC s H ex=>(aV Ey (pv 0) (bp (nH) (hr.mono (by decide)) rfl T._law_rounds.m T._law_rounds.F.kp T._law_rounds.b .nil aP (ae (pv 1) (ae (cR (ae (pv 2) ah)) (ae (pv 0) ah)))))))))))))),?_⟩
  try dsimp only[bz,cD]
  refine wz ?_;intro vJ tf lD gL fD;refine⟨_,rfl,a,ns,6,rfl,ha,by decide,λz=>⟨_,_,rfl,rfl,(by show (0:Int)<4;decide),?_⟩⟩;obtain⟨y,hy⟩:∃y,z % 4=y:=⟨_,rfl⟩;rw[show (λ(i j:Int)=>V.int (i % j)) z 4=V.int y from afh V.int hy];clear hy;refine⟨aeA _,λl nl=>?_⟩;have w0:nL H (upd H l (.lst [])) l rows.length 0 1 []:=⟨au.upd nl,nl,⟨[],aj,rfl,λi p w h=>by simp at h⟩,(λu hu=>by cases hu),ad7 _⟩;generalize upd H l (.lst [])=H1 at w0 ⊢;have md:∀z:Int,0<=z % (rows.length:Int)/\z % (rows.length:Int)<rows.length:=λz=>⟨afF _ (by omega),afs _ (by omega)⟩
  let pL:St->Hp->Prop:=λ aJ H'=>∃Ws,aJ=[some (.ref a),some (.ref ta),some (.int rows.length),some (.int x),some (.int y),some (.ref l),none,none]/\nL H H' l rows.length 1 2 Ws/\(y=2->∃s,Ws=[[s]])
  refine⟨pL,?_,?_⟩
  ·refine bO ?_;intro eJ;refine⟨_,rfl,rfl,_,rfl,?_⟩;refine cO (λh1=>lP ?_) (λh1=>⟨_,rfl,rfl,_,rfl,cO (λh2=>?_) (λh2=>⟨[],rfl,w0.le (by decide) (by decide),λe=>absurd (by rw[e];rfl) h2⟩)⟩)
   all_goals
    refine⟨_,rfl,w0.ins,_,rfl,a,ns,6,rfl,w0.s.seq ha,by decide,λz1=>⟨_,_,rfl,rfl,⟨by decide,by decide⟩,_,rfl,_,_,rfl,rfl,(by show (0:Int)<(rows.length:Int);omega),_,_,rfl,rfl,(by show 1<=sizeLine;decide),λq hq=>?_⟩⟩;have sq:=au.upd (o:=.tup [.int (1+ z1 / 24 % (rows.length:Int))]) hq;have:=md (z1 / 24);obtain⟨qs,g1,g2,g3⟩:=(w0.same sq).add (q:=q) (u:=[1+ z1 / 24 % (rows.length:Int)]) aj ⟨λs hs=>by rw[ad1.mp hs];exact⟨by omega,by omega⟩,ad7 _⟩;exact⟨l,_,_,rfl,rfl,g1,by rw[ad6];exact aec (show qs.length<=100 by omega) (by decide),_,rfl,g3.le (by decide) (by decide),λ_=>⟨_,rfl⟩⟩
  rintro aJ H2 ⟨Ws,rfl,w2,hy⟩
  let mB:St->Hp->Prop:=λ aJ H'=>∃Ws,aJ=[some (.ref a),some (.ref ta),some (.int rows.length),some (.int x),some (.int y),some (.ref l),none,none]/\nL H H' l rows.length 2 2 Ws
  refine⟨mB,?_,?_⟩
  ·refine bO ?_;intro eJ;refine⟨_,rfl,rfl,_,rfl,?_⟩;refine cO (λh1=>?_) (λh1=>⟨Ws,rfl,w2.le (by decide) (by decide)⟩);have EB:V.int y=V.int 2:=aeI h1;obtain⟨s0,rfl⟩:=hy (by injection EB);obtain⟨qs,g1,g2⟩:=id w2.h
   obtain⟨q0,rfl⟩:∃q0,qs=[q0]:=by
    have:=g2.1
    match qs,this with
    |[q0],_=>exact⟨q0,rfl⟩
   have g3:H2 q0=some (.tup (ak [s0])):=g2.2 0 q0 _ rfl rfl;have hs0:=(w2.w _ (ad1.mpr rfl)).1 s0 (ad1.mpr rfl);refine⟨_,rfl,w2.ins,_,rfl,l,_,_,_,rfl,rfl,aI.of g1,rfl,q0,_,_,_,rfl,rfl,bV.of g3,rfl,_,rfl,_,rfl,a,ns,7,rfl,w2.s.seq ha,by decide,λz1=>⟨_,_,rfl,rfl,⟨by decide,by decide⟩,_,rfl,_,_,rfl,rfl,(by show (0:Int)<(rows.length:Int);omega),_,_,rfl,rfl,(by show 2<=sizeLine;decide),λq hq=>?_⟩⟩;have sq:=au.upd (o:=.tup [.int s0,.int (-1 - z1 / 192 % (rows.length:Int))]) hq;have:=md (z1 / 192)
   obtain⟨qs,g1,g2,g3⟩:=(w2.same sq).add (q:=q) (u:=[s0,-1 - z1 / 192 % (rows.length:Int)]) aj ⟨λs hs=>by
    rcases aea.mp hs with rfl|hs
    ·exact hs0
    ·rw[ad1.mp hs];exact⟨by omega,by omega⟩,ad7 _⟩
   exact⟨l,_,_,rfl,rfl,g1,by rw[ad6];exact aec (show qs.length<=100 by omega) (by decide),_,rfl,g3⟩
  rintro aJ H3 ⟨Ws3,rfl,w3⟩;clear w2 hy w0 Ws
  let Lg:St->Hp->Prop:=λ aJ H'=>∃Ws v6 v7,aJ=[some (.ref a),some (.ref ta),some (.int rows.length),some (.int x),some (.int y),some (.ref l),v6,v7]/\nL H H' l rows.length 3 63 Ws
  refine⟨Lg,?_,?_⟩
  ·refine bO ?_;intro eJ;refine⟨_,rfl,rfl,_,rfl,?_⟩;refine cO (λh1=>?_) (λh1=>⟨Ws3,_,_,rfl,w3.le (by decide) (by decide)⟩);refine⟨aeA _,λt nt=>?_⟩;have st:=au.upd (o:=.tup []) nt;have qt:upd H3 t (.tup []) t=some (.tup (ak [])):=aj;generalize upd H3 t (.tup [])=H4 at st qt ⊢;refine⟨_,rfl,_,rfl,_,rfl,a,_,rfl,(w3.s.trans st).seq ha,λb nb=>?_⟩
   obtain⟨ms,em,hm⟩:∃ms:List Int,fV (ak ns) (some 8) (some 63)=ak ms/\ms.length<=63:=by
    refine⟨(ns.drop (HT.bZ (ak ns).length 0 (some 8))).take (HT.bZ (ak ns).length (ak ns).length (some 63) - HT.bZ (ak ns).length 0 (some 8)),by unfold fV ak;rw[ahg,ahh],?_⟩;rw[aeG,aeU];omega
   rw[em];have sb:=au.upd (o:=.lst (ak ms)) nb;have qb:upd H4 b (.lst (ak ms)) b=some (.lst (ak ms)):=aj;generalize upd H4 b (.lst (ak ms))=H5 at sb qb ⊢;refine⟨b,rfl,⟨_,aI.of qb⟩,?_⟩
   let Lh:Nat->St->Hp->Prop:=λi σ H'=>∃(t:Addr) (u:List Int) (v7:Option V),σ=[some (.ref a),some (.ref ta),some (.int rows.length),some (.int x),some (.int y),some (.ref l),some (.ref t),v7]/\au H5 H'/\H' t=some (.tup (ak u))/\u.length=i/\M11.fO rows.length u
   refine gX (K:=K) (a:=b) (xs:=ak ms) Lh ⟨t,[],none,rfl,au.refl _,sb _ _ qt,rfl,(λs hs=>by cases hs)⟩ (λi σ H' _ ⟨_,_,_,_,s,_⟩=>aI.of (s _ _ qb)) ?_ ?_
   ·intro i v σ H6 hi bA;refine aY ?_;intro q_;obtain⟨t,u,v7,rfl,s6,q6,hl,hu⟩:=bA;dsimp only[q_];clear q_;dsimp only[dE];refine bO ?_;intro eJ;obtain⟨z1,rfl,hz⟩:=cS hi;have Mb:=(ad4.mp hz).1;refine⟨_,rfl,_,rfl,_,_,rfl,rfl,.inr ⟨by decide,by decide⟩,_,_,rfl,rfl,(by show (0:Int)<2147483647;decide),_,rfl,_,rows.length,rfl,jt,by omega,λs h1 h2=>⟨(by show 1<=sizeLine;decide),λu' nu=>?_⟩⟩;refine⟨t,u',_,_,rfl,rfl,au.upd nu _ _ q6,aj,?_,λp' H7 s7 e7=>?_⟩
    ·rw[aL];exact aep (show u.length+ 1<=100 by omega) (by decide)
    refine⟨p',u++[s],_,rfl,s6.trans ((au.upd nu).trans s7),by rw[ints_app];exact e7,by rw[adZ,hl];rfl,λx hx=>?_⟩;rcases aei.mp hx with q|q
    ·exact hu x q
    ·rw[ad1.mp q];exact⟨h1,h2⟩
   intro σ H6 bA;refine aY ?_;intro q_;obtain⟨t,u,v7,rfl,s6,q6,hl,hu⟩:=bA;dsimp only[q_];clear q_;rw[aL]at hl;have w6:=w3.same ((st.trans sb).trans s6);refine⟨λ aJ H'=>∃Ws v6 v7,aJ=[some (.ref a),some (.ref ta),some (.int rows.length),some (.int x),some (.int y),some (.ref l),v6,v7]/\nL H H' l rows.length 3 63 Ws,?_,λ_ _ z=>z⟩;refine⟨_,rfl,aeA _,λe0 Ai=>?_⟩;have se:=au.upd (o:=.tup []) Ai;have w7:=(w6.same se).le (n':=2) (m':=63) (by decide) (by decide);refine⟨t,e0,u,[],rfl,rfl,bV.of (se _ _ q6),bV.of aj,_,rfl,?_⟩;refine cO (λ_=>?_) (λ_=>⟨_,_,_,rfl,w7.le (by decide) (by decide)⟩);obtain⟨qs,g1,g2,g3⟩:=w7.add (q:=t) (u:=u) (se _ _ q6) ⟨hu,by omega⟩;exact⟨_,rfl,w7.ins,_,rfl,l,_,_,rfl,rfl,g1,by rw[ad6];exact aec (show qs.length<=100 by omega) (by decide),_,_,_,rfl,g3⟩
  rintro aJ H4 ⟨Ws,v6,v7,rfl,w4⟩;obtain⟨qs,g1,g2⟩:=id w4.h;have qc:qs.length<=3:=by rw[g2.1];exact w4.c
  refine⟨_,rfl,l,rfl,⟨_,aI.of g1⟩,?_⟩;refine pV (α:=Unit) qs.length (λi=>(qs.map V.ref).getD i .non) (λH2 v i=>∃p,v=.ref p/\∃w,H2 p=some (.tup (ak w))/\Fw rows x w) (λH1 H2 v i s ⟨p,e,w,q,o⟩=>⟨p,e,w,s _ _ q,o⟩) (aep qc (by decide)) (λi H2 s2 hi=>ua (aI.of (s2 _ _ g1)) i (by rw[ad6];exact hi)) (λi v H2 H3 s2 hi y=>?_) (λH2 s2=>?_) (λi H5 Rr hi s5 kk=>?_) (λD H5 ys s5 hD t9 hr=>?_)
  ·obtain⟨e1,e2⟩:=qV (aI.of (s2 _ _ g1)) i v H3 (by rw[ad6];exact hi) y;exact⟨e1,by rw[ad2,e2];rfl⟩
  ·have:=oI (K:=K) (aI.of (K:=K) (s2 _ _ g1));rw[ad6]at this;exact this
  ·obtain⟨wa,e1⟩:=get_some (xs:=qs) (i:=i) hi;obtain⟨u,e2⟩:=get_some (xs:=Ws) (i:=i) (by rw[←g2.1];exact hi);have ju:=g2.2 i wa u e1 e2;obtain⟨Nm,ku⟩:=w4.w u (adY e2);rw[show (qs.map V.ref).getD i .non=V.ref wa by rw[ad2,aeo,e1];rfl];refine⟨_,rfl,_,rfl,_,rfl,(by show 1<=sizeLine;decide),λl1 n1=>?_⟩;have s1:=au.upd (o:=.lst [.int (x:Int)]) n1;have q1:upd H5 l1 (.lst [.int (x:Int)]) l1=some (.lst (ak (dY [x]))):=aj;generalize upd H5 l1 (.lst [.int (x:Int)])=H6 at s1 q1 ⊢;have TL:=s5.trans s1;refine⟨_,rfl,ta,l1,wa,rows,p,[x],u,rfl,(hT.same w4.s).same TL,cV,vN,q1,λy hy=>by rw[ad1.mp hy];exact hx,by show 1<=6;decide,TL _ _ ju,Nm,by omega,λn H7 VW xx hn3 hn4 s7=>?_⟩;have Ni:∀x,x<p->u.foldl (sf rows) x<p:=λx hx=>GC cV Nm hx
   have Tg:∀x y,x<p->y<p->u.foldl (sf rows) x=u.foldl (sf rows) y->x=y:=λx y hx hy e=>yC cV Nm hx hy e
   obtain⟨c,gy,gU,Xj⟩:=M17.ring Ni Tg hx
   have hn6:n<=6:=by
    rcases agP c n with q|q
    ·exact absurd (λy hy=>by rw[ad1.mp hy];exact Xj) (hn4 c gy q)
    ·omega
   have hmul:u.length* n<=1000:=aep (ag8 ku hn6) (by decide);refine⟨wa,_,_,rfl,rfl,s7 _ _ (TL _ _ ju),by omega,by omega,?_,λq8 H8 s8 h8=>?_⟩
   ·rw[aL,aeC];exact aep hmul (by decide)
   rw[aeC,DC]at h8;exact kk _ _ ((s1.trans s7).trans s8) ⟨q8,rfl,_,h8,λs hs=>Nm s (DE hs),by rw[Am];exact hmul,by rw[DF];exact hn3 x (ad1.mpr rfl)⟩
  obtain⟨pP,rfl,xW⟩:=y6 (P:=λ_ p=>∃w,H5 p=some (.tup (ak w))/\Fw rows x w) ys 0 (λi v hv=>hr i v hv);obtain⟨ps,tP,oP⟩:=words_of λi p e=>xW i p e
  exact k D ps _ ((w4.s.trans s5).trans (au.upd hD)) ⟨pP,aj,tP.same (au.upd hD)⟩ oP (by rw[←tP.1];rw[ad6]at t9;omega)
def Fx (K:PySem.W.Frag):Sp:=λvs H Q _=>∃(a:Addr) (ns:List Int),vs=[.ref a]/\aI K H a (ak ns)/\ns.length<=63/\∀(l ta ra pa:Addr) (rows:List (List Int)) (p x:Nat) (R P:List (List Int)) H',au H H'->H' l=some (.tup [.int rows.length,.ref ta,.ref ra,.ref pa,.int x])->TabAt H' ta rows->1<=rows.length->rows.length<=3->(∀r∈rows,M11.Pm p r)->p<=6->x<p->dn H' ra R->(∀u∈R,An rows p u)->R.length<=23->dn H' pa P->(∀u∈P,Fw rows x u)->P.length<=3->Q (.ref l) H'
theorem OL:∀j:Nat,j<4->∃L:Nat,([V.int 2,V.int 1,V.int 2,V.int 3])[j]?=some (V.int (L:Int))/\1<=L/\L<=3
 |0,_=>⟨2,rfl,by decide,by decide⟩
 |1,_=>⟨1,rfl,by decide,by decide⟩
 |2,_=>⟨2,rfl,by decide,by decide⟩
 |3,_=>⟨3,rfl,by decide,by decide⟩
theorem xh {H:Hp}{ps:List Addr}{ws:List (List Int)}(h:cw H ps ws)(k n:Nat):cw H ((ps.drop k).take n) ((ws.drop k).take n):=by
 refine⟨by rw[aeG,aeG,aeU,aeU,h.1],λi p w e1 e2=>?_⟩;rw[List.getElem?_take]at e1 e2;split at e1
 ·rename_i Mb;rw[ael Mb,List.getElem?_drop]at e2;rw[List.getElem?_drop]at e1;exact h.2 _ p w e1 e2
 ·cases e1
theorem Jq {H:Hp}{l e:Addr}{qs:List Addr}{R:List (List Int)}(hl:H l=some (.lst (qs.map V.ref)))(ht:cw H qs R)(he:H e=some (.tup (ak [])))(i:Nat)(hi:i<=qs.length):dn (upd H l (.lst ((qs.map V.ref).take i++[.ref e]++(qs.map V.ref).drop i))) l (R.take i++[[]]++R.drop i):=by
 have t1:cw H (qs.take i) (R.take i):=by have:=xh ht 0 i;rwa [List.drop_zero,List.drop_zero]at this
 have t2:cw H (qs.drop i) (R.drop i):=by
  have:=xh ht i (qs.length - i)
  rwa [afx (by rw[aeU];exact ad7 _),afx (by rw[aeU,ht.1];exact ad7 _)]at this
 refine⟨qs.take i++[e]++qs.drop i,by rw[aj,aeu,aeu,ahg,ahh];rfl,w9 (xg (t1.snoc he) t2) hl⟩
theorem Ay (T:Txt K mg A):aK P w K mg base bq 4 A.pq A.pw ["_law_script"] (Fx K):=by
 have DH:aK P w K mg base bq 3 A.pj A.pk ["_law_turns","_law_letters","_law_mask","_law_room"] Fv:=Ax T;have bT:aK P w K mg base bq 1 A.jg A.jh ["_law_script","_law_k"] (Dw K):=qj T;have Eb:aK P w K mg base bq 3 A.qu A.qv ["_law_script","_law_turns","_law_letters","_law_first"] (Jp K):=DG T;have zk:aK P w K mg base bq 1 A.ml A.mn ["_law_number","_law_many","_law_plain"] Fu:=yE T;refine T._law_group.F.ok cH (λvs H Q E h=>?_) (λbK AA outer s H vs Q E hr h=>?_)
 ·obtain⟨a,ns,rfl,_⟩:=h;rfl
 ·obtain⟨a,ns,rfl,hS,hlen,k⟩:=h
  refine⟨_,(ai (aZ (i:=1) cH.nd rfl (Or.inl rfl) (yI gY (aV cf (bp (bT) (hr.mono (by decide)) rfl T._law_cell_at.m T._law_cell_at.F.kp T._law_cell_at.b .nil aP (ae (pv 0) (ae aB ah))) aB) aB (bE _)))
   (ai (aZ (i:=2) cH.nd rfl (Or.inl rfl) (aV dC aB (aV cf (aV fG (bp (bT) (hr.mono (by decide)) rfl T._law_cell_at.m T._law_cell_at.F.kp T._law_cell_at.b .nil aP (ae (pv 0) (ae aB ah))) aB) aB)))
   (ai (cj (bU (eQ (pv 1))
    (aw (aZ (i:=2) cH.nd rfl (Or.inl rfl) (aV dC aB (aV cf (aV fG (bp (bT) (hr.mono (by decide)) rfl T._law_cell_at.m T._law_cell_at.F.kp T._law_cell_at.b .nil aP (ae (pv 0) (ae aB ah))) aB) aB))))
    bB))
   (ai (aZ (i:=3) cH.nd rfl (Or.inl rfl) (bJ bR (cR (ae aB (ae aB (ae aB (ae aB ah yi) yi) yi) yi)) (aV cf (bp (bT) (hr.mono (by decide)) rfl T._law_cell_at.m T._law_cell_at.F.kp T._law_cell_at.b .nil aP (ae (pv 0) (ae aB ah))) aB) (λ_ _=>rfl)))
   (ai (aZ (i:=4) cH.nd rfl (Or.inl rfl) (cR ah))
   (ai (du aez rfl (mN rfl T.fK (ae (pv 3) ah)) (bN (i:=5) cH.nd rfl (Or.inl rfl))
    (aw (aX (dk aeg aeq aer b6 (pv 4) (ae (bp (zk) (hr.mono (by decide)) rfl T._law_turning.m T._law_turning.F.kp T._law_turning.b .nil aP (ae (aV cf (bp (bT) (hr.mono (by decide)) rfl T._law_cell_at.m T._law_cell_at.F.kp T._law_cell_at.b .nil aP (ae (pv 0) (ae (aV dC aB (pv 5)) ah))) aB) (ae (pv 2) (ae (pv 1) ah)))) ah)))))
   (ai (aZ (i:=6) cH.nd rfl (Or.inl rfl) (aV cf (bp (bT) (hr.mono (by decide)) rfl T._law_cell_at.m T._law_cell_at.F.kp T._law_cell_at.b .nil aP (ae (pv 0) (ae aB ah))) aB))
   (ai (cj (bU (eQ (pv 1))
    (aw (aZ (i:=6) cH.nd rfl (Or.inl rfl) aB))
    bB))
   (ai (aZ (i:=7) cH.nd rfl (Or.inl rfl) (aV cf (aV fG (bp (bT) (hr.mono (by decide)) rfl T._law_cell_at.m T._law_cell_at.F.kp T._law_cell_at.b .nil aP (ae (pv 0) (ae aB ah))) aB) (pv 2)))
   (ai (aZ (i:=8) cH.nd rfl (Or.inl rfl) (bp (DH) (hr.mono (by decide)) rfl T._law_rules.m T._law_rules.F.kp T._law_rules.b .nil aP (ae (pv 4) (ae (pv 3) (ae (pv 6) (ae aB ah))))))
   (ai (cj (bU (bu gY (aV cf (bp (bT) (hr.mono (by decide)) rfl T._law_cell_at.m T._law_cell_at.F.kp T._law_cell_at.b .nil aP (ae (pv 0) (ae aB ah))) aB) aB (bE _))
    (aw (aX (dk aeg PySem.F.slot_list_insert PySem.F.type_list_insert yU (pv 8) (ae (aV cf (aV fG (bp (bT) (hr.mono (by decide)) rfl T._law_cell_at.m T._law_cell_at.F.kp T._law_cell_at.b .nil aP (ae (pv 0) (ae aB ah))) aB) (aV dC (bL bX rfl T.fT aeW (ae (pv 8) ah)) aB)) (ae (cM ah) ah)))))
    bB))
   (ai (cj (bU (PW.pt (tJ (bu gY (aV cf (bp (bT) (hr.mono (by decide)) rfl T._law_cell_at.m T._law_cell_at.F.kp T._law_cell_at.b .nil aP (ae (pv 0) (ae aB ah))) aB) aB (bE _)) (qK (bu rT (aV cf (bp (bT) (hr.mono (by decide)) rfl T._law_cell_at.m T._law_cell_at.F.kp T._law_cell_at.b .nil aP (ae (pv 0) (ae aB ah))) aB) aB (bE _)))))
    (aw (aZ (i:=8) cH.nd rfl (Or.inl rfl) (aV Bf (pv 8) (oB yM (pv 8) yK (lO aB)))))
    bB))
   (aw (bM (cM (ae (pv 3) (ae (pv 4) (ae (pv 8) (ae (bp (Eb) (hr.mono (by decide)) rfl T._law_part.m T._law_part.F.kp T._law_part.b .nil aP (ae (pv 0) (ae (pv 4) (ae (pv 3) (ae (pv 7) ah))))) (ae (pv 7) ah)))))))))))))))))))),?_⟩
  try dsimp only[bz,cD]
  refine HW ?_;intro adl adn ado u_9 u_8 Rn CL vJ tf lD gL fD;refine⟨_,rfl,a,ns,0,rfl,hS,by omega,λz0=>?_⟩;refine⟨_,_,rfl,rfl,(by show (0:Int)<2;decide),rfl,?_⟩;refine⟨_,rfl,a,ns,0,rfl,hS,by omega,λz1=>?_⟩;refine⟨_,_,rfl,rfl,⟨by decide,by decide⟩,_,_,rfl,rfl,(by show (0:Int)<4;decide),_,_,rfl,rfl,?_⟩;have a1:=afF (z1 / 2) (show (4:Int)≠0 by decide);have a2:=afs (z1 / 2) (show (0:Int)<4 by decide)
  let pL:St->Hp->Prop:=λ aJ H'=>∃(m:Nat) (pl:Bool),aJ=[some (.ref a),some (.bl pl),some (.int m),none,none,none,none,none,none]/\H'=H/\1<=m/\m<=6
  refine⟨pL,?_,?_⟩
  ·refine bO ?_;intro eJ;refine⟨_,rfl,_,rfl,?_⟩;refine cO (λ_=>?_) (λ_=>?_)
   ·refine⟨_,rfl,a,ns,0,rfl,hS,by omega,λz2=>?_⟩;refine⟨_,_,rfl,rfl,⟨by decide,by decide⟩,_,_,rfl,rfl,(by show (0:Int)<6;decide),_,_,rfl,rfl,?_⟩;have c1:=afF (z2 / 2) (show (6:Int)≠0 by decide);have c2:=afs (z2 / 2) (show (0:Int)<6 by decide);refine⟨(1+ z2 / 2 % 6).toNat,decide (V.int (z0 % 2)=V.int 0),?_,rfl,by omega,by omega⟩;rw[show (((1+ z2 / 2 % 6).toNat:Nat):Int)=1+ z2 / 2 % 6 by omega];rfl
   ·refine⟨(2+ z1 / 2 % 4).toNat,decide (V.int (z0 % 2)=V.int 0),?_,rfl,by omega,by omega⟩;rw[show (((2+ z1 / 2 % 4).toNat:Nat):Int)=2+ z1 / 2 % 4 by omega];rfl
  intro aJ H' bA;refine aY ?_;intro q_;obtain⟨m,pl,rfl,rfl,vE,vM⟩:=bA;dsimp only[q_];clear q_;refine⟨by show 4<=sizeLine;decide,λq hq=>?_⟩;have sq:au H' (upd H' q (.lst [V.int 2,V.int 1,V.int 2,V.int 3])):=au.upd hq;have Xm:upd H' q (.lst [V.int 2,V.int 1,V.int 2,V.int 3]) q=some (.lst [V.int 2,V.int 1,V.int 2,V.int 3]):=aj;generalize upd H' q (.lst [V.int 2,V.int 1,V.int 2,V.int 3])=H1 at sq Xm ⊢;refine⟨_,rfl,a,ns,1,rfl,sq.seq hS,by omega,λz2=>?_⟩;obtain⟨j,hj,TN⟩:=lS z2 (n:=4) (by decide);obtain⟨L,hL,jt,uz⟩:=OL j TN;refine⟨_,_,rfl,rfl,(by show (0:Int)<4;decide),q,_,_,.int (L:Int),rfl,rfl,aI.of Xm,(by show lI _ (z2 % 4)=_;rw[show z2 % 4=(j:Int) from hj];exact c9 hL),?_⟩;refine⟨aeA _,λlt bG=>?_⟩;have s2:au H1 (upd H1 lt (.lst [])):=au.upd bG;have h2:upd H1 lt (.lst []) lt=some (.lst (([]:List Addr).map V.ref)):=aj;have Td:H' lt=none:=sq.free bG;generalize upd H1 lt (.lst [])=H2 at s2 h2 ⊢;refine⟨_,rfl,(L:Int),rfl,by omega,by omega,?_⟩
  let wU:Nat->St->Hp->Prop:=λi σ H3=>∃(rs:List Addr) (rows:List (List Int)) (v5:Option V),σ=[some (.ref a),some (.bl pl),some (.int m),some (.int L),some (.ref lt),v5,none,none,none]/\au H' H3/\H3 lt=some (.lst (rs.map V.ref))/\oN H3 rs rows/\rows.length=i/\(∀r∈rows,M11.Pm m r)
  refine kb (lo:=0) (n:=((L:Int)).toNat) wU ⟨[],[],none,rfl,sq.trans s2,h2,⟨rfl,λi r ns h1=>by simp at h1⟩,rfl,by simp⟩ ?_ ?_
  ·intro i σ H3 hi bA;refine aY ?_;intro q_;obtain⟨rs,rows,v5,rfl,s3,h3,yA,p9,cV⟩:=bA;dsimp only[q_];clear q_;dsimp only[dE];refine bO ?_;intro eJ;have Mb:i<L:=by omega
   refine⟨_,rfl,.inl ⟨rfl,_,aI.of h3⟩,_,rfl,_,rfl,_,_,rfl,rfl,a,ns,2+ i,?_,s3.seq hS,by omega,λz3=>?_⟩
   ·show [V.ref a,V.int (2+ (0+ (i:Int)))]=[V.ref a,V.int ((2+ i:Nat):Int)];rw[show (2:Int)+ (0+ (i:Int))=((2+ i:Nat):Int) by omega]
   have c1:=afF z3 (show (720:Int)≠0 by decide);refine⟨_,_,rfl,rfl,(by show (0:Int)<720;decide),_,rfl,_,rfl,z3 % 720,m,pl,rfl,vE,by omega,c1,λr row H4 s4 h4 hP=>?_⟩;have Jm:=s4 _ _ h3;have cK:r≠lt:=Jk h4 (λz=>by have:=hP.len;rw[z]at this;simp at this;omega) Jm;refine⟨lt,_,_,rfl,rfl,Jm,?_,?_⟩
   ·rw[ad6,yA.1,p9];exact aec (show i<=3 by omega) (by decide)
   refine⟨rs++[r],rows++[row],_,rfl,λb o e=>by rw[ao (av e Td)];exact s4 _ _ (s3 _ _ e),by rw[aj,aeu];rfl,⟨(Al (yA.same s4) h4).1,λi' q' ms e1 e2=>?_⟩,by rw[adZ,p9];rfl,λr' hr'=>?_⟩
   ·have zt:=(Al (yA.same s4) h4).2 i' q' ms e1 e2
    have hnm:ms≠[]:=λz=>by
     have ER:ms∈rows++[row]:=adY e2
     have hPm:M11.Pm m ms:=by
      rcases aei.mp ER with y|y
      ·exact cV ms y
      ·rw[ad1.mp y];exact hP
     have:=hPm.len;rw[z]at this;simp at this;omega
    rw[ao (Jk zt hnm Jm)];exact zt
   ·rcases aei.mp hr' with y|y
    ·exact cV r' y
    ·rw[ad1.mp y];exact hP
  intro σ H3 bA;refine aY ?_;intro q_;obtain⟨rs,rows,v5,rfl,s3,h3,yA,p9,cV⟩:=bA;dsimp only[q_];clear q_;rw[aeC]at p9;subst p9;have hT:TabAt H3 lt rows:=⟨rs,h3,yA⟩;refine⟨_,rfl,a,ns,5,rfl,s3.seq hS,by omega,λz5=>⟨_,_,rfl,rfl,(by show (0:Int)<531441;decide),?_⟩⟩
  let Lg:St->Hp->Prop:=λ aJ H'=>∃mk:Int,aJ=[some (.ref a),some (.bl pl),some (.int m),some (.int rows.length),some (.ref lt),v5,some (.int mk),none,none]/\H'=H3
  refine⟨Lg,?_,?_⟩
  ·refine bO ?_;intro eJ;refine⟨_,rfl,_,rfl,?_⟩;exact cO (λ_=>⟨_,rfl,rfl⟩) (λ_=>⟨_,rfl,rfl⟩)
  rintro aJ H3' ⟨mk,rfl,e3⟩;replace e3:=e3.symm;subst e3;refine⟨_,rfl,a,ns,6,rfl,s3.seq hS,by omega,λz6=>?_⟩;obtain⟨x,hx,Ng⟩:=lS (z6 / 4) (n:=m) (by omega);refine⟨_,_,rfl,rfl,⟨by decide,by decide⟩,_,rfl,_,_,rfl,rfl,(by show (0:Int)<(m:Int);omega),?_⟩;rw[show (λ(i j:Int)=>V.int (i % j)) (z6 / 4) (m:Int)=V.int (x:Int) from afh V.int hx];refine⟨_,rfl,_,rfl,_,rfl,lt,rows,m,mk,rfl,hT,jt,uz,cV,vM,λlr R H4 s4 hR aO vP nlr=>?_⟩
  let Lf:St->Hp->Prop:=λ aJ H'=>∃R,aJ=[some (.ref a),some (.bl pl),some (.int m),some (.int rows.length),some (.ref lt),v5,some (.int mk),some (.int x),some (.ref lr)]/\au H3 H'/\dn H' lr R/\(∀u∈R,An rows m u)/\R.length<=22
  refine⟨Lf,?_,?_⟩
  ·refine bO ?_;intro eJ;refine⟨_,rfl,a,ns,5,rfl,(s3.trans s4).seq hS,by omega,λz7=>⟨_,_,rfl,rfl,(by show (0:Int)<4;decide),rfl,_,rfl,cO (λ_=>?_) (λ_=>⟨R,rfl,s4,hR,aO,by omega⟩)⟩⟩;obtain⟨qs,g1,g2⟩:=hR;have qc:qs.length<=21:=by rw[g2.1];exact vP
   refine⟨_,rfl,.inl ⟨rfl,_,aI.of g1⟩,_,rfl,a,ns,6,rfl,(s3.trans s4).seq hS,by omega,λz8=>⟨_,_,rfl,rfl,⟨by decide,by decide⟩,_,rfl,lr,_,rfl,.inl (aI.of g1),_,_,rfl,rfl,_,_,rfl,rfl,(by show (0:Int)<((qs.map V.ref).length:Int)+ 1;omega),aeA _,λe0 Ai=>?_⟩⟩;obtain⟨i,hi,sU⟩:=lS (z8 / 24) (n:=qs.length+ 1) (by omega);have se:=au.upd (o:=.tup []) Ai;refine⟨lr,_,i,.ref e0,rfl,?_,se _ _ g1,by rw[ad6];exact aec (show qs.length<=100 by omega) (by decide),by rw[ad6];omega,by omega,?_⟩
   ·show [V.int (z8 / 24 % (((qs.map V.ref).length:Int)+ 1)),V.ref e0]=[V.int (i:Int),V.ref e0];rw[ad6,show ((qs.length:Int)+ 1)=((qs.length+ 1:Nat):Int) by omega,hi]
   refine⟨R.take i++[[]]++R.drop i,rfl,λb o e=>by rw[ao (av e nlr)];exact se _ _ (s4 _ _ e),Jq (se _ _ g1) (g2.same se) aj i (by omega),λu hu=>?_,by rw[adZ,adZ,aeG,aeU];show _+ 1+ _<=_;omega⟩;rcases aei.mp hu with hu|hu
   ·rcases aei.mp hu with hu|hu
    ·exact aO u (List.mem_of_mem_take hu)
    ·rw[ad1.mp hu];exact⟨(λs hs=>by cases hs),by show 0<=36;decide,λx _=>rfl⟩
   ·exact aO u (List.mem_of_mem_drop hu)
  intro aJ H5 bA;refine aY ?_;intro q_;obtain⟨R,rfl,s5,hR,aO,vP⟩:=bA;dsimp only[q_];clear q_
  let ZM:St->Hp->Prop:=λ aJ H'=>∃lr R,aJ=[some (.ref a),some (.bl pl),some (.int m),some (.int rows.length),some (.ref lt),v5,some (.int mk),some (.int x),some (.ref lr)]/\au H3 H'/\dn H' lr R/\(∀u∈R,An rows m u)/\R.length<=23
  refine⟨ZM,?_,?_⟩
  ·refine bO ?_;intro eJ;refine⟨_,rfl,a,ns,5,rfl,(s3.trans s5).seq hS,by omega,λz7=>⟨_,_,rfl,rfl,(by show (0:Int)<4;decide),rfl,_,rfl,cO (λ_=>?_) (λ_=>cU ⟨lr,R,rfl,s5,hR,aO,by omega⟩)⟩⟩;refine⟨_,rfl,a,ns,7,rfl,(s3.trans s5).seq hS,by omega,λz7=>⟨_,_,rfl,rfl,(by show (0:Int)<8;decide),rfl,_,rfl,cO (λ_=>?_) (λ_=>⟨lr,R,rfl,s5,hR,aO,by omega⟩)⟩⟩;obtain⟨qs,g1,g2⟩:=hR;refine⟨_,rfl,_,rfl,_,rfl,lr,_,rfl,aI.of g1,λb nb=>?_⟩;have sb:=au.upd (o:=.lst (fV (qs.map V.ref) none (some 1))) nb
   obtain⟨i,n,e,hn⟩:∃i n:Nat,fV (qs.map V.ref) none (some 1)=((qs.drop i).take n).map V.ref/\n<=1:=by
    refine⟨_,_,by unfold fV;rw[ahg,ahh],?_⟩;have:=HT.qT (qs.map V.ref).length (qs.map V.ref).length 1;rw[show ((1:Nat):Int)=1 from rfl]at this;rw[this];omega
   have eb:upd H5 b (.lst (fV (qs.map V.ref) none (some 1))) b=some (.lst (((qs.drop i).take n).map V.ref)):=by rw[aj,e]
   generalize upd H5 b (.lst (fV (qs.map V.ref) none (some 1)))=H6 at sb eb ⊢;have g3:=g2.same sb;have qc:qs.length<=22:=by rw[g2.1];exact vP
   refine⟨lr,b,_,_,rfl,rfl,sb _ _ g1,eb,?_,λl9 n9=>?_⟩
   ·rw[ad6,ad6,aeG];exact aep (show qs.length+ min n _<=100 by omega) (by decide)
   have s9:=au.upd (o:=.lst (qs.map V.ref++((qs.drop i).take n).map V.ref)) n9;refine⟨l9,R++(R.drop i).take n,rfl,(s5.trans sb).trans s9,⟨qs++(qs.drop i).take n,by rw[aj,aeu],(xg g3 (xh g3 i n)).same s9⟩,λu hu=>?_,by rw[adZ,aeG];omega⟩;rcases aei.mp hu with hu|hu
   ·exact aO u hu
   ·exact aO u (List.mem_of_mem_drop (List.mem_of_mem_take hu))
  intro aJ H6 bA;refine aY ?_;intro q_;obtain⟨lr',R,rfl,s6,hR,aO,vP⟩:=bA;dsimp only[q_];clear q_;refine⟨_,rfl,_,rfl,_,rfl,_,rfl,_,rfl,_,rfl,_,rfl,a,lt,ns,rows,m,x,rfl,(s3.trans s6).seq hS,hlen,hT.same s6,jt,uz,cV,vM,Ng,λpa P H7 s7 hP ZN Xn=>?_⟩;refine⟨_,rfl,by show 5<=sizeLine;decide,λl nl=>?_⟩;exact k l lt lr' pa rows m x R P _ (((s3.trans s6).trans s7).trans (au.upd nl)) aj ((hT.same (s6.trans s7)).same (au.upd nl)) jt uz cV vM Ng ((hR.same s7).same (au.upd nl)) aO vP (hP.same (au.upd nl)) ZN Xn
def Jr (C:Addr):Sp:=λvs H Q _=>∃(r ta pa:Addr) (S:RS) (a:RA) (R:Nat->Int->Nat->Prop) (rows:List (List Int)) (p:Nat) (bC:List Nat),vs=[.ref r,.int rows.length,.ref ta,.ref pa]/\ay C H r S a/\Good S [] R/\S.made<=2000/\TabAt H ta rows/\(∀q∈rows,M11.Pm p q)/\p<=6/\1<=rows.length/\rows.length<=3/\H pa=some (.lst (ak (dY bC)))/\bC.length=S.made/\(∀x∈bC,x<p)/\(∀c,c<S.made->bC.getD (S.ax c) 0=bC.getD c 0)/\(∀c z d,S.by c z=some d->bC.getD d 0=sf rows (bC.getD c 0) z)/\∀H',au H H'->Q (.bl true) H'
theorem Fy {bC:List Nat}{c:Nat}(h:c<bC.length):(dY bC)[c]?=some ((bC.getD c 0:Nat):Int):=by
 unfold dY;rw[aeo,ad2,adX h];rfl
theorem DJ (T:Txt K mg A):aK P w K mg base bq 2 A.qx A.qy ["_law_rooms","_law_letters","_law_turns","_law_points"] (Jr A.aq):=by
 have fu:aK P w K mg base bq 1 A.fj A.fk ["self"] (nY A.aq):=jz T;have dQ:aK P w K mg base bq 1 A.fI A.fJ ["self","room"] (rB A.aq):=jo T;have uN:aK P w K mg base bq 1 A.pf A.ph ["_law_found"] Fn:=Aw T;have dA:aK P w K mg base bq 1 A.fQ A.fS ["self","room","step"] (sF A.aq):=iA T;have gQ:aK P w K mg base bq 1 A.iW A.iX ["_law_turns","_law_point","_law_word"] rP:=nF T;refine T._law_true.F.ok eD (λvs H Q E h=>?_) (λbK AA outer s H vs Q E hr h=>?_)
 ·obtain⟨r,ta,pa,S,a,R,rows,p,bC,rfl,_⟩:=h;rfl
 ·obtain⟨r,ta,pa,S,a,R,rows,p,bC,rfl,h,g,hm,hT,cV,vN,jt,vO,qi,dU,hpx,kF,uj,k⟩:=h
  refine⟨_,(ai (aZ (i:=4) eD.nd rfl (Or.inl rfl) (oy (pv 0) (aH T) T.eh.m (fu) (hr.mono (by decide)) T.eh.b .nil aP))
   (ai (du aez rfl (mN rfl T.fK (ae (bL bX rfl T.fT aeW (ae (pv 3) ah)) ah)) (bN (i:=5) eD.nd rfl (Or.inl rfl))
    (ai (aZ (i:=6) eD.nd rfl (Or.inl rfl) (bH (pv 0) (aH T) T.dy.m (dQ) (hr.mono (by decide)) T.dy.b .nil aP (ae (pv 5) ah)))
    (aw (cj (bU (PW.pt (AB (A3 (eQ (bp (uN) (hr.mono (by decide)) rfl T._law_whole.m T._law_whole.F.kp T._law_whole.b .nil aP (ae (pv 6) ah)))) (AB (bu xQ (pv 6) (pv 4) rfl) (A2 (bu rT (bJ bR (pv 3) (pv 6) (λ_ _=>rfl)) (bJ bR (pv 3) (pv 5) (λ_ _=>rfl)) (bE _))))))
     (aw (bM uQ))
     bB)))))
   (ai (du aez rfl (eG (pv 4)) (bN (i:=5) eD.nd rfl (Or.inl rfl))
    (aw (du aez rfl (mO rfl T.fK (ae aB (ae (aV dC (pv 1) aB) ah))) (bN (i:=7) eD.nd rfl (Or.inl rfl))
     (aw (du aez rfl (eG (cR (ae (pv 7) (ae (gg eR (pv 7)) ah)))) (bN (i:=8) eD.nd rfl (Or.inl rfl))
      (ai (aZ (i:=9) eD.nd rfl (Or.inl rfl) (bH (pv 0) (aH T) T.dB.m (dA) (hr.mono (by decide)) T.dB.b .nil aP (ae (pv 5) (ae (pv 8) ah))))
      (ai (bU (bu qN (pv 9) iN (bE _))
       (aw DQ)
       bB)
      (ai (cj (bU (PW.pt (AB (A3 (eQ (bp (uN) (hr.mono (by decide)) rfl T._law_whole.m T._law_whole.F.kp T._law_whole.b .nil aP (ae (pv 9) ah)))) (A2 (bu xQ (pv 9) (pv 4) rfl))))
       (aw (bM uQ))
       bB))
      (aw (bU (bu rT (bJ bR (pv 3) (pv 9) (λ_ _=>rfl)) (bp (gQ) (hr.mono (by decide)) rfl T._law_moved.m T._law_moved.F.kp T._law_moved.b .nil aP (ae (pv 2) (ae (bJ bR (pv 3) (pv 5) (λ_ _=>rfl)) (ae (cM (ae (pv 8) ah)) ah)))) (bE _))
       (aw (bM uQ))
       bB))))))))))
   (aw (bM (yI gY (aF (pv 0) rfl) (bL bX rfl T.fT aeW (ae (pv 3) ah)) (bE _))))))),?_⟩
  try dsimp only[bz,cD]
  refine jV ?_;intro lD gL fD;refine⟨_,rfl,r,a.dx,_,rfl,h.ins,cz _ _ _ (by decide +kernel),r,S,a,rfl,h,g.wf,by omega,λl1 n1=>?_⟩;rw[show (List.range S.made).filter (λc=>decide (S.bI[c]?=some c))=bP S from rfl];have s1:=au.upd (o:=.lst (ak (nI (bP S)))) n1;have q1:upd H l1 (.lst (ak (nI (bP S)))) l1=some (.lst (ak (nI (bP S)))):=aj;generalize upd H l1 (.lst (ak (nI (bP S))))=H1 at s1 q1 ⊢;replace h:=h.same s1;replace hT:=hT.same s1;replace qi:=s1 _ _ qi;replace k:∀H',au H1 H'->Q (.bl true) H':=λH' s'=>k H' (s1.trans s')
  clear s1 n1;have at_:∀{c},c<S.made->lI (ak (dY bC)) (c:Int)=some (.int ((bC.getD c 0:Nat):Int)):=λ{c} hc=>c9 (cI (Fy (by omega)))
  have std:∀{c},c<S.made->S.ax c=c->((c:Int)∈nI (bP S)):=λ{c} h1 h2=>aeL.mpr ⟨c,(rO g.wf).mpr ⟨h1,h2⟩,rfl⟩
  refine⟨_,rfl,pa,_,rfl,.inl (aI.of qi),((ak (dY bC)).length:Int),rfl,by rw[aL,oj];omega,by rw[aL,oj];omega,?_⟩;rw[aeC,aL,oj,dU]
  let gf:Nat->St->Hp->Prop:=λi σ H3=>∃v5 v6,σ=[some (.ref r),some (.int rows.length),some (.ref ta),some (.ref pa),some (.ref l1),v5,v6,none,none,none]/\H3=H1
  refine kb (lo:=0) (n:=S.made) gf ⟨none,none,rfl,rfl⟩ ?_ ?_
  ·rintro i σ H3 hi ⟨v5,v6,rfl,rfl⟩;dsimp only[dE];refine Ce ?_;intro eJ Iw;rw[ahb];have e1:=mW (S:=S) (c:=i) (by rw[g.wf.e];exact hi);obtain⟨Xo,TQ⟩:=g.el i hi;refine⟨_,rfl,r,a.dx,_,rfl,h.ins,cz _ _ _ (by decide +kernel),_,rfl,r,S,a,i,_,rfl,h,e1,?_⟩
   let mB:St->Hp->Prop:=λ aJ H'=>aJ=[some (.ref r),some (.int rows.length),some (.ref ta),some (.ref pa),some (.ref l1),some (.int (i:Int)),some (.int (S.ax i:Int)),none,none,none]/\H'=H3
   refine⟨mB,?_,?_⟩
   ·refine bO ?_;intro eJ;refine⟨_,rfl,_,rfl,true,rfl,cU ?_⟩;refine⟨_,rfl,_,rfl,_,l1,_,rfl,rfl,q1,_,rfl,?_⟩;rw[aey (std (by omega) TQ)];refine cU ?_;refine⟨_,rfl,_,rfl,pa,_,_,_,rfl,rfl,aI.of qi,at_ (c:=S.ax i) (by omega),_,rfl,_,rfl,pa,_,_,_,rfl,rfl,aI.of qi,at_ (c:=i) hi,rfl,_,rfl,?_⟩;exact GB (by rw[kF i hi]) ⟨rfl,rfl⟩
   rintro aJ H' ⟨rfl,rfl⟩;exact⟨_,_,rfl,rfl⟩
  rintro sN H3 ⟨v5,v6,rfl,rfl⟩;refine⟨_,rfl,l1,rfl,⟨_,aI.of q1⟩,?_⟩
  let Le:Nat->St->Hp->Prop:=λi σ H4=>∃v5 v7 v8 v9,σ=[some (.ref r),some (.int rows.length),some (.ref ta),some (.ref pa),some (.ref l1),v5,v6,v7,v8,v9]/\au H3 H4
  refine gX (K:=K) (a:=l1) (xs:=ak (nI (bP S))) Le ⟨_,none,none,none,rfl,λ_ _ e=>e⟩ (λi σ H4 _ ⟨_,_,_,_,_,s⟩=>aI.of (s _ _ q1)) ?_ ?_
  ·intro i v σ H4 hi bA;refine aY ?_;intro q_;obtain⟨v5',v7,v8,v9,rfl,s4⟩:=bA;dsimp only[q_];clear q_;dsimp only[dE];refine bO ?_;intro eJ;obtain⟨z,rfl,hz⟩:=cS hi
   obtain⟨c,hc,rfl⟩:∃c,c∈bP S/\z=(c:Int):=by
    obtain⟨c,h1,h2⟩:=aeL.mp (adY hz);exact⟨c,h1,h2.symm⟩
   obtain⟨tm,xC⟩:=(rO g.wf).mp hc;refine⟨_,rfl,_,_,rfl,rfl,1,(rows.length:Int)+ 1,rfl,⟨by decide,by decide,by omega,by omega⟩,?_⟩
   let Lh:Nat->St->Hp->Prop:=λi σ H5=>∃v7 v8 v9,σ=[some (.ref r),some (.int rows.length),some (.ref ta),some (.ref pa),some (.ref l1),some (.int (c:Int)),v6,v7,v8,v9]/\au H3 H5
   refine kb (lo:=1) (n:=((rows.length:Int)+ 1 - 1).toNat) Lh ⟨_,_,_,rfl,s4⟩ ?_ ?_
   ·rintro j σ H5 hj ⟨v7',v8',v9',rfl,s5⟩;dsimp only[dE];refine bO ?_;intro eJ;refine⟨_,rfl,_,rfl,_,rfl,(by show 2<=sizeLine;decide),λl3 n3=>?_⟩;have s6:=au.upd (o:=.lst [.int (1+ (j:Int)),.int (-(1+ (j:Int)))]) n3;have q6:upd H5 l3 (.lst [.int (1+ (j:Int)),.int (-(1+ (j:Int)))]) l3=some (.lst (ak [1+ (j:Int),-(1+ (j:Int))])):=aj;generalize upd H5 l3 (.lst [.int (1+ (j:Int)),.int (-(1+ (j:Int)))])=H6 at s6 q6 ⊢;have Xp:=s5.trans s6;refine⟨l3,rfl,⟨_,aI.of q6⟩,?_⟩
    let ZO:Nat->St->Hp->Prop:=λi σ H7=>∃v8 v9,σ=[some (.ref r),some (.int rows.length),some (.ref ta),some (.ref pa),some (.ref l1),some (.int (c:Int)),v6,some (.int (1+ (j:Int))),v8,v9]/\au H6 H7
    refine gX (K:=K) (a:=l3) (xs:=ak [1+ (j:Int),-(1+ (j:Int))]) ZO ⟨_,_,rfl,au.refl _⟩ (λi σ H7 _ ⟨_,_,_,s⟩=>aI.of (s _ _ q6)) ?_ ?_
    ·rintro m v σ H7 iQ ⟨ZP,ZQ,rfl,s7⟩;dsimp only[dE];refine Kk ?_;intro eJ w_3 RN Iw;obtain⟨s,rfl,hs⟩:=cS iQ
     have dF:s≠0/\s.natAbs<=rows.length:=by
      have:=adY hs;simp only[aea,aeT,agj]at this;rcases this with rfl|rfl
      ·exact⟨by omega,by omega⟩
      ·exact⟨by omega,by omega⟩
     have Ao:=Xp.trans s7;have h7:=h.same Ao;have TR:=Ao _ _ qi;refine⟨_,rfl,r,a.dx,_,rfl,h7.ins,cz _ _ _ (by decide +kernel),_,rfl,_,rfl,r,S,a,c,s,rfl,h7,by rw[g.wf.w];exact tm,?_⟩
     cases eb:S.by c s with
     |none=>
      exact⟨_,rfl,rfl,_,rfl,cO (λ_=>⟨_,_,rfl,s7⟩) (λz=>absurd rfl z)⟩
     |some d=>
      obtain⟨_,zF,_,hd2⟩:=g.st _ _ _ eb;rw[show (Option.map (λn:Nat=>V.int (n:Int)) (some d)).getD V.non=V.int (d:Int) from rfl];refine⟨_,rfl,rfl,_,rfl,cO (λz=>by cases aeI z) (λ_=>?_)⟩
      let ZR:St->Hp->Prop:=λ aJ H'=>aJ=[some (.ref r),some (.int rows.length),some (.ref ta),some (.ref pa),some (.ref l1),some (.int (c:Int)),v6,some (.int (1+ (j:Int))),some (.int s),some (.int (d:Int))]/\H'=H7
      refine⟨ZR,?_,?_⟩
      ·refine bO ?_;intro eJ;refine⟨_,rfl,_,rfl,true,rfl,cU ?_⟩;refine⟨_,rfl,_,rfl,_,l1,_,rfl,rfl,Ao _ _ q1,_,rfl,?_⟩;rw[aey (std zF hd2)];exact cU ⟨rfl,rfl⟩
      rintro aJ H' ⟨rfl,rfl⟩;have Tj:bC.getD c 0<p:=hpx _ (by rw[ad2,adX (show c<bC.length by omega)];exact List.getElem_mem _);refine⟨_,rfl,_,rfl,pa,_,_,_,rfl,rfl,aI.of TR,at_ zF,_,rfl,_,rfl,_,rfl,pa,_,_,_,rfl,rfl,aI.of TR,at_ tm,_,rfl,(by show 1<=sizeLine;decide),λt nt=>?_⟩;have st:=au.upd (o:=.tup [.int s]) nt;refine⟨ta,t,rows,p,bC.getD c 0,[s],rfl,(hT.same Ao).same st,cV,Tj,by omega,aj,λz hz=>by rw[ad1.mp hz];exact dF,by omega,rfl,_,rfl,?_⟩;exact GB (by rw[uj c s d eb];rfl) ⟨_,_,rfl,s7.trans st⟩
    ·rintro σ H7 ⟨ZP,ZQ,rfl,s7⟩;exact⟨_,_,_,rfl,Xp.trans s7⟩
   ·rintro σ H5 ⟨v7',v8',v9',rfl,s5⟩;exact⟨_,_,_,_,rfl,s5⟩
  intro σ4 H4 bA;refine aY ?_;intro q_;obtain⟨v5',v7,v8,v9,rfl,s4⟩:=bA;dsimp only[q_];clear q_;refine⟨_,rfl,r,_,a.dx,_,_,rfl,(h.same s4).ins,aH T,T.uw,yZ _ _ _,_,rfl,pa,_,rfl,.inl (aI.of (s4 _ _ qi)),rfl,?_⟩;rw[aL,oj,dU,aey rfl];exact k H4 s4
theorem Ec {K:PySem.W.Frag}{H:Hp}{l:Addr}{cs:List Nat}{tt:TT}{te:TE}{fv:St}{Q:VK}(P:Nat->Bool)(hl:H l=some (.lst (ak (nI cs))))(hm:cs.length<=100000)(ht:∀(c:Nat) (Rr:Bool->Hp->Prop),c∈cs->Rr (P c) H->tt (some (.int (c:Int))::fv) H Rr)
 (he:∀(c:Nat) (Rr:VK),Rr (.int (c:Int)) H->te (some (.int (c:Int))::fv) H Rr) (k:∀D ds,H D=none->(∀d∈ds,d∈cs/\P d=true)->ds.length<=cs.length->Q (.ref D) (upd H D (.lst (ak (nI ds))))):BG tt te fv Q (xn K l) H:=by
 have el:(ak (nI cs)).length=cs.length:=by rw[aL,cX]
 refine⟨λi m ys H2=>m=cs.length - i/\i<=cs.length/\H2=H/\∃ds:List Nat,ys=ak (nI ds)/\ds.length<=i/\∀d∈ds,d∈cs/\P d=true,⟨cs.length,by simp,aeA _,rfl,[],rfl,ad7 _,λd hd=>by cases hd⟩,?_⟩;rintro i m ys H2 ⟨rfl,hi,rfl,ds,rfl,xS,lH⟩;have hlen:(ak (nI ds)).length<=i:=by rw[aL,cX];exact xS
 by_cases bG:i<cs.length
 ·refine .inr ⟨ua (aI.of hl) i (by omega),aec (aep hlen (show i<=100000 by omega)) (by decide),λx H3 t9=>?_⟩;obtain⟨rfl,hx⟩:=qV (aI.of hl) i x H3 (by omega) t9;obtain⟨z,rfl,hz⟩:=cS hx
  obtain⟨c,hc,rfl⟩:∃c,c∈cs/\z=(c:Int):=by
   obtain⟨c,h1,h2⟩:=aeL.mp (adY hz);exact⟨c,h1,h2.symm⟩
  refine ht c _ hc ?_
  cases hP:P c with
  |false=>exact⟨cs.length - (i+ 1),by omega,rfl,bG,rfl,ds,rfl,by omega,lH⟩
  |true=>
   refine he c _ ⟨cs.length - (i+ 1),by omega,rfl,bG,rfl,ds++[c],?_,by rw[adZ];show _+ 1<=_;omega,λd hd=>?_⟩
   ·unfold ak nI;rw[aeu,aeu];rfl
   ·rcases aei.mp hd with h|h
    ·exact lH d h
    ·rw[ad1.mp h];exact⟨hc,hP⟩
 ·have e:i=cs.length:=by omega
  subst e;refine .inl ⟨?_,aep hlen (aep hm (by decide)),λD hD=>k D ds hD lH xS⟩;have:=oI (K:=K) (aI.of (K:=K) hl);rw[el]at this;exact this
theorem Js {S:RS}(h:jf S)(wf:S.Wf)(c:Nat)(z:Int)(ks:List Int):jf (S.make c z ks):=by
 have e:∀b,(S.make c z ks).ax b=if b=S.made then S.made else S.ax b:=λb=>mS wf c z ks b
 refine⟨λb hb cK=>?_,λb hb=>?_,λb hb=>?_⟩
 ·have hb:b<S.made+ 1:=hb;rw[e]at cK;by_cases q:b=S.made
  ·rw[ael q,q]at cK;exact absurd rfl cK
  ·rw[aed q]at cK;exact h.a b (by omega) cK
 ·have hb:b∈S.bf:=hb;have:=h.c b hb;rw[e,aed (by omega)];exact h.b b hb
 ·have hb:b∈S.bf:=hb;have:=h.c b hb;show b<S.made+ 1;omega
theorem TV {S S':RS}{pend:List Way}{R:Nat->Int->Nat->Prop}{ks:List Int}(l:r9 S pend S'):Good S pend R->(∀c z d,R c z d->z∈ks)->Good S' [] R/\S'.bf.length+ S'.stand<=S.bf.length+ S.stand:=by
 induction l with
 |nil S=>exact λg _=>⟨g,ad7 _⟩
 |take _ ih=>
  intro g hk;obtain⟨a1,a2,a3,a4,a5⟩:=g.take hk;obtain⟨g2,e2⟩:=ih a1 hk;refine⟨g2,aep e2 ?_⟩;rcases a5 with ⟨q1,q2,q3⟩|⟨q1,c,z,x,y,_,_,_,_,_,q2,q3,_⟩
  ·rw[q1,q3];exact ad7 _
  ·rw[q3,adZ];have:([max x y]:List Nat).length=1:=rfl;omega
theorem Vi {ws:List (List Int)}{nr:Nat}{S S':RS}{R:Nat->Int->Nat->Prop}{ks:List Int}(t:Tr ws nr S S')(hw:∀w∈ws,∀z∈w,z∈ks/\-z∈ks):Good S [] R->(∀a z b,R a z b->z∈ks)->∃R',Good S' [] R'/\(∀a z b,R' a z b->z∈ks)/\S'.bf.length+ S'.stand<=S.bf.length+ S.stand:=by
 induction t with
 |refl=>exact λg k=>⟨R,g,k,ad7 _⟩
 |step _ ra la ih=>
  rename_i S1 S2 which word start m c d z _;intro g k;obtain⟨R1,g1,k1,e1⟩:=ih g k;have hz:=hw word (adY ra.w) z (adY ra.hz)
  have pX:∀a y b,jy R1 c z d a y b->y∈ks:=by
   rintro a y b (r|⟨_,e,_⟩|⟨_,e,_⟩)
   ·exact k1 _ _ _ r
   ·rw[e];exact hz.1
   ·rw[e];exact hz.2
  obtain⟨g2,e2⟩:=TV la (g1.lay z ra.hc.1 ra.hd.1 _) pX;exact⟨_,g2,pX,aep e2 e1⟩
def UT (rows:List (List Int))(p:Nat)(q:Nat)(z:Int)(q':Nat):Prop:=q<p/\z∈cy (2* rows.length)/\q'=sf rows q z
theorem GJ {rows:List (List Int)}{p:Nat}:∀q z q1 q2,UT rows p q z q1->UT rows p q z q2->q1=q2:=λ_ _ _ _ h1 h2=>h1.2.2.trans h2.2.2.symm
theorem zl {rows:List (List Int)}{p:Nat}:∀{w:List Int} {q q':Nat},UW (UT rows p) q w q'->w.foldl (sf rows) q=q'
 |[],q,q',h=>h
 |z::w,q,q',⟨r,h1,h2⟩=>by
  rw[agq,←h1.2.2];exact zl h2
theorem TX {rows:List (List Int)}{p x0 M:Nat}{bC:List Nat}{rs ps:List (List Int)}(cV:∀r∈rows,M11.Pm p r)(bG:∀c,bC.getD c 0<p)(h0:bC.getD 0 0=x0)(hr:∀u∈rs,An rows p u)(hp:∀u∈ps,Fw rows x0 u):VS (rs++ps) rs.length M (λc=>bC.getD c 0) (UT rows p):=by
 refine⟨λq z q' h=>?_,GJ,λwhich word start m c d z hw hn _ hz u1 u2=>?_⟩
 ·obtain⟨h1,h2,h3⟩:=h;have hz:=fc.mp h2;obtain⟨k1,k2⟩:=sM cV h1 hz.1 hz.2;exact⟨by rw[h3];exact k1,fc.mpr ⟨by omega,by rw[af3];exact hz.2⟩,by rw[h3,k2]⟩
 ·have aO:M11.fO rows.length word/\word.foldl (sf rows) (bC.getD start 0)=bC.getD start 0:=by
   by_cases TY:which<rs.length
   ·rw[aej TY]at hw;have:=hr _ (adY hw);exact⟨this.1,this.2.2 _ (bG start)⟩
   ·rw[aee (by omega)]at hw;have:=hp _ (adY hw);rcases hn with hn|rfl
    ·exact absurd hn TY
    ·rw[h0];exact⟨this.1,this.2.2⟩
  have dF:=aO.1 z (adY hz);refine⟨bG c,fc.mpr dF,?_⟩;have e1:=zl u1;have e2:=zl u2;have e3:=aO.2;rw[show word=word.take m++(z::word.drop (m+ 1)) by rw[←drop_cons hz,List.take_append_drop],agb,e1,agq]at e3;exact yC cV (w:=word.drop (m+ 1)) (λs hs=>aO.1 s (List.mem_of_mem_drop hs)) (bG d) (sM cV (bG c) dF.1 dF.2).1 (by rw[e2,e3])
structure Dd (C:Addr) (Hb H:Hp) (r pl lb:Addr) (ms:List Int) (S:RS) (a:RA) (R:Nat->Int->Nat->Prop) (rows:List (List Int)) (p x0:Nat) (bC:List Nat) (B n:Nat):Prop where
 rm:i7 C H r S a R (cy (2* rows.length)) B
 m0:0<S.made
 m:S.made<=n+ 1
 l:S.L=rows.length
 pa:H pl=some (.lst (ak (dY bC)))
 np:¬a.own r pl
 ln:bC.length=S.made
 px:∀x∈bC,x<p
 p0:bC.getD 0 0=x0
 u:∀a z b,R a z b->UT rows p (bC.getD a 0) z (bC.getD b 0)
 b:B<=10+ 800* n
 w:S.bf.length+ S.stand<=n+ 1
 sH:au Hb H
 hl:H lb=some (.lst (ak ms))
 nl:¬a.own r lb
 ow:∀b,a.own r b->Hb b=none
section
variable {C:Addr} {Hb H H':Hp} {r pl lb:Addr} {ms:List Int} {S S':RS} {a a':RA} {R R':Nat->Int->Nat->Prop} {rows:List (List Int)} {p x0:Nat} {bC:List Nat} {B B' n n':Nat}
theorem Dd.same (h:Dd C Hb H r pl lb ms S a R rows p x0 bC B n)(s:au H H'):Dd C Hb H' r pl lb ms S a R rows p x0 bC B n:=⟨h.rm.same s,h.m0,h.m,h.l,s _ _ h.pa,h.np,h.ln,h.px,h.p0,h.u,h.b,h.w,h.sH.trans s,s _ _ h.hl,h.nl,h.ow⟩
theorem Dd.step (h:Dd C Hb H r pl lb ms S a R rows p x0 bC B n)(f:∀b o,¬a.own r b->H b=some o->H' b=some o)(o2:∀b,a'.own r b->a.own r b\/H b=none)(rm:i7 C H' r S' a' R' (cy (2* rows.length)) B')(em:S'.made=S.made)(eL:S'.L=S.L)(u:∀a z b,R' a z b->UT rows p (bC.getD a 0) z (bC.getD b 0))(hn:n<=n')(hB:B'<=10+ 800* n')(hw:S'.bf.length+ S'.stand<=n'+ 1):Dd C Hb H' r pl lb ms S' a' R' rows p x0 bC B' n':=by
 have nw:∀{b o},H b=some o->¬a.own r b->¬a'.own r b:=λ{b o} e n z=>(o2 b z).elim n (λq=>by rw[q]at e;cases e)
 refine⟨rm,by rw[em];exact h.m0,by rw[em];have:=h.m;omega,eL.trans h.l,f _ _ h.np h.pa,nw h.pa h.np,by rw[em];exact h.ln,h.px,h.p0,u,hB,hw,λb o e=>f b o (λz=>by rw[h.ow b z]at e;cases e) (h.sH _ _ e),f _ _ h.nl h.hl,nw h.hl h.nl,λb z=>?_⟩;rcases o2 b z with q|q
 ·exact h.ow b q
 ·exact same_none h.sH q
theorem Dd.lt (h:Dd C Hb H r pl lb ms S a R rows p x0 bC B n)(hp:0<p)(c:Nat):bC.getD c 0<p:=by
 rw[ad2]
 cases e:bC[c]? with
 |none=>exact hp
 |some y=>exact h.px y (adY e)
theorem Dd.made (h:Dd C Hb H r pl lb ms S a R rows p x0 bC B n)(jt:1<=rows.length)(vO:rows.length<=3)(cV:∀r∈rows,M11.Pm p r)(hp:0<p)(hn:n<=60){c:Nat}{z:Int}(hc:c<S.made)(ec:S.ax c=c)(hb:S.by c z=none)(h1:z≠0)(h2:z.natAbs<=rows.length)(f:∀b o,¬a.own r b->H b=some o->H' b=some o)(q:ay C H' r (S.make c z (cy (2* S.L))) a')(o2:∀b,a'.own r b->a.own r b\/H b=none)(Ab:Hb pl=none)(E7:lb≠pl):
 Dd C Hb (upd H' pl (.lst (ak (dY bC)++[.int ((sf rows (bC.getD c 0) z:Nat):Int)]))) r pl lb ms (S.make c z (cy (2* S.L))) a' (jy R c z S.made) rows p x0 (bC++[sf rows (bC.getD c 0) z]) (B+ 2) (n+ 1):=by
 have nw:∀{b o},H b=some o->¬a.own r b->¬a'.own r b:=λ{b o} e n z=>(o2 b z).elim n (λq=>by rw[q]at e;cases e)
 have Xq:=nw h.pa h.np;have LD:=f _ _ h.nl h.hl;have pa':=f _ _ h.np h.pa;have hz:=fc.mpr ⟨h1,h2⟩;obtain⟨k1,k2⟩:=sM cV (h.lt hp c) h1 h2
 have old:∀b,b<S.made->(bC++[sf rows (bC.getD c 0) z]).getD b 0=bC.getD b 0:=λb hb=>by
  simp only[ad2];rw[aej (by rw[h.ln];exact hb)]
 have new:(bC++[sf rows (bC.getD c 0) z]).getD S.made 0=sf rows (bC.getD c 0) z:=by
  rw[ad2,←h.ln,aee (ad7 _),afJ];rfl
 have dF:(S.make c z (cy (2* S.L))).stand<=S.stand+ 1:=by
  have e:∀b,(S.make c z (cy (2* S.L))).ax b=if b=S.made then S.made else S.ax b:=λb=>mS h.rm.g.wf c z (cy (2* S.L)) b
  show (List.range (S.made+ 1)).countP (λb=>decide ((S.make c z (cy (2* S.L))).ax b=b))<=_;rw[afI,List.countP_append]
  have e1:(List.range S.made).countP (λb=>decide ((S.make c z (cy (2* S.L))).ax b=b))=S.stand:=by
   unfold RS.stand;refine List.countP_congr λb hb=>?_
   have:=aeQ.mp hb;rw[e,aed (by omega)]
  rw[e1];have:=List.countP_le_length (p:=λb=>decide ((S.make c z (cy (2* S.L))).ax b=b)) (l:=[S.made]);simp only[aes,afG]at this;omega
 have g':=h.rm.g.make hc ec hb (cy (2* S.L));have hk:=Fo (L:=rows.length) (c:=c) (d:=S.made) h.rm.k h1 h2
 have rm':i7 C H' r (S.make c z (cy (2* S.L))) a' (jy R c z S.made) (cy (2* rows.length)) (B+ 2):=by
  have r1:=h.rm.rb;have r2:=h.rm.wb;have r3:=h.m;have r4:=h.b;refine⟨q,g',Js h.rm.w h.rm.g.wf c z _,hk,by show S.made+ 1<=_;omega,h.rm.l,?_,?_⟩
  ·show (S.rows++[_]).length+ _<=_;rw[adZ];show _+ 1+ _<=_;omega
  ·have:(S.make c z (cy (2* S.L))).bf=S.bf:=rfl;rw[this];have:=h.w;omega
 refine⟨rm'.keep (λb o hb e=>by rw[ao (λz=>Xq (by rw[←z];exact hb))];exact e) (λb xs e=>by rw[ao (cF e pa' (by intro z;cases z))];exact e),Nat.succ_pos _,by show S.made+ 1<=_;have:=h.m;omega,h.l,by rw[aj];unfold ak dY;rw[aeu,aeu];rfl,Xq,by rw[adZ,h.ln];rfl,λy hy=>?_,by rw[old 0 h.m0];exact h.p0,?_,by have:=h.b;omega,by have:=h.w;show S.bf.length+ _<=_;omega,λb o e=>by rw[ao (av e Ab)];exact f b o (λz=>by rw[h.ow b z]at e;cases e) (h.sH _ _ e),by rw[ao E7];exact LD,nw h.hl h.nl,λb z=>?_⟩
 ·rcases aei.mp hy with w|w
  ·exact h.px y w
  ·rw[ad1.mp w];exact k1
 ·rintro b y d (w|⟨e1,e2,e3⟩|⟨e1,e2,e3⟩)
  ·obtain⟨l1,l2,_⟩:=h.rm.g.rl _ _ _ w;rw[old b l1,old d l2];exact h.u _ _ _ w
  ·subst e1 e2 e3;rw[old _ hc,new];exact⟨h.lt hp _,hz,rfl⟩
  ·subst e1 e2 e3;rw[old _ hc,new];exact⟨k1,fc.mpr ⟨by omega,by rw[af3];exact h2⟩,k2.symm⟩
 ·rcases o2 b z with w|w
  ·exact h.ow b w
  ·exact same_none h.sH w
end
theorem Fz {H:Hp}{l a b:Addr}{x y:Dt}(h:H l=some (.tup [.ref a,.ref b]))(h1:ck H 7 (.ref a) x)(h2:ck H 7 (.ref b) y):ck H 8 (.ref l) (.t [x,y]):=by
 refine .t h rfl λj v d e1 e2=>?_
 match j,e1,e2 with
 |0,e1,e2=>cases e1;cases e2;exact h1
 |1,e1,e2=>cases e1;cases e2;exact h2
 |j+ 2,e1,e2=>simp at e1
def said (n:Nat):Dt:=.t [.s [115,97,105,100],.i (n:Int)]
section
variable {C:Addr} {Hb H H':Hp} {r pl lb t:Addr} {ms:List Int} {S S':RS} {a a':RA} {R R':Nat->Int->Nat->Prop} {rows:List (List Int)} {p x0:Nat} {bC:List Nat} {B B' n n':Nat}
theorem Dd.lay (h:Dd C Hb H r pl lb ms S a R rows p x0 bC B n)(vO:rows.length<=3)(cV:∀r∈rows,M11.Pm p r)(hp:0<p)(hn:n<=60)(at':Nat){c d:Nat}{z:Int}(nt:H t=none)(hc:c<S.made)(hd:d<S.made)(h1:z≠0)(h2:z.natAbs<=rows.length)(hu:bC.getD d 0=sf rows (bC.getD c 0) z):
 ∃(row:Dt) (I:RS->List Way->Prop) (μ:RS->List Way->Nat),ay C (upd H t (.tup [.str (tx [115,97,105,100]),.int (at':Int)])) r S a/\S.rows.length<=1000000/\ck (upd H t (.tup [.str (tx [115,97,105,100]),.int (at':Int)])) 2 (.ref t) row/\mR row/\I { S with rows:=S.rows++[row] } [(c,z,d)]/\(∀S pend w,I S (pend++[w])->uB S/\w.1<S.made/\w.2.2<S.made/\pend.length<=1000000/\I (S.takeIn pend w).1 (S.takeIn pend w).2/\μ (S.takeIn pend w).1 (S.takeIn pend w).2 < μ S (pend++[w]))/\
  ∀S' a' H',(∀b o,¬a.own r b->upd H t (.tup [.str (tx [115,97,105,100]),.int (at':Int)]) b=some o->H' b=some o)->ay C H' r S' a'->I S' []->(∀b,a'.own r b->a.own r b\/upd H t (.tup [.str (tx [115,97,105,100]),.int (at':Int)]) b=none)->Dd C Hb H' r pl lb ms S' a' (jy R c z d) rows p x0 bC (B+ 1) (n+ 1):=by
 have hm:=h.m;have hr:=h.rm.rb;have hB:=h.b;have hw:=h.w;have sl:=wV S;have pX:=Fo (L:=rows.length) (c:=c) (d:=d) h.rm.k h1 h2;obtain⟨k1,k2⟩:=sM cV (h.lt hp c) h1 h2;have st:=au.upd (o:=.tup [.str (tx [115,97,105,100]),.int (at':Int)]) nt
 have IU:mu (cy (2* rows.length)).length { S with rows:=S.rows++[said at'] } [(c,z,d)]<=1000000:=by
  unfold mu;have:S.stand* ((cy (2* rows.length)).length+ 1)<=101* 201:=ag8 (by omega) (by rw[mz];omega);show S.stand* ((cy (2* rows.length)).length+ 1)+ 1<=_;omega
 have gl:=h.rm.g.lay z hc hd (S.rows++[said at']);refine⟨said at',MK (jy R c z d) S.made S.L (B+ 1) (n+ 1) 1000000 (cy (2* rows.length)) { S with rows:=S.rows++[said at'] } [(c,z,d)],mu (cy (2* rows.length)).length,h.rm.at_.same st,by omega,.t aj rfl λj v x e1 e2=>?_,.t (by show 2<=100000;decide) λx hx=>?_,⟨gl,rfl,rfl,?_,hw,IU,λ_ q=>q⟩,Dg pX (by omega) (by rw[mz];omega) (by omega) (by omega) (by decide),λS' a' H' f q i o2=>?_⟩
 ·match j,e1,e2 with
  |0,e1,e2=>cases e1;cases e2;exact .s
  |1,e1,e2=>cases e1;cases e2;exact .i
  |j+ 2,e1,e2=>simp at e1
 ·simp only[aea,aeT,agj]at hx;rcases hx with rfl|rfl
  ·exact .s
  ·exact .i
 ·show (S.rows++[_]).length+ S.stand<=_;rw[adZ];show _+ 1+ _<=_;omega
 ·obtain⟨g',em,eL,rb,wb,_,re⟩:=i;obtain⟨_,w',_⟩:=(re S' (.nil S')).all gl pX ⟨h.rm.w.a,h.rm.w.b,h.rm.w.c⟩;refine h.step (λb o n e=>f b o n (st _ _ e)) (λb z=>(o2 b z).imp id (same_none st)) ⟨q,g',w',pX,by rw[em];omega,h.rm.l,rb,by omega⟩ em eL ?_ (agh _) (by omega) (by omega);rintro b y e (w|⟨e1,e2,e3⟩|⟨e1,e2,e3⟩)
  ·exact h.u _ _ _ w
  ·subst e1 e2 e3;exact⟨h.lt hp _,fc.mpr ⟨h1,h2⟩,hu⟩
  ·subst e1 e2 e3;exact⟨h.lt hp _,fc.mpr ⟨by omega,by rw[af3];exact h2⟩,by rw[hu,k2]⟩
theorem Dd.close (h:Dd C Hb H r pl lb ms S a R rows p x0 bC B n)(cV:∀r∈rows,M11.Pm p r)(hp:0<p){rs ps:List (List Int)}(hr:∀u∈rs,An rows p u)(sW:∀u∈ps,Fw rows x0 u)(f:∀b o,¬a.own r b->H b=some o->H' b=some o)(rm:i7 C H' r S' a' R' (cy (2* rows.length)) B')(o2:∀b,a'.own r b->a.own r b\/H b=none)(em:S'.made=S.made)(eL:S'.L=S.L)(tr:Tr (rs++ps) rs.length S S')(hB:B'<=B+ 700):∃R'',Dd C Hb H' r pl lb ms S' a' R'' rows p x0 bC B' (n+ 1):=by
 have dF:∀w∈rs++ps,∀z∈w,z∈cy (2* rows.length)/\-z∈cy (2* rows.length):=λw hw z hz=>by
  have:M11.fO rows.length w:=(aei.mp hw).elim (λq=>(hr w q).1) (λq=>(sW w q).1);have:=this z hz;exact⟨fc.mpr this,fc.mpr ⟨by omega,by rw[af3];exact this.2⟩⟩
 obtain⟨P,gP,wP,_,_,_,kP,uP⟩:=tr.sound (TX (M:=S.made) cV (h.lt hp) h.p0 hr sW) dF h.rm.g h.rm.w (ad7 _) h.rm.k h.u;obtain⟨_,_,_,ws⟩:=Vi tr dF h.rm.g h.rm.k;have:=h.b;have:=h.w;exact⟨P,h.step f o2 ⟨rm.at_,gP,wP,kP,rm.m,rm.l,rm.rb,rm.wb⟩ em eL uP (agh _) (by omega) (by omega)⟩
theorem Dd.Nn (h:Dd C Hb H r pl lb ms S a R rows p x0 bC B n):(∀c,c<S.made->bC.getD (S.ax c) 0=bC.getD c 0)/\∀c z d,S.by c z=some d->bC.getD d 0=sf rows (bC.getD c 0) z:=
 ⟨λc hc=>(Ct (φ:=λc=>bC.getD c 0) GJ h.u (h.rm.g.cg c hc)).symm,λc z d e=>(Ig (φ:=λc=>bC.getD c 0) h.rm.g GJ h.u e).2.2⟩
theorem Dd.up (h:Dd C Hb H r pl lb ms S a R rows p x0 bC B n):Dd C Hb H r pl lb ms S a R rows p x0 bC B (n+ 1):=h.step (λb o _ e=>e) (λb z=>.inl z) h.rm rfl rfl h.u (agh _) (by have:=h.b;omega) (by have:=h.w;omega)
theorem Dd.fits (h:Dd C Hb H r pl lb ms S a R rows p x0 bC B n)(hL:rows.length<=3):∀l∈S.ways,l.length<=100000:=λl hl=>by
 obtain⟨c,hc⟩:=ae9 hl;have:S.way c=l:=by unfold RS.way;rw[ad2,hc];rfl
 rw[←this];have:=h.rm.g.Cb h.rm.k c;rw[mz]at this;omega
end
theorem T1 (T:Txt K mg A):aK P w K mg base bq 10 A.L8 A.L9 ["_law_script"] (AU K):=by
 have DK:aK P w K mg base bq 4 A.pq A.pw ["_law_script"] (Fx K):=Ay T;have xj:aK P w K mg base bq 3 A.hU A.j5 ["self","letters"] (Ma A.aq):=vm T;have FC:aK P w K mg base bq 9 A.za A.zb ["rooms","rules","part"] (Fm A.aq A.aD A.az):=Ld T;have fu:aK P w K mg base bq 1 A.fj A.fk ["self"] (nY A.aq):=jz T;have qG:aK P w K mg base bq 1 A.mJ A.mK ["_law_number","_law_letters"] Dx:=uL T;have gQ:aK P w K mg base bq 1 A.iW A.iX ["_law_turns","_law_point","_law_word"] rP:=nF T;have vQ:aK P w K mg base bq 2 A.qx A.qy ["_law_rooms","_law_letters","_law_turns","_law_points"] (Jr A.aq):=DJ T;have tu:aK P w K mg base bq 6 A.jN A.jO ["self","going"] (Dh A.aq A.aD A.az):=rL T;have mL:aK P w K mg base bq 5 A.jE A.jF ["self","room","step","other","row"] (AV A.aq):=pJ T;have dA:aK P w K mg base bq 1 A.fQ A.fS ["self","room","step"] (sF A.aq):=iA T;have DL:aK P w K mg base bq 3 A.pz A.pA ["self","room","step"] (Ip A.aq):=Av T;refine T.law.F.ok eS (λvs H Q E h=>?_) (λbK AA outer s H vs Q E hr h=>?_)
 ·obtain⟨sc,ns,rfl,_⟩:=h;rfl
 ·obtain⟨sc,ns,rfl,ha,Hj,k⟩:=h;have hu8:=aec (Nat.add_le_add_left (by decide:8<=64) _) hr.units;have hu:=ag0 (jJ hr)
  refine⟨_,(ai (tL (bp (DK) (hr.mono (by decide)) rfl T._law_group.m T._law_group.F.kp T._law_group.b .nil aP (ae (pv 0) ah)) (tK rfl (dZ (bN (i:=1) eS.nd rfl (Or.inl rfl)) (dZ (bN (i:=2) eS.nd rfl (Or.inl rfl)) (dZ (bN (i:=3) eS.nd rfl (Or.inl rfl)) (dZ (bN (i:=4) eS.nd rfl (Or.inl rfl)) (dZ (bN (i:=5) eS.nd rfl (Or.inl rfl)) qL)))))))
   (ai (aZ (i:=6) eS.nd rfl (Or.inl rfl) (cM (ae (di tT rfl T.i6 ae2 (ae (pv 3) ah)) (ae (di tT rfl T.i6 ae2 (ae (pv 4) ah)) ah))))
   (ai (aZ (i:=7) eS.nd rfl (Or.inl rfl) (yJ (wH T) (xj) (hr.mono (by decide)) rfl T.Oq T.jl.b .nil aP (ae (pv 1) ah)))
   (ai (aZ (i:=8) eS.nd rfl (Or.inr rfl) (cR (ae (pv 5) ah)))
   (ai (du aez rfl (BR rfl T.qD (oB yM (pv 0) (lO aB) (lO aB))) (tK rfl (dZ (bN (i:=9) eS.nd rfl (Or.inl rfl)) (dZ (bN (i:=10) eS.nd rfl (Or.inl rfl)) qL)))
    (ai (aZ (i:=11) eS.nd rfl (Or.inl rfl) (oy (pv 7) (aH T) T.eh.m (fu) (hr.mono (by decide)) T.eh.b .nil aP))
    (ai (aZ (i:=12) eS.nd rfl (Or.inl rfl) (bJ bR (pv 11) (aV cf (aV cf (aV qM (aV dC (pv 10) (pv 9)) aB) aB) (bL bX rfl T.fT aeW (ae (pv 11) ah))) (λ_ _=>rfl)))
    (ai (aZ (i:=13) eS.nd rfl (Or.inl rfl) (bp (qG) (hr.mono (by decide)) rfl T._law_step.m T._law_step.F.kp T._law_step.b .nil aP (ae (aV cf (aV qM (aV dC (pv 10) (aV qM (pv 9) (pv 9))) aB) aB) (ae (pv 1) ah))))
    (ai (aZ (i:=14) eS.nd rfl (Or.inr rfl) (bp (gQ) (hr.mono (by decide)) rfl T._law_moved.m T._law_moved.F.kp T._law_moved.b .nil aP (ae (pv 2) (ae (bJ bR (pv 8) (pv 12) (λ_ _=>rfl)) (ae (cM (ae (pv 13) ah)) ah)))))
    (ai (BK (iy:=15) eS.nd rfl (Or.inl rfl) (fns:=["_law_points","_law_point"]) (ixs:=[8,14]) (cl:=_) rfl (eG (pv 11)) (ja rfl rfl rfl (by decide +kernel) rfl (by decide +kernel) rfl (by decide +kernel) (by decide +kernel) rfl rfl rfl rfl rfl rfl rfl) (λC s H ex=>(bu gY (bJ (BM (K:=K) rfl) (pv 1) (pv 0) (λ_ _=>rfl)) (pv 2) (bE _))) (λC s H ex=>(pv 0)))
    (ai (cj (bU (PW.pt (tJ (bu gY (aV cf (pv 10) aB) aB (bE _)) (qK (bu (yV hu) (pv 15) (cR ah) (bE _)))))
     (aw (aX (bH (pv 7) (aH T) T.mU.m (mL) (hr.mono (by decide)) T.mU.b .nil aP (ae (pv 12) (ae (pv 13) (ae (bJ bR (pv 15) (aV cf (aV fG (pv 10) aB) (bL bX rfl T.fT aeW (ae (pv 15) ah))) (λ_ _=>rfl)) (ae (cM (ae (uT (l:=[115,97,105,100]) rfl) (ae (pv 9) ah))) ah)))))))
     (aw (cj (bU (bu qN (bH (pv 7) (aH T) T.dB.m (dA) (hr.mono (by decide)) T.dB.b .nil aP (ae (pv 12) (ae (pv 13) ah))) iN (bE _))
      (ai (aX (bH (pv 7) (aH T) T.sA.m (DL) (hr.mono (by decide)) T.sA.b .nil aP (ae (pv 12) (ae (pv 13) ah))))
      (aw (aX (dk aeg aeq aer b6 (pv 8) (ae (pv 14) ah)))))
      bB)))))
    (aw (cj (bU (PW.pt (tJ (bu gY (aV cf (pv 9) aB) aB (bE _)) (qK (bu AF (aV cf (pv 10) aB) aB (bE _)))))
     (ai (aX (bp (FC) (hr.mono (by decide)) rfl T.close.m T.close.F.kp T.close.b .nil aP (ae (pv 7) (ae (bJ fL (pv 6) aB (λ_ _=>rfl)) (ae (bJ fL (pv 6) aB (λ_ _=>rfl)) ah)))))
     (aw (bU (A3 (eQ (bp (vQ) (hr.mono (by decide)) rfl T._law_true.m T._law_true.F.kp T._law_true.b .nil aP (ae (pv 7) (ae (pv 1) (ae (pv 2) (ae (pv 8) ah)))))))
      (aw (bM uQ))
      bB)))
     bB))))))))))
   (ai (aX (bp (FC) (hr.mono (by decide)) rfl T.close.m T.close.F.kp T.close.b .nil aP (ae (pv 7) (ae (bJ fL (pv 6) aB (λ_ _=>rfl)) (ae (bJ fL (pv 6) aB (λ_ _=>rfl)) ah)))))
   (aw (bM (GV (bp (vQ) (hr.mono (by decide)) rfl T._law_true.m T._law_true.F.kp T._law_true.b .nil aP (ae (pv 7) (ae (pv 1) (ae (pv 2) (ae (pv 8) ah))))) (GU (yI (N3 hu8) (pv 6) (cM (ae (pv 3) (ae (pv 4) ah))) (bE _)))))))))))),?_⟩
  try dsimp only[bz,cD]
  refine r6 ?_;intro CL vJ tf lD gL fD;have ha:aI K H sc (ak ns):=ha;refine⟨_,rfl,sc,ns,rfl,ha,Hj,λl ta ra pa rows p x R0 P0 H1 s1 hl hT jt vO cV vN hx hR0 GK vP hP0 GL Xn=>?_⟩;have Jt:0<p:=by omega
  obtain⟨qR,gR,tR⟩:=hR0;obtain⟨qP,gP,tP⟩:=hP0;refine⟨l,_,rfl,bV.of hl,rfl,_,_,rfl,_,_,rfl,_,_,rfl,_,_,rfl,_,_,rfl,rfl,?_⟩;refine⟨_,rfl,ra,_,rfl,.inl (aI.of gR),λb1 n1=>?_⟩;have s2:=au.upd (o:=.lst (qR.map V.ref)) n1;have e1:upd H1 b1 (.lst (qR.map V.ref)) b1=some (.lst (qR.map V.ref)):=aj;generalize upd H1 b1 (.lst (qR.map V.ref))=H2 at s2 e1 ⊢;refine⟨_,rfl,pa,_,rfl,.inl (aI.of (s2 _ _ gP)),λb2 n2=>?_⟩;have s3:=au.upd (o:=.lst (qP.map V.ref)) n2;have e2:upd H2 b2 (.lst (qP.map V.ref)) b2=some (.lst (qP.map V.ref)):=aj;generalize upd H2 b2 (.lst (qP.map V.ref))=H3 at s3 e2 ⊢;refine⟨(by show 2<=sizeLine;decide),λhd n3=>?_⟩;have s4:=au.upd (o:=.tup [.ref b1,.ref b2]) n3;have e3:upd H3 hd (.tup [.ref b1,.ref b2]) hd=some (.tup [.ref b1,.ref b2]):=aj;generalize upd H3 hd (.tup [.ref b1,.ref b2])=Hb at s4 e3 ⊢;have lJ:=(s2.trans s3).trans s4;have T2:=(s3.trans s4) _ _ e1;have T3:=s4 _ _ e2;have Np:=tR.same lJ;have Nq:=tP.same lJ;have gRb:=lJ _ _ gR;have gPb:=lJ _ _ gP;have T4:=hT.same lJ;have kI:=(s1.trans lJ).seq ha;clear s1 s2 s3 s4 lJ e1 e2 n1 n2 n3 tR tP gR gP hT hl ha;refine⟨_,rfl,λr dx nx Ag sX=>⟨r,dx,rows.length,rfl,aj,jt,by omega,λa0 H5 k5 h5 Xr=>⟨rfl,?_⟩⟩⟩;obtain⟨s5,CT⟩:=OD (C:=A.aq) (S:=RS.new rows.length (cy (2* rows.length))) nx Ag sX k5 Xr;clear k5 Xr;refine⟨_,rfl,(by show 1<=sizeLine;decide),λpl Ab=>?_⟩;have s6:=au.upd (o:=.lst [.int (x:Int)]) Ab;have q6:upd H5 pl (.lst [.int (x:Int)]) pl=some (.lst (ak (dY [x]))):=aj;generalize upd H5 pl (.lst [.int (x:Int)])=H6 at s6 q6 ⊢;refine⟨_,rfl,_,rfl,_,rfl,sc,_,rfl,(s5.trans s6).seq kI,λlb Ju=>?_⟩
  obtain⟨ms,em,hm⟩:∃ms:List Int,fV (ak ns) (some 8) (some 32)=ak ms/\ms.length<=24:=by
   refine⟨(ns.drop (HT.bZ (ak ns).length 0 (some 8))).take (HT.bZ (ak ns).length (ak ns).length (some 32) - HT.bZ (ak ns).length 0 (some 8)),by unfold fV ak;rw[ahg,ahh],?_⟩;have w1:=HT.qT (ak ns).length (ak ns).length 32;have w2:=HT.qT (ak ns).length 0 8;rw[show ((32:Nat):Int)=32 from rfl]at w1;rw[show ((8:Nat):Int)=8 from rfl]at w2;rw[aeG,aeU,w1,w2];omega
  rw[em];have s7:=au.upd (o:=.lst (ak ms)) Ju;have q7:upd H6 lb (.lst (ak ms)) lb=some (.lst (ak ms)):=aj;generalize upd H6 lb (.lst (ak ms))=H7 at s7 q7 ⊢;have npb:Hb pl=none:=same_none s5 Ab;have E7:lb≠pl:=λz=>by rw[z,q6]at Ju;cases Ju
  have d0:Dd A.aq Hb H7 r pl lb ms (RS.new rows.length (cy (2* rows.length))) a0 (λ_ _ _=>False) rows p x [x] 10 0:=by
   have ee:∀c,c<1->(RS.new rows.length (cy (2* rows.length))).ax c=c:=λc hc=>by have:c=0:=by omega
                                                                                rw[this];rfl
   have hs:=wV (RS.new rows.length (cy (2* rows.length)));have vE:(RS.new rows.length (cy (2* rows.length))).made=1:=rfl;have Nr:(RS.new rows.length (cy (2* rows.length))).bf=[]:=rfl;have hr0:(RS.new rows.length (cy (2* rows.length))).rows=[]:=rfl;refine⟨⟨(h5.same s6).same s7,Kj _ _,⟨λc hc e=>absurd (ee c hc) e,(λc hc=>by rw[Nr]at hc;cases hc),(λc hc=>by rw[Nr]at hc;cases hc)⟩,(λ_ _ _ z=>z.elim),by rw[vE];decide,by rw[mz];omega,by rw[hr0];show 0+ _<=_;omega,by rw[Nr];show 0+ _<=_;omega⟩,by rw[vE];decide,by rw[vE];decide,rfl,s7 _ _ q6,h5.yk Ab,rfl,λy hy=>by rw[ad1.mp hy];exact hx,rfl,(λ_ _ _ z=>z.elim),by decide,by rw[Nr];show 0+ _<=_;omega,(s5.trans s6).trans s7,q7,h5.yk (same_none s6 Ju),CT⟩
  clear h5 CT s5 s6 s7 q6 q7 Ab Ju nx Ag sX em
  have pX:∀u∈R0++P0,u.length<=1000/\∀z∈u,(-1000<=z/\z<=1000)/\z∈cy (2* rows.length)/\-z∈cy (2* rows.length):=λu hu=>by
   have q:M11.fO rows.length u/\u.length<=1000:=(aei.mp hu).elim (λq=>⟨(GK u q).1,by have:=(GK u q).2.1;omega⟩) (λq=>⟨(GL u q).1,(GL u q).2.1⟩);refine⟨q.2,λz hz=>?_⟩;have w:=q.1 z hz;exact⟨by omega,fc.mpr w,fc.mpr ⟨by omega,by rw[af3];exact w.2⟩⟩
  have hG:∀m:Nat,m<=25->m* R0.length+ P0.length<=700:=λm hm=>by
   have:m* R0.length<=25* 23:=ag8 hm vP;omega
  refine⟨lb,rfl,⟨_,aI.of d0.hl⟩,?_⟩
  let gf:Nat->St->Hp->Prop:=λn σ H'=>∃S a R bC B v9 v10 v11 Jv Jw Jx Jy,σ=[some (.ref sc),some (.int rows.length),some (.ref ta),some (.ref ra),some (.ref pa),some (.int x),some (.ref hd),some (.ref r),some (.ref pl),v9,v10,v11,Jv,Jw,Jx,Jy]/\Dd A.aq Hb H' r pl lb ms S a R rows p x bC B (2* n)/\S.made<=n+ 1
  refine zG (K:=K) (a:=lb) (xs:=ak ms) gf
   ⟨_,a0,_,_,_,none,none,none,none,none,none,none,rfl,d0,ad7 _⟩ (λn σ H' _ ⟨_,_,_,_,_,_,_,_,_,_,_,_,_,d,_⟩=>aI.of d.hl) ?_ ?_
  ·clear d0 H7 H6 H5;intro n v σ H4 p5 hv Fb bA;refine aY ?_;intro q_;obtain⟨S,a,R,bC,B,v9,v10,v11,Jv,Jw,Jx,Jy,rfl,d,Xs⟩:=bA;dsimp only[q_];clear q_;obtain⟨z,rfl,hz⟩:=cS hv;have hn:n<24:=by have:=(ad4.mp hz).1;omega
   have s5:=au.upd (o:=.tup [.int (n:Int),.int z]) Fb;have T5:upd H4 p5 (.tup [.int (n:Int),.int z]) p5=some (.tup [.int (n:Int),.int z]):=aj;generalize upd H4 p5 (.tup [.int (n:Int),.int z])=H5 at s5 T5 ⊢;replace d:=d.same s5;clear s5;refine⟨p5,_,rfl,bV.of T5,rfl,_,_,rfl,_,_,rfl,rfl,?_⟩;have g:=d.rm.g;refine⟨_,rfl,r,a.dx,_,rfl,d.rm.at_.ins,cz _ _ _ (by decide +kernel),r,S,a,rfl,d.rm.at_,g.wf,by omega,λls Nf=>?_⟩;rw[show (List.range S.made).filter (λc=>decide (S.bI[c]?=some c))=bP S from rfl];have s6:=au.upd (o:=.lst (ak (nI (bP S)))) Nf;have q6:upd H5 ls (.lst (ak (nI (bP S)))) ls=some (.lst (ak (nI (bP S)))):=aj;generalize upd H5 ls (.lst (ak (nI (bP S))))=H6 at s6 q6 ⊢;replace d:=d.same s6;clear s6 Nf T5 Fb;have h0:0∈bP S:=(rO g.wf).mpr ⟨d.m0,by have:=(g.el 0 d.m0).1;omega⟩;have Ti:0<(bP S).length:=agI.mpr (λe=>by rw[e]at h0;cases h0)
   have EE:(bP S).length<=100:=by
    have:(bP S).length<=S.made:=by
     unfold bP;exact aep (afZ _ _) (by rw[aeR];exact ad7 _)
    omega
   obtain⟨j,hj,TN⟩:=lS ((z+ (n:Int))* 69621 % 2147483629) (n:=(bP S).length) Ti;obtain⟨c,ej⟩:=get_some (xs:=(bP S)) (i:=j) TN;obtain⟨tm,xC⟩:=(rO g.wf).mp (adY ej);have ln:((ak (nI (bP S))).length:Int)=((bP S).length:Int):=by rw[aL,cX]
   refine⟨_,rfl,_,rfl,_,rfl,_,_,rfl,rfl,_,_,rfl,rfl,.inr ⟨by decide,by decide⟩,_,_,rfl,rfl,(by show (0:Int)<2147483629;decide),_,rfl,ls,_,rfl,.inl (aI.of q6),_,_,rfl,rfl,(by show (0:Int)<((ak (nI (bP S))).length:Int);rw[ln];omega),ls,_,_,.int (c:Int),rfl,rfl,aI.of q6,?_,?_⟩
   ·show lI _ ((z+ (n:Int))* 69621 % 2147483629 % ((ak (nI (bP S))).length:Int))=_;rw[ln,hj];exact c9 (cI (by unfold nI;rw[aeo,ej];rfl))
   refine⟨_,rfl,_,rfl,_,rfl,_,_,rfl,rfl,.inl ⟨by omega,by omega⟩,_,_,rfl,rfl,_,_,rfl,rfl,.inr ⟨by decide,by decide⟩,_,_,rfl,rfl,(by show (0:Int)<2147483647;decide),_,rfl,_,rows.length,rfl,jt,by omega,λs Fj sO=>?_⟩;have at_:∀{c},c<S.made->lI (ak (dY bC)) (c:Int)=some (.int ((bC.getD c 0:Nat):Int)):=λ{c} hc=>c9 (cI (Fy (by rw[d.ln];exact hc)))
   refine⟨_,rfl,_,rfl,_,rfl,pl,_,_,_,rfl,rfl,aI.of d.pa,at_ tm,_,rfl,(by show 1<=sizeLine;decide),λt nt=>?_⟩;have st:=au.upd (o:=.tup [.int s]) nt;have qt:upd H6 t (.tup [.int s]) t=some (.tup (ak [s])):=aj;generalize upd H6 t (.tup [.int s])=H7 at st qt ⊢;replace d:=d.same st;replace q6:=st _ _ q6;clear st;refine⟨ta,t,rows,p,bC.getD c 0,[s],rfl,T4.same d.sH,cV,d.lt Jt c,by omega,qt,λy hy=>by rw[ad1.mp hy];exact⟨Fj,sO⟩,by omega,?_⟩;rw[show [s].foldl (sf rows) (bC.getD c 0)=sf rows (bC.getD c 0) s from rfl];refine⟨_,rfl,ls,rfl,⟨_,aI.of q6⟩,?_⟩;refine Ec (cs:=bP S) (λb=>decide (V.int ((bC.getD b 0:Nat):Int)=V.int ((sf rows (bC.getD c 0) s:Nat):Int))) q6 (by omega) (λb Rr hb hR=>?_) (λb Rr hR=>⟨_,rfl,hR⟩) (λD ds nD lH xS=>?_)
   ·exact⟨_,rfl,_,rfl,pl,_,_,_,rfl,rfl,aI.of d.pa,at_ ((rO g.wf).mp hb).1,_,rfl,rfl,_,rfl,hR⟩
   have s8:=au.upd (o:=.lst (ak (nI ds))) nD;have q8:upd H7 D (.lst (ak (nI ds))) D=some (.lst (ak (nI ds))):=aj;generalize upd H7 D (.lst (ak (nI ds)))=H8 at s8 q8 ⊢;replace d:=d.same s8
   have ZS:∀e∈ds,e<S.made/\bC.getD e 0=sf rows (bC.getD c 0) s:=λe he=>by
    obtain⟨w1,w2⟩:=lH e he;refine⟨((rO g.wf).mp w1).1,?_⟩;have w3:V.int ((bC.getD e 0:Nat):Int)=V.int ((sf rows (bC.getD c 0) s:Nat):Int):=aeI w2;injection w3 with w3
    omega
   clear s8 q6 lH qt nt nD
   let mB:St->Hp->Prop:=λ aJ H'=>∃S a R bC B v11 Jv Jw Jx Jy,aJ=[some (.ref sc),some (.int rows.length),some (.ref ta),some (.ref ra),some (.ref pa),some (.int x),some (.ref hd),some (.ref r),some (.ref pl),some (.int (n:Int)),some (.int z),v11,Jv,Jw,Jx,Jy]/\Dd A.aq Hb H' r pl lb ms S a R rows p x bC B (2* n+ 1)/\S.made<=n+ 2
   refine⟨mB,?_,?_⟩
   ·refine bO ?_;intro eJ;refine⟨_,rfl,_,_,rfl,rfl,(by show (0:Int)<4;decide),rfl,_,rfl,cO (λ_=>?an) (λ_=>cU ?el)⟩
    case' an=>
     refine⟨_,rfl,aeA _,λe0 Ai=>?_⟩;have se:=au.upd (o:=.lst []) Ai;have qe:upd H8 e0 (.lst []) e0=some (.lst (ak [])):=aj;generalize upd H8 e0 (.lst [])=H9 at se qe ⊢;replace d:=d.same se;replace q8:=se _ _ q8;refine⟨D,e0,nI ds,[],rfl,rfl,q8,qe,_,rfl,?_⟩;by_cases e:nI ds=[]
     case' pos=>refine xG e ?_
     case neg=>
      refine cO (λ_=>?_) (λh=>absurd (by rw[aeK e];rfl) h);have ZT:0<ds.length:=agI.mpr (λq=>e (by rw[q];rfl));obtain⟨j2,hj2,ZU⟩:=lS (z / 4) (n:=ds.length) ZT;have T6:ds[j2]?=some ds[j2]:=adX ZU
      generalize ds[j2]=e' at T6;obtain⟨Xo,TQ⟩:=ZS e' (adY T6);have ln2:((ak (nI ds)).length:Int)=(ds.length:Int):=by rw[aL,cX]
      refine⟨_,rfl,r,a.dx,_,rfl,d.rm.at_.ins,cz _ _ _ (by decide +kernel),_,rfl,_,rfl,_,rfl,_,rfl,_,_,rfl,rfl,⟨by decide,by decide⟩,_,rfl,D,_,rfl,.inl (aI.of q8),_,_,rfl,rfl,(by show (0:Int)<((ak (nI ds)).length:Int);rw[ln2];omega),D,_,_,.int (e':Int),rfl,rfl,aI.of q8,?_,_,rfl,(by show 2<=sizeLine;decide),λt nt=>?_⟩
      ·show lI _ (z / 4 % ((ak (nI ds)).length:Int))=_;rw[ln2,hj2];exact c9 (cI (by unfold nI;rw[aeo,T6];rfl))
      obtain⟨row,I,μ,p1,p2,p3,p4,p5,p6,p7⟩:=d.lay vO cV Jt (by omega) n nt tm Xo Fj sO TQ;refine⟨r,t,S,a,c,e',s,row,I,μ,rfl,p1,p2,p3,p4,p5,p6,λS' a' vK b10 CV i10 Aa=>?_⟩;have gS:=p7 S' a' vK b10 CV i10 Aa;exact⟨S',a',_,bC,_,_,_,_,_,_,rfl,gS,by rw[←gS.ln,d.ln];omega⟩
    all_goals
     refine⟨_,?_,λ_ _ z=>z⟩;refine⟨_,rfl,r,a.dx,_,rfl,d.rm.at_.ins,cz _ _ _ (by decide +kernel),_,rfl,_,rfl,r,S,a,c,s,rfl,d.rm.at_,by rw[g.wf.w];exact tm,?_⟩
     cases eb:S.by c s with
     |some e=>
      rw[show (Option.map (λn:Nat=>V.int (n:Int)) (some e)).getD V.non=V.int (e:Int) from rfl];exact⟨rfl,_,rfl,cO (λz=>by cases aeI z) (λ_=>⟨S,a,R,bC,B,_,_,_,_,_,rfl,d.up,by omega⟩)⟩
     |none=>
      refine⟨rfl,_,rfl,cO (λ_=>?_) (λz=>absurd rfl z)⟩;have vy:=d.b;have hrb:=d.rm.rb;refine⟨_,rfl,r,a.dx,_,rfl,d.rm.at_.ins,cz _ _ _ (by decide +kernel),_,rfl,_,rfl,r,S,a,c,s,rfl,d.rm.at_,g.wf,by rw[d.l];omega,by rw[d.l];omega,tm,by omega,by omega,d.fits vO,λa' vK pZ CV Aa=>?_⟩;refine⟨_,rfl,.inl ⟨rfl,_,aI.of (pZ _ _ d.np d.pa)⟩,_,rfl,pl,_,_,rfl,rfl,pZ _ _ d.np d.pa,?_,?_⟩
      ·rw[aL,oj,d.ln];exact aec (show S.made<=100 by omega) (by decide)
      exact⟨_,a',_,_,_,_,_,_,_,_,rfl,d.made jt vO cV Jt (by omega) tm xC eb Fj sO pZ CV Aa npb E7,by show S.made+ 1<=_;omega⟩
   intro aJ H9 bA;refine aY ?_;intro q_;obtain⟨S',a',R',DM,B',w11,w12,w13,w14,w15,rfl,d9,T7⟩:=bA;dsimp only[q_];clear q_;clear d g;have Xt:Dd A.aq Hb H9 r pl lb ms S' a' R' rows p x DM B' (2* (n+ 1)):=by rw[show 2* (n+ 1)=2* n+ 1+ 1 by omega];exact d9.up
   have vy:=d9.b;refine⟨_,?_,λ_ _ z=>z⟩;refine⟨_,rfl,_,_,rfl,rfl,(by show (0:Int)<8;decide),rfl,_,rfl,cO (λ_=>?_) (λ_=>cU ⟨S',a',R',DM,B',_,_,_,_,_,_,_,rfl,Xt,T7⟩)⟩;refine⟨_,rfl,_,_,rfl,rfl,(by show (0:Int)<3;decide),_,_,rfl,rfl,_,rfl,cO (λ_=>?_) (λ_=>⟨S',a',R',DM,B',_,_,_,_,_,_,_,rfl,Xt,T7⟩)⟩;have Jz:=d9.sH _ _ e3;refine⟨_,rfl,_,rfl,hd,_,_,_,rfl,rfl,bV.of Jz,rfl,_,rfl,hd,_,_,_,rfl,rfl,bV.of Jz,rfl,r,b1,b2,S',a',R',cy (2* rows.length),B',R0,P0,rfl,d9.rm,d9.m0,by omega,⟨qR,d9.sH _ _ T2,Np.same d9.sH⟩,⟨qP,d9.sH _ _ T3,Nq.same d9.sH⟩,by omega,by omega,hG _ (by omega),pX,λF c1 R1 B1 vK pZ T8 o1 rr1 Nt T9 Ua cl1 Ub=>?_⟩;obtain⟨P,gS⟩:=d9.close cV Jt GK GL pZ T8 o1 Nt T9 Ua Ub;refine⟨_,rfl,_,rfl,_,rfl,_,rfl,r,ta,pl,F,c1,P,rows,p,DM,rfl,gS.rm.at_,gS.rm.g,gS.rm.m,T4.same gS.sH,cV,vN,jt,vO,gS.pa,gS.ln,gS.px,gS.Nn.1,gS.Nn.2,λIA tj=>⟨true,rfl,cU ?_⟩⟩;refine⟨F,c1,P,DM,B1,_,_,_,_,_,_,_,rfl,?_,by rw[Nt];exact T7⟩;rw[show 2* (n+ 1)=2* n+ 1+ 1 by omega];exact gS.same tj
  clear d0 H7 H6 H5;intro σ H4 bA;refine aY ?_;intro q_;obtain⟨S,a,R,bC,B,v9,v10,v11,Jv,Jw,Jx,Jy,rfl,d,Xs⟩:=bA;dsimp only[q_];clear q_;rw[aL]at d Xs;have Jz:=d.sH _ _ e3;have vy:=d.b;refine⟨_,rfl,_,rfl,hd,_,_,_,rfl,rfl,bV.of Jz,rfl,_,rfl,hd,_,_,_,rfl,rfl,bV.of Jz,rfl,r,b1,b2,S,a,R,cy (2* rows.length),B,R0,P0,rfl,d.rm,d.m0,by omega,⟨qR,d.sH _ _ T2,Np.same d.sH⟩,⟨qP,d.sH _ _ T3,Nq.same d.sH⟩,by omega,by omega,hG _ (by omega),pX,λF c1 R1 B1 vK pZ T8 o1 rr1 Nt T9 Ua cl1 Ub=>?_⟩;obtain⟨P,gS⟩:=d.close cV Jt GK GL pZ T8 o1 Nt T9 Ua Ub;refine⟨_,rfl,_,rfl,_,rfl,_,rfl,r,ta,pl,F,c1,P,rows,p,bC,rfl,gS.rm.at_,gS.rm.g,gS.rm.m,T4.same gS.sH,cV,vN,jt,vO,gS.pa,gS.ln,gS.px,gS.Nn.1,gS.Nn.2,λIA tj=>⟨_,rfl,lP ?_⟩⟩;have sb:=gS.sH.trans tj;refine⟨_,rfl,_,rfl,_,rfl,(by show 2<=sizeLine;decide),λe ne=>?_⟩;have sh:=au.upd (o:=.tup [.ref ra,.ref pa]) ne;have yF:=sb.trans sh;refine⟨_,hd,e,rfl,rfl,Fz (yF _ _ e3) ((sL ⟨qR,yF _ _ T2,Np.same yF⟩).le (by decide)) ((sL ⟨qP,yF _ _ T3,Nq.same yF⟩).le (by decide)),Fz aj ((sL ⟨qR,yF _ _ gRb,Np.same yF⟩).le (by decide)) ((sL ⟨qP,yF _ _ gPb,Nq.same yF⟩).le (by decide)),?_⟩;exact k _
end
theorem all_mk {l:PySem.W.OpenLaw}{w:World}{K:PySem.W.Frag}{mg:Str->Option Value}{fa:Addr}(hfa:mg "law"=some (.ref fa))
 {cq dq bS:Addr}
 {f1 f2 f3 f4 f5 f6 f7 f8 f9 pZ Xu EZ Xv Xw IE Xx f17 Xy Xz XA XB XC XD XE XF XG XH XI XJ XM XO XQ XS XT XU XW XX XY XZ X1:Addr} {d1 d2 d3 d4 d5 d6 d7 d8 d9 gS X2 X3 X4 X5 X6 X7 X8 X9 Ya Yb Yc Yd Ye Yf Yg Yh Yi Yj Yk Yl Ym Yn Yo Yp Yq Yr Ys Yt Yu Yv:FuncData}
 (y_Rooms:mg "Rooms"=some (.ref cq))
 (y_Going:mg "Going"=some (.ref dq))
 (y_Closing:mg "Closing"=some (.ref bS))
 (D1:Def K mg "close" y9 ["rooms","rules","part"] f1 d1)
 (D2:Def K mg "walked" wD ["rooms","room","word"] f2 d2)
 (D3:Def K mg "first_places" lV ["rules"] f3 d3)
 (D4:Def K mg "steps_of" si ["letters"] f4 d4)
 (D5:Def K mg "all_gaps" sj ["letters"] f5 d5)
 (D6:Def K mg "own" Gi ["value"] f6 d6)
 (D7:Def K mg "_law_cell_at" lW ["_law_script","_law_k"] f7 d7)
 (D8:Def K mg "_law_whole" oW ["_law_found"] f8 d8)
 (D9:Def K mg "_law_step" qk ["_law_number","_law_letters"] f9 d9)
 (D10:Def K mg "_law_turning" lX ["_law_number","_law_many","_law_plain"] pZ gS)
 (D11:Def K mg "_law_moved" oX ["_law_turns","_law_point","_law_word"] Xu X2)
 (D12:Def K mg "_law_rounds" m7 ["_law_turns","_law_points","_law_word"] EZ X3)
 (D13:Def K mg "_law_rules" oY ["_law_turns","_law_letters","_law_mask","_law_room"] Xv X4)
 (D14:Def K mg "_law_part" qm ["_law_script","_law_turns","_law_letters","_law_first"] Xw X5)
 (D15:Def K mg "_law_group" oZ ["_law_script"] IE X6)
 (D16:Def K mg "_law_true" qo ["_law_rooms","_law_letters","_law_turns","_law_points"] Xx X7)
 (D17:Def K mg "law" Gj ["_law_script"] f17 X8)
 (D18:MDef K dq "__init__" "Going.__init__" jW ["self","which","word","start"] Xy X9)
 (D19:MDef K dq "advance" "Going.advance" kL ["self","rooms"] Xz Ya)
 (D20:MDef K dq "row" "Going.row" qp ["self","rooms"] XA Yb)
 (D21:MDef K bS "__init__" "Closing.__init__" iU ["self","rooms","rules","part"] XB Yc)
 (D22:MDef K bS "begin_rules" "Closing.begin_rules" gF ["self","room"] XC Yd)
 (D23:MDef K bS "begin" "Closing.begin" kM ["self","which","word","room"] XD Ye)
 (D24:MDef K bS "settle" "Closing.settle" jX ["self"] XE Yf)
 (D25:MDef K bS "go_on" "Closing.go_on" kO ["self","number"] XF Yg)
 (D26:MDef K bS "wait" "Closing.wait" lY ["self","number","room","step"] XG Yh)
 (D27:MDef K bS "lay" "Closing.lay" m8 ["self","going"] XH Yi)
 (D28:MDef K bS "wake" "Closing.wake" lZ ["self","room","step"] XI Yj)
 (D29:MDef K bS "hear" "Closing.hear" l0 ["self"] XJ Yk)
 (D30:MDef K bS "wake_all" "Closing.wake_all" iV ["self","room"] XM Yl)
 (D31:MDef K cq "__init__" "Rooms.__init__" jY ["self","letters"] XO Ym)
 (D32:MDef K cq "make" "Rooms.make" o8 ["self","room","step"] XQ Yn)
 (D33:MDef K cq "lay" "Rooms.lay" qq ["self","room","step","other","row"] XS Yo)
 (D34:MDef K cq "by" "Rooms.by" sk ["self","room","step"] XT Yp)
 (D35:MDef K cq "elder" "Rooms.elder" m9 ["self","room"] XU Yq)
 (D36:MDef K cq "standing" "Rooms.standing" jZ ["self"] XW Yr)
 (D37:MDef K cq "keep" "Rooms.keep" pe ["self","room","step","other"] XX Ys)
 (D38:MDef K cq "take_in" "Rooms.take_in" kQ ["self","way","pending"] XY Yt)
 (D39:MDef K cq "put_together" "Rooms.put_together" g9 ["self","room","step","one","other","pending"] XZ Yu)
 (D40:MDef K cq "put_off" "Rooms.put_off" kS ["self","room","pending"] X1 Yv)
 (z1:mg "enumerate"=none)
 (z2:mg "min"=none)
 (z3:mg "max"=none)
 (z4:mg "range"=none)
 (z5:mg "len"=none)
 (z6:mg "tuple"=none)
 (z7:mg "list"=none)
 (z8:mg "isinstance"=none)
 (z9:mg "bool"=none)
 (z10:mg "int"=none)
 (z11:mg "dict"=none)
 (z12:mg "str"=none)
 (w_pg_Rooms:PySem.W.plainGet K cq Str.empty=true)
 (w_hd_Rooms:PySem.W.hasDictIn K cq=true)
 (w_po_Rooms:PySem.W.plainOver K cq=true)
 (w_sa_Rooms:PySem.W.findIn K (.ref cq) "__setattr__"=some (some (.builtin "object.__setattr__")))
 (w_mk_Rooms:PySem.W.makesIn K cq=true)
 (w_kc_Rooms:PySem.W.keepIn K (.ref cq)=true)
 (w_n_letters:PySem.W.findIn K (.ref cq) "letters"=some none)
 (w_n_made:PySem.W.findIn K (.ref cq) "made"=some none)
 (w_n_rows:PySem.W.findIn K (.ref cq) "rows"=some none)
 (w_n_ways:PySem.W.findIn K (.ref cq) "ways"=some none)
 (w_n_gaps:PySem.W.findIn K (.ref cq) "gaps"=some none)
 (w_n_elders:PySem.W.findIn K (.ref cq) "elders"=some none)
 (w_n_called:PySem.W.findIn K (.ref cq) "called"=some none)
 (w_n_went:PySem.W.findIn K (.ref cq) "went"=some none)
 (w_pg_Going:PySem.W.plainGet K dq Str.empty=true)
 (w_hd_Going:PySem.W.hasDictIn K dq=true)
 (w_po_Going:PySem.W.plainOver K dq=true)
 (w_sa_Going:PySem.W.findIn K (.ref dq) "__setattr__"=some (some (.builtin "object.__setattr__")))
 (w_mk_Going:PySem.W.makesIn K dq=true)
 (w_kc_Going:PySem.W.keepIn K (.ref dq)=true)
 (w_nG_which:PySem.W.findIn K (.ref dq) "which"=some none)
 (w_nG_word:PySem.W.findIn K (.ref dq) "word"=some none)
 (w_nG_start:PySem.W.findIn K (.ref dq) "start"=some none)
 (w_nG_front:PySem.W.findIn K (.ref dq) "front"=some none)
 (w_nG_first:PySem.W.findIn K (.ref dq) "first"=some none)
 (w_nG_rear:PySem.W.findIn K (.ref dq) "rear"=some none)
 (w_nG_last:PySem.W.findIn K (.ref dq) "last"=some none)
 (w_pg_Closing:PySem.W.plainGet K bS Str.empty=true)
 (w_hd_Closing:PySem.W.hasDictIn K bS=true)
 (w_po_Closing:PySem.W.plainOver K bS=true)
 (w_sa_Closing:PySem.W.findIn K (.ref bS) "__setattr__"=some (some (.builtin "object.__setattr__")))
 (w_mk_Closing:PySem.W.makesIn K bS=true)
 (w_kc_Closing:PySem.W.keepIn K (.ref bS)=true)
 (w_nC_rooms:PySem.W.findIn K (.ref bS) "rooms"=some none)
 (w_nC_rules:PySem.W.findIn K (.ref bS) "rules"=some none)
 (w_nC_goings:PySem.W.findIn K (.ref bS) "goings"=some none)
 (w_nC_agenda:PySem.W.findIn K (.ref bS) "agenda"=some none)
 (w_nC_waiting:PySem.W.findIn K (.ref bS) "waiting"=some none)
 (w_nC_heard:PySem.W.findIn K (.ref bS) "heard"=some none)
 :∃fd:FuncData,(∀(s:Shared) (v:Value),BindsTo s fd ⟨[v],[]⟩ [("_law_script",v)])/\∀base:Heap,K.In base->base.Ns mainGlobals mg->aK l.prog w K mg base bq 10 fa fd ["_law_script"] (AU K):=by
 have e:=hfa.symm.trans D17.m;cases e;have T:Txt K mg ⟨f1,d1,f2,d2,f3,d3,f4,d4,f5,d5,f6,d6,f7,d7,f8,d8,f9,d9,pZ,gS,Xu,X2,EZ,X3,Xv,X4,Xw,X5,IE,X6,Xx,X7,fa,X8,Xy,X9,Xz,Ya,XA,Yb,XB,Yc,XC,Yd,XD,Ye,XE,Yf,XF,Yg,XG,Yh,XH,Yi,XI,Yj,XJ,Yk,XM,Yl,XO,Ym,XQ,Yn,XS,Yo,XT,Yp,XU,Yq,XW,Yr,XX,Ys,XY,Yt,XZ,Yu,X1,Yv,cq,dq,bS⟩:=⟨D1,D2,D3,D4,D5,D6,D7,D8,D9,D10,D11,D12,D13,D14,D15,D16,D17,D18,D19,D20,D21,D22,D23,D24,D25,D26,D27,D28,D29,D30,D31,D32,D33,D34,D35,D36,D37,D38,D39,D40,z1,z2,z3,z4,z5,z6,z7,z8,z9,z10,z11,z12,y_Rooms,y_Going,y_Closing,w_pg_Rooms,w_hd_Rooms,w_po_Rooms,w_sa_Rooms,w_mk_Rooms,w_kc_Rooms,w_n_letters,w_n_made,w_n_rows,w_n_ways,w_n_gaps,w_n_elders,w_n_called,w_n_went,w_pg_Going,w_hd_Going,w_po_Going,w_sa_Going,w_mk_Going,w_kc_Going,w_nG_which,w_nG_word,w_nG_start,w_nG_front,w_nG_first,w_nG_rear,w_nG_last,w_pg_Closing,w_hd_Closing,w_po_Closing,w_sa_Closing,w_mk_Closing,w_kc_Closing,w_nC_rooms,w_nC_rules,w_nC_goings,w_nC_agenda,w_nC_waiting,w_nC_heard⟩;obtain⟨kV,doc,pm,an,bK,ct,e⟩:=D17.fd;exact⟨_,λs v=>by rw[e];exact .of_eq rfl,λbase _ _=>T1 T⟩
theorem walk {l:PySem.W.OpenLaw}{q:Program}{loose:List Str}{XP:(Str->Option Value)->Heap->Prop}{YP:World->Heap->Prop}{d:DefRec}{K:Params->PySem.W.Frag}(hn:l.most=some 63)(Hi:d.params.defaults=[])
 (hY:∀(w:World) (h:Heap),YP w h->(K w.params).In h)
 (F:∀(w:World) (mg:Str->Option Value) (fa:Addr) (h:Heap),(K w.params).In h->h.Ns mainGlobals mg->mg d.name=some (.ref fa)->
  ∃fd:FuncData,(∀(s:Shared) (u:Value),BindsTo s fd ⟨[u],[]⟩ [("_law_script",u)])/\∀base:Heap,(K w.params).In base->base.Ns mainGlobals mg->aK l.prog w (K w.params) mg base bq 10 fa fd ["_law_script"] (AU (K w.params))):
 PySem.W.WalkO q loose XP YP l.row.toRowW d [] (λf vs=>PySem.call f vs):=
 L2.NP (n:=63) (k:=10) (x:="_law_script") (CX:=λw=>bq) (sp:=λw=>AU (K w.params)) hn (by decide) Hi ⟨rfl,by decide,by decide⟩ hY F (λ_ _ a ns hl _ hS=>⟨a,ns,rfl,hS,hl,λ_=>rfl⟩) λ_ _ _ _ _ z=>z
end K22
open PySem PySem.W PyProof.Rows
namespace PySem.W.Fast
def tw857559832093437421:=0
def tw12041187579031333486:=0
def tw17979642700972760500:=0
def tw15535103993216646635:=0
def tw3582757909203472659:=0
def tw10390207751609184551:=0
def tw4601050397100572759:=0
def tw6520098330463255545:=0
def tw2399548965532853353:=0
def tw11797671762257021188:=0
def tw10212612608798754649:=0
def tw2894951572830752317:=0
def tw1131308846886863243:=0
def tw17422099769660876761:=0
def tw16119121077655759559:=0
def tw5258149857050085904:=0
def tw17877865544262748006:=0
def tw10807541895464601325:=0
def tw14329399680461393185:=0
def tw12089513207869656056:=0
def tw15601601105675775955:=0
def tw33169679408284272:=0
def tw843558702469736878:=0
def tw6725965788324610576:=0
def tw15852693586504375294:=0
def tw6479997869888382400:=0
def tw7439707547914647081:=0
def tw9619049076025033823:=0
def tw15867529507777588748:=0
def tw4855284926646423330:=0
def tw14152211692188470442:=0
def tw7159214427841657008:=0
def tw354455674651031230:=0
def tw9141932835597458876:=0
def tw5535707382231444643:=0
def tw14962147000526902447:=0
def tw17777871690729304087:=0
def tw2831982053592298805:=0
def tw1971464589291395836:=0
def tw4539171934251854467:=0
def tw3332561683119602904:=0
def tw2776079046798292451:=0
def tw16971437666719341238:=0
def tw8006040072454531311:=0
def tw8682763393152141789:=0
def tw9215719324778130365:=0
def tw12019157734508040747:=0
def tw10970761930006786907:=0
def tw12874447650657483422:=0
def tw14329902257902688112:=0
def tw3986398022558585539:=0
def tw8561686918268576842:=0
def tw10986458207729390315:=0
def tw16999110697563771957:=0
def tw5390846360654065363:=0
def tw10770454305287092294:=0
def tw11548756836708945150:=0
def tw6688298044905422917:=0
def tw8178489200627993010:=0
def tw16934175929762568707:=0
def tw12412642657621290569:=0
def tw717961218258222282:=0
def tw3200779049832255306:=0
def tw14867775208762404009:=0
def tw13946099452079379890:=0
def tw8335411818343813103:=0
def tw3565134797990808185:=0
def tw11617910125557752401:=0
def tw5698144375501544550:=0
def tw12426795023380083403:=0
def tw13903630521477636880:=0
def tw1233453461244838587:=0
def tw1371723158788388562:=0
def tw13923312625287890717:=0
def tw172355145566845045:=0
def tw7157111153924551886:=0
def tw11564537496145851522:=0
def tw1634776753883396987:=0
def tw1339494228081291132:=0
def tw2869661112366113029:=0
def tw15508564528352722550:=0
def tw5280770985460044547:=0
def tw11896284487332457530:=0
def tw11566700450776628567:=0
def tw15445795185899854802:=0
def tw16061815528650695131:=0
def tw2514721423231841968:=0
def tw11745983806367979656:=0
def tw12828166260891369780:=0
def tw8774121482738545571:=0
def tw8838956464349956904:=0
def tw14044682928621786764:=0
def tw10402397341054193390:=0
def tw6768273066338141263:=0
def tw10889625500469201197:=0
def tw13485053648532729998:=0
def tw14038255257008901471:=0
def tw13998755168694507459:=0
def tw12575414287298081781:=0
def tw663583698917448776:=0
def tw15895116450401695366:=0
def tw8191797342091692412:=0
def tw6925444242413942430:=0
def tw17531962147184055459:=0
def tw17709111874563667526:=0
def tw13315072052813748747:=0
def tw6787228687585384896:=0
def tw6018811139521838092:=0
def tw1056132717649770940:=0
def tw8563412710141952483:=0
def tw8921578112967738638:=0
def tw12438335120472940007:=0
def tw9438702259242796098:=0
def tw10890232330189126915:=0
def tw4875263277340667916:=0
def tw669896551399349955:=0
def tw1518171670877633771:=0
def tw812481281467825457:=0
def tw15014550701531758201:=0
def tw6419602758214375918:=0
def tw17222016788548604444:=0
def tw7406284380749590904:=0
def tw16366513133061880015:=0
def tw3849079049200384445:=0
def tw7395846504658100976:=0
def tw2152604160682138801:=0
def tw9897466469950317313:=0
def tw11248721507205013776:=0
def tw10951371609310718672:=0
def tw3972744339482704954:=0
def tw2101920083107059331:=0
def tw3580376156051015035:=0
def tw16809372260452060623:=0
def tw2202679739436100205:=0
def tw8681528136301015378:=0
def tw3695690882586016783:=0
def tw4774203337887719984:=0
def tw978386006404510223:=0
def tw5460374400626026834:=0
def tw17008481363258229912:=0
def tw14220597853111731151:=0
def tw6373323217193336969:=0
def tw8458193816528355580:=0
def tw8502056257841357638:=0
def tw4211629874919618882:=0
def tw13885085484878702133:=0
def tw7439081883330823297:=0
def tw18148465784972093702:=0
def tw11307138671674636064:=0
def tw281659521138102043:=0
def tw5725842171586285616:=0
def tw5447514342134269969:=0
def tw484177799734460123:=0
def tw6625718419664733739:=0
def tw16894156388345588987:=0
def tw16716719520088532471:=0
def tw13725171322592668947:=0
def tw5665214239377406432:=0
def tw18039678121932793791:=0
def tw17652792053574159817:=0
def tw14006829510971671937:=0
def tw3014465853043958952:=0
def tw2074405865316907540:=0
def tw1994910198687264432:=0
def tw17731313855730030274:=0
def tw16604376622408953123:=0
def tw15220055344422050740:=0
def tw9275286539940372820:=0
def tw3658084695285016785:=0
def tw15024347162042569290:=0
def tw13562750042228017338:=0
def tw1070580812802260643:=0
def tw10154714877771158020:=0
def tw4156840209019532269:=0
def tw11241741877752548369:=0
def tw8947014359186607653:=0
def tw9938857322012708694:=0
def tw8296535555284590192:=0
def tw2078669652894194657:=0
def tw1690046885359171160:=0
def tw14323901626721494683:=0
def tw10471542876443956895:=0
def tw8753007533662300357:=0
def tw8557411057882790117:=0
def tw16901244210460989914:=0
def tw4663259359248920702:=0
def tw8855473486947577966:=0
def tw6690445618410029046:=0
def tw5856176782137642611:=0
def tw555665612601655156:=0
def tw3700511141058058196:=0
def tw15848092739073666308:=0
def tw15112851461073752460:=0
def tw8100813502866345202:=0
def tw2569438517052137350:=0
def tw5754427133702311197:=0
def tw13438769610099432592:=0
def tw15126308340077778049:=0
def tw6833430096865717952:=0
def tw4244303645373217667:=0
end PySem.W.Fast
set_option maxRecDepth 100000 in
set_option maxHeartbeats 0 in
theorem PySem.Challenge.cw_cosetyard_k22_nothing_false_follows_holds : PySem.Challenge.rw_cosetyard_k22_nothing_false_follows.Holds := by
  w_on; o_law; k_head; (case hw => w_witness2)
  k_fill
  refine K22.walk (l := PySem.Challenge.rw_cosetyard_k22_nothing_false_follows) rfl rfl (fun w h Y => PySem.W.kIn_of Y) ?F
  case F =>
    intro w mg fa h KX G hmg
    refine' K22.all_mk hmg ?y_Rooms ?y_Going ?y_Closing ?D1 ?D2 ?D3 ?D4 ?D5 ?D6 ?D7 ?D8 ?D9 ?D10 ?D11 ?D12 ?D13 ?D14 ?D15 ?D16 ?D17 ?D18 ?D19 ?D20 ?D21 ?D22 ?D23 ?D24 ?D25 ?D26 ?D27 ?D28 ?D29 ?D30 ?D31 ?D32 ?D33 ?D34 ?D35 ?D36 ?D37 ?D38 ?D39 ?D40 ?z1 ?z2 ?z3 ?z4 ?z5 ?z6 ?z7 ?z8 ?z9 ?z10 ?z11 ?z12 ?w_pg_Rooms ?w_hd_Rooms ?w_po_Rooms ?w_sa_Rooms ?w_mk_Rooms ?w_kc_Rooms ?w_n_letters ?w_n_made ?w_n_rows ?w_n_ways ?w_n_gaps ?w_n_elders ?w_n_called ?w_n_went ?w_pg_Going ?w_hd_Going ?w_po_Going ?w_sa_Going ?w_mk_Going ?w_kc_Going ?w_nG_which ?w_nG_word ?w_nG_start ?w_nG_front ?w_nG_first ?w_nG_rear ?w_nG_last ?w_pg_Closing ?w_hd_Closing ?w_po_Closing ?w_sa_Closing ?w_mk_Closing ?w_kc_Closing ?w_nC_rooms ?w_nC_rules ?w_nC_goings ?w_nC_agenda ?w_nC_waiting ?w_nC_heard
    (case y_Rooms => refine' PySem.W.mg_of KX G ?a; (case a => k_is))
    (case y_Going => refine' PySem.W.mg_of KX G ?a; (case a => k_is))
    (case y_Closing => refine' PySem.W.mg_of KX G ?a; (case a => k_is))
    (case D1 => refine' L2.Def.of KX G ?a ?l ?c ?k (fun _ _ _ _ _ _ _ hl => by obtain ⟨_, _, _, rfl⟩ := L2.args_is3 hl; rfl); (case a => k_is); (case l => k_is); (case c => k_is); (case k => k_is))
    (case D2 => refine' L2.Def.of KX G ?a ?l ?c ?k (fun _ _ _ _ _ _ _ hl => by obtain ⟨_, _, _, rfl⟩ := L2.args_is3 hl; rfl); (case a => k_is); (case l => k_is); (case c => k_is); (case k => k_is))
    (case D3 => refine' L2.Def.of KX G ?a ?l ?c ?k (fun _ _ _ _ _ _ _ hl => by obtain ⟨_, rfl⟩ := L2.args_is1 hl; rfl); (case a => k_is); (case l => k_is); (case c => k_is); (case k => k_is))
    (case D4 => refine' L2.Def.of KX G ?a ?l ?c ?k (fun _ _ _ _ _ _ _ hl => by obtain ⟨_, rfl⟩ := L2.args_is1 hl; rfl); (case a => k_is); (case l => k_is); (case c => k_is); (case k => k_is))
    (case D5 => refine' L2.Def.of KX G ?a ?l ?c ?k (fun _ _ _ _ _ _ _ hl => by obtain ⟨_, rfl⟩ := L2.args_is1 hl; rfl); (case a => k_is); (case l => k_is); (case c => k_is); (case k => k_is))
    (case D6 => refine' L2.Def.of KX G ?a ?l ?c ?k (fun _ _ _ _ _ _ _ hl => by obtain ⟨_, rfl⟩ := L2.args_is1 hl; rfl); (case a => k_is); (case l => k_is); (case c => k_is); (case k => k_is))
    (case D7 => refine' L2.Def.of KX G ?a ?l ?c ?k (fun _ _ _ _ _ _ _ hl => by obtain ⟨_, _, rfl⟩ := L2.args_is2 hl; rfl); (case a => k_is); (case l => k_is); (case c => k_is); (case k => k_is))
    (case D8 => refine' L2.Def.of KX G ?a ?l ?c ?k (fun _ _ _ _ _ _ _ hl => by obtain ⟨_, rfl⟩ := L2.args_is1 hl; rfl); (case a => k_is); (case l => k_is); (case c => k_is); (case k => k_is))
    (case D9 => refine' L2.Def.of KX G ?a ?l ?c ?k (fun _ _ _ _ _ _ _ hl => by obtain ⟨_, _, rfl⟩ := L2.args_is2 hl; rfl); (case a => k_is); (case l => k_is); (case c => k_is); (case k => k_is))
    (case D10 => refine' L2.Def.of KX G ?a ?l ?c ?k (fun _ _ _ _ _ _ _ hl => by obtain ⟨_, _, _, rfl⟩ := L2.args_is3 hl; rfl); (case a => k_is); (case l => k_is); (case c => k_is); (case k => k_is))
    (case D11 => refine' L2.Def.of KX G ?a ?l ?c ?k (fun _ _ _ _ _ _ _ hl => by obtain ⟨_, _, _, rfl⟩ := L2.args_is3 hl; rfl); (case a => k_is); (case l => k_is); (case c => k_is); (case k => k_is))
    (case D12 => refine' L2.Def.of KX G ?a ?l ?c ?k (fun _ _ _ _ _ _ _ hl => by obtain ⟨_, _, _, rfl⟩ := L2.args_is3 hl; rfl); (case a => k_is); (case l => k_is); (case c => k_is); (case k => k_is))
    (case D13 => refine' L2.Def.of KX G ?a ?l ?c ?k (fun _ _ _ _ _ _ _ hl => by obtain ⟨_, _, _, _, rfl⟩ := L2.args_is4 hl; rfl); (case a => k_is); (case l => k_is); (case c => k_is); (case k => k_is))
    (case D14 => refine' L2.Def.of KX G ?a ?l ?c ?k (fun _ _ _ _ _ _ _ hl => by obtain ⟨_, _, _, _, rfl⟩ := L2.args_is4 hl; rfl); (case a => k_is); (case l => k_is); (case c => k_is); (case k => k_is))
    (case D15 => refine' L2.Def.of KX G ?a ?l ?c ?k (fun _ _ _ _ _ _ _ hl => by obtain ⟨_, rfl⟩ := L2.args_is1 hl; rfl); (case a => k_is); (case l => k_is); (case c => k_is); (case k => k_is))
    (case D16 => refine' L2.Def.of KX G ?a ?l ?c ?k (fun _ _ _ _ _ _ _ hl => by obtain ⟨_, _, _, _, rfl⟩ := L2.args_is4 hl; rfl); (case a => k_is); (case l => k_is); (case c => k_is); (case k => k_is))
    (case D17 => refine' L2.Def.of KX G ?a ?l ?c ?k (fun _ _ _ _ _ _ _ hl => by obtain ⟨_, rfl⟩ := L2.args_is1 hl; rfl); (case a => k_is); (case l => k_is); (case c => k_is); (case k => k_is))
    (case D18 => refine' L2.MDef.of ?a ?i ?l ?c ?k (fun _ _ _ _ _ _ _ hl => by obtain ⟨_, _, _, _, rfl⟩ := L2.args_is4 hl; rfl); (case a => k_is); (case i => k_is); (case l => k_is); (case c => k_is); (case k => k_is))
    (case D19 => refine' L2.MDef.of ?a ?i ?l ?c ?k (fun _ _ _ _ _ _ _ hl => by obtain ⟨_, _, rfl⟩ := L2.args_is2 hl; rfl); (case a => k_is); (case i => k_is); (case l => k_is); (case c => k_is); (case k => k_is))
    (case D20 => refine' L2.MDef.of ?a ?i ?l ?c ?k (fun _ _ _ _ _ _ _ hl => by obtain ⟨_, _, rfl⟩ := L2.args_is2 hl; rfl); (case a => k_is); (case i => k_is); (case l => k_is); (case c => k_is); (case k => k_is))
    (case D21 => refine' L2.MDef.of ?a ?i ?l ?c ?k (fun _ _ _ _ _ _ _ hl => by obtain ⟨_, _, _, _, rfl⟩ := L2.args_is4 hl; rfl); (case a => k_is); (case i => k_is); (case l => k_is); (case c => k_is); (case k => k_is))
    (case D22 => refine' L2.MDef.of ?a ?i ?l ?c ?k (fun _ _ _ _ _ _ _ hl => by obtain ⟨_, _, rfl⟩ := L2.args_is2 hl; rfl); (case a => k_is); (case i => k_is); (case l => k_is); (case c => k_is); (case k => k_is))
    (case D23 => refine' L2.MDef.of ?a ?i ?l ?c ?k (fun _ _ _ _ _ _ _ hl => by obtain ⟨_, _, _, _, rfl⟩ := L2.args_is4 hl; rfl); (case a => k_is); (case i => k_is); (case l => k_is); (case c => k_is); (case k => k_is))
    (case D24 => refine' L2.MDef.of ?a ?i ?l ?c ?k (fun _ _ _ _ _ _ _ hl => by obtain ⟨_, rfl⟩ := L2.args_is1 hl; rfl); (case a => k_is); (case i => k_is); (case l => k_is); (case c => k_is); (case k => k_is))
    (case D25 => refine' L2.MDef.of ?a ?i ?l ?c ?k (fun _ _ _ _ _ _ _ hl => by obtain ⟨_, _, rfl⟩ := L2.args_is2 hl; rfl); (case a => k_is); (case i => k_is); (case l => k_is); (case c => k_is); (case k => k_is))
    (case D26 => refine' L2.MDef.of ?a ?i ?l ?c ?k (fun _ _ _ _ _ _ _ hl => by obtain ⟨_, _, _, _, rfl⟩ := L2.args_is4 hl; rfl); (case a => k_is); (case i => k_is); (case l => k_is); (case c => k_is); (case k => k_is))
    (case D27 => refine' L2.MDef.of ?a ?i ?l ?c ?k (fun _ _ _ _ _ _ _ hl => by obtain ⟨_, _, rfl⟩ := L2.args_is2 hl; rfl); (case a => k_is); (case i => k_is); (case l => k_is); (case c => k_is); (case k => k_is))
    (case D28 => refine' L2.MDef.of ?a ?i ?l ?c ?k (fun _ _ _ _ _ _ _ hl => by obtain ⟨_, _, _, rfl⟩ := L2.args_is3 hl; rfl); (case a => k_is); (case i => k_is); (case l => k_is); (case c => k_is); (case k => k_is))
    (case D29 => refine' L2.MDef.of ?a ?i ?l ?c ?k (fun _ _ _ _ _ _ _ hl => by obtain ⟨_, rfl⟩ := L2.args_is1 hl; rfl); (case a => k_is); (case i => k_is); (case l => k_is); (case c => k_is); (case k => k_is))
    (case D30 => refine' L2.MDef.of ?a ?i ?l ?c ?k (fun _ _ _ _ _ _ _ hl => by obtain ⟨_, _, rfl⟩ := L2.args_is2 hl; rfl); (case a => k_is); (case i => k_is); (case l => k_is); (case c => k_is); (case k => k_is))
    (case D31 => refine' L2.MDef.of ?a ?i ?l ?c ?k (fun _ _ _ _ _ _ _ hl => by obtain ⟨_, _, rfl⟩ := L2.args_is2 hl; rfl); (case a => k_is); (case i => k_is); (case l => k_is); (case c => k_is); (case k => k_is))
    (case D32 => refine' L2.MDef.of ?a ?i ?l ?c ?k (fun _ _ _ _ _ _ _ hl => by obtain ⟨_, _, _, rfl⟩ := L2.args_is3 hl; rfl); (case a => k_is); (case i => k_is); (case l => k_is); (case c => k_is); (case k => k_is))
    (case D33 => refine' L2.MDef.of ?a ?i ?l ?c ?k (fun _ _ _ _ _ _ _ hl => by obtain ⟨_, _, _, _, _, rfl⟩ := L2.args_is5 hl; rfl); (case a => k_is); (case i => k_is); (case l => k_is); (case c => k_is); (case k => k_is))
    (case D34 => refine' L2.MDef.of ?a ?i ?l ?c ?k (fun _ _ _ _ _ _ _ hl => by obtain ⟨_, _, _, rfl⟩ := L2.args_is3 hl; rfl); (case a => k_is); (case i => k_is); (case l => k_is); (case c => k_is); (case k => k_is))
    (case D35 => refine' L2.MDef.of ?a ?i ?l ?c ?k (fun _ _ _ _ _ _ _ hl => by obtain ⟨_, _, rfl⟩ := L2.args_is2 hl; rfl); (case a => k_is); (case i => k_is); (case l => k_is); (case c => k_is); (case k => k_is))
    (case D36 => refine' L2.MDef.of ?a ?i ?l ?c ?k (fun _ _ _ _ _ _ _ hl => by obtain ⟨_, rfl⟩ := L2.args_is1 hl; rfl); (case a => k_is); (case i => k_is); (case l => k_is); (case c => k_is); (case k => k_is))
    (case D37 => refine' L2.MDef.of ?a ?i ?l ?c ?k (fun _ _ _ _ _ _ _ hl => by obtain ⟨_, _, _, _, rfl⟩ := L2.args_is4 hl; rfl); (case a => k_is); (case i => k_is); (case l => k_is); (case c => k_is); (case k => k_is))
    (case D38 => refine' L2.MDef.of ?a ?i ?l ?c ?k (fun _ _ _ _ _ _ _ hl => by obtain ⟨_, _, _, rfl⟩ := L2.args_is3 hl; rfl); (case a => k_is); (case i => k_is); (case l => k_is); (case c => k_is); (case k => k_is))
    (case D39 => refine' L2.MDef.of ?a ?i ?l ?c ?k (fun _ _ _ _ _ _ _ hl => by obtain ⟨_, _, _, _, _, _, rfl⟩ := L2.args_is6 hl; rfl); (case a => k_is); (case i => k_is); (case l => k_is); (case c => k_is); (case k => k_is))
    (case D40 => refine' L2.MDef.of ?a ?i ?l ?c ?k (fun _ _ _ _ _ _ _ hl => by obtain ⟨_, _, _, rfl⟩ := L2.args_is3 hl; rfl); (case a => k_is); (case i => k_is); (case l => k_is); (case c => k_is); (case k => k_is))
    (case z1 => refine' PySem.W.mg_none_of KX G ?a; (case a => k_is))
    (case z2 => refine' PySem.W.mg_none_of KX G ?a; (case a => k_is))
    (case z3 => refine' PySem.W.mg_none_of KX G ?a; (case a => k_is))
    (case z4 => refine' PySem.W.mg_none_of KX G ?a; (case a => k_is))
    (case z5 => refine' PySem.W.mg_none_of KX G ?a; (case a => k_is))
    (case z6 => refine' PySem.W.mg_none_of KX G ?a; (case a => k_is))
    (case z7 => refine' PySem.W.mg_none_of KX G ?a; (case a => k_is))
    (case z8 => refine' PySem.W.mg_none_of KX G ?a; (case a => k_is))
    (case z9 => refine' PySem.W.mg_none_of KX G ?a; (case a => k_is))
    (case z10 => refine' PySem.W.mg_none_of KX G ?a; (case a => k_is))
    (case z11 => refine' PySem.W.mg_none_of KX G ?a; (case a => k_is))
    (case z12 => refine' PySem.W.mg_none_of KX G ?a; (case a => k_is))
    (case w_pg_Rooms => first | k_is | kit_is | kts_exm | kernel_rfl)
    (case w_hd_Rooms => first | k_is | kit_is | kts_exm | kernel_rfl)
    (case w_po_Rooms => first | k_is | kit_is | kts_exm | kernel_rfl)
    (case w_sa_Rooms => first | k_is | kit_is | kts_exm | kernel_rfl)
    (case w_mk_Rooms => first | k_is | kit_is | kts_exm | kernel_rfl)
    (case w_kc_Rooms => first | k_is | kit_is | kts_exm | kernel_rfl)
    (case w_n_letters => first | k_is | kit_is | kts_exm | kernel_rfl)
    (case w_n_made => first | k_is | kit_is | kts_exm | kernel_rfl)
    (case w_n_rows => first | k_is | kit_is | kts_exm | kernel_rfl)
    (case w_n_ways => first | k_is | kit_is | kts_exm | kernel_rfl)
    (case w_n_gaps => first | k_is | kit_is | kts_exm | kernel_rfl)
    (case w_n_elders => first | k_is | kit_is | kts_exm | kernel_rfl)
    (case w_n_called => first | k_is | kit_is | kts_exm | kernel_rfl)
    (case w_n_went => first | k_is | kit_is | kts_exm | kernel_rfl)
    (case w_pg_Going => first | k_is | kit_is | kts_exm | kernel_rfl)
    (case w_hd_Going => first | k_is | kit_is | kts_exm | kernel_rfl)
    (case w_po_Going => first | k_is | kit_is | kts_exm | kernel_rfl)
    (case w_sa_Going => first | k_is | kit_is | kts_exm | kernel_rfl)
    (case w_mk_Going => first | k_is | kit_is | kts_exm | kernel_rfl)
    (case w_kc_Going => first | k_is | kit_is | kts_exm | kernel_rfl)
    (case w_nG_which => first | k_is | kit_is | kts_exm | kernel_rfl)
    (case w_nG_word => first | k_is | kit_is | kts_exm | kernel_rfl)
    (case w_nG_start => first | k_is | kit_is | kts_exm | kernel_rfl)
    (case w_nG_front => first | k_is | kit_is | kts_exm | kernel_rfl)
    (case w_nG_first => first | k_is | kit_is | kts_exm | kernel_rfl)
    (case w_nG_rear => first | k_is | kit_is | kts_exm | kernel_rfl)
    (case w_nG_last => first | k_is | kit_is | kts_exm | kernel_rfl)
    (case w_pg_Closing => first | k_is | kit_is | kts_exm | kernel_rfl)
    (case w_hd_Closing => first | k_is | kit_is | kts_exm | kernel_rfl)
    (case w_po_Closing => first | k_is | kit_is | kts_exm | kernel_rfl)
    (case w_sa_Closing => first | k_is | kit_is | kts_exm | kernel_rfl)
    (case w_mk_Closing => first | k_is | kit_is | kts_exm | kernel_rfl)
    (case w_kc_Closing => first | k_is | kit_is | kts_exm | kernel_rfl)
    (case w_nC_rooms => first | k_is | kit_is | kts_exm | kernel_rfl)
    (case w_nC_rules => first | k_is | kit_is | kts_exm | kernel_rfl)
    (case w_nC_goings => first | k_is | kit_is | kts_exm | kernel_rfl)
    (case w_nC_agenda => first | k_is | kit_is | kts_exm | kernel_rfl)
    (case w_nC_waiting => first | k_is | kit_is | kts_exm | kernel_rfl)
    (case w_nC_heard => first | k_is | kit_is | kts_exm | kernel_rfl)
