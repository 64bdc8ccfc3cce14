import PyProof.Rows.All
import Wide.All
import OpenK.AllK
import Wide.FinOn
import Lean
import PyProof.EqAt
import PyProof.EqKinds
import PyProof.TupleCall
import PyProof.FString
import OpenK.KOwn
import KE.KTryMore
import PyProof.NsDelKeeps
import PyProof.StrBlock2
import PyProof.AutoListH
import KE.KIntText
import PyProof.Rows.StrIntSpec
import KE.KRevIter
import PyProof.StrWalks
import PyProof.CompUse
import PyProof.NeKinds
import PyProof.Rows.Range3
import PyProof.Rows.EnumRows
import PyProof.ConsumeWalk
import PyProof.Rows.SeqGen
import PyProof.StrLawsRepr
import PyProof.ZipIter
import PyProof.Rows.FactsT2
import PyProof.EnumMake
import PyProof.DictWalks
import PyProof.DictTruth
import PyProof.ListRange
import PyProof.ListStr
import PyProof.TupleOfGen
import PyProof.TupleOfSeq
import PyProof.MinMaxWalk
import PyProof.WalkInts
import KE.KSortAsk
import PyProof.MeetsSeq3
import KE.KRevSl
import PyProof.Rows.SeqMore
import PyProof.ListMulRoad
import PyProof.Rows.SumAny
import PyProof.SeqI3
import PyProof.AttrMissSeq
import KE.KDictOf
import PyProof.Rows.StrCut
import PyProof.Rows.StrSplitCount
import PyProof.DictItems
import PySem.Challenge.RW_cosetyard_k21_nothing_more_follows
abbrev Za0:=@Option.some.inj
abbrev Za1:=PySem.W.Frag
abbrev Za2:=Nat->Int->Nat->Prop
abbrev Za3:=List (List Int)
theorem Za4 (n:Nat)(h:n<=PySem.sizeLine:=by decide):n<=PySem.sizeLine:=h
abbrev ahb:=@PySem.wpAny_bind
abbrev ahc:=@List.getElem?_eq_getElem
abbrev ahd:=@List.getElem?_eq_some_iff
abbrev ahe:=@List.length_append
abbrev ahf:=@List.mem_of_getElem?
abbrev ahg:=@List.mem_singleton
abbrev ahh:=@List.getD_eq_getElem?_getD
abbrev ahi:=@Nat.le_refl
abbrev ahj:=@PySem.Heap.get?_push_of_some
abbrev ahk:=@PySem.wpAny_pure
abbrev ahl:=@List.length_map
abbrev ahm:=@List.size_toArray
abbrev ahn:=@List.mem_append_right
abbrev aho:=@beq_eq_false_iff_ne
abbrev ahp:=@List.mem_cons
abbrev ahq:=@if_neg
abbrev ahr:=@Nat.lt_of_le_of_lt
abbrev ahs:=@List.getElem?_append_right
abbrev aht:=@List.getElem?_append_left
abbrev ahu:=@if_pos
abbrev ahv:=@List.mem_cons_self
abbrev ahw:=@List.getElem?_map
abbrev ahx:=@List.mem_append
abbrev ahy:=@decide_eq_true
abbrev ahz:=@PySem.Heap.get?_push_size
abbrev ahA:=@PySem.Heap.lt_size
abbrev ahB:=@of_decide_eq_true
abbrev ahC:=@Nat.le_trans
abbrev ahD:=@PySem.F.plainAttrs_list
abbrev ahE:=@List.length_cons
abbrev ahF:=@List.mem_append_left
abbrev ahG:=@List.length_set
abbrev ahH:=@PySem.F.slot_list_append
abbrev ahI:=@PySem.F.type_list_append
abbrev ahJ:=@PySem.boot_len
abbrev ahK:=@PySem.PassesOwn.never
abbrev ahL:=@List.mem_cons_of_mem
abbrev ahM:=@List.lookup_cons
abbrev ahN:=@PyProof.Rows.boot_isinstance
abbrev ahO:=@List.map_append
abbrev ahP:=@Nat.lt_of_lt_of_le
abbrev ahQ:=@decide_eq_true_iff
abbrev ahR:=@List.getElem?_eq_none
abbrev ahS:=@Nat.ne_of_lt
abbrev ahT:=@Nat.zero_le
abbrev ahU:=@List.append_nil
abbrev ahV:=@Bool.false_ne_true
abbrev ahW:=@List.getElem?_set_self
abbrev ahX:=@List.nodup_cons
abbrev ahY:=@List.map_cons
abbrev ahZ:=@Int.toNat_natCast
abbrev ah0:=@List.mem_map
abbrev ah1:=@decide_eq_false
abbrev ah2:=@List.length_take
abbrev ah3:=@PyProof.Rows.boot_tuple
abbrev ah4:=@Bool.eq_iff_iff
abbrev ah5:=@List.not_mem_nil
abbrev ah6:=@congrArg
abbrev ah7:=@PySem.wpAny_callSpecial?_slot
abbrev ah8:=@PySem.wpAny_newObj_type
abbrev ah9:=@List.nodup_append
abbrev aia:=@List.append_assoc
abbrev aib:=@PySem.wpAny_call_entry
abbrev aic:=@PySem.Calls.callWith_builtin
abbrev aid:=@PyProof.Rows.boot_list
abbrev aie:=@Nat.lt_irrefl
abbrev aif:=@List.getElem?_set_ne
abbrev aih:=@List.getElem?_of_mem
abbrev aii:=@PyProof.Rows.slot_tuple_getitem
abbrev aij:=@PySem.Calls.spliced_cons
abbrev aik:=@List.take_length
abbrev ail:=@Ne.symm
abbrev aim:=@Option.map_eq_some_iff
abbrev ain:=@PySem.wpAny_setField_rec
abbrev aio:=@Option.isSome_iff_exists
abbrev aip:=@PySem.Heap.get?_update_self
abbrev aiq:=@Nat.min_eq_left
abbrev air:=@List.mem_range
abbrev ais:=@List.nodup_nil
abbrev ait:=@PySem.F.plainAttrs_dict
abbrev aiu:=@List.getElem_toArray
abbrev aiv:=@List.map_map
abbrev aiw:=@PyProof.Rows.boot_dict
abbrev aix:=@PySem.W.kia_one
abbrev aiy:=@List.range_succ
abbrev aiz:=@PySem.wpAny_holding
abbrev aiA:=@List.length_drop
abbrev aiB:=@PySem.F.slot_dict_itemiterator_next
abbrev aiC:=@PySem.mem_of_lookup
abbrev aiD:=@PySem.wpAny_field
abbrev aiE:=@PySem.Heap.SameBut.update
abbrev aiF:=@PySem.wpAny_mono
abbrev aiG:=@Nat.lt_succ_of_lt
abbrev aiH:=@List.length_range
abbrev aiI:=@PySem.F.slot_dict_keyiterator_next
abbrev aiJ:=@PyProof.Rows.callWith_type1
abbrev aiK:=@Int.neg_neg
abbrev aiL:=@PySem.Calls.evalArgs_plain
abbrev aiM:=@Nat.ne_of_gt
abbrev aiN:=@Bool.and_eq_true
abbrev aiO:=@PySem.Heap.get?_update_other
abbrev aiP:=@List.take_of_length_le
abbrev aiQ:=@PySem.wpAny_dictEntries
abbrev aiR:=@List.mem_map_of_mem
abbrev aiS:=@List.drop_eq_getElem_cons
abbrev aiT:=@List.length_filter_le
abbrev aiU:=@PySem.F.slot_dict_get
abbrev aiV:=@PySem.F.slot_enumerate_iter
abbrev aiW:=@PySem.wpAny_ite_split
abbrev aiX:=@PySem.wpAny_typeNameOfWhole_itemiter
abbrev aiY:=@PySem.tupleKind_room_in1
abbrev aiZ:=@PySem.wpAny_typeNameOfWhole_keyiter
abbrev ai0:=@Nat.min_eq_right
abbrev ai1:=@List.mem_flatMap
abbrev ai2:=@List.dropLast_concat_getLast
abbrev ai3:=@PySem.F.slot_dict_setdefault
abbrev ai4:=@Nat.sub_self
abbrev ai5:=@PySem.wpAny_truthy_bool
abbrev ai6:=@PySem.Calls.spliced_nil
abbrev ai7:=@List.find?_cons_of_pos
abbrev ai8:=@List.find?_cons_of_neg
abbrev ai9:=@PySem.F.slot_tuple_iterator_next
abbrev aja:=@Nat.lt_succ_self
abbrev ajb:=@PySem.call_meetsIn
abbrev ajc:=@PySem.F.slot_enumerate_next
abbrev ajd:=@Int.zero_add
abbrev aje:=@List.take_succ
abbrev ajf:=@List.mem_or_eq_of_mem_set
abbrev ajg:=@List.mem_of_find?_eq_some
abbrev ajh:=@PySem.wpAny_typeNameOf_itemiter
abbrev aji:=@Nat.mul_le_mul_right
abbrev ajj:=@List.mem_filter
abbrev ajk:=@PySem.wpAny_passesOwn
abbrev ajl:=@List.getElem?_take_of_lt
abbrev ajm:=@List.ext_getElem?
abbrev ajn:=@PySem.wpAny_Call_method
abbrev ajo:=@PySem.wpAny_loadPart'
abbrev ajp:=@PySem.wpAny_typeNameOf_keyiter
abbrev ajq:=@not_false_eq_true
abbrev ajr:=@List.length_erase_of_mem
abbrev ajs:=@if_false
abbrev ajt:=@or_false
abbrev aju:=@List.filter_cons_of_neg
abbrev ajv:=@List.filter_cons_of_pos
abbrev ajw:=@List.flatMap_append
abbrev ajx:=@Nat.max_eq_right
abbrev ajy:=@List.drop_length
abbrev ajz:=@PySem.Heap.size_push
abbrev ajA:=@PySem.F.entry_dict_get
abbrev ajB:=@PySem.wpAny_Call_Name_kw
abbrev ajC:=@Int.emod_lt_of_pos
abbrev ajD:=@PySem.wpAny_typeOf
abbrev ajE:=@PySem.builtinLookup_eq_fast
abbrev ajF:=@List.find?_cons
abbrev ajG:=@PySem.F.slot_dict_pop
abbrev ajH:=@PySem.wpAny_notOrdered_dict
abbrev ajI:=@PySem.wpAny_dictEpoch
abbrev ajJ:=@Nat.lt_or_ge
abbrev ajK:=@Nat.max_eq_left
abbrev ajL:=@Nat.le_total
abbrev ajM:=@PySem.wpAny_pyIter_list
abbrev ajN:=@PySem.wpAny_pyIter_slot
abbrev ajO:=@Decidable.not_not
abbrev ajP:=@List.pairwise_map
abbrev ajQ:=@PySem.wpAny_letOwnedTupleGo_enum
abbrev ajR:=@Array.length_toList
abbrev ajS:=@Nat.le_succ
abbrev ajT:=@if_true
abbrev ajU:=@List.map_congr_left
abbrev ajV:=@Nat.le_of_eq
abbrev ajW:=@PySem.F.args_tuple_add_2
abbrev ajX:=@Nat.lt_trans
abbrev ajY:=@PySem.F.entry_tuple_add
abbrev ajZ:=@List.length_nil
abbrev aj0:=@Bool.false_eq_true
abbrev aj1:=@PySem.Obj.data_mapFields
abbrev aj2:=@List.filter_nil
abbrev aj3:=@decide_eq_false_iff_not
abbrev aj4:=@List.filter_append
abbrev aj5:=@Int.emod_nonneg
abbrev aj6:=@PySem.F.slot_tuple_add
abbrev aj7:=@Array.getElem?_eq_none
abbrev aj8:=@List.length_pos_of_mem
abbrev aj9:=@Option.map_eq_none_iff
abbrev aka:=@beq_iff_eq
abbrev akb:=@List.getElem?_inj
abbrev akc:=@PySem.wpAny_setField
abbrev akd:=@PySem.wpAny_seqItems
abbrev ake:=@PySem.codeAny_mono
abbrev akf:=@Nat.zero_add
abbrev akg:=@List.any_eq_true
abbrev akh:=@List.nodup_range
abbrev aki:=@Nat.add_mul
-- CHANGE:afV row's module here,as the last of these rows
set_option Elab.async false
set_option linter.all false
set_option maxRecDepth 100000
namespace L2
open PySem PySem.Spec PyProof.Rows
abbrev Key:=Sum Int Str
def wD:Key->Value->Bool
 |.inl k,v=>Value.isInt k v
 |.inr x,v=>Value.isStrOf x v
def aa5 (w:World):Key->Int
 |.inl k=>hashInt k
 |.inr x=>hashStr w x
theorem fc:∀{k:Key} {v:Value},wD k v=true->(∃i t,k=Sum.inl i/\v=Value.int i t)\/(∃x t,k=Sum.inr x/\v=Value.str x t)
 |.inl i,v,h=>by
  obtain⟨t,e⟩:=Value.isInt_shape (k:=i) (v:=v) h;exact .inl ⟨i,t,rfl,e⟩
 |.inr x,v,h=>by
  obtain⟨t,e⟩:=Value.isStrOf_shape (x:=x) (v:=v) h;exact .inr ⟨x,t,rfl,e⟩
theorem Jb (i:Int)(t:Tok):wD (.inl i) (.int i t)=true:=by simp[wD,Value.isInt]
theorem Jc (x:Str)(t:Tok):wD (.inr x) (.str x t)=true:=by simp[wD,Value.isStrOf]
theorem RC (a b:Int):decide ((Sum.inl a:Key)=Sum.inl b)=(a==b):=by
 by_cases e:a=b
 ·subst e;simp
 ·have h:¬(Sum.inl a:Key)=Sum.inl b:=λq=>e (Sum.inl.inj q)
  rw[ah1 h];exact(aho.mpr e).symm
theorem RD (a b:Str):decide ((Sum.inr a:Key)=Sum.inr b)=decide (a=b):=by
 by_cases e:a=b
 ·subst e;simp
 ·have h:¬(Sum.inr a:Key)=Sum.inr b:=λq=>e (Sum.inr.inj q)
  rw[ah1 h,ah1 e]
theorem RG (a:Int)(b:Str):decide ((Sum.inl a:Key)=Sum.inr b)=false:=ah1 (λq=>nomatch q)
theorem RH (a:Str)(b:Int):decide ((Sum.inr a:Key)=Sum.inl b)=false:=ah1 (λq=>nomatch q)
def b9 (prog:Program)(w:World):PySem.KeyKind prog w Key where
 is:=wD
 hash:=aa5 w
 inj:=λv a b ha hb=>by
  rcases fc ha with ⟨i,t,rfl,rfl⟩|⟨x,t,rfl,rfl⟩
  ·rcases fc hb with ⟨j,u,rfl,e⟩|⟨y,u,rfl,e⟩
   ·injection e with e1 _;rw[e1]
   ·exact nomatch e
  ·rcases fc hb with ⟨j,u,rfl,e⟩|⟨y,u,rfl,e⟩
   ·exact nomatch e
   ·injection e with e1 _;rw[e1]
 byValue:=λk v h=>by
  rcases fc h with ⟨i,t,rfl,rfl⟩|⟨x,t,rfl,rfl⟩ <;> rfl
 pyHash:=λhv h=>by
  rcases fc hv with ⟨i,t,rfl,rfl⟩|⟨x,t,rfl,rfl⟩
  ·exact wpAny_pyHash_int h
  ·exact wpAny_pyHash_str h
 eqBool:=λhu hv h=>by
  rcases fc hu with ⟨i,t,rfl,rfl⟩|⟨x,t,rfl,rfl⟩
  ·rcases fc hv with ⟨j,u,rfl,rfl⟩|⟨y,u,rfl,rfl⟩
   ·rw[RC]at h;exact wpAny_eqBool_int h
   ·rw[RG]at h;exact SeqAt.EqAt.int_str i t y u _ _ _ _ h
  ·rcases fc hv with ⟨j,u,rfl,rfl⟩|⟨y,u,rfl,rfl⟩
   ·rw[RH]at h;exact SeqAt.EqAt.str_int x t j u _ _ _ _ h
   ·rw[RD]at h;exact wpAny_eqBool_str h
 «strs»:=λk x t v h=>by
  rcases fc h with ⟨i,u,rfl,e⟩|⟨y,u,rfl,e⟩
  ·exact nomatch e
  ·injection e with e1 _
   subst e1;cases v <;> rfl
theorem FJ (prog:Program)(w:World)(i:Int)(t:Tok):(b9 prog w).is (.inl i) (.int i t)=true:=Jb i t
theorem FK (prog:Program)(w:World)(x:Str)(t:Tok):(b9 prog w).is (.inr x) (.str x t)=true:=Jc x t
inductive V where
 |non|bl (b:Bool)|int (i:Int)|str (x:Str)|rH (b:Array UInt8)|CY (b:UInt64)|ref (a:Addr)|ty (n:String)
 deriving DecidableEq
def RelV:V->Value->Prop
 |.non,u=>u=Value.none
 |.bl b,u=>u=Value.bool b
 |.int i,u=>∃t,u=Value.int i t
 |.str x,u=>∃t,u=Value.str x t
 |.rH b,u=>∃t,u=Value.bytes b t
 |.CY b,u=>∃t,u=Value.float b t
 |.ref a,u=>u=Value.ref a
 |.ty n,u=>u=Value.type n
abbrev Vals:List V->List Value->Prop:=Paired RelV
theorem Vals.length {xs:List V}{us:List Value}(r:Vals xs us):xs.length=us.length:=Paired.length r
theorem Vals.get:∀{xs:List V} {us:List Value} {i:Nat} {x:V},Vals xs us->xs[i]?=some x->∃u,us[i]?=some u/\RelV x u
 |_,_,_,_,.nil,e=>by simp at e
 |_,_,0,_,.cons r _,e=>by simp at e;subst e;exact⟨_,rfl,r⟩
 |_,_,i+ 1,x,.cons _ t,e=>by
  obtain⟨u,h1,h2⟩:=Vals.get (i:=i) (x:=x) t (by simpa using e);exact⟨u,by simpa using h1,h2⟩
theorem Vals.set {x:V}{u:Value}(r:RelV x u):∀{xs:List V} {us:List Value} (i:Nat),Vals xs us->Vals (xs.set i x) (us.set i u)
 |_,_,_,.nil=>.nil
 |_,_,0,.cons _ t=>.cons r t
 |_,_,i+ 1,.cons q t=>.cons q (Vals.set r i t)
theorem Vals.append:∀{xs ys:List V} {us ws:List Value},Vals xs us->Vals ys ws->Vals (xs++ys) (us++ws)
 |_,_,_,_,.nil,s=>s
 |_,_,_,_,.cons r t,s=>.cons r (Vals.append t s)
theorem Vals.take:∀{xs:List V} {us:List Value} (n:Nat),Vals xs us->Vals (xs.take n) (us.take n)
 |_,_,0,_=>.nil
 |_,_,_+ 1,.nil=>.nil
 |_,_,n+ 1,.cons r t=>.cons r (Vals.take n t)
theorem Vals.drop:∀{xs:List V} {us:List Value} (n:Nat),Vals xs us->Vals (xs.drop n) (us.drop n)
 |_,_,0,r=>r
 |_,_,_+ 1,.nil=>.nil
 |_,_,n+ 1,.cons _ t=>Vals.drop n t
def gQ:Option V->Option Value->Prop
 |some v,some u=>RelV v u
 |none,none=>True
 |_,_=>False
def KV {κ:Type}:List (κ×V)->List (κ×Value)->Prop:=Paired λ(p:κ×V) (q:κ×Value)=>p.1=q.1/\RelV p.2 q.2
def kV:Key->V
 |.inl i=>.int i
 |.inr x=>.str x
inductive HO where
 /-- a list -/
 |lst (xs:List V)
 /-- a tuple (never changes) -/
 |tup (xs:List V)
 /-- a dict whose keys are ints and texts;one whose keys are tuples of ints and texts (the empty one is both) -/
 |dK (kvs:List (Key×V))|dT (kvs:List (List Key×V))
 /-- a set of ints:its members,its size -/
 |set (S:Int->Bool) (n:Nat)
 /-- an instance of the class at C,its dict at dx,its attributes -/
 |ins (C dx:Addr) (fs:List (Str×V))
 /-- the dict of the instance at x -/
 |own (x:Addr)
 /-- the dict of an exception -/
 |xd (fs:List (Str×V))
 /-- a bound method,f of x -/
 |met (f x:Addr)
 /-- a range object lo,lo+ 1,.. below hi -/
 |NT (lo hi:Int)
 /-- a thing that is known to the object (the script;a dict while a loop walks it):read,never written while it is so -/
 |dC (o:Obj) (u:HO)
 /-- a code object's table -/
 |vd (ps:Array Value)
 /-- any other thing,by what is true of its one object (a def of afN own:afW a S n:=HO.ext λh=>..) -/
 |ext (φ:Heap->Prop)
abbrev Hp:=Addr->Option HO
def upd (H:Hp)(a:Addr)(o:HO):Hp:=λb=>if b=a then some o else H b
theorem aj {H:Hp}{a:Addr}{o:HO}:upd H a o a=some o:=by unfold upd;rw[ahu rfl]
theorem av {H:Hp}{a b:Addr}{o:HO}(h:b≠a):upd H a o b=H b:=by unfold upd;rw[ahq h]
theorem cX {H:Hp}{a b:Addr}{o u:HO}(h:H a=some o)(h':H b=some u)(d:o≠u):a≠b:=by
 intro e;subst e;rw[h]at h';exact d (Za0 h')
theorem aI {H:Hp}{a b:Addr}{o:HO}(h:H a=some o)(h':H b=none):a≠b:=by
 intro e;subst e;rw[h]at h';cases h'
section
variable (P:Program) (w:World)
def cK (H:Hp)(h:Heap)(a:Addr):HO->Prop
 |.lst xs=>xs.length<=sizeLine/\∃(its:List Value) (n:Nat),Vals xs its/\h.get? a=some { cls:=.type "list",data:=.seq its.toArray n }
 |.tup xs=>xs.length<=sizeLine/\∃its:List Value,Vals xs its/\IsTup h a its.toArray
 |.dK kvs=>kvs.length<=sizeLine/\(a==sysModules)=false/\∃vs,KV kvs vs/\h.DictOf (b9 P w) a vs
 |.dT kvs=>kvs.length<=sizeLine/\(a==sysModules)=false/\∃xs:List (List Key×Addr×Value),
  Paired (λ(p:List Key×V) (q:List Key×Addr×Value)=>p.1=q.1/\H q.2.1=some (.tup (p.1.map kV))/\RelV p.2 q.2.2) kvs xs/\
  ∃o es ep,h.get? a=some o/\o.ExactDict/\o.data=.dict es ep/\es.toList=xs.map (entryOfKey (tupleKind (b9 P w)))/\(xs.map (·.1)).Nodup
 |.set S n=>h.SetOf (intKind P w) a S n
 |.ins C dx fs=>H dx=some (.own a)/\fs.length<=1000/\dx≠a/\h.get? a=some (PySem.W.instObj C dx)/\
  ∃mA,h.Ns1 dx mA/\(∀f,gQ (fs.lookup f) (mA f))/\PySem.Within mA (fs.map (·.1))
 |.own _=>∃o,h.get? a=some o
 |.xd fs=>∃mA,h.Ns1 a mA/\∀f,gQ (fs.lookup f) (mA f)
 |.NT lo hi=>∃t u v,h.get? a=some { cls:=.type "range",data:=.fields #[.int lo t,.int hi u,.int 1 v] }
 |.dC o u=>h.get? a=some o/\cK H h a u
 |.vd ps=>h.get? a=some { cls:=.none,data:=.fields ps }
 |.met f x=>h.get? a=some (PySem.W.methodObj (.ref f) (.ref x))
 |.ext φ=>φ h/\(∃o,h.get? a=some o)/\∀h1 h2:Heap,φ h1->(∀o,h1.get? a=some o->h2.get? a=some o)->φ h2
def fw (H:Hp)(h:Heap):Prop:=∀a o,H a=some o->cK P w H h a o
end
section
variable {P:Program}{w:World}{H H':Hp}{h h':Heap}{a:Addr}{o:HO}
theorem cK.lt (x:cK P w H h a o):a<h.objs.size:=by
 cases o with
 |lst xs=>obtain⟨_,_,_,_,e⟩:=x;exact ahA e
 |tup xs=>obtain⟨_,_,_,p⟩:=x;exact p.lt
 |dK kvs=>obtain⟨_,_,_,_,o,_,_,e,_⟩:=x;exact ahA e
 |dT kvs=>obtain⟨_,_,_,_,o,_,_,e,_⟩:=x;exact ahA e
 |set S n=>obtain⟨o,_,_,_,e,_⟩:=x;exact ahA e
 |ins C dx fs=>obtain⟨_,_,_,e,_⟩:=x;exact ahA e
 |own y=>obtain⟨_,e⟩:=x;exact ahA e
 |xd fs=>obtain⟨_,⟨_,_,_,e,_⟩,_⟩:=x;exact ahA e
 |NT lo hi=>obtain⟨_,_,_,e⟩:=x;exact ahA e
 |dC ob u=>obtain⟨e,_⟩:=x;exact ahA e
 |vd ps=>exact ahA (show h.get? a=some _ from x)
 |met f y=>exact ahA (show h.get? a=some _ from x)
 |ext φ=>obtain⟨_,⟨_,e⟩,_⟩:=x;exact ahA e
theorem Paired.LN {α β:Type}{F G:α->β->Prop}:∀{RJ:List α} {RK:List β},Paired F RJ RK->(∀a b,F a b->G a b)->Paired G RJ RK
 |_,_,.nil,_=>.nil
 |_,_,.cons r t,f=>.cons (f _ _ r) (Paired.LN t f)
theorem cK.sg (x:cK P w H h a o)(k:∀b u,(b=a\/H b=some (.own a))->h.get? b=some u->h'.get? b=some u)
 (ho:∀b,H b=some (.own a)->H' b=some (.own a)) (ht:∀b xs,H b=some (.tup xs)->H' b=some (.tup xs)):cK P w H' h' a o:=by
 induction o with
 |lst xs=>obtain⟨z,its,n,r,e⟩:=x;exact⟨z,its,n,r,k _ _ (.inl rfl) e⟩
 |tup xs=>obtain⟨z,its,r,ob,e,c⟩:=x;exact⟨z,its,r,ob,k _ _ (.inl rfl) e,c⟩
 |dK kvs=>obtain⟨z,y,vs,r,ob,es,ep,e,c⟩:=x;exact⟨z,y,vs,r,ob,es,ep,k _ _ (.inl rfl) e,c⟩
 |dT kvs=>
  obtain⟨z,y,xs,r,ob,es,ep,e,c⟩:=x;exact⟨z,y,xs,Paired.LN r λp q z=>⟨z.1,ht _ _ z.2.1,z.2.2⟩,ob,es,ep,k _ _ (.inl rfl) e,c⟩
 |set S n=>obtain⟨ob,es,ep,t,e,c⟩:=x;exact⟨ob,es,ep,t,k _ _ (.inl rfl) e,c⟩
 |ins C dx fs=>
  obtain⟨d,z,ne,e,mA,⟨od,es,ep,e2,c⟩,r⟩:=x;exact⟨ho _ d,z,ne,k _ _ (.inl rfl) e,mA,⟨od,es,ep,k _ _ (.inr d) e2,c⟩,r⟩
 |own y=>obtain⟨ob,e⟩:=x;exact⟨ob,k _ _ (.inl rfl) e⟩
 |xd fs=>obtain⟨mA,⟨od,es,ep,e,c⟩,r⟩:=x;exact⟨mA,⟨od,es,ep,k _ _ (.inl rfl) e,c⟩,r⟩
 |NT lo hi=>obtain⟨t,u,v,e⟩:=x;exact⟨t,u,v,k _ _ (.inl rfl) e⟩
 |dC ob u ih=>obtain⟨e,q⟩:=x;exact⟨k _ _ (.inl rfl) e,ih q⟩
 |vd ps=>
  have e:h.get? a=some { cls:=.none,data:=.fields ps }:=x;show h'.get? a=some { cls:=.none,data:=.fields ps };exact k a _ (.inl rfl) e
 |met f y=>
  have e:h.get? a=some (PySem.W.methodObj (.ref f) (.ref y)):=x;show h'.get? a=some (PySem.W.methodObj (.ref f) (.ref y));exact k a _ (.inl rfl) e
 |ext φ=>obtain⟨p,⟨o,e⟩,st⟩:=x;exact⟨st _ _ p λo q=>k _ _ (.inl rfl) q,⟨o,k _ _ (.inl rfl) e⟩,st⟩
theorem fw.lt (x:fw P w H h)(e:H a=some o):a<h.objs.size:=(x a o e).lt
theorem fw.fresh (x:fw P w H h)(e:h.objs.size<=a):H a=none:=by
 cases q:H a with
 |none=>rfl
 |some u=>exact absurd (ahP (x.lt q) e) (aie _)
theorem fw.kept (x:fw P w H h)(k:∀b u,h.get? b=some u->h'.get? b=some u):fw P w H h':=λa o e=>
 (x a o e).sg (λb u _ q=>k b u q) (λ_ q=>q) λ_ _ q=>q
theorem fw.laid (x:fw P w H h)(k:∀b u,h.get? b=some u->h'.get? b=some u)(hp:h.objs.size<=a)(new:cK P w (upd H a o) h' a o):fw P w (upd H a o) h':=λb u e=>by
 have hn:=x.fresh hp;by_cases hb:b=a
 ·subst hb;rw[aj]at e;cases e;exact new
 ·rw[av hb]at e;exact(x b u e).sg (λc v _ q=>k c v q) (λc q=>by rw[av (aI q hn)];exact q) λc xs q=>by rw[av (aI q hn)];exact q
end
def Rd (H:Hp)(a:Addr)(u:HO):Prop:=H a=some u\/∃o,H a=some (.dC o u)
theorem Rd.ok {P:Program}{w:World}{H:Hp}{h:Heap}{a:Addr}{u:HO}(r:Rd H a u)(x:fw P w H h):cK P w H h a u:=by
 rcases r with r|⟨o,r⟩
 ·exact x a u r
 ·obtain⟨_,q⟩:=x a _ r;exact q
def xn:Option HO->Prop
 |some (.lst _)=>True
 |some (.dK _)=>True
 |some (.dT _)=>True
 |some (.set _ _)=>True
 |some (.ins _ _ _)=>True
 |some (.ext _)=>True
 |_=>False
section
variable {P:Program}{w:World}{H:Hp}{h h':Heap}{x e:Addr}{o':HO}
theorem fw.write (ok:fw P w H h)(mu:xn (H x))(he:e=x\/H e=some (.own x))(k:∀b u,b≠e->h.get? b=some u->h'.get? b=some u)(F5:∃u,h'.get? e=some u)
 (new:cK P w (upd H x o') h' x o'):fw P w (upd H x o') h':=λb u q=>by
 have Al:∀c y,H c=some (.own y)->c≠x:=λc y r z=>by subst z;rw[r]at mu;exact mu
 have mN:∀c xs,H c=some (.tup xs)->c≠x:=λc xs r z=>by subst z;rw[r]at mu;exact mu
 by_cases hb:b=x
 ·subst hb;rw[aj]at q;cases q;exact new
 ·rw[av hb]at q;by_cases jR:b=e
  ·have q':H b=some (.own x):=by
    rcases he with z|z
    ·exact absurd (jR.trans z) hb
    ·rw[jR];exact z
   rw[q]at q';cases q';obtain⟨v,hv⟩:=F5;exact⟨v,by rw[jR];exact hv⟩
  ·refine(ok b u q).sg (λc v hc r=>k c v ?_ r) (λc r=>by rw[av (Al c b r)];exact r) λc xs r=>by rw[av (mN c xs r)];exact r
   rcases hc with rfl|hc
   ·exact jR
   ·rintro rfl;rcases he with z|z
    ·exact Al c b hc z
    ·rw[hc]at z;cases z;exact hb rfl
end
structure Un (fs ex:List Addr) (H H':Hp) (h h':Heap):Prop where
 keep:∀b o,h.get? b=some o->H b=none->b∉fs->b∉ex->h'.get? b=some o
 slot:∀b o,h.get? b=some o->H b=none->b∈fs->b∉ex->∃sl,h'.get? b=some { o with slots:=sl }
 free:∀b o,h.get? b=some o->H b=none->b∉ex->H' b=none
 there:∀b o,h.get? b=some o->b∉ex->∃o',h'.get? b=some o'
 qc:∀b xs,H b=some (.tup xs)->H' b=some (.tup xs)
 mO:∀b o u,H b=some (.dC o u)->H' b=some (.dC o u)
 qe:∀b ps,H b=some (.vd ps)->∃more,H' b=some (.vd (ps++more))
section
variable {fs ex:List Addr}{H H1:Hp}{h h1 h':Heap}{a x e:Addr}{o:HO}
theorem Un.any (u:Un fs ex H H1 h h1){b:Addr}{ob:Obj}(q:h.get? b=some ob)(n:H b=none)(hx:b∉ex):∃sl,h1.get? b=some { ob with slots:=sl }:=by
 by_cases hb:b∈fs
 ·exact u.slot b ob q n hb hx
 ·exact⟨ob.slots,u.keep b ob q n hb hx⟩
theorem Un.kept (k:∀b u,h.get? b=some u->h'.get? b=some u):Un fs ex H H h h':=
 ⟨λb ob q _ _ _=>k b ob q,λb ob q _ _ _=>⟨ob.slots,k b ob q⟩,λ_ _ _ n _=>n,λb ob q _=>⟨ob,k b ob q⟩,λ_ _ q=>q,λ_ _ _ q=>q,λ_ ps q=>⟨#[],by rw[q];simp⟩⟩
theorem Un.refl:Un fs ex H H h h:=Un.kept λ_ _ q=>q
theorem Un.laid (k:∀b u,h.get? b=some u->h'.get? b=some u)(hp:h.objs.size<=a)(hn:H a=none):Un fs ex H (upd H a o) h h' where
 keep:=λb u q _ _ _=>k b u q
 slot:=λb u q _ _ _=>⟨u.slots,k b u q⟩
 free:=λb u q n _=>by rw[av (ahS (ahP (ahA q) hp))];exact n
 there:=λb u q _=>⟨u,k b u q⟩
 qc:=λb xs q=>by rw[av (aI q hn)];exact q
 mO:=λb u xs q=>by rw[av (aI q hn)];exact q
 qe:=λb ps q=>⟨#[],by rw[av (aI q hn),q];simp⟩
theorem Un.write (mu:xn (H x))(he:e=x\/H e=some (.own x))(k:∀b u,b≠e->h.get? b=some u->h'.get? b=some u)(F5:∃u,h'.get? e=some u):Un fs ex H (upd H x o) h h':=by
 have hx:∀b,H b=none->b≠x:=λb n z=>by subst z;rw[n]at mu;exact mu
 have hb:∀b,H b=none->b≠e:=λb n z=>by
  subst z;rcases he with r|r
  ·exact hx b n r
  ·rw[n]at r;cases r
 have hm:∀b u,H b=some u->¬xn (some u)->b≠x:=λb u q nm z=>by subst z;rw[q]at mu;exact nm mu
 refine⟨λb u q n _ _=>k b u (hb b n) q,λb u q n _ _=>⟨u.slots,k b u (hb b n) q⟩,λb u q n _=>by rw[av (hx b n)];exact n,λb u q _=>?_,
  λb xs q=>by rw[av (hm b _ q λz=>z)];exact q,λb u xs q=>by rw[av (hm b _ q λz=>z)];exact q,λb ps q=>⟨#[],by rw[av (hm b _ q λz=>z),q];simp⟩⟩
 by_cases jR:b=e
 ·subst jR;exact F5
 ·exact⟨u,k b u jR q⟩
end
def NV (h:Heap)(H:Hp):List Addr:=(List.range h.objs.size).filter λa=>(H a).isSome
def tZ (h:Heap)(H:Hp):Heap:=PySem.W.hideAll h (NV h H)
theorem Jd (h:Heap)(H:Hp):(tZ h H).objs.size=h.objs.size:=PySem.W.hideAll_size _ _
theorem LQ {h:Heap}{H:Hp}{b:Addr}{o:Obj}(e:h.get? b=some o)(n:H b=none):(tZ h H).get? b=some o:=
 PySem.W.hideAll_get _ e λhm=>by
  have q:(H b).isSome=true:=(ajj.mp hm).2;rw[n]at q;simp at q
theorem Qo {h:Heap}{H:Hp}{b:Addr}{o:Obj}(e:(tZ h H).get? b=some o):h.get? b=some o/\H b=none:=by
 have e':h.get? b=some o:=PySem.W.of_hideAll (NV h H) e;refine⟨e',?_⟩
 cases q:H b with
 |none=>rfl
 |some x=>
  have hm:b∈NV h H:=ajj.mpr ⟨air.mpr (ahA e'),by simp[q]⟩;have z:(tZ h H).get? b=none:=PySem.W.hideAll_none (NV h H) hm;rw[z]at e;cases e
def Qp (g h:Heap)(L:Addr):List (Addr×Obj):=(List.range h.objs.size).filterMap λa=>if a=L\/(g.get? a).isSome=true then none else (h.get? a).map λo=>(a,o)
def rest (g h:Heap)(L d:Addr):List (Addr×Obj):=(Qp g h L).filter λp=>decide (p.1≠d)
structure Mod (K:Za1) (mg:Str->Option Value) (base:Heap):Prop where
 Je:K.In base
 glob:base.Ns mainGlobals mg
 blt:∃mb,base.Ns builtinsNs mb/\∀x:Str,x≠"__name__"->mb x=bootBuiltins x
 nolimit:base.NoLimit
structure Cx where
 prog:Program
 w:World
 K:Za1
 mg:Str->Option Value
 base:Heap
 A:Around
 N:List Str
 dA:Shared
 xU:Hp
 env:Env
 outer:List Env
 stack:List Env
 ex:List Addr
 fn:Str->Bool
 calm:Bool
 pn:List (Addr×Obj)
 xe:Value->Shared->Prop
def lA (l:List Env):List Addr:=l.filterMap (·.frame)
abbrev Cx.fs (X:Cx):List Addr:=lA X.outer
def RL (sc:Scope)(x:Str):Prop:=sc.names.lookup x=some .local\/sc.names.lookup x=some .cell\/sc.names.lookup x=some .free
def Loc (sc:Scope)(x:Str):Prop:=sc.names.lookup x=some .local\/sc.names.lookup x=some .cell
def Look (env:Env)(h:Heap)(m:Str->Option Value)(x:Str)(u:Value):Prop:=
 (env.kindOf x=some .local/\m x=some u)\/((env.kindOf x=some .cell\/env.kindOf x=some .free)/\∃c,env.cells.lookup x=some c/\h.IsCell c (some u))
structure Cx.Ok (X:Cx):Prop where
 mod:Mod X.K X.mg X.base
 kind:X.env.scope.kind=.function
 glob:X.env.globals=mainGlobals
 blt:X.env.builtins=builtinsNs
 above:X.dA.heap.objs.size<=X.env.locals
 inj:∀x y c,X.env.cells.lookup x=some c->X.env.cells.lookup y=some c->x=y
 has:∀x,(X.env.kindOf x=some .cell\/X.env.kindOf x=some .free)->∃c,X.env.cells.lookup x=some c
 F6:∀x c,X.fn x=true->X.env.cells.lookup x=some c->X.dA.heap.objs.size<=c
 hd:X.calm=true->X.A.handled=none
 frames:X.A.frames=some X.stack
 Jf:X.stack=X.outer\/(X.stack=X.env::X.outer/\X.env.frame=some X.env.locals)
 RM:∀b∈X.ex,b≠X.env.locals/\∀x c,X.env.cells.lookup x=some c->c≠b
 bs:∀b o,X.base.get? b=some o->X.dA.heap.get? b=some o/\X.xU b=none
 yM:X.base.objs.size<=X.dA.heap.objs.size
 Am:∀b o,X.base.get? b=some o->b∉X.ex
 CZ:∀b∈X.ex,b∉X.fs
 mP:X.dA.heap.FunFrames X.base X.outer
 A9:∀b∈X.fs,X.xU b=none
structure Inv (X:Cx) (pins:List (Addr×Obj)) (σ:List (Option V)) (H:Hp) (s:Shared):Prop where
 ok:X.Ok
 os:s.os=X.dA.os
 bare:AllBare s.gens
 base:Un X.fs X.ex X.xU H X.dA.heap s.heap
 loc:∃m,s.heap.Ns X.env.locals m/\∀(i:Nat) (x:Str) (v:V),X.N[i]?=some x->σ[i]?=some (some v)->RL X.env.scope x->∃u,RelV v u/\Look X.env s.heap m x u
 cell:∀x c,X.env.cells.lookup x=some c->∃v,s.heap.IsCell c v
 free:H X.env.locals=none
 ke:∀x c,X.env.cells.lookup x=some c->H c=none
 pin:∀p∈X.pn++pins,s.heap.get? p.1=some p.2/\H p.1=none/\p.1≠X.env.locals/\p.1∉X.fs/\∀v,p.2.data≠.cell v
 bu:fw X.prog X.w H s.heap
 len:σ.length=X.N.length
section
variable {X:Cx}{pins:List (Addr×Obj)}{σ:List (Option V)}{H H':Hp}{s:Shared}{h':Heap}
theorem Cx.Ok.aa6 (ok:X.Ok){b:Addr}{o:Obj}(e:X.base.get? b=some o):b∉X.fs:=λhb=>by
 have:=(ok.mP.mem hb).1;rw[e]at this;cases this
theorem Inv.bs (I:Inv X pins σ H s):∀b o,X.base.get? b=some o->s.heap.get? b=some o/\H b=none:=λb o e=>
 ⟨I.base.keep b o (I.ok.bs b o e).1 (I.ok.bs b o e).2 (I.ok.aa6 e) (I.ok.Am b o e),I.base.free b o (I.ok.bs b o e).1 (I.ok.bs b o e).2 (I.ok.Am b o e)⟩
theorem Inv.bk (I:Inv X pins σ H s):∀b o,X.base.get? b=some o->s.heap.get? b=some o:=λb o e=>(I.bs b o e).1
theorem Inv.mod (I:Inv X pins σ H s):Mod X.K X.mg X.base:=I.ok.mod
theorem Inv.iS (I:Inv X pins σ H s):X.K.In s.heap:=I.ok.mod.Je.keeps I.bk
theorem Inv.lt (I:Inv X pins σ H s):X.env.locals<s.heap.objs.size:=let ⟨_,hn,_⟩:=I.loc;hn.lt
theorem Inv.sz (I:Inv X pins σ H s):X.dA.heap.objs.size<=s.heap.objs.size:=ahC I.ok.above (Nat.le_of_lt I.lt)
theorem Inv.RN (I:Inv X pins σ H s){a:Addr}(h:s.heap.objs.size<=a):a∉X.fs:=λhb=>by
 obtain⟨_,o,ho,_⟩:=I.ok.mP.mem hb;exact absurd (ahP (ahA ho) (ahC I.sz h)) (aie _)
theorem Inv.ve (I:Inv X pins σ H s):∀x c,X.env.cells.lookup x=some c->c≠X.env.locals:=λx c e z=>by
 obtain⟨v,o,ho,hd⟩:=I.cell x c e;obtain⟨m,⟨o',es,ep,vf,fx,_⟩,_⟩:=I.loc;rw[z,vf]at ho;cases ho;rw[fx]at hd;cases hd
theorem Inv.mP (I:Inv X pins σ H s):s.heap.FunFrames X.base X.outer:=by
 have all:∀(l:List Env),(∀b∈lA l,b∈X.fs)->X.dA.heap.FunFrames X.base l->s.heap.FunFrames X.base l:=by
  intro l
  induction l with
  |nil=>intro _ _;trivial
  |cons env r ih=>
   intro hs hl;obtain⟨hk,⟨L,o,hf,hn,ho,hd⟩,hr⟩:=hl;have hL:L∈X.fs:=hs L (by unfold lA;rw[List.filterMap_cons,hf];exact ahv);obtain⟨sl,e⟩:=I.base.slot L o ho (I.ok.A9 L hL) hL λz=>I.ok.CZ L z hL
   exact⟨hk,⟨L,_,hf,hn,e,hd⟩,ih (λb hb=>hs b (by unfold lA;rw[List.filterMap_cons,hf];exact ahL _ hb)) hr⟩
 exact all X.outer (λ_ hb=>hb) I.ok.mP
theorem Inv.stack (I:Inv X pins σ H s):s.heap.FunFrames X.base X.stack:=by
 rcases I.ok.Jf with e|⟨e,hf⟩
 ·rw[e];exact I.mP
 ·rw[e];obtain⟨m,hn,_⟩:=I.loc;refine .cons (by rw[I.ok.kind];decide) hf hn ?_ I.mP;exact Heap.get?_none_of_le (ahC I.ok.yM I.ok.above)
theorem Inv.C0 (I:Inv X pins σ H s):∀b∈lA X.stack,b∈X.env.locals::X.fs:=λb hb=>by
 rcases I.ok.Jf with e|⟨e,hf⟩
 ·rw[e]at hb;exact ahL _ hb
 ·rw[e]at hb;unfold lA at hb;rw[List.filterMap_cons,hf]at hb;exact hb
theorem Inv.F7 (I:Inv X pins σ H s):∀b∈lA X.stack,H b=none:=λb hb=>by
 rcases ahp.mp (I.C0 b hb) with e|hb
 ·rw[e];exact I.free
 ·obtain⟨_,o,ho,_⟩:=I.ok.mP.mem hb;exact I.base.free b o ho (I.ok.A9 b hb) λz=>I.ok.CZ b z hb
theorem Inv.step {g':Array GenState}{t':Nat}{d':Drawn}{ch:List Addr}(I:Inv X pins σ H s)
 (xo:∀b∈ch,(b∈X.ex\/X.dA.heap.objs.size<=b)/\b≠X.env.locals/\(∀x c,X.env.cells.lookup x=some c->c≠b)/\∀p∈X.pn++pins,p.1≠b)
 (keep:∀b o,b≠X.env.locals->b∉X.fs->b∉ch->s.heap.get? b=some o->H b=none->h'.get? b=some o)
 (slot:∀b o,b≠X.env.locals->b∈X.fs->b∉ch->s.heap.get? b=some o->H b=none->∃sl,h'.get? b=some { o with slots:=sl }) (free:∀b o,b∉ch->s.heap.get? b=some o->H b=none->H' b=none)
 (there:∀b o,b∉ch->s.heap.get? b=some o->∃o',h'.get? b=some o')
 (qc:∀b xs,H b=some (.tup xs)->H' b=some (.tup xs)) (mO:∀b o u,H b=some (.dC o u)->H' b=some (.dC o u)) (qe:∀b ps,H b=some (.vd ps)->∃more,H' b=some (.vd (ps++more)))
 (ns:∀m,s.heap.Ns X.env.locals m->h'.Ns X.env.locals m) (bu:fw X.prog X.w H' h') (hg:AllBare g'):
 Inv X pins σ H' { s with heap:=h',gens:=g',drawn:=d',toks:=t' }:=by
 have XD:∀b o,X.dA.heap.get? b=some o->b≠X.env.locals:=λb o e=>ahS (ahP (ahA e) I.ok.above)
 have F8:∀b o,X.dA.heap.get? b=some o->b∉X.ex->b∉ch:=λb o e hx hb=>by
  rcases (xo b hb).1 with z|z
  ·exact hx z
  ·exact absurd (ahP (ahA e) z) (aie _)
 have cellK:∀x c,X.env.cells.lookup x=some c->∀v,s.heap.IsCell c v->h'.IsCell c v:=λx c e v ⟨o,ho,hd⟩=>by
  have Jg:c∉ch:=λz=>(xo c z).2.2.1 x c e rfl
  by_cases hc:c∈X.fs
  ·obtain⟨sl,q⟩:=slot c o (I.ve x c e) hc Jg ho (I.ke x c e);exact⟨_,q,hd⟩
  ·exact⟨o,keep c o (I.ve x c e) hc Jg ho (I.ke x c e),hd⟩
 refine⟨I.ok,I.os,hg,⟨λb o e n hb hx=>?_,λb o e n hb hx=>?_,λb o e n hx=>?_,λb o e hx=>?_,λb xs e=>qc b xs (I.base.qc b xs e),λb o xs e=>mO b o xs (I.base.mO b o xs e),λb ps e=>?_⟩,?_,λx c e=>?_,?_,λx c e=>?_,λp hp=>?_,bu,I.len⟩
 ·exact keep b o (XD b o e) hb (F8 b o e hx) (I.base.keep b o e n hb hx) (I.base.free b o e n hx)
 ·obtain⟨sl,e1⟩:=I.base.slot b o e n hb hx;obtain⟨sl',e2⟩:=slot b _ (XD b o e) hb (F8 b o e hx) e1 (I.base.free b o e n hx);exact⟨sl',e2⟩
 ·obtain⟨o',e1⟩:=I.base.there b o e hx;exact free b o' (F8 b o e hx) e1 (I.base.free b o e n hx)
 ·obtain⟨o',e1⟩:=I.base.there b o e hx;exact there b o' (F8 b o e hx) e1
 ·obtain⟨m1,e1⟩:=I.base.qe b ps e;obtain⟨m2,e2⟩:=qe b _ e1;exact⟨m1++m2,by rw[e2,Array.append_assoc]⟩
 ·obtain⟨m,hn,hl⟩:=I.loc;refine⟨m,ns m hn,λi x v e1 e2 e3=>?_⟩;obtain⟨u,r,l⟩:=hl i x v e1 e2 e3;refine⟨u,r,?_⟩;rcases l with l|⟨k,c,e,z⟩
  ·exact .inl l
  ·exact .inr ⟨k,c,e,cellK x c e _ z⟩
 ·obtain⟨v,z⟩:=I.cell x c e;exact⟨v,cellK x c e v z⟩
 ·obtain⟨m,⟨o,_,_,ho,_⟩,_⟩:=I.loc;exact free _ o (λz=>(xo _ z).2.1 rfl) ho I.free
 ·obtain⟨v,o,ho,hd⟩:=I.cell x c e;exact free c o (λz=>(xo c z).2.2.1 x c e rfl) ho (I.ke x c e)
 ·obtain⟨e,n,ne,nf,d⟩:=I.pin p hp;have Jg:p.1∉ch:=λz=>(xo p.1 z).2.2.2 p hp rfl
  exact⟨keep p.1 p.2 ne nf Jg e n,free p.1 p.2 Jg e n,ne,nf,d⟩
theorem Inv.un {t':Nat}(I:Inv X pins σ H s)(u:Un X.fs [] H H' s.heap h')(bu:fw X.prog X.w H' h'):Inv X pins σ H' { s with heap:=h',toks:=t' }:=by
 obtain⟨m,⟨o,es,ep,ho,r⟩,_⟩:=id I.loc;obtain⟨sl,hL⟩:=u.any ho I.free (by simp)
 exact I.step (g':=s.gens) (d':=s.drawn) (ch:=[]) (λ_ z=>nomatch z) (λb o _ hb _ e n=>u.keep b o e n hb (by simp)) (λb o _ hb _ e n=>u.slot b o e n hb (by simp)) (λb o _ e n=>u.free b o e n (by simp)) (λb o _ e=>u.there b o e (by simp)) u.qc u.mO u.qe (λm' hm=>by
  obtain⟨o',RP,RT,vf,r'⟩:=hm;rw[ho]at vf;cases vf;exact⟨_,RP,RT,hL,r'⟩) bu I.bare
theorem Inv.call {g':Array GenState}{t':Nat}{d':Drawn}{ch:List Addr}(I:Inv X pins σ H s)(u:Un (lA X.stack) ch H H' s.heap h')(bu:fw X.prog X.w H' h')(hg:AllBare g')
 (xo:∀b∈ch,(b∈X.ex\/X.dA.heap.objs.size<=b)/\b≠X.env.locals/\(∀x c,X.env.cells.lookup x=some c->c≠b)/\∀p∈X.pn++pins,p.1≠b):
 Inv X pins σ H' { s with heap:=h',gens:=g',drawn:=d',toks:=t' }:=by
 obtain⟨m,⟨o,es,ep,ho,r⟩,_⟩:=id I.loc;obtain⟨sl,hL⟩:=u.any ho I.free λz=>(xo _ z).2.1 rfl
 exact I.step (ch:=ch) xo (λb o hL hb hc e n=>u.keep b o e n (λz=>(ahp.mp (I.C0 b z)).elim hL hb) hc) (λb o _ _ hc e n=>u.any e n hc) (λb o hc e n=>u.free b o e n hc) (λb o hc e=>u.there b o e hc) u.qc u.mO u.qe (λm' hm=>by
  obtain⟨o',RP,RT,vf,r'⟩:=hm;rw[ho]at vf;cases vf;exact⟨_,RP,RT,hL,r'⟩) bu hg
theorem Inv.turned {t':Nat}{it:Addr}(I:Inv X pins σ H s)(k:∀b o,b≠it->s.heap.get? b=some o->h'.get? b=some o)(hn:H it=none)(hL:it≠X.env.locals)
 (h1:it∈X.ex\/X.dA.heap.objs.size<=it) (h2:∀x c,X.env.cells.lookup x=some c->c≠it) (h3:∀p∈X.pn++pins,p.1≠it):Inv X pins σ H { s with heap:=h',toks:=t' }:=by
 have XE:∀b u,H b=some u->b≠it:=λb u e z=>by rw[z,hn]at e;cases e
 refine I.step (g':=s.gens) (d':=s.drawn) (ch:=[it]) (λb hb=>?_) (λb o _ _ hc e _=>k b o (λz=>hc (by simp[z])) e) (λb o _ _ hc e _=>⟨o.slots,k b o (λz=>hc (by simp[z])) e⟩) (λ_ _ _ _ n=>n)
  (λb o hc e=>⟨o,k b o (λz=>hc (by simp[z])) e⟩) (λ_ _ e=>e) (λ_ _ _ e=>e) (λb ps e=>⟨#[],by rw[e];simp⟩) (λm hm=>?_) (λb u e=>?_) I.bare
 ·have e:b=it:=by simpa using hb
  subst e;exact⟨h1,hL,h2,h3⟩
 ·obtain⟨o,es,ep,ho,r⟩:=hm;exact⟨o,es,ep,k _ o (ail hL) ho,r⟩
 ·refine(I.bu b u e).sg (λc v hc q=>k c v ?_ q) (λ_ q=>q) λ_ _ q=>q
  rcases hc with z|z
  ·rw[z];exact XE b u e
  ·exact XE c _ z
theorem Inv.tok (I:Inv X pins σ H s)(t:Nat):Inv X pins σ H { s with toks:=t }:=I.un (h':=s.heap) (t':=t) Un.refl I.bu
theorem Inv.kept {t':Nat}(I:Inv X pins σ H s)(k:∀b u,s.heap.get? b=some u->h'.get? b=some u):Inv X pins σ H { s with heap:=h',toks:=t' }:=I.un (Un.kept k) (I.bu.kept k)
theorem Inv.laid {a:Addr}{o:HO}{t':Nat}(I:Inv X pins σ H s)(k:∀b u,s.heap.get? b=some u->h'.get? b=some u)(hp:s.heap.objs.size<=a)(new:cK X.prog X.w (upd H a o) h' a o):
 Inv X pins σ (upd H a o) { s with heap:=h',toks:=t' }:=I.un (Un.laid k hp (I.bu.fresh hp)) (I.bu.laid k hp new)
theorem Inv.write {x e:Addr}{o:HO}{t':Nat}(I:Inv X pins σ H s)(mu:xn (H x))(he:e=x\/H e=some (.own x))(k:∀b u,b≠e->s.heap.get? b=some u->h'.get? b=some u)(F5:∃u,h'.get? e=some u)
 (new:cK X.prog X.w (upd H x o) h' x o):Inv X pins σ (upd H x o) { s with heap:=h',toks:=t' }:=I.un (Un.write mu he k F5) (I.bu.write mu he k F5 new)
theorem Inv.sU {t5:List (Addr×Obj)}(I:Inv X pins σ H s)(h:∀p∈t5,s.heap.get? p.1=some p.2/\H p.1=none/\p.1≠X.env.locals/\p.1∉X.fs/\∀v,p.2.data≠.cell v):Inv X t5 σ H s:=
 ⟨I.ok,I.os,I.bare,I.base,I.loc,I.cell,I.free,I.ke,λp hp=>(ahx.mp hp).elim (λz=>I.pin p (ahF _ z)) (h p),I.bu,I.len⟩
theorem C1 {N:List Str}(hN:N.Nodup){i j:Nat}{x:Str}(a:N[i]?=some x)(b:N[j]?=some x):i=j:=by
 obtain⟨h1,e1⟩:=ahd.mp a;obtain⟨h2,e2⟩:=ahd.mp b;exact(List.getElem_inj hN).mp (e1.trans e2.symm)
theorem Ba {M:Model}{A:Around}{E:Value->Shared->Prop}{i:Nat}{x:Str}{v:V}{u:Value}{Q:Unit->Shared->Prop}(I:Inv X pins σ H s)(hN:X.N.Nodup)(hi:X.N[i]?=some x)(hx:Loc X.env.scope x)(r:RelV v u)
 (h:∀s',Inv X pins (σ.set i (some v)) H s'->(∃a,Heap.SameBut a s.heap s'.heap/\(a=X.env.locals\/X.env.cells.lookup x=some a))->Q () s') (hf:X.fn x=true\/X.env.scope.names.lookup x=some .local:=by first|exact .inl rfl|exact .inr rfl|assumption):wpAny M A (storeName X.env x u) Q E s:=by
 obtain⟨m,hn,hl⟩:=id I.loc;have aa7:(X.env.scope.kind==.class || (X.env.scope.kind==.module && X.env.locals !=X.env.globals))=false:=by rw[I.ok.kind];rfl
 have RV:i < σ.length:=by rw[I.len];exact(ahd.mp hi).1
 have ve:=I.ve
 have tracked:∀{a:Addr} {h':Heap},(∃o,s.heap.get? a=some o/\H a=none)->Heap.SameBut a s.heap h'->fw X.prog X.w H h':=λ{a h'} ha hs b ob e=>by
  obtain⟨_,_,lB⟩:=ha;refine(I.bu b ob e).sg (λc w' hc q=>(hs.2 c ?_).trans q) (λ_ q=>q) λ_ _ q=>q
  rintro rfl;rcases hc with rfl|hc
  ·rw[lB]at e;cases e
  ·rw[lB]at hc;cases hc
 rcases hx with hk|hk
 ·refine wpAny_storeName_local hk hn (λh' hn' hs=>?_) aa7;obtain⟨oL,_,_,hoL,_⟩:=id hn;refine h _ ⟨I.ok,I.os,I.bare,⟨λb o e n hb hx=>?_,λb o e n hb hx=>?_,I.base.free,λb o e hx=>?_,I.base.qc,I.base.mO,I.base.qe⟩,⟨_,hn',λj y v' e1 e2 e3=>?_⟩,λy c e=>?_,I.free,I.ke,λp hp=>?_,tracked ⟨oL,hoL,I.free⟩ hs,by simpa using I.len⟩ ⟨_,hs,.inl rfl⟩
  ·exact(hs.2 b (ahS (ahP (ahA e) I.ok.above))).trans (I.base.keep b o e n hb hx)
  ·obtain⟨sl,e1⟩:=I.base.slot b o e n hb hx;exact⟨sl,(hs.2 b (ahS (ahP (ahA e) I.ok.above))).trans e1⟩
  ·obtain⟨o',e1⟩:=I.base.there b o e hx;exact⟨o',(hs.2 b (ahS (ahP (ahA e) I.ok.above))).trans e1⟩
  ·by_cases hj:j=i
   ·subst hj;rw[hi]at e1;cases e1;rw[ahW RV]at e2;cases e2;exact⟨u,r,.inl ⟨hk,by simp⟩⟩
   ·rw[aif (ail hj)]at e2;obtain⟨u',r',q⟩:=hl j y v' e1 e2 e3;refine⟨u',r',?_⟩;rcases q with ⟨k,e⟩|⟨k,c,e,z⟩
    ·refine .inl ⟨k,?_⟩;have:y≠x:=λe=>hj (C1 hN e1 (e ▸ hi))
     simp[this,e]
    ·exact .inr ⟨k,c,e,z.sameBut hs (ve y c e)⟩
  ·obtain⟨w',z⟩:=I.cell y c e;exact⟨w',z.sameBut hs (ve y c e)⟩
  ·obtain⟨e,n,ne,nf,d⟩:=I.pin p hp;exact⟨(hs.2 p.1 ne).trans e,n,ne,nf,d⟩
 ·have RW:X.fn x=true:=by
   rcases hf with z|z
   ·exact z
   ·rw[z]at hk;cases hk
  obtain⟨c,hc⟩:=I.ok.has x (.inl hk);obtain⟨w',z⟩:=I.cell x c hc;refine wpAny_storeName_cell I.ok.kind hk hc z (λh' NW hs=>?_);obtain⟨oc,XF,aa8⟩:=id z;refine h { s with heap:=h' } ⟨I.ok,I.os,I.bare,⟨λb o e n hb hx=>?_,λb o e n hb hx=>?_,I.base.free,λb o e hx=>?_,I.base.qc,I.base.mO,I.base.qe⟩,⟨m,hn.sameBut hs (ail (ve x c hc)),λj y v' e1 e2 e3=>?_⟩,λy c' e=>?_,I.free,I.ke,λp hp=>?_,tracked ⟨oc,XF,I.ke x c hc⟩ hs,by simpa using I.len⟩ ⟨c,hs,.inr hc⟩
  ·exact(hs.2 b (ahS (ahP (ahA e) (I.ok.F6 x c RW hc)))).trans (I.base.keep b o e n hb hx)
  ·obtain⟨sl,e1⟩:=I.base.slot b o e n hb hx;exact⟨sl,(hs.2 b (ahS (ahP (ahA e) (I.ok.F6 x c RW hc)))).trans e1⟩
  ·obtain⟨o',e1⟩:=I.base.there b o e hx;exact⟨o',(hs.2 b (ahS (ahP (ahA e) (I.ok.F6 x c RW hc)))).trans e1⟩
  ·by_cases hj:j=i
   ·subst hj;rw[hi]at e1;cases e1;rw[ahW RV]at e2;cases e2;exact⟨u,r,.inr ⟨.inl hk,c,hc,NW⟩⟩
   ·rw[aif (ail hj)]at e2;obtain⟨u',r',q⟩:=hl j y v' e1 e2 e3;refine⟨u',r',?_⟩;rcases q with q|⟨k,c',e,z'⟩
    ·exact .inl q
    ·refine .inr ⟨k,c',e,z'.sameBut hs ?_⟩;rintro rfl;exact hj (C1 hN e1 (I.ok.inj _ _ _ e hc ▸ hi))
  ·by_cases XG:c'=c
   ·subst XG;exact⟨_,NW⟩
   ·obtain⟨w2,z2⟩:=I.cell y c' e;exact⟨w2,z2.sameBut hs XG⟩
  ·obtain⟨e,n,ne,nf,d⟩:=I.pin p hp;refine⟨(hs.2 p.1 ?_).trans e,n,ne,nf,d⟩;intro q;rw[q,XF]at e;have q':oc=p.2:=Za0 e;exact d w' (by rw[←q'];exact aa8)
theorem C2 {M:Model}{A:Around}{E:Value->Shared->Prop}{i:Nat}{x:Str}{v:V}{u:Value}{Q:Unit->Shared->Prop}(I:Inv X pins σ H s)(hN:X.N.Nodup)(hi:X.N[i]?=some x)(hx:Loc X.env.scope x)(r:RelV v u)
 (h:∀s',Inv X pins (σ.set i (some v)) H s'->Q () s') (hf:X.fn x=true\/X.env.scope.names.lookup x=some .local:=by first|exact .inl rfl|exact .inr rfl|assumption):wpAny M A (storeName X.env x u) Q E s:=
 Ba I hN hi hx r (λs' I' _=>h s' I') hf
theorem Inv.WC {s':Shared}{ch:List Addr}(I:Inv X pins σ H s)(ho:s'.os=s.os)(u:Un (lA X.stack) ch H H' s.heap s'.heap)(bu:fw X.prog X.w H' s'.heap)(hg:AllBare s'.gens)
 (xo:∀b∈ch,(b∈X.ex\/X.dA.heap.objs.size<=b)/\b≠X.env.locals/\(∀x c,X.env.cells.lookup x=some c->c≠b)/\∀p∈X.pn++pins,p.1≠b):Inv X pins σ H' s':=by
 obtain⟨h',g',d',t',o'⟩:=s';have e:o'=s.os:=ho;subst e;exact I.call (g':=g') (t':=t') (d':=d') u bu hg xo
end
abbrev XK:=Value->Option Addr->Hp->Prop
abbrev St:=List (Option V)
abbrev VK:=V->Hp->Prop
abbrev TE:=St->Hp->VK->Prop
abbrev TT:=St->Hp->(Bool->Hp->Prop)->Prop
abbrev TA:=St->Hp->(List V->Hp->Prop)->Prop
structure Ends where
 nx:St->Hp->Prop
 rt:VK
 bk:St->Hp->Prop:=λ_ _=>False
 ct:St->Hp->Prop:=λ_ _=>False
abbrev TS:=Ends->St->Hp->Prop
def EP (X:Cx)(pins:List (Addr×Obj))(σ:St)(Q:VK)(u:Value)(s':Shared):Prop:=∃v H',Inv X pins σ H' s'/\RelV v u/\Q v H'
def TP (X:Cx)(pins:List (Addr×Obj))(σ:St)(Q:Bool->Hp->Prop)(b:Bool)(s':Shared):Prop:=∃H',Inv X pins σ H' s'/\Q b H'
def AP (X:Cx)(pins:List (Addr×Obj))(σ:St)(Q:List V->Hp->Prop)(us:List Value)(s':Shared):Prop:=∃vs H',Inv X pins σ H' s'/\Vals vs us/\Q vs H'
def SP (X:Cx)(pins:List (Addr×Obj))(D:Ends)(f:Flow)(s':Shared):Prop:=
 match f with
 |.next=>∃ aX H',Inv X pins aX H' s'/\D.nx aX H'
 |.brk=>∃ aX H',Inv X pins aX H' s'/\D.bk aX H'
 |.cont=>∃ aX H',Inv X pins aX H' s'/\D.ct aX H'
 |.ret u=>∃v aX H',Inv X pins aX H' s'/\RelV v u/\D.rt v H'
def PE (X:Cx)(e:Expr)(t:TE):Prop:=
 ∀(pins:List (Addr×Obj)) (s:Shared) (σ:St) (H:Hp) (Q:VK),Inv X pins σ H s->t σ H Q->wpAny (model X.prog X.w) X.A (eval e X.env) (EP X pins σ Q) X.xe s
def PT (X:Cx)(e:Expr)(t:TT):Prop:=
 ∀(pins:List (Addr×Obj)) (s:Shared) (σ:St) (H:Hp) (Q:Bool->Hp->Prop),Inv X pins σ H s->t σ H Q->wpAny (model X.prog X.w) X.A (isTrue e X.env (eval e X.env)) (TP X pins σ Q) X.xe s
def PW (X:Cx)(e:Expr)(t:TT):Prop:=
 ∀(whole:Sem Value) (pins:List (Addr×Obj)) (s:Shared) (σ:St) (H:Hp) (Q:Bool->Hp->Prop),Inv X pins σ H s->t σ H Q->wpAny (model X.prog X.w) X.A (isTrue e X.env whole) (TP X pins σ Q) X.xe s
theorem PW.pt {X:Cx}{e:Expr}{t:TT}(h:PW X e t):PT X e t:=h _
def PA (X:Cx)(es:List Expr)(t:TA):Prop:=
 ∀(pos:Pos) (pins:List (Addr×Obj)) (s:Shared) (σ:St) (H:Hp) (Q:List V->Hp->Prop),Inv X pins σ H s->t σ H Q->wpAny (model X.prog X.w) X.A (spliced (backTo pos (starEach es X.env))) (AP X pins σ Q) X.xe s
def PS (X:Cx)(st:Stmt)(t:TS):Prop:=
 ∀(pins:List (Addr×Obj)) (s:Shared) (σ:St) (H:Hp) (D:Ends),Inv X pins σ H s->t D σ H->wpAny (model X.prog X.w) X.A (exec st X.env) (SP X pins D) X.xe s
def sV (X:Cx)(st:List Stmt)(t:TS):Prop:=
 ∀(pins:List (Addr×Obj)) (s:Shared) (σ:St) (H:Hp) (D:Ends),Inv X pins σ H s->t D σ H->wpAny (model X.prog X.w) X.A (execs st X.env) (SP X pins D) X.xe s
theorem bK {α:Type}{t:Sem α}{Q Q':α->Shared->Prop}{M:Model}{A:Around}{E:Value->Shared->Prop}{s:Shared}(h:wpAny M A t Q E s)(hQ:∀a s,Q a s->Q' a s):wpAny M A t Q' E s:=aiF h hQ λ_ _ x=>x
section
variable {X:Cx}
def kx (i:Nat):TE:=λ σ H Q=>∃v,σ[i]?=some (some v)/\Q v H
def tC (v:V):TE:=λ_ H Q=>Q v H
theorem RX {i:Nat}{x:Str}{pos:Pos}(hN:X.N[i]?=some x)(hv:RL X.env.scope x)(hd:(x==("__debug__":Str))=false:=by decide)(qh:(x==("__classdict__":Str))=false:=by decide):PE X (.Name x pos) (kx i):=by
 intro pins s σ H Q I h;obtain⟨v,e,h⟩:=h;obtain⟨m,hn,hl⟩:=I.loc;obtain⟨u,r,l⟩:=hl i x v hN e hv;have fin:EP X pins σ Q u s:=⟨v,H,I,r,h⟩;rcases l with ⟨hk,hm⟩|⟨hk,c,hc,CH⟩
 ·exact wpAny_Name (wpAny_loadName_local I.ok.kind hk hn hm fin) hd
 ·rcases hk with hk|hk
  ·exact wpAny_Name (wpAny_loadName_cell I.ok.kind hk hc CH fin) hd
  ·exact wpAny_Name (wpAny_loadName_free I.ok.kind hk hc CH fin qh) hd
theorem aw {i j pos}:PE X (.Constant (.int i) j pos) (tC (.int i)):=λ_ _ _ H _ I h=>wpAny_Constant_int ⟨.int i,H,I.tok _,⟨_,rfl⟩,h⟩
theorem dD {b j pos}:PE X (.Constant (.bool b) j pos) (tC (.bl b)):=λ_ _ _ H _ I h=>Constant_bool ⟨.bl b,H,I,rfl,h⟩
theorem dv {j pos}:PE X (.Constant .none j pos) (tC .non):=λ_ _ _ H _ I h=>Constant_none ⟨.non,H,I,rfl,h⟩
theorem RZ {x j pos}:PE X (.Constant (.str x) j pos) (tC (.str x)):=λ_ _ _ H _ I h=>Calls.Constant_str ⟨.str x,H,I.tok _,⟨_,rfl⟩,h⟩
def Gl (X:Cx)(x:Str):Prop:=X.env.kindOf x=some .globalImplicit
theorem F9 {E:Value->Shared->Prop}{pins:List (Addr×Obj)}{s:Shared}{σ:St}{H:Hp}{x:Str}{u:Value}{pos:Pos}{Q:Value->Shared->Prop}(I:Inv X pins σ H s)(hg:Gl X x)(hm:X.mg x=some u)(h:Q u s)
 (hd:(x==("__debug__":Str))=false:=by decide):wpAny (model X.prog X.w) X.A (eval (.Name x pos) X.env) Q E s:=
 Calls.Name_function_global I.ok.kind hg (Calls.loadGlobal_global (by rw[I.ok.glob];exact I.mod.glob.keeps I.bk) hm h) hd
theorem oq {E:Value->Shared->Prop}{pins:List (Addr×Obj)}{s:Shared}{σ:St}{H:Hp}{x:Str}{u:Value}{pos:Pos}{Q:Value->Shared->Prop}(I:Inv X pins σ H s)(hg:Gl X x)(hm:X.mg x=none)(hv:bootBuiltins x=some u)(h:Q u s)
 (hn:x≠"__name__":=by decide) (hd:(x==("__debug__":Str))=false:=by decide):wpAny (model X.prog X.w) X.A (eval (.Name x pos) X.env) Q E s:=by
 obtain⟨mb,h1,h2⟩:=I.mod.blt;exact Calls.Name_function_global I.ok.kind hg (Calls.loadGlobal_builtin (by rw[I.ok.glob];exact I.mod.glob.keeps I.bk) hm (by rw[I.ok.blt];exact h1.keeps I.bk) ((h2 x hn).trans hv) h) hd
theorem fO {x:Str}{v:V}{u:Value}{pos:Pos}(hg:Gl X x)(hm:X.mg x=none)(hv:bootBuiltins x=some u)(r:RelV v u)(hn:x≠"__name__":=by decide)(hd:(x==("__debug__":Str))=false:=by decide):PE X (.Name x pos) (tC v):=
 λ_ _ _ H _ I h=>oq I hg hm hv ⟨v,H,I,r,h⟩ hn hd
variable {a b:Expr}{ta tb:TE}{pos:Pos}
def PC (X:Cx)(op:CmpOp)(a b:Expr)(t:TE):Prop:=
 ∀(pins:List (Addr×Obj)) (s:Shared) (σ:St) (H:Hp) (Q:VK),Inv X pins σ H s->t σ H Q->
  wpAny (model X.prog X.w) X.A (eval a X.env) (λv bO=>wpAny (model X.prog X.w) X.A (eval b X.env) (λu iq=>wpAny (model X.prog X.w) X.A (compareOp op v u) (EP X pins σ Q) X.xe iq) X.xe bO) X.xe s
theorem C3 (b:Expr){op:CmpOp}(h:op≠.In)(h2:op≠.NotIn):behindInMarks op b=false:=by
 have e1:(op==CmpOp.In)=false:=by cases op <;> first|rfl|exact absurd rfl h
 have e2:(op==CmpOp.NotIn)=false:=by cases op <;> first|rfl|exact absurd rfl h2
 cases b <;> simp[behindInMarks,e1,e2]
def tB (t:TE):TT:=λ σ H Q=>t σ H λx H1=>∃c,x=.bl c/\Q c H1
theorem Jh {op:CmpOp}{t:TE}(h:PC X op a b t)(h1:behindInMarks op b=false:=by first|exact C3 _ (by decide) (by decide)|rfl):PE X (.Compare a [op] [b] pos) t:=λpins s σ H Q I hw=>wpAny_Compare1 (h pins s σ H Q I hw) h1
theorem qi {op:CmpOp}{t:TE}(h:PC X op a b t)(h1:behindInMarks op b=false:=by first|exact C3 _ (by decide) (by decide)|rfl):PT X (.Compare a [op] [b] pos) (tB t):=by
 intro pins s σ H Q I hw;refine wpAny_isTrue_Compare1 (bK (h pins s σ H _ I hw) λv s1 h1=>bK h1 λu s2 h2=>bK h2 λc s3 ⟨x,H1,I1,r1,q1⟩=>?_) h1;obtain⟨d,rfl,q⟩:=q1;cases r1;exact ai5 ⟨H1,I1,q⟩
theorem cD {e:Expr}{t:TE}(h:PE X e t)(he:∀whole,isTrue e X.env whole=(do let v ←whole;standAt e.pos;holding [v] (truthy v)):=by intro _;rfl):PT X e (tB t):=by
 intro pins s σ H Q I hw;refine isTrue_plain (bK (h pins s σ H _ I hw) λv s1 ⟨x,H1,I1,r1,q1⟩=>?_) (he _);obtain⟨d,rfl,q⟩:=q1;cases r1;exact ai5 ⟨H1,I1,q⟩
variable {tA NX:TT}{rest:List Expr}
def aa9 (t u:TT):TT:=λ σ H Q=>t σ H λc H1=>if c=true then u σ H1 Q else Q false H1
def tOr (t u:TT):TT:=λ σ H Q=>t σ H λc H1=>if c=true then Q true H1 else u σ H1 Q
def abb (t:TT):TT:=λ σ H Q=>t σ H λc H1=>Q (!c) H1
theorem kS (ha:PT X a tA):PW X (.BoolOp .And [a] pos) tA:=by
 intro wh pins s σ H Q I h;refine isTrue_and (bK (ha pins s σ H Q I h) λc s1 e=>?_)
 cases c with
 |true=>exact isTrue_and_nil e
 |false=>exact e
theorem iT (ha:PT X a tA):PW X (.BoolOp .Or [a] pos) tA:=by
 intro wh pins s σ H Q I h;refine isTrue_or (bK (ha pins s σ H Q I h) λc s1 e=>?_)
 cases c with
 |false=>exact isTrue_or_nil e
 |true=>exact e
theorem lC (ha:PT X a tA)(hb:PW X (.BoolOp .And (b::rest) pos) NX):PW X (.BoolOp .And (a::b::rest) pos) (aa9 tA NX):=by
 intro wh pins s σ H Q I h;refine isTrue_and (bK (ha pins s σ H _ I h) λc s1 ⟨H1,I1,q1⟩=>?_)
 cases c with
 |true=>exact hb wh pins s1 σ H1 Q I1 q1
 |false=>exact⟨H1,I1,q1⟩
theorem fE (ha:PT X a tA)(hb:PW X (.BoolOp .Or (b::rest) pos) NX):PW X (.BoolOp .Or (a::b::rest) pos) (tOr tA NX):=by
 intro wh pins s σ H Q I h;refine isTrue_or (bK (ha pins s σ H _ I h) λc s1 ⟨H1,I1,q1⟩=>?_)
 cases c with
 |true=>exact⟨H1,I1,q1⟩
 |false=>exact hb wh pins s1 σ H1 Q I1 q1
theorem gq (ha:PT X a tA):PT X (.UnaryOp .Not a pos) (abb tA):=by
 intro pins s σ H Q I h;exact isTrue_not (ha pins s σ H (λc H1=>Q (!c) H1) I h)
def WG (ta tb:TE):TE:=λ σ H Q=>ta σ H λx H1=>∃c,x=.bl c/\if c=true then tb σ H1 Q else Q (.bl false) H1
def WH (ta:TE):TE:=λ σ H Q=>ta σ H λx H1=>∃c,x=.bl c/\Q (.bl (!c)) H1
theorem C4 {op}{t:TE}(h:PE X a t):PE X (.BoolOp op [a] pos) t:=λpins s σ H Q I hw=>BoolOp_one (h pins s σ H Q I hw)
theorem yN (ha:PE X a ta)(hb:PE X (.BoolOp .And (b::rest) pos) tb):PE X (.BoolOp .And (a::b::rest) pos) (WG ta tb):=by
 intro pins s σ H Q I h;refine BoolOp_and (bK (ha pins s σ H _ I h) λv s1 ⟨x,H1,I1,r1,q1⟩=>?_);obtain⟨c,rfl,q1⟩:=q1;cases r1;refine ai5 ?_
 cases c with
 |true=>exact hb pins s1 σ H1 Q I1 q1
 |false=>exact⟨.bl false,H1,I1,rfl,q1⟩
theorem R0 (ha:PE X a ta):PE X (.UnaryOp .Not a pos) (WH ta):=by
 intro pins s σ H Q I h;refine UnaryOp_ (bK (ha pins s σ H _ I h) λv s1 ⟨x,H1,I1,r1,q1⟩=>?_);obtain⟨c,rfl,q1⟩:=q1;cases r1;exact not_of (ai5 ⟨.bl (!c),H1,I1,rfl,q1⟩)
end
def aM (K:Za1)(H:Hp)(a:Addr)(xs:List V):Prop:=
 Rd H a (.lst xs)\/
  ∃(o:Obj) (its:Array Value) (n:Nat),K.lookup a=some o/\o.cls=.type "list"/\o.dict=none/\o.data=.seq its n/\its.size<=sizeLine/\Vals xs its.toList
def bL (K:Za1)(H:Hp)(a:Addr)(xs:List V):Prop:=
 Rd H a (.tup xs)\/
  ∃(o:Obj) (its:Array Value) (n:Nat),K.lookup a=some o/\o.cls=.type "tuple"/\o.data=.seq its n/\its.size<=sizeLine/\Vals xs its.toList
def abd:Value->Option V
 |.none=>some .non
 |.bool b=>some (.bl b)
 |.int i _=>some (.int i)
 |.str x _=>some (.str x)
 |.bytes b _=>some (.rH b)
 |.float b _=>some (.CY b)
 |.ref a=>some (.ref a)
 |.type n=>some (.ty n)
 |_=>none
theorem RelV.abs {x:V}{u:Value}(r:RelV x u):abd u=some x:=by
 cases x with
 |non=>cases r;rfl
 |bl _=>cases r;rfl
 |int _=>obtain⟨t,rfl⟩:=r;rfl
 |str _=>obtain⟨t,rfl⟩:=r;rfl
 |rH _=>obtain⟨t,rfl⟩:=r;rfl
 |CY _=>obtain⟨t,rfl⟩:=r;rfl
 |ref _=>cases r;rfl
 |ty _=>cases r;rfl
theorem RelV.inj {x y:V}{u:Value}(r:RelV x u)(q:RelV y u):x=y:=Za0 (r.abs.symm.trans q.abs)
theorem Vals.inj:∀{xs ys:List V} {us:List Value},Vals xs us->Vals ys us->xs=ys
 |_,_,_,.nil,.nil=>rfl
 |_,_,_,.cons r t,.cons r' t'=>by rw[r.inj r',Vals.inj t t']
section
variable {X:Cx}{pins:List (Addr×Obj)}{σ:St}{H:Hp}{s:Shared}{a:Addr}{xs ys:List V}
theorem aM.of {K:Za1}(h:H a=some (.lst xs)):aM K H a xs:=.inl (.inl h)
theorem bL.of {K:Za1}(h:H a=some (.tup xs)):bL K H a xs:=.inl (.inl h)
theorem Inv.list (I:Inv X pins σ H s)(h:aM X.K H a xs):∃its:List Value,Vals xs its/\PlainL s.heap a its.toArray/\xs.length<=sizeLine:=by
 rcases h with h|⟨o,its,n,hk,hc,hd,hs,hz,r⟩
 ·obtain⟨z,its,n,r,e⟩:=h.ok I.bu;exact⟨its,r,⟨_,n,e,rfl,rfl,rfl⟩,z⟩
 ·refine⟨its.toList,r,⟨o,n,I.iS a o hk,hc,hd,by simpa using hs⟩,?_⟩;have e:=r.length;simp only[ajR]at e;omega
theorem Inv.tuple (I:Inv X pins σ H s)(h:bL X.K H a xs):∃its:List Value,Vals xs its/\IsTup s.heap a its.toArray/\xs.length<=sizeLine:=by
 rcases h with h|⟨o,its,n,hk,hc,hs,hz,r⟩
 ·obtain⟨z,its,r,p⟩:=h.ok I.bu;exact⟨its,r,p,z⟩
 ·refine⟨its.toList,r,⟨o,I.iS a o hk,hc,n,by simpa using hs⟩,?_⟩;have e:=r.length;simp only[ajR]at e;omega
theorem Inv.xV (I:Inv X pins σ H s)(h:aM X.K H a xs)(h':aM X.K H a ys):xs=ys:=by
 obtain⟨its,r,⟨o,n,e,_,_,d⟩,_⟩:=I.list h;obtain⟨its',r',⟨o',n',e',_,_,d'⟩,_⟩:=I.list h';rw[e]at e';cases e';rw[d]at d';injection d' with d1 _
 have:its=its':=by simpa using ah6 Array.toList d1
 subst this;exact r.inj r'
theorem Inv.Bb (I:Inv X pins σ H s)(h:bL X.K H a xs)(h':bL X.K H a ys):xs=ys:=by
 obtain⟨its,r,⟨o,e,_,n,d⟩,_⟩:=I.tuple h;obtain⟨its',r',⟨o',e',_,n',d'⟩,_⟩:=I.tuple h';rw[e]at e';cases e';rw[d]at d';injection d' with d1 _
 have:its=its':=by simpa using ah6 Array.toList d1
 subst this;exact r.inj r'
end
abbrev Cx.wish (X:Cx) (E:Value->Shared->Prop):Cx:={ X with xe:=E }
abbrev Cx.Ji (X:Cx):Cx:=X.wish λ_ _=>False
theorem Cx.Ok.wish {X:Cx}(ok:X.Ok)(E:Value->Shared->Prop):(X.wish E).Ok:=
 ⟨ok.mod,ok.kind,ok.glob,ok.blt,ok.above,ok.inj,ok.has,ok.F6,ok.hd,ok.frames,ok.Jf,ok.RM,ok.bs,ok.yM,ok.Am,ok.CZ,ok.mP,ok.A9⟩
theorem Cx.Ok.ou {X:Cx}{E:Value->Shared->Prop}(ok:(X.wish E).Ok):X.Ok:=
 ⟨ok.mod,ok.kind,ok.glob,ok.blt,ok.above,ok.inj,ok.has,ok.F6,ok.hd,ok.frames,ok.Jf,ok.RM,ok.bs,ok.yM,ok.Am,ok.CZ,ok.mP,ok.A9⟩
section
variable {X:Cx}{pins:List (Addr×Obj)}{σ:St}{H:Hp}{s:Shared}{E:Value->Shared->Prop}
theorem Inv.wish (I:Inv X pins σ H s)(E:Value->Shared->Prop):Inv (X.wish E) pins σ H s:=⟨I.ok.wish E,I.os,I.bare,I.base,I.loc,I.cell,I.free,I.ke,I.pin,I.bu,I.len⟩
theorem Inv.ou (I:Inv (X.wish E) pins σ H s):Inv X pins σ H s:=⟨I.ok.ou,I.os,I.bare,I.base,I.loc,I.cell,I.free,I.ke,I.pin,I.bu,I.len⟩
theorem SP.ou {D:Ends}{f:Flow}{s':Shared}(h:SP (X.wish E) pins D f s'):SP X pins D f s':=by
 cases f with
 |next=>obtain⟨aX,H',I,q⟩:=h;exact⟨aX,H',I.ou,q⟩
 |brk=>obtain⟨aX,H',I,q⟩:=h;exact⟨aX,H',I.ou,q⟩
 |cont=>obtain⟨aX,H',I,q⟩:=h;exact⟨aX,H',I.ou,q⟩
 |ret u=>obtain⟨v,aX,H',I,r,q⟩:=h;exact⟨v,aX,H',I.ou,r,q⟩
theorem sV.Ji {st:List Stmt}{t:TS}(h:sV X.Ji st t):sV X st t:=λpins s σ H D I hw=>
 aiF (h pins s σ H D (I.wish _) hw) (λ_ _ q=>q.ou) λ_ _ z=>False.elim z
end
section
variable {X:Cx}{st:Stmt}{rest:List Stmt}{t u:TS}{e:Expr}{te:TE}{pos:Pos}
def WL:TS:=λD σ H=>D.nx σ H
def aH (t u:TS):TS:=λD σ H=>t { D with nx:=u D } σ H
theorem bC:sV X [] WL:=λ_ _ σ H _ I h=>wpAny_execs_nil ⟨σ,H,I,h⟩
theorem ai (h1:PS X st t)(h2:sV X rest u):sV X (st::rest) (aH t u):=by
 intro pins s σ H D I h;refine wpAny_execs_cons (bK (h1 pins s σ H { D with nx:=u D } I h) λf s1 q=>?_)
 cases f with
 |next=>
  obtain⟨aX,H',I',q⟩:=q;exact h2 pins s1 aX H' D I' q
 |ret v=>exact q
 |brk=>exact q
 |cont=>exact q
theorem aq (h1:PS X st t):sV X [st] t:=by
 intro pins s σ H D I h;refine wpAny_execs_cons (bK (h1 pins s σ H D I h) λf s1 q=>?_)
 cases f with
 |next=>exact wpAny_execs_nil q
 |ret v=>exact q
 |brk=>exact q
 |cont=>exact q
def R5:TS:=λD σ H=>D.bk σ H
def WM:TS:=λD σ H=>D.ct σ H
theorem xW:PS X (.Break pos) R5:=λ_ _ σ H _ I h=>wpAny_Break ⟨σ,H,I,h⟩
theorem FL:PS X (.Continue pos) WM:=λ_ _ σ H _ I h=>wpAny_Continue ⟨σ,H,I,h⟩
theorem Inv.quiet {pins:List (Addr×Obj)}{σ:St}{H:Hp}{s:Shared}(I:Inv X pins σ H s):interactive X.env=false:=by simp[interactive,I.ok.kind]
def NZ (te:TE):TS:=λD σ H=>te σ H λ_ H1=>D.nx σ H1
theorem bH (he:PE X e te)(hs:swapsWith e none pos.line X.env=pure false:=by rfl):PS X (.Expr e pos) (NZ te):=by
 intro pins s σ H D I h;exact wpAny_Expr_any (bK (he pins s σ H _ I h) λv s1 ⟨x,H1,I1,r1,q1⟩=>⟨σ,H1,I1,q1⟩) I.quiet hs
def abe (te:TE):TS:=λD σ H=>te σ H D.rt
theorem bz (he:PE X e te):PS X (.Return (some e) pos) (abe te):=by
 intro pins s σ H D I h;exact wpAny_Return_some (bK (he pins s σ H _ I h) λv s1 ⟨x,H1,I1,r1,q1⟩=>⟨x,σ,H1,I1,r1,q1⟩)
def WN:TS:=λD _ H=>D.rt .non H
theorem An:PS X (.Return none pos) WN:=λ_ _ σ H _ I h=>wpAny_Return_none ⟨.non,σ,H,I,rfl,h⟩
def R6 (c:TT)(t u:TS):TS:=λD σ H=>c σ H λb H1=>if b=true then t D σ H1 else u D σ H1
theorem bP {c:Expr}{a b:List Stmt}{tc:TT}(hc:PT X c tc)(ha:sV X a t)(hb:sV X b u):PS X (.If c a b pos) (R6 tc t u):=by
 intro pins s σ H D I h;refine wpAny_If (bK (hc pins s σ H _ I h) λd s1 ⟨H1,I1,q1⟩=>?_)
 cases d with
 |true=>exact ha pins s1 σ H1 D I1 q1
 |false=>exact hb pins s1 σ H1 D I1 q1
end
abbrev TG:=V->St->Hp->(St->Hp->Prop)->Prop
abbrev C5:=List V->St->Hp->(St->Hp->Prop)->Prop
def PG (X:Cx)(target:Expr)(t:TG):Prop:=
 ∀(pins:List (Addr×Obj)) (s:Shared) (σ:St) (H:Hp) (v:V) (u:Value) (Q:St->Hp->Prop),Inv X pins σ H s->RelV v u->t v σ H Q->
  wpAny (model X.prog X.w) X.A (assign target X.env u) (λ_ s'=>∃ aX H',Inv X pins aX H' s'/\Q aX H') X.xe s
def N0 (X:Cx)(ts:List Expr)(t:C5):Prop:=
 ∀(pins:List (Addr×Obj)) (s:Shared) (σ:St) (H:Hp) (vs:List V) (us:List Value) (Q:St->Hp->Prop),Inv X pins σ H s->Vals vs us->t vs σ H Q->
  wpAny (model X.prog X.w) X.A (assignInOrder ((assignEach ts X.env).map (·.2)) us) (λ_ s'=>∃ aX H',Inv X pins aX H' s'/\Q aX H') X.xe s
abbrev LR:=V->V->V->Hp->(Hp->Prop)->Prop
def R7 (X:Cx)(t:LR):Prop:=
 ∀(pins:List (Addr×Obj)) (s:Shared) (σ:St) (H:Hp) (o i v:V) (ov iv u:Value) (Q:Hp->Prop),Inv X pins σ H s->RelV o ov->RelV i iv->RelV v u->t o i v H Q->
  wpAny (model X.prog X.w) X.A (setItem ov iv u) (λ_ s'=>∃H',Inv X pins σ H' s'/\Q H') X.xe s
section
variable {X:Cx}{pos:Pos}
def eM (i:Nat):TG:=λv σ H Q=>Q (σ.set i (some v)) H
theorem bQ {i:Nat}{x:Str}(hN:X.N.Nodup)(hi:X.N[i]?=some x)(hx:Loc X.env.scope x)(hf:X.fn x=true\/X.env.scope.names.lookup x=some .local:=by first|exact .inl rfl|exact .inr rfl|assumption):PG X (.Name x pos) (eM i):=by
 intro pins s σ H v u Q I r h;exact wpAny_assign_Name (C2 I hN hi hx r (λs' I'=>⟨_,H,I',h⟩) hf)
def abf:C5:=λvs σ H Q=>vs=[]/\Q σ H
def WO (t:TG)(u:C5):C5:=λvs σ H Q=>∃v r,vs=v::r/\t v σ H λ aX H'=>u r aX H' Q
theorem iX:N0 X [] abf:=by
 intro pins s σ H vs us Q I r h;obtain⟨e,h⟩:=h;subst e;cases r;exact assignInOrder_nil ⟨σ,H,I,h⟩
theorem cz {e:Expr}{es:List Expr}{t:TG}{u:C5}(h1:PG X e t)(h2:N0 X es u)
 (hs:(assignEach (e::es) X.env).map (·.2)=assign e X.env::(assignEach es X.env).map (·.2):=by rfl):N0 X (e::es) (WO t u):=by
 intro pins s σ H vs us Q I r h;obtain⟨v,vr,e1,h⟩:=h;subst e1
 cases r with
 |cons r rr=>
  rw[hs];refine assignInOrder_cons (bK (h1 pins s σ H _ _ _ I r h) λ_ s1 ⟨Ga,H1,I1,q1⟩=>?_);exact h2 pins s1 Ga H1 _ _ Q I1 rr q1
def abg (K:Za1)(n:Nat)(t:C5):TG:=λv σ H Q=>∃a xs,v=.ref a/\bL K H a xs/\xs.length=n/\t xs σ H Q
theorem jX {es:List Expr}{k:Nat}{t:C5}{n:Nat}(hc:X.calm=true)(h:N0 X es t)
 (hn:(assignEach es X.env).length=n:=by rfl) (cI:(assignEach es X.env).findIdx? (·.1)=none:=by rfl):PG X (.Tuple es k pos) (abg X.K n t):=by
 intro pins s σ H v u Q I r hw;obtain⟨a,xs,e1,hq,hl,hw⟩:=hw;subst e1;cases r;obtain⟨its,rv,ht,hz⟩:=I.tuple hq;refine assign_Tuple_tuple (I.ok.hd hc) ht (by simp[hn,←hl,rv.length]) cI λh' hx=>?_
 have I1:Inv X pins σ H { s with heap:=h' }:=I.kept (t':=s.toks) λb o e=>hx b o (ahS (ahA e)) e
 exact h pins _ σ H xs _ Q I1 (by simpa using rv) hw
def abh (to ti:TE)(t:LR):TG:=λv σ H Q=>to σ H λo H1=>ti σ H1 λi H2=>t o i v H2 λH3=>Q σ H3
theorem yO {o i:Expr}{to ti:TE}{t:LR}(ho:PE X o to)(hi:PE X i ti)(hs:R7 X t)
 (ha:∀v,assign (.Subscript o i pos) X.env v=(do
  let ov ←holding [v] (eval o X.env)
  let iv ←holding [v,ov] (eval i X.env)
  standAt pos
  holding [v,ov,iv] (setItem ov iv v)
  release [v,ov,iv] []):=by intro _;rfl):PG X (.Subscript o i pos) (abh to ti t):=by
 intro pins s σ H v u Q I r h;rw[ha];refine ahb (aiz (bK (ho pins s σ H _ I h) λov s1 ⟨x,H1,I1,r1,q1⟩=>?_));refine ahb (aiz (bK (hi pins s1 σ H1 _ I1 q1) λiv s2 ⟨y,H2,I2,r2,q2⟩=>?_));refine ahb (wpAny_standAt (ahb (aiz (bK (hs pins s2 σ H2 x y v ov iv u _ I2 r1 r2 r q2) λ_ s3 ⟨H3,I3,q3⟩=>?_))));exact wpAny_release ⟨σ,H3,I3,q3⟩
def C6 (te:TE)(g:TG):TS:=λD σ H=>te σ H λx H1=>g x σ H1 D.nx
theorem oy {tg e:Expr}{te:TE}{g:TG}(he:PE X e te)(hg:PG X tg g)(hs:swapsWithSole [tg] e pos.line X.env=pure false:=by rfl)(hw:swappedStores [tg] e X.env=pure none:=by rfl)
 (h1:(assignEach [tg] X.env).map (·.2)=[assign tg X.env]:=by rfl):PS X (.Assign [tg] e pos) (C6 te g):=by
 intro pins s σ H D I h;refine wpAny_Assign_stores (bK (he pins s σ H _ I h) λv s1 ⟨x,H1,I1,r1,q1⟩=>?_) hs hw;rw[h1];exact bK (hg pins s1 σ H1 x v _ I1 r1 q1) λ_ s2 q=>q
theorem aY {i:Nat}{x:Str}{e:Expr}{te:TE}{pos':Pos}(hN:X.N.Nodup)(hi:X.N[i]?=some x)(hx:Loc X.env.scope x)(he:PE X e te)(hs:swapsWith e (some (.Name x pos')) pos.line X.env=pure false:=by rfl)(hf:X.fn x=true\/X.env.scope.names.lookup x=some .local:=by first|exact .inl rfl|exact .inr rfl|assumption):
 PS X (.Assign [.Name x pos'] e pos) (C6 te (eM i)):=by
 intro pins s σ H D I h;refine wpAny_Assign_Name (bK (he pins s σ H _ I h) λv s1 ⟨y,H1,I1,r1,q1⟩=>?_) hs;exact C2 I1 hN hi hx r1 (λs2 I2=>⟨_,H1,I2,q1⟩) hf
end
section
variable {X:Cx}{pos:Pos}
def R8 (c:TT)(tb:TS):TS:=λD σ H=>∃W:Nat->St->Hp->Prop,(∃m,W m σ H)/\∀m σ H,W m σ H->
 c σ H λb H1=>if b=true then ∃N:St->Hp->Prop,(∀ aX H',N aX H'->∃m',m'<m/\W m' aX H')/\tb { D with nx:=N,ct:=N,bk:=D.nx } σ H1 else D.nx σ H1
theorem ky {c:Expr}{body:List Stmt}{tc:TT}{tb:TS}(hp:PassesOwn (model X.prog X.w) X.A X.env X.xe)(hc:PT X c tc)(hb:sV X body tb):PS X (.While c body [] pos) (R8 tc tb):=by
 intro pins s σ H D I h;obtain⟨W,⟨m0,w0⟩,turn⟩:=h;refine wpAny_While (codeAny_whileLoop (λn s'=>∃ aX H',Inv X pins aX H' s'/\W n aX H') ?_ m0 ⟨σ,H,I,w0⟩);rintro n s1 ⟨Ga,H1,I1,w1⟩;refine ajk hp (bK (hc pins s1 Ga H1 _ I1 (turn n Ga H1 w1)) λb s2 ⟨H2,I2,q2⟩=>?_)
 cases b with
 |true=>
  obtain⟨N,hN,q2⟩:=q2;rw[ahu rfl];refine ajk hp (bK (hb pins s2 Ga H2 _ I2 q2) λf s3 q3=>?_)
  cases f with
  |next=>
   obtain⟨vg,H3,I3,n3⟩:=q3;obtain⟨m',hm,w3⟩:=hN vg H3 n3;exact⟨m',hm,vg,H3,I3,w3⟩
  |cont=>
   obtain⟨vg,H3,I3,n3⟩:=q3;obtain⟨m',hm,w3⟩:=hN vg H3 n3;exact⟨m',hm,vg,H3,I3,w3⟩
  |brk=>exact q3
  |ret v=>exact q3
 |false=>
  rw[ahq ahV];exact wpAny_execs_nil ⟨Ga,H2,I2,q2⟩
end
structure It where
 go:Nat->Hp->Prop
 pI:Nat->Hp->V->Hp->Prop
 stop:Nat->Hp->Prop
def t7 (X:Cx)(pins:List (Addr×Obj))(H:Hp)(b:Addr):Prop:=
 H b=none/\b≠X.env.locals/\b∉X.fs/\(b∈X.ex\/X.dA.heap.objs.size<=b)/\(∀x c,X.env.cells.lookup x=some c->c≠b)/\∀p∈X.pn++pins,p.1≠b
theorem Inv.qj {X:Cx}{pins:List (Addr×Obj)}{σ:St}{H H':Hp}{s:Shared}{b:Addr}(I:Inv X pins σ H s)(hb:s.heap.objs.size<=b)(hn:H' b=none):t7 X pins H' b:=by
 refine⟨hn,aiM (ahP I.lt hb),I.RN hb,.inr (ahC I.sz hb),λx c e z=>?_,λp hp z=>?_⟩
 ·obtain⟨v,q⟩:=I.cell x c e;exact absurd (ahP q.lt (by rw[z];exact hb)) (aie _)
 ·exact absurd (ahP (ahA (I.pin p hp).1) (by rw[z];exact hb)) (aie _)
structure Turn (P:Program) (w:World) (K:Za1) (tg:Expr) (J:It) (fp:List Addr) (it:Addr) (tn:Nat->Heap->Prop):Prop where
 mem:it∈fp
 obj:∀i h,tn i h->∀b∈fp,∃o,h.get? b=some o/\∀v,o.data≠.cell v
 keep:∀i h h',tn i h->(∀b∈fp,∀o,h.get? b=some o->h'.get? b=some o)->tn i h'
 item:∀(X:Cx),X.prog=P->X.w=w->X.K=K->X.calm=true->∀(i:Nat) (pins:List (Addr×Obj)) (s:Shared) (σ:St) (H:Hp) (E:Value->Shared->Prop),Inv X pins σ H s->(∀b∈fp,t7 X pins H b)->tn i s.heap->J.go i H->
  wpAny (model P w) X.A (pyNext (.ref it)) (λr s1=>∃u,r=some u/\
   wpAny (model P w) X.A (letOwnedTupleGo tg (.ref it) u) (λ_ s2=>∃x H',Inv X pins σ H' s2/\RelV x u/\J.pI i H x H'/\tn (i+ 1) s2.heap/\∀b∈fp,H' b=none) E s1) E s
 done:∀(X:Cx),X.prog=P->X.w=w->X.K=K->X.calm=true->∀(i:Nat) (pins:List (Addr×Obj)) (s:Shared) (σ:St) (H:Hp) (E:Value->Shared->Prop),Inv X pins σ H s->(∀b∈fp,t7 X pins H b)->tn i s.heap->J.stop i H->
  wpAny (model P w) X.A (pyNext (.ref it)) (λr s1=>r=none/\Inv X pins σ H s1) E s
 self:∀(A:Around) (i:Nat) (s:Shared) (Q:Value->Shared->Prop) (E:Value->Shared->Prop),tn i s.heap->Q (.ref it) s->wpAny (model P w) A (pyIter (.ref it)) Q E s
abbrev TI:=St->Hp->(It->Hp->Prop)->Prop
def XH (X:Cx)(pins:List (Addr×Obj))(σ:St)(tg:Expr)(R:It->Hp->Prop)(Sb:Value)(s2:Shared):Prop:=
 ∃(it:Addr) (fp:List Addr) (tn:Nat->Heap->Prop) (J:It) (H':Hp),Sb=.ref it/\Inv X pins σ H' s2/\Turn X.prog X.w X.K tg J fp it tn/\tn 0 s2.heap/\(∀b∈fp,t7 X pins H' b)/\R J H'
def PI (X:Cx)(tg iter:Expr)(wi:TI):Prop:=
 ∀(pins:List (Addr×Obj)) (s:Shared) (σ:St) (H:Hp) (R:It->Hp->Prop),Inv X pins σ H s->wi σ H R->
  wpAny (model X.prog X.w) X.A (eval iter X.env) (λv s1=>wpAny (model X.prog X.w) X.A (pyIter v) (XH X pins σ tg R) X.xe s1) X.xe s
theorem CJ {M:Model}{A:Around}{E:Value->Shared->Prop}{s:Shared}{tg:Expr}{it:Addr}{u:Value}{o:Obj}{n:String}{vs:Array Value}{Q:Unit->Shared->Prop}(ho:s.heap.get? it=some o)(hc:o.cls=.type n)(hd:o.data=.fields vs)
 (hn:["enumerate","zip","dict_itemiterator","dict_reverseitemiterator","odict_iterator","itertools.zip_longest","itertools.pairwise"].contains n=false) (hQ:Q () s):wpAny M A (letOwnedTupleGo tg (.ref it) u) Q E s:=by
 unfold letOwnedTupleGo
 cases tg <;> first
  |exact ahk hQ
  |(cases u <;> first
   |exact ahk hQ
   |(refine ahb (wpAny_load ho ?_)
     rw[hc,hd];show wpAny M A (if (["enumerate","zip","dict_itemiterator","dict_reverseitemiterator","odict_iterator","itertools.zip_longest","itertools.pairwise"].contains n && vs[0]?==some (rawInt _))=true then _ else _) Q E s;rw[ahq (by intro h;rw[hn,Bool.false_and]at h;cases h)];exact ahk hQ))
def yP (K:Za1)(a:Addr):It:=
 ⟨λi H=>∃xs x,aM K H a xs/\xs[i]?=some x,λi H x H'=>H'=H/\∀xs,aM K H a xs->xs[i]?=some x,λi H=>∃xs,aM K H a xs/\xs.length<=i⟩
def Bc (K:Za1)(a:Addr):It:=
 ⟨λi H=>∃xs x,bL K H a xs/\xs[i]?=some x,λi H x H'=>H'=H/\∀xs,bL K H a xs->xs[i]?=some x,λi H=>∃xs,bL K H a xs/\xs.length<=i⟩
def Bd (lo:Int)(n:Nat):It:=⟨λi _=>i<n,λi H x H'=>H'=H/\x=.int (lo+ i),λi _=>n<=i⟩
theorem Jj {P:Program}{w:World}{K:Za1}{tg:Expr}(a it:Addr):Turn P w K tg (yP K a) [it] it (λi h=>h.IsListIter it a i) where
 mem:=by simp
 obj:=λi h st b hb=>by
  have e:b=it:=by simpa using hb
  subst e;obtain⟨o,e,c,d⟩:=st;exact⟨o,e,λv z=>by rw[d]at z;cases z⟩
 keep:=λi h h' st k=>st.at λo e=>k it (by simp) o e
 item:=by
  intro X hP hw hK hc i pins s σ H E I hf st hg;subst hP hw hK;obtain⟨xs,x,hq,hx⟩:=hg;obtain⟨its,rv,p,hz⟩:=I.list hq;obtain⟨u,hu,ru⟩:=rv.get hx;obtain⟨f0,f1,f2,f3,f4,f5⟩:=hf it (by simp);refine wpAny_pyNext_list_item st p.isList (x:=u) (by simpa using hu) λh' cU sb=>?_
  have I1:Inv X pins σ H { s with heap:=h' }:=I.turned (t':=s.toks) (λb o hb e=>(sb.2 b hb).trans e) f0 f1 f3 f4 f5;obtain⟨o,e,c,d⟩:=id cU;exact⟨u,rfl,CJ (s:={ s with heap:=h' }) e c d (by decide) ⟨x,H,I1,ru,⟨rfl,λys hy=>by rw[I.xV hy hq];exact hx⟩,cU,λb hb=>(hf b hb).1⟩⟩
 done:=by
  intro X hP hw hK hc i pins s σ H E I hf st hg;subst hP hw hK;obtain⟨xs,hq,hx⟩:=hg;obtain⟨its,rv,p,hz⟩:=I.list hq;obtain⟨f0,f1,f2,f3,f4,f5⟩:=hf it (by simp);have hl:=rv.length;exact wpAny_pyNext_list_end (I.ok.hd hc) st p.isList (by simp;omega) λh' eb=>⟨rfl,I.turned (t':=s.toks) (λb o hb e=>eb b o hb e) f0 f1 f3 f4 f5⟩
 self:=λ_ _ _ _ _ st h=>wpAny_pyIter_listiter st h
theorem Hw {P:Program}{w:World}{K:Za1}{tg:Expr}(a it:Addr):Turn P w K tg (Bc K a) [it] it (λi h=>h.IsTupleIter it a i) where
 mem:=by simp
 obj:=λi h st b hb=>by
  have e:b=it:=by simpa using hb
  subst e;obtain⟨o,e,c,d⟩:=st;exact⟨o,e,λv z=>by rw[d]at z;cases z⟩
 keep:=λi h h' st k=>st.at λo e=>k it (by simp) o e
 item:=by
  intro X hP hw hK hc i pins s σ H E I hf st hg;subst hP hw hK;obtain⟨xs,x,hq,hx⟩:=hg;obtain⟨its,rv,p,hz⟩:=I.tuple hq;obtain⟨u,hu,ru⟩:=rv.get hx;obtain⟨f0,f1,f2,f3,f4,f5⟩:=hf it (by simp);refine wpAny_pyNext_tuple_item st (show s.heap.IsTuple a its.toArray from p) (x:=u) (by simpa using hu) λh' cU sb=>?_
  have I1:Inv X pins σ H { s with heap:=h' }:=I.turned (t':=s.toks) (λb o hb e=>(sb.2 b hb).trans e) f0 f1 f3 f4 f5;obtain⟨o,e,c,d⟩:=id cU;exact⟨u,rfl,CJ (s:={ s with heap:=h' }) e c d (by decide) ⟨x,H,I1,ru,⟨rfl,λys hy=>by rw[I.Bb hy hq];exact hx⟩,cU,λb hb=>(hf b hb).1⟩⟩
 done:=by
  intro X hP hw hK hc i pins s σ H E I hf st hg;subst hP hw hK;obtain⟨xs,hq,hx⟩:=hg;obtain⟨its,rv,p,hz⟩:=I.tuple hq;obtain⟨f0,f1,f2,f3,f4,f5⟩:=hf it (by simp);have hl:=rv.length;exact wpAny_pyNext_tuple_end (I.ok.hd hc) st (show s.heap.IsTuple a its.toArray from p) (by simp;omega) λh' eb=>⟨rfl,I.turned (t':=s.toks) (λb o hb e=>eb b o hb e) f0 f1 f3 f4 f5⟩
 self:=λ_ _ _ _ _ st h=>wpAny_pyIter_tupleiter st h
theorem Hx {P:Program}{w:World}{K:Za1}{tg:Expr}(it:Addr)(lo:Int)(n:Nat):Turn P w K tg (Bd lo n) [it] it (λi h=>IsRangeIter h it (lo+ (i:Nat)* 1) ((n:Int) - (i:Nat)) 1) where
 mem:=by simp
 obj:=λi h st b hb=>by
  have e:b=it:=by simpa using hb
  subst e
  exact⟨_,st,λv z=>by
   have z':Data.fields _=Data.cell v:=z;cases z'⟩
 keep:=λi h h' st k=>k it (by simp) _ st
 item:=by
  intro X hP hw hK hc i pins s σ H E I hf st hg;subst hP hw hK;obtain⟨f0,f1,f2,f3,f4,f5⟩:=hf it (by simp);have W:=Walks.range (prog:=X.prog) (w:=X.w) (I.ok.hd hc) it lo 1 n;refine W.item i s _ _ hg st λv h' tk hv cU kk=>?_
  obtain⟨t,rfl⟩:=hv;have I1:Inv X pins σ H { s with heap:=h',toks:=tk }:=I.turned (λb o hb e=>kk b o (by simpa using hb) e) f0 f1 f3 f4 f5;refine⟨_,rfl,CJ (s:={ s with heap:=h',toks:=tk }) (n:="range_iterator") cU rfl rfl (by decide) ⟨.int (lo+ i),H,I1,⟨t,?_⟩,⟨rfl,rfl⟩,cU,λb hb=>(hf b hb).1⟩⟩;rw[Int.mul_one]
 done:=by
  intro X hP hw hK hc i pins s σ H E I hf st hg;subst hP hw hK;obtain⟨f0,f1,f2,f3,f4,f5⟩:=hf it (by simp);exact wpAny_pyNext_range_end (I.ok.hd hc) st (by have:n<=i:=hg;omega) λh' eb=>⟨rfl,I.turned (t':=s.toks) (λb o hb e=>eb b o hb e) f0 f1 f3 f4 f5⟩
 self:=λ_ _ _ _ _ st h=>wpAny_pyIter_rangeiter st h
section
variable {X:Cx}{tg:Expr}
def N1 (K:Za1)(tl:TE):TI:=λ σ H R=>tl σ H λx H1=>∃a,x=.ref a/\(∃xs,aM K H1 a xs)/\R (yP K a) H1
def abi (K:Za1)(tl:TE):TI:=λ σ H R=>tl σ H λx H1=>∃a,x=.ref a/\(∃xs,bL K H1 a xs)/\R (Bc K a) H1
theorem eJ {l:Expr}{tl:TE}(hl:PE X l tl):PI X tg l (N1 X.K tl):=by
 intro pins s σ H R I h;refine bK (hl pins s σ H _ I h) λv s1 ⟨x,H1,I1,r1,q1⟩=>?_
 obtain⟨a,e,⟨xs,hq⟩,q⟩:=q1;subst e;cases r1;obtain⟨its,rv,p,hz⟩:=I1.list hq;refine ajM p.isList ?_;refine⟨s1.heap.objs.size,[s1.heap.objs.size],_,_,H1,rfl,I1.kept (t':=s1.toks) λb o e=>ahj _ e,Jj a _,⟨_,ahz _ rfl,rfl,rfl⟩,λb hb=>?_,q⟩;have e:b=s1.heap.objs.size:=by simpa using hb
 subst e;exact I1.qj (ahi _) (I1.bu.fresh (ahi _))
theorem jj {l:Expr}{tl:TE}(hl:PE X l tl):PI X tg l (abi X.K tl):=by
 intro pins s σ H R I h;refine bK (hl pins s σ H _ I h) λv s1 ⟨x,H1,I1,r1,q1⟩=>?_
 obtain⟨a,e,⟨xs,hq⟩,q⟩:=q1;subst e;cases r1;obtain⟨its,rv,p,hz⟩:=I1.tuple hq;refine wpAny_pyIter_tuple (show s1.heap.IsTuple a its.toArray from p) ?_;refine⟨s1.heap.objs.size,[s1.heap.objs.size],_,_,H1,rfl,I1.kept (t':=s1.toks) λb o e=>ahj _ e,Hw a _,⟨_,ahz _ rfl,rfl,rfl⟩,λb hb=>?_,q⟩;have e:b=s1.heap.objs.size:=by simpa using hb
 subst e;exact I1.qj (ahi _) (I1.bu.fresh (ahi _))
theorem C7 {pins:List (Addr×Obj)}{σ:St}{H:Hp}{s:Shared}{R:It->Hp->Prop}{E:Value->Shared->Prop}{lo hi:Int}{t u v:Tok}{tk:Nat}(I:Inv X pins σ H s)(h1: -(2 ^ 62)<=lo)(h2:lo<2 ^ 62)(h3: -(2 ^ 62)<=hi)(h4:hi<2 ^ 62)
 (q:R (Bd lo (hi - lo).toNat) H):wpAny (model X.prog X.w) X.A (pyIter (.ref s.heap.objs.size)) (XH X pins σ tg R) E { s with heap:=s.heap.push { cls:=.type "range",data:=.fields #[.int lo t,.int hi u,.int 1 v] },toks:=tk }:=by
 refine wpAny_pyIter_range (IsRange.new ..) (small_one h1 h2 h3 h4) ?_;have I1:Inv X pins σ H { s with heap:=s.heap.push { cls:=.type "range",data:=.fields #[.int lo t,.int hi u,.int 1 v] },toks:=tk }:=I.kept λb o e=>ahj _ e
 refine⟨(s.heap.push { cls:=.type "range",data:=.fields #[.int lo t,.int hi u,.int 1 v] }).objs.size,[(s.heap.push { cls:=.type "range",data:=.fields #[.int lo t,.int hi u,.int 1 v] }).objs.size],_,_,H,rfl,
  I1.kept (t':=tk) λb o e=>ahj _ e,Hx _ lo (hi - lo).toNat,?_,λb hb=>?_,q⟩
 ·have e1:lo+ ((0:Nat):Int)* 1=lo:=by simp
  have e2:(((hi - lo).toNat:Nat):Int) - ((0:Nat):Int)=Builtin.Range.rangeSize lo hi 1:=by rw[rangeSize_one];split <;> omega
  show IsRangeIter _ _ (lo+ ((0:Nat):Int)* 1) ((((hi - lo).toNat:Nat):Int) - ((0:Nat):Int)) 1;rw[e1,e2];exact ahz _ rfl
 ·have e:b=(s.heap.push { cls:=.type "range",data:=.fields #[.int lo t,.int hi u,.int 1 v] }).objs.size:=by simpa using hb
  subst e;exact I1.qj (ahi _) (I1.bu.fresh (ahi _))
def WQ (ta:TA):TI:=λ σ H R=>ta σ H λvs H1=>∃j:Int,vs=[.int j]/\-(2 ^ 62)<=j/\j<2 ^ 62/\R (Bd 0 j.toNat) H1
def WR (ta:TA):TI:=λ σ H R=>ta σ H λvs H1=>∃i j:Int,vs=[.int i,.int j]/\(-(2 ^ 62)<=i/\i<2 ^ 62/\-(2 ^ 62)<=j/\j<2 ^ 62)/\R (Bd i (j - i).toNat) H1
theorem gu {a:Expr}{ta:TA}{p pos:Pos}(hg:Gl X "range")(hm:X.mg "range"=none)(ha:PA X [a] ta)(hs:starEach [a] X.env=[(false,eval a X.env)]:=by rfl):PI X tg (.Call (.Name "range" p) [a] [] pos) (WQ ta):=by
 intro pins s σ H R I h;refine Call_ (oq I hg hm boot_range (aiJ (bK (ha pos pins s σ H _ I h) λus s1 ⟨vs,H1,I1,r1,q1⟩=>?_) hs rfl));obtain⟨j,e,q1,q2,q⟩:=q1;subst e
 cases r1 with
 |cons r rr=>
  cases rr;obtain⟨t,rfl⟩:=r;exact call_range_1 (C7 I1 (by omega) (by omega) q1 q2 (by simpa using q))
theorem Be {a b:Expr}{ta:TA}{p pos:Pos}(hg:Gl X "range")(hm:X.mg "range"=none)(ha:PA X [a,b] ta)(hs:starEach [a,b] X.env=[(false,eval a X.env),(false,eval b X.env)]:=by rfl)(vh:starEach [b] X.env=[(false,eval b X.env)]:=by rfl):
 PI X tg (.Call (.Name "range" p) [a,b] [] pos) (WR ta):=by
 intro pins s σ H R I h;refine Call_ (oq I hg hm boot_range (aiJ (bK (ha pos pins s σ H _ I h) λus s1 ⟨vs,H1,I1,r1,q1⟩=>?_) (by rw[hs,vh]) (by rw[vh];rfl)));obtain⟨i,j,e,⟨q1,q2,q3,q4⟩,q⟩:=q1;subst e
 cases r1 with
 |cons r rr=>
  cases rr with
  |cons r' rr=>
   cases rr;obtain⟨t,rfl⟩:=r;obtain⟨t',rfl⟩:=r';exact call_range_2 (C7 I1 q1 q2 q3 q4 q)
def abj (wi:TI)(g:TG)(tb:TS):TS:=λD σ H=>wi σ H λJ H1=>∃W:Nat->Nat->St->Hp->Prop,(∃m,W 0 m σ H1)/\∀i m σ H,W i m σ H->
 (J.stop i H/\D.nx σ H)\/(J.go i H/\∃N:St->Hp->Prop,(∀ aX H',N aX H'->∃m',m'<m/\W (i+ 1) m' aX H')/\∀x H',J.pI i H x H'->g x σ H' λ fB H2=>tb { D with nx:=N,ct:=N,bk:=D.nx } fB H2)
def yQ (fp:List Addr)(h:Heap):List (Addr×Obj):=fp.filterMap λb=>(h.get? b).map λo=>(b,o)
theorem jD {fp:List Addr}{h:Heap}{b:Addr}{o:Obj}(hb:b∈fp)(e:h.get? b=some o):(b,o)∈yQ fp h:=List.mem_filterMap.mpr ⟨b,hb,by rw[e];rfl⟩
theorem Jk {fp:List Addr}{h:Heap}{p:Addr×Obj}(hp:p∈yQ fp h):p.1∈fp/\h.get? p.1=some p.2:=by
 obtain⟨b,hb,e⟩:=List.mem_filterMap.mp hp
 cases q:h.get? b with
 |none=>rw[q]at e;cases e
 |some o=>
  rw[q]at e;have e':(b,o)=p:=Za0 e;subst e';exact⟨hb,q⟩
theorem Inv.pinned {pins:List (Addr×Obj)}{σ:St}{H:Hp}{s:Shared}{fp:List Addr}(I:Inv X pins σ H s)(hf:∀b∈fp,t7 X pins H b)(ho:∀b∈fp,∃o,s.heap.get? b=some o/\∀v,o.data≠.cell v):Inv X (pins++yQ fp s.heap) σ H s:=
 I.sU λp hp=>(ahx.mp hp).elim (λz=>I.pin p (ahn _ z)) λz=>by
  obtain⟨hb,e⟩:=Jk z;obtain⟨f0,f1,f2,_⟩:=hf p.1 hb;obtain⟨o,e',d⟩:=ho p.1 hb;rw[e]at e';cases e';exact⟨e,f0,f1,f2,d⟩
theorem Inv.xX {pins pl:List (Addr×Obj)}{σ:St}{H:Hp}{s:Shared}(I:Inv X (pins++pl) σ H s):Inv X pins σ H s:=I.sU λp hp=>I.pin p (ahn _ (ahF _ hp))
theorem dw {iter:Expr}{body:List Stmt}{wi:TI}{g:TG}{tb:TS}{pos:Pos}(hp:PassesOwn (model X.prog X.w) X.A X.env X.xe)(hc:X.calm=true)(hi:PI X tg iter wi)(hg:PG X tg g)(hb:sV X body tb)
 (hs:∀x,foldedSetIterable iter X.env x=pure x:=by intro _;rfl):PS X (.For tg iter body [] pos) (abj wi g tb):=by
 intro pins s σ H D I h;refine wpAny_For (bK (hi pins s σ H _ I h) λv s1 h1=>bK h1 λSb s2 h2=>?_) hs;obtain⟨it,fp,tn,J,H2,e,I2,T,vi,f2,W,⟨m0,w0⟩,turn⟩:=h2;subst e
 -- what stays true of the iterator's objects through the loop
 have stat:∀{H':Hp},(∀b∈fp,H' b=none)->∀b∈fp,t7 X pins H' b:=λhn b hb=>⟨hn b hb,(f2 b hb).2⟩
 refine codeAny_forLoop_any (λn s'=>∃i aX H',Inv X pins aX H' s'/\tn i s'.heap/\(∀b∈fp,H' b=none)/\W i n aX H') ?_ m0 ⟨0,σ,H2,I2,vi,λb hb=>(f2 b hb).1,w0⟩;rintro n s3 ⟨i,vg,H3,I3,XI,Jl,w3⟩;rcases turn i n vg H3 w3 with ⟨stop,qn⟩|⟨go,N,hN,step⟩
 ·refine ajk hp (bK (T.done X rfl rfl rfl hc i pins s3 vg H3 X.xe I3 (stat Jl) XI stop) λr s4 ⟨hr,I4⟩=>?_);subst hr;exact wpAny_execs_nil ⟨vg,H3,I4,qn⟩
 ·refine ajk hp (bK (T.item X rfl rfl rfl hc i pins s3 vg H3 X.xe I3 (stat Jl) XI go) λr s4 ⟨u,hr,h4⟩=>?_);subst hr;refine ajk hp (bK h4 λ_ s5 ⟨x,H5,I5,r5,y5,Sd,Se⟩=>?_);have I5':=I5.pinned (stat Se) (T.obj _ _ Sd);refine ajk hp (bK (hg _ s5 vg H5 x u _ I5' r5 (step x H5 y5)) λ_ s6 ⟨XJ,H6,I6,q6⟩=>?_);refine ajk hp (bK (hb _ s6 XJ H6 _ I6 q6) λf s7 q7=>?_)
  have again:∀{vj:St} {H7:Hp},Inv X (pins++yQ fp s5.heap) vj H7 s7->N vj H7->∃m,m<n/\∃i aX H',Inv X pins aX H' s7/\tn i s7.heap/\(∀b∈fp,H' b=none)/\W i m aX H':=λ{vj H7} I7 n7=>by
   obtain⟨m',hm,w7⟩:=hN vj H7 n7;refine⟨m',hm,i+ 1,vj,H7,I7.xX,T.keep _ _ _ Sd λb hb o e=>(I7.pin (b,o) (ahn _ (ahn _ (jD hb e)))).1,λb hb=>?_,w7⟩;obtain⟨o,e,d⟩:=T.obj _ _ Sd b hb;exact(I7.pin (b,o) (ahn _ (ahn _ (jD hb e)))).2.1
  cases f with
  |next=>obtain⟨vj,H7,I7,n7⟩:=q7;exact again I7 n7
  |cont=>obtain⟨vj,H7,I7,n7⟩:=q7;exact again I7 n7
  |brk=>obtain⟨vj,H7,I7,q7⟩:=q7;exact⟨vj,H7,I7.xX,q7⟩
  |ret v=>obtain⟨x7,vj,H7,I7,r7,q7⟩:=q7;exact⟨x7,vj,H7,I7.xX,r7,q7⟩
end
theorem iz {K:Za1}{a:Addr}{xs:List V}{g:TG}{tb:TS}{D:Ends}{σ:St}{H:Hp}(Pv:Nat->St->Hp->Prop)(h0:Pv 0 σ H)(hl:∀i σ H,i<=xs.length->Pv i σ H->aM K H a xs)
 (hs:∀i x σ H,xs[i]?=some x->Pv i σ H->g x σ H λ fB H2=>tb { D with nx:=Pv (i+ 1),ct:=Pv (i+ 1),bk:=D.nx } fB H2) (hd:∀ σ H,Pv xs.length σ H->D.nx σ H):
 ∃W:Nat->Nat->St->Hp->Prop,(∃m,W 0 m σ H)/\∀i m σ H,W i m σ H->
  ((yP K a).stop i H/\D.nx σ H)\/((yP K a).go i H/\∃N:St->Hp->Prop,(∀ aX H',N aX H'->∃m',m'<m/\W (i+ 1) m' aX H')/\∀x H',(yP K a).pI i H x H'->g x σ H' λ fB H2=>tb { D with nx:=N,ct:=N,bk:=D.nx } fB H2):=by
 refine⟨λi m σ H=>m=xs.length - i/\i<=xs.length/\Pv i σ H,⟨xs.length,by simp,ahT _,h0⟩,?_⟩;rintro i m σ H ⟨rfl,hi,p⟩;have q:=hl i σ H hi p;by_cases bU:i<xs.length
 ·refine .inr ⟨⟨xs,xs[i],q,by simp[bU]⟩,Pv (i+ 1),λ aX H' p'=>⟨xs.length - (i+ 1),by omega,rfl,bU,p'⟩,λx H' y=>?_⟩;obtain⟨e,y⟩:=y;subst e;exact hs i x σ _ (y xs q) p
 ·have e:i=xs.length:=by omega
  subst e;exact .inl ⟨⟨xs,q,ahi _⟩,hd σ H p⟩
theorem Gb {K:Za1}{a:Addr}{xs:List V}{g:TG}{tb:TS}{D:Ends}{σ:St}{H:Hp}(Pv:Nat->St->Hp->Prop)(h0:Pv 0 σ H)(hl:∀i σ H,i<=xs.length->Pv i σ H->bL K H a xs)
 (hs:∀i x σ H,xs[i]?=some x->Pv i σ H->g x σ H λ fB H2=>tb { D with nx:=Pv (i+ 1),ct:=Pv (i+ 1),bk:=D.nx } fB H2) (hd:∀ σ H,Pv xs.length σ H->D.nx σ H):
 ∃W:Nat->Nat->St->Hp->Prop,(∃m,W 0 m σ H)/\∀i m σ H,W i m σ H->
  ((Bc K a).stop i H/\D.nx σ H)\/((Bc K a).go i H/\∃N:St->Hp->Prop,(∀ aX H',N aX H'->∃m',m'<m/\W (i+ 1) m' aX H')/\∀x H',(Bc K a).pI i H x H'->g x σ H' λ fB H2=>tb { D with nx:=N,ct:=N,bk:=D.nx } fB H2):=by
 refine⟨λi m σ H=>m=xs.length - i/\i<=xs.length/\Pv i σ H,⟨xs.length,by simp,ahT _,h0⟩,?_⟩;rintro i m σ H ⟨rfl,hi,p⟩;have q:=hl i σ H hi p;by_cases bU:i<xs.length
 ·refine .inr ⟨⟨xs,xs[i],q,by simp[bU]⟩,Pv (i+ 1),λ aX H' p'=>⟨xs.length - (i+ 1),by omega,rfl,bU,p'⟩,λx H' y=>?_⟩;obtain⟨e,y⟩:=y;subst e;exact hs i x σ _ (y xs q) p
 ·have e:i=xs.length:=by omega
  subst e;exact .inl ⟨⟨xs,q,ahi _⟩,hd σ H p⟩
theorem oz {lo:Int}{n:Nat}{g:TG}{tb:TS}{D:Ends}{σ:St}{H:Hp}(Pv:Nat->St->Hp->Prop)(h0:Pv 0 σ H)
 (hs:∀i σ H,i<n->Pv i σ H->g (.int (lo+ i)) σ H λ fB H2=>tb { D with nx:=Pv (i+ 1),ct:=Pv (i+ 1),bk:=D.nx } fB H2) (hd:∀ σ H,Pv n σ H->D.nx σ H):
 ∃W:Nat->Nat->St->Hp->Prop,(∃m,W 0 m σ H)/\∀i m σ H,W i m σ H->
  ((Bd lo n).stop i H/\D.nx σ H)\/((Bd lo n).go i H/\∃N:St->Hp->Prop,(∀ aX H',N aX H'->∃m',m'<m/\W (i+ 1) m' aX H')/\∀x H',(Bd lo n).pI i H x H'->g x σ H' λ fB H2=>tb { D with nx:=N,ct:=N,bk:=D.nx } fB H2):=by
 refine⟨λi m σ H=>m=n - i/\i<=n/\Pv i σ H,⟨n,by simp,ahT _,h0⟩,?_⟩;rintro i m σ H ⟨rfl,hi,p⟩;by_cases bU:i<n
 ·refine .inr ⟨bU,Pv (i+ 1),λ aX H' p'=>⟨n - (i+ 1),by omega,rfl,bU,p'⟩,λx H' y=>?_⟩;obtain⟨e,y⟩:=y;subst e y;exact hs i σ _ bU p
 ·have e:i=n:=by omega
  subst e;exact .inl ⟨ahi _,hd σ H p⟩
abbrev R2:=V->V->Hp->VK->Prop
def gH (X:Cx)(f:Value->Value->Sem Value)(r:R2):Prop:=
 ∀(pins:List (Addr×Obj)) (s:Shared) (σ:St) (H:Hp) (x y:V) (v u:Value) (Q:VK),Inv X pins σ H s->RelV x v->RelV y u->r x y H Q->
  wpAny (model X.prog X.w) X.A (f v u) (EP X pins σ Q) X.xe s
def Sf (X:Cx)(f:Value->Sem Value)(r:V->Hp->VK->Prop):Prop:=
 ∀(pins:List (Addr×Obj)) (s:Shared) (σ:St) (H:Hp) (x:V) (v:Value) (Q:VK),Inv X pins σ H s->RelV x v->r x H Q->
  wpAny (model X.prog X.w) X.A (f v) (EP X pins σ Q) X.xe s
def lD (X:Cx)(f:Value)(r:List V->Hp->VK->Prop):Prop:=
 ∀(pins:List (Addr×Obj)) (s:Shared) (σ:St) (H:Hp) (xs:List V) (us:List Value) (Q:VK),Inv X pins σ H s->Vals xs us->r xs H Q->
  wpAny (model X.prog X.w) X.A (call f us) (EP X pins σ Q) X.xe s
def abk (X:Cx)(r:V->Hp->(Bool->Hp->Prop)->Prop):Prop:=
 ∀(pins:List (Addr×Obj)) (s:Shared) (σ:St) (H:Hp) (x:V) (v:Value) (Q:Bool->Hp->Prop),Inv X pins σ H s->RelV x v->r x H Q->
  wpAny (model X.prog X.w) X.A (truthy v) (TP X pins σ Q) X.xe s
def C8 (r:R2)(ta tb:TE):TE:=λ σ H Q=>ta σ H λx H1=>tb σ H1 λy H2=>r x y H2 Q
def tUn (r:V->Hp->VK->Prop)(ta:TE):TE:=λ σ H Q=>ta σ H λx H1=>r x H1 Q
def rI (C:Int->Int->Prop)(g:Int->Int->V):R2:=λx y H Q=>∃i j,x=.int i/\y=.int j/\C i j/\Q (g i j) H
def Bf (g:Int->Int->V):R2:=λx y H Q=>∃i j,x=.int i/\y=.int j/\Q (g i j) H
def rU (g:Int->V):V->Hp->VK->Prop:=λx H Q=>∃i,x=.int i/\Q (g i) H
section
variable {X:Cx}{a b:Expr}{ta tb:TE}{pos:Pos}
theorem LV (ha:PE X a ta)(hb:PE X b tb){pins:List (Addr×Obj)}{s:Shared}{σ:St}{H:Hp}{R:V->V->Hp->Prop}(I:Inv X pins σ H s)
 (h:ta σ H λx H1=>tb σ H1 λy H2=>R x y H2) {Q:Value->Shared->Prop} {f:Value->Value->Sem Value}
 (hf:∀v u s2 x y H2,Inv X pins σ H2 s2->RelV x v->RelV y u->R x y H2->wpAny (model X.prog X.w) X.A (f v u) Q X.xe s2):
 wpAny (model X.prog X.w) X.A (eval a X.env) (λv bO=>wpAny (model X.prog X.w) X.A (eval b X.env) (λu iq=>wpAny (model X.prog X.w) X.A (f v u) Q X.xe iq) X.xe bO) X.xe s:=by
 refine bK (ha pins s σ H _ I h) λv s1 ⟨x,H1,I1,r1,q1⟩=>?_
 refine bK (hb pins s1 σ H1 _ I1 q1) λu s2 ⟨y,H2,I2,r2,q2⟩=>?_
 exact hf v u s2 x y H2 I2 r1 r2 q2
theorem bD {op:Operator}{r:R2}(ho:gH X (binaryOp op) r)(ha:PE X a ta)(hb:PE X b tb):PE X (.BinOp a op b pos) (C8 r ta tb):=by
 intro pins s σ H Q I h;exact wpAny_BinOp (LV ha hb I h λv u s2 x y H2 I2 rx ry q=>ho pins s2 σ H2 x y v u Q I2 rx ry q)
theorem fW {op:UnaryOp}{r:V->Hp->VK->Prop}(ho:Sf X (unaryOp op) r)(ha:PE X a ta):PE X (.UnaryOp op a pos) (tUn r ta):=by
 intro pins s σ H Q I h;exact UnaryOp_ (bK (ha pins s σ H _ I h) λv s1 ⟨x,H1,I1,r1,q1⟩=>ho pins s1 σ H1 x v Q I1 r1 q1)
theorem Sg {f:Value->Value->Sem Value}{C:Int->Int->Prop}{g:Int->Int->Int}
 (rule:∀(i j:Int) (t u:Tok) (s:Shared) (Q:Value->Shared->Prop) (E:Value->Shared->Prop),C i j->Q (.int (g i j) s.toks) { s with toks:=s.toks+ 1 }->wpAny (model X.prog X.w) X.A (f (.int i t) (.int j u)) Q E s):
 gH X f (rI C λi j=>.int (g i j)):=by
 intro pins s σ H x y v u Q I rx ry h;obtain⟨i,j,rfl,rfl,hc,q⟩:=h;obtain⟨t,rfl⟩:=rx;obtain⟨t',rfl⟩:=ry;exact rule i j t t' s _ _ hc ⟨.int (g i j),H,I.tok _,⟨_,rfl⟩,q⟩
theorem Sh {f:Value->Value->Sem Value}{g:Int->Int->Int}
 (rule:∀(i j:Int) (t u:Tok) (s:Shared) (Q:Value->Shared->Prop) (E:Value->Shared->Prop),Q (.int (g i j) s.toks) { s with toks:=s.toks+ 1 }->wpAny (model X.prog X.w) X.A (f (.int i t) (.int j u)) Q E s):
 gH X f (Bf λi j=>.int (g i j)):=by
 intro pins s σ H x y v u Q I rx ry h;obtain⟨i,j,rfl,rfl,q⟩:=h;obtain⟨t,rfl⟩:=rx;obtain⟨t',rfl⟩:=ry;exact rule i j t t' s _ _ ⟨.int (g i j),H,I.tok _,⟨_,rfl⟩,q⟩
theorem Hy {f:Value->Value->Sem Value}{g:Int->Int->Bool}
 (rule:∀(i j:Int) (t u:Tok) (s:Shared) (Q:Value->Shared->Prop) (E:Value->Shared->Prop),Q (.bool (g i j)) s->wpAny (model X.prog X.w) X.A (f (.int i t) (.int j u)) Q E s):
 gH X f (Bf λi j=>.bl (g i j)):=by
 intro pins s σ H x y v u Q I rx ry h;obtain⟨i,j,rfl,rfl,q⟩:=h;obtain⟨t,rfl⟩:=rx;obtain⟨t',rfl⟩:=ry;exact rule i j t t' s _ _ ⟨.bl (g i j),H,I,rfl,q⟩
def abl (i j:Int):Prop:=0<j/\j<1073741824
def Hz (i j:Int):Prop:=(-(2 ^ 64)<i/\i<2 ^ 64)\/(-(2 ^ 64)<j/\j<2 ^ 64)
theorem Hz.ok {i j:Int}(h:Hz i j):IntMulOk i j:=by
 rcases h with ⟨h1,h2⟩|⟨h1,h2⟩
 ·exact .of_left (intBits_le_64 h1 h2)
 ·exact .of_right (intBits_le_64 h1 h2)
theorem dG:gH X (binaryOp .Add) (Bf λi j=>.int (i+ j)):=Sh λ_ _ _ _ _ _ _ q=>add_int q
theorem qk:gH X (binaryOp .Sub) (Bf λi j=>.int (i - j)):=Sh λ_ _ _ _ _ _ _ q=>sub_int q
theorem qm:gH X (binaryOp .Mult) (rI Hz λi j=>.int (i* j)):=Sg λ_ _ _ _ _ _ _ hc q=>mul_int q hc.ok
theorem iY:gH X (binaryOp .FloorDiv) (rI abl λi j=>.int (i / j)):=Sg λi j _ _ _ _ _ hc q=>by
 have h1:(0:Int)<j:=hc.1;have h2:j<1073741824:=hc.2;exact floordiv_int (by omega) (by rw[Int.fdiv_eq_ediv_of_nonneg i (by omega)];exact q) (.inl (PyProof.noPylong_small (by omega)))
theorem dy:gH X (binaryOp .Mod) (rI (λ_ j=>0<j) λi j=>.int (i % j)):=Sg λi j _ _ _ _ _ hc q=>by
 have h1:(0:Int)<j:=hc;exact mod_int' (by omega) (by rw[Int.fmod_eq_emod_of_nonneg i (by omega)];exact q)
theorem unI {f:Value->Sem Value}{g:Int->Int}
 (rule:∀(i:Int) (t:Tok) (s:Shared) (Q:Value->Shared->Prop) (E:Value->Shared->Prop),Q (.int (g i) s.toks) { s with toks:=s.toks+ 1 }->wpAny (model X.prog X.w) X.A (f (.int i t)) Q E s):
 Sf X f (rU λi=>.int (g i)):=by
 intro pins s σ H x v Q I rx h;obtain⟨i,rfl,q⟩:=h;obtain⟨t,rfl⟩:=rx;exact rule i t s _ _ ⟨.int (g i),H,I.tok _,⟨_,rfl⟩,q⟩
theorem eP:Sf X (unaryOp .USub) (rU λi=>.int (-i)):=unI λ_ _ _ _ _ q=>neg_int q
end
def LW:V->V->Bool
 |.non,.non=>true|.non,.int _=>true|.int _,.non=>true|.non,.bl _=>true|.bl _,.non=>true|.non,.str _=>true|.str _,.non=>true
 |.int _,.int _=>true|.bl _,.bl _=>true|.str _,.str _=>true|.rH _,.rH _=>true
 |.int _,.str _=>true|.str _,.int _=>true|.bl _,.str _=>true|.str _,.bl _=>true
 |_,_=>false
def rEq:R2:=λx y H Q=>LW x y=true/\Q (.bl (decide (x=y))) H
def rNe:R2:=λx y H Q=>LW x y=true/\Q (.bl (!decide (x=y))) H
theorem Ge {i j:Int}:decide (V.int i=V.int j)=(i==j):=by
 rw[ah4];simp
theorem Jm {i j:Bool}:decide (V.bl i=V.bl j)=(i==j):=by
 rw[ah4];simp
theorem Gf {i j:Str}:decide (V.str i=V.str j)=(i==j):=by
 rw[ah4];simp
theorem Gh {i j:Array UInt8}:decide (V.rH i=V.rH j)=(i.toList==j.toList):=by
 rw[ah4];cases i;cases j;simp
section
variable {X:Cx}{a b c:Expr}{ta tb tc:TE}{pos:Pos}
theorem cj {pins:List (Addr×Obj)}{σ:St}{H:Hp}{s:Shared}{Q:VK}{k k':Bool}(I:Inv X pins σ H s)(q:Q (.bl k) H)(e:k=k'):EP X pins σ Q (.bool k') s:=by
 subst e;exact⟨.bl k,H,I,rfl,q⟩
theorem fF:gH X (compareOp .Eq) rEq:=by
 intro pins s σ H x y v u Q I rx ry h;obtain⟨hs,q⟩:=h
 cases x with
 |non=>
  cases rx
  cases y with
  |non=>cases ry;exact PySem.EqNone.eq_none_none (cj I q (by simp))
  |bl j=>cases ry;exact PySem.EqNone.eq_none_bool (cj I q (by simp))
  |int j=>obtain⟨t',rfl⟩:=ry;exact PySem.EqNone.eq_none_int (cj I q (by simp))
  |str j=>obtain⟨t',rfl⟩:=ry;exact PySem.EqNone.eq_none_str (cj I q (by simp))
  |_=>exact absurd (show false=true from hs) ahV
 |bl i=>
  cases rx
  cases y with
  |non=>cases ry;exact PySem.EqNone.eq_bool_none (cj I q (by simp))
  |bl j=>cases ry;exact eq_bool (cj I q Jm)
  |str j=>obtain⟨t',rfl⟩:=ry;exact PySem.EqMixed.eq_bool_str (cj I q (by simp))
  |_=>exact absurd (show false=true from hs) ahV
 |int i=>
  obtain⟨t,rfl⟩:=rx
  cases y with
  |non=>cases ry;exact PySem.EqNone.eq_int_none (cj I q (by simp))
  |int j=>obtain⟨t',rfl⟩:=ry;exact eq_int (cj I q Ge)
  |str j=>obtain⟨t',rfl⟩:=ry;exact PySem.EqMixed.eq_int_str (cj I q (by simp))
  |_=>exact absurd (show false=true from hs) ahV
 |str i=>
  obtain⟨t,rfl⟩:=rx
  cases y with
  |non=>cases ry;exact PySem.EqNone.eq_str_none (cj I q (by simp))
  |bl j=>cases ry;exact PySem.EqMixed.eq_str_bool (cj I q (by simp))
  |int j=>obtain⟨t',rfl⟩:=ry;exact PySem.EqMixed.eq_str_int (cj I q (by simp))
  |str j=>obtain⟨t',rfl⟩:=ry;exact eq_str (cj I q Gf)
  |_=>exact absurd (show false=true from hs) ahV
 |rH i=>
  obtain⟨t,rfl⟩:=rx
  cases y with
  |rH j=>obtain⟨t',rfl⟩:=ry;exact PySem.W.eq_bytes (cj I q Gh)
  |_=>exact absurd (show false=true from hs) ahV
 |_=>cases y <;> exact absurd (show false=true from hs) ahV
theorem lE:gH X (compareOp .NotEq) rNe:=by
 intro pins s σ H x y v u Q I rx ry h;obtain⟨hs,q⟩:=h
 cases x with
 |non=>
  cases rx
  cases y with
  |non=>cases ry;exact PySem.EqNone.ne_none_none (cj I q (by simp))
  |bl j=>cases ry;exact PySem.EqNone.ne_none_bool (cj I q (by simp))
  |int j=>obtain⟨t',rfl⟩:=ry;exact PySem.EqNone.ne_none_int (cj I q (by simp))
  |str j=>obtain⟨t',rfl⟩:=ry;exact PySem.EqNone.ne_none_str (cj I q (by simp))
  |_=>exact absurd (show false=true from hs) ahV
 |bl i=>
  cases rx
  cases y with
  |non=>cases ry;exact PySem.EqNone.ne_bool_none (cj I q (by simp))
  |bl j=>cases ry;exact ne_bool (cj I q (ah6 not Jm))
  |str j=>obtain⟨t',rfl⟩:=ry;exact PySem.EqMixed.ne_bool_str (cj I q (by simp))
  |_=>exact absurd (show false=true from hs) ahV
 |int i=>
  obtain⟨t,rfl⟩:=rx
  cases y with
  |non=>cases ry;exact PySem.EqNone.ne_int_none (cj I q (by simp))
  |int j=>obtain⟨t',rfl⟩:=ry;exact ne_int (cj I q (ah6 not Ge))
  |str j=>obtain⟨t',rfl⟩:=ry;exact PySem.EqMixed.ne_int_str (cj I q (by simp))
  |_=>exact absurd (show false=true from hs) ahV
 |str i=>
  obtain⟨t,rfl⟩:=rx
  cases y with
  |non=>cases ry;exact PySem.EqNone.ne_str_none (cj I q (by simp))
  |bl j=>cases ry;exact PySem.EqMixed.ne_str_bool (cj I q (by simp))
  |int j=>obtain⟨t',rfl⟩:=ry;exact PySem.EqMixed.ne_str_int (cj I q (by simp))
  |str j=>obtain⟨t',rfl⟩:=ry;exact ne_str (cj I q (ah6 not Gf))
  |_=>exact absurd (show false=true from hs) ahV
 |rH i=>
  obtain⟨t,rfl⟩:=rx
  cases y with
  |rH j=>obtain⟨t',rfl⟩:=ry;exact PySem.W.ne_bytes (cj I q (ah6 not Gh))
  |_=>exact absurd (show false=true from hs) ahV
 |_=>cases y <;> exact absurd (show false=true from hs) ahV
theorem lF:gH X (compareOp .Lt) (Bf λi j=>.bl (decide (i<j))):=Hy λ_ _ _ _ _ _ _ q=>lt_int q
theorem WT:gH X (compareOp .LtE) (Bf λi j=>.bl (decide (i<=j))):=Hy λ_ _ _ _ _ _ _ q=>le_int q
theorem HB:gH X (compareOp .Gt) (Bf λi j=>.bl (decide (j<i))):=Hy λ_ _ _ _ _ _ _ q=>gt_int q
theorem CK:gH X (compareOp .GtE) (Bf λi j=>.bl (decide (j<=i))):=Hy λ_ _ _ _ _ _ _ q=>ge_int q
theorem oB:gH X (compareOp .Is) (λx y H Q=>y=.non/\Q (.bl (decide (x=.non))) H):=by
 intro pins s σ H x y v u Q I rx ry h;obtain⟨rfl,q⟩:=h;cases ry;refine is_none_gen (cj I q ?_)
 cases x <;> first
  |(cases rx;rfl)
  |(obtain⟨t,rfl⟩:=rx;rfl)
theorem wF:gH X (compareOp .IsNot) (λx y H Q=>y=.non/\Q (.bl (!decide (x=.non))) H):=by
 intro pins s σ H x y v u Q I rx ry h;obtain⟨rfl,q⟩:=h;cases ry;refine isnot_none_gen (cj I q ?_)
 cases x <;> first
  |(cases rx;rfl)
  |(obtain⟨t,rfl⟩:=rx;rfl)
theorem bj (b:Expr){op:CmpOp}(h:op≠.In:=by decide)(h2:op≠.NotIn:=by decide):behindInMarks op b=false:=by
 have e1:(op==CmpOp.In)=false:=by cases op <;> first|rfl|exact absurd rfl h
 have e2:(op==CmpOp.NotIn)=false:=by cases op <;> first|rfl|exact absurd rfl h2
 cases b <;> simp[behindInMarks,e1,e2]
theorem mQ {op:CmpOp}{r:R2}(ho:gH X (compareOp op) r)(ha:PE X a ta)(hb:PE X b tb)(hm:behindInMarks op b=false):PE X (.Compare a [op] [b] pos) (C8 r ta tb):=by
 intro pins s σ H Q I h;exact wpAny_Compare1 (LV ha hb I h λv u s2 x y H2 I2 rx ry q=>ho pins s2 σ H2 x y v u Q I2 rx ry q) hm
def N2 (t:TE):TT:=λ σ H Q=>t σ H λx H'=>∃k,x=.bl k/\Q k H'
theorem aZ {op:CmpOp}{r:R2}(ho:gH X (compareOp op) r)(ha:PE X a ta)(hb:PE X b tb)(hm:behindInMarks op b=false):PT X (.Compare a [op] [b] pos) (N2 (C8 r ta tb)):=by
 intro pins s σ H Q I h
 refine wpAny_isTrue_Compare1 (bK (ha pins s σ H _ I h) λv s1 ⟨x,H1,I1,r1,q1⟩=>bK (hb pins s1 σ H1 _ I1 q1) λu s2 ⟨y,H2,I2,r2,q2⟩=>
  bK (ho pins s2 σ H2 x y v u _ I2 r1 r2 q2) λc s3 ⟨z,H3,I3,r3,k,e,q3⟩=>?_) hm
 subst e;cases r3;exact ai5 ⟨H3,I3,q3⟩
def Si (r r':R2)(ta tb tc:TE):TE:=λ σ H Q=>ta σ H λx H1=>tb σ H1 λy H2=>r x y H2 λz H3=>∃k,z=.bl k/\
 (if k=true then tc σ H3 λw' H4=>r' y w' H4 Q else Q (.bl false) H3)
theorem LX {op op':CmpOp}{r r':R2}(ho:gH X (compareOp op) r)(vf:gH X (compareOp op') r')(ha:PE X a ta)(hb:PE X b tb)(hc:PE X c tc)
 (hm:lastMarks [op,op'] [b,c]=false:=by with_unfolding_all rfl):PE X (.Compare a [op,op'] [b,c] pos) (Si r r' ta tb tc):=by
 intro pins s σ H Q I h
 refine Compare_chain (bK (ha pins s σ H _ I h) λv s1 ⟨x,H1,I1,r1,q1⟩=>chain_link (bK (hb pins s1 σ H1 _ I1 q1) λu s2 ⟨y,H2,I2,r2,q2⟩=>
  bK (ho pins s2 σ H2 x y v u _ I2 r1 r2 q2) λd s3 ⟨z,H3,I3,r3,k,e,q3⟩=>?_)) hm
 subst e;cases r3;refine ai5 ?_
 cases k with
 |false=>exact ite_ff ⟨.bl false,H3,I3,rfl,q3⟩
 |true=>exact ite_tt (chain_last (bK (hc pins s3 σ H3 _ I3 q3) λw' s4 ⟨z',H4,I4,r4,q4⟩=>vf pins s4 σ H4 y z' u w' Q I4 r2 r4 q4))
def Sj (K:Za1)(x:V)(H:Hp)(k:Bool):Prop:=
 match x with
 |.non=>k=false
 |.bl b=>k=b
 |.int i=>k=(i !=0)
 |.str y=>y.length<=sizeLine/\k=((y.length:Int) !=0)
 |.rH y=>y.size<=sizeLine/\k=((y.size:Int) !=0)
 |.ref p=>(∃xs,aM K H p xs/\k=!xs.isEmpty)\/(∃xs,bL K H p xs/\k=!xs.isEmpty)\/∃kvs,H p=some (.dK kvs)/\k=!kvs.isEmpty
 |_=>False
theorem HC {κ:Type}{kvs:List (κ×V)}{vs:List (κ×Value)}(r:KV kvs vs):(!vs.isEmpty)=!kvs.isEmpty:=by
 cases r <;> rfl
theorem yR {xs:List V}{its:List Value}(r:Vals xs its):(!its.toArray.isEmpty)=!xs.isEmpty:=by
 cases r <;> simp
theorem vk:(sizeLine:Nat)<2 ^ 63:=by rw[sizeLine_eq];decide
theorem Sl:abk X (λx H Q=>∃k,Sj X.K x H k/\Q k H):=by
 intro pins s σ H x v Q I rx h;obtain⟨k,e,q⟩:=h;have hl:=vk;have hs:sizeLine=16777216:=sizeLine_eq
 cases x with
 |non=>
  cases rx;have e':k=false:=e;subst e';exact truthy_none ⟨H,I,q⟩
 |bl b=>
  cases rx;have e':k=b:=e;subst e';exact ai5 ⟨H,I,q⟩
 |int i=>
  obtain⟨t,rfl⟩:=rx;have e':k=(i !=0):=e;subst e';exact PySem.P.truthy_int ⟨H,I,q⟩
 |str y=>
  obtain⟨t,rfl⟩:=rx;obtain⟨hy,e'⟩:y.length<=sizeLine/\k=((y.length:Int) !=0):=e;subst e';exact PySem.P.truthy_str (by omega) ⟨H,I.tok _,q⟩
 |rH y=>
  obtain⟨t,rfl⟩:=rx;obtain⟨hy,e'⟩:y.size<=sizeLine/\k=((y.size:Int) !=0):=e;subst e';exact PySem.W.truthy_bytes (by omega) ⟨H,I.tok _,q⟩
 |ref p=>
  cases rx;have e':(∃xs,aM X.K H p xs/\k=!xs.isEmpty)\/(∃xs,bL X.K H p xs/\k=!xs.isEmpty)\/∃kvs,H p=some (.dK kvs)/\k=!kvs.isEmpty:=e;rcases e' with ⟨xs,hx,e'⟩|⟨xs,hx,e'⟩|⟨kvs,hx,e'⟩
  ·subst e';obtain⟨its,r,pl,hz⟩:=I.list hx;have hlen:=r.length;exact wpAny_truthy_list pl.isList (by simp only[ahm];omega) ⟨H,I.tok _,by rw[yR r];exact q⟩
  ·subst e';obtain⟨its,r,pl,hz⟩:=I.tuple hx;have hlen:=r.length;exact truthy_tuple pl (by simp only[ahm];omega) ⟨H,I.tok _,by rw[yR r];exact q⟩
  ·subst e';obtain⟨hz,hS,vs,r,m⟩:kvs.length<=sizeLine/\(p==sysModules)=false/\∃vs,KV kvs vs/\s.heap.DictOf (b9 X.prog X.w) p vs:=I.bu p _ hx;have hlen:kvs.length=vs.length:=Paired.length r;exact wpAny_truthy_dict hS m (by omega) ⟨H,I.tok _,by rw[HC r];exact q⟩
 |_=>exact(show False from e).elim
theorem C9 (ha:PE X a ta)(he:∀whole,isTrue a X.env whole=(do let v ←whole;standAt a.pos;holding [v] (truthy v))):
 PT X a (λ σ H Q=>ta σ H λx H'=>∃k,Sj X.K x H' k/\Q k H'):=by
 intro pins s σ H Q I h;exact isTrue_plain (bK (ha pins s σ H _ I h) λv s1 ⟨x,H1,I1,r1,q1⟩=>Sl pins s1 σ H1 x v Q I1 r1 q1) (he _)
theorem vals1 {x:V}{us:List Value}(r:Vals [x] us):∃u,us=[u]/\RelV x u:=by
 cases r with
 |cons r1 r2=>cases r2;exact⟨_,rfl,r1⟩
theorem vals2 {x y:V}{us:List Value}(r:Vals [x,y] us):∃u w',us=[u,w']/\RelV x u/\RelV y w':=by
 cases r with
 |cons r1 r2=>
  cases r2 with
  |cons r3 r4=>cases r4;exact⟨_,_,rfl,r1,r3⟩
theorem Bg (hc:X.calm=true):lD X (.builtin "max") (λxs H Q=>∃i j,xs=[.int i,.int j]/\Q (.int (if j > i then j else i)) H):=by
 intro pins s σ H xs us Q I r h;obtain⟨i,j,rfl,q⟩:=h;obtain⟨u,w',rfl,⟨t,rfl⟩,⟨t',rfl⟩⟩:=vals2 r;refine max_two_ints (I.ok.hd hc) λh' tk k=>⟨_,H,I.kept k,?_,q⟩
 by_cases hj:j > i
 ·rw[ahu hj,ahu hj];exact⟨_,rfl⟩
 ·rw[ahq hj,ahq hj];exact⟨_,rfl⟩
theorem Bh (hc:X.calm=true):lD X (.builtin "min") (λxs H Q=>∃i j,xs=[.int i,.int j]/\Q (.int (if j<i then j else i)) H):=by
 intro pins s σ H xs us Q I r h;obtain⟨i,j,rfl,q⟩:=h;obtain⟨u,w',rfl,⟨t,rfl⟩,⟨t',rfl⟩⟩:=vals2 r;refine min_two_ints (I.ok.hd hc) λh' tk k=>⟨_,H,I.kept k,?_,q⟩
 by_cases hj:j<i
 ·rw[ahu hj,ahu hj];exact⟨_,rfl⟩
 ·rw[ahq hj,ahq hj];exact⟨_,rfl⟩
end
structure xY (h:Heap) (x dx C:Addr) (mA:Str->Option Value):Prop where
 obj:h.get? x=some (PySem.W.instObj C dx)
 ns:h.Ns1 dx mA
 ne:dx≠x
theorem Jn {h:Heap}{dx:Addr}{mA:Str->Option Value}(n:h.Ns1 dx mA):∃od,h.get? dx=some od/\∀name,PySem.W.lookIn name od=some (mA name):=by
 obtain⟨o,es,ep,ho,hd,hk,_,hm⟩:=n;refine⟨o,ho,λname=>?_⟩;have e:=hm name;unfold nsFind findBy at e;rw[←Array.find?_toList]at e;unfold PySem.W.lookIn;rw[hd];dsimp only;split
 ·rename_i y q;rw[q]at e;exact ah6 some e
 ·rename_i q;rw[q]at e
  have a:es.toList.any (·.refKey)=false:=by
   rw[List.any_eq_false];intro y hy;obtain⟨z,t,t9⟩:=hk y (Array.mem_toList_iff.mp hy);simp[DictEntry.refKey,t9]
  have a':¬es.toList.any (·.refKey)=true:=by rw[a];exact ahV
  rw[ahq a'];exact ah6 some e
theorem xY.look {h:Heap}{x dx C:Addr}{mA:Str->Option Value}(I:xY h x dx C mA):∃od,PySem.W.InstAt h x (PySem.W.instObj C dx) C (some od)/\∀name,PySem.W.lookIn name od=some (mA name):=
 let ⟨od,ho,hl⟩:=Jn I.ns
 ⟨od,⟨I.obj,rfl,rfl,ho⟩,hl⟩
section
variable {prog:Program}{w:World}{A:Around}{E:Value->Shared->Prop}{s:Shared}{K:Za1}{x dx C f:Addr}{mA:Str->Option Value}{name:Str}{v:Value}
theorem get_map {expr:Bool}{Q:Value->Shared->Prop}(X:K.In s.heap)(I:xY s.heap x dx C mA)(hg:PySem.W.plainGet K C name=true)(hh:PySem.W.hasDictIn K C=true)
 (ha:PySem.W.findIn K (.ref C) name=some none) (hv:mA name=some v) (N3:PySem.W.handedIn v=true) (h:Q v { s with toks:=s.toks+ 1 }):
 wpAny (model prog w) A (getAttr (.ref x) name expr) Q E s:=by
 obtain⟨od,J,hl⟩:=I.look;exact PySem.W.get_value X J (PySem.W.plainGet_of hg).1 (PySem.W.findObj_own hh ha rfl (by rw[hl,hv])) N3 h
theorem LY {pl:Sem Bool}{Q:Value×List Value->Shared->Prop}(X:K.In s.heap)(I:xY s.heap x dx C mA)(hg:PySem.W.plainGet K C name=true)
 (hf:PySem.W.findIn K (.ref C) name=some (some (.ref f))) (ht:PySem.W.isFn K (.ref f)=true) (hv:mA name=none) (h:Q (.ref f,[.ref x]) s):
 wpAny (model prog w) A (getMethod (.ref x) name pl) Q E s:=by
 obtain⟨od,J,hl⟩:=I.look;exact PySem.W.method_fn X J (PySem.W.plainGet_of hg).1 (PySem.W.plainGet_of hg).2 hf (aka.mp ht) (by show (PySem.W.lookIn name od).map (·.isSome)=some false;rw[hl,hv];rfl) h
theorem Qq {ns:List Str}{Q:Unit->Shared->Prop}(X:K.In s.heap)(I:xY s.heap x dx C mA)
 (hs:PySem.W.findIn K (.ref C) "__setattr__"=some (some (.builtin "object.__setattr__"))) (hp:PySem.W.plainOver K C=true) (ht:PySem.W.takerIn K C name=some none) (hh:PySem.W.hasDictIn K C=true)
 (hw:PySem.Within mA ns) (hsz:ns.length<=sizeLine)
 (h:∀h',xY h' x dx C (λy=>if y=name then some v else mA y)->Heap.SameBut dx s.heap h'->Q () { s with heap:=h',toks:=s.toks+ 2 }):
 wpAny (model prog w) A (setAttr (.ref x) name v) Q E s:=by
 obtain⟨od,J,hl⟩:=I.look;refine PySem.W.set_plain X J hs (PySem.W.osa_open (s:={ s with toks:=s.toks+ 1 }) (r:=none) X J hp ht λb=>?_);obtain⟨cd,hc,fx⟩:=PySem.W.any_some hh;have hx:s.heap.get? x=some ⟨.ref C,some dx,.plain,#[]⟩:=I.obj;refine ahb (ahk (ahb (ahb (wpAny_loadPart hx (ahb (PySem.W.Looks.here (s:={ s with toks:=s.toks+ 1 }) (PySem.W.looks_clsIn X hc) ?_))))));rw[fx];refine ahk (a:=some dx) (ahb (ahk (ahb ?_)));refine wpAny_nsSet1 (s:={ s with toks:=s.toks+ 1 }) I.ns λh' Bi vh=>?_
 obtain⟨oD,esD,epD,hoD,hdD,hcD⟩:=Bi.count (PySem.Within.cons name v hw);refine ahb (wpAny_lookBehind hoD (by rw[hdD];exact pastItsLine_dict (ahC hcD (by rw[ahE];omega))) ?_);exact ahk (h _ ⟨(vh.2 _ (ail I.ne)).trans I.obj,Bi,I.ne⟩ vh)
theorem LZ {R:Result->Shared->Prop}{vs:List Value}{kw:List (Str×Value)}(X:K.In s.heap)(hm:PySem.W.makesIn K C=true)
 (hi:PySem.W.findIn K (.ref C) "__init__"=some (some (.ref f))) (hf:PySem.W.typeIn K (.ref f)=some (.type "function"))
 (h:codeAny (model prog w) (A.under (.builtin "type.__call__" ⟨.ref C::vs,kw⟩)) (.call (.ref f) ⟨.ref (s.heap.objs.size+ 1)::vs,kw⟩) (PySem.W.InitBack (s.heap.objs.size+ 1) R)
  { s with heap:=(s.heap.push PySem.W.emptyDict).push (PySem.W.instObj C s.heap.objs.size) }):
 codeAny (model prog w) A (.call (.ref C) ⟨vs,kw⟩) R s:=by
 obtain⟨hh,g,d,t,os⟩:=s;exact PySem.W.make_core (PySem.W.makes_of X hm) (PySem.W.looks_findIn X hi) (λself=>PySem.W.bind_fn X self hf) (.inl rfl) h
end
def b6 (f:Str)(v:V):List (Str×V)->List (Str×V)
 |[]=>[(f,v)]
 |(g,x)::r=>if g=f then (g,v)::r else (g,x)::b6 f v r
theorem xq (f g:Str)(v:V):∀fs:List (Str×V),(b6 f v fs).lookup g=if g=f then some v else fs.lookup g
 |[]=>by
  show List.lookup g [(f,v)]=_;by_cases h:g=f
  ·have hb:(g==f)=true:=aka.mpr h;simp only[List.lookup,hb,ahu h]
  ·have hb:(g==f)=false:=aho.mpr h;simp only[List.lookup,hb,ahq h]
 |(k,x)::r=>by
  have ih:=xq f g v r;rw[show b6 f v ((k,x)::r)=(if k=f then (k,v)::r else (k,x)::b6 f v r) from rfl];by_cases hk:k=f
  ·rw[ahu hk];by_cases h:g=k
   ·have hb:(g==k)=true:=aka.mpr h;simp only[List.lookup,hb,ahu (h.trans hk)]
   ·have hb:(g==k)=false:=aho.mpr h;simp only[List.lookup,hb,ahq (λe:g=f=>h (e.trans hk.symm))]
  ·rw[ahq hk];by_cases h:g=k
   ·have hb:(g==k)=true:=aka.mpr h;simp only[List.lookup,hb,ahq (λe:g=f=>hk (h.symm.trans e))]
   ·have hb:(g==k)=false:=aho.mpr h;simp only[List.lookup,hb];exact ih
theorem vm (f:Str)(v:V):∀fs:List (Str×V),f∈(b6 f v fs).map (·.1)/\∀g,g∈fs.map (·.1)->g∈(b6 f v fs).map (·.1)
 |[]=>⟨by simp[b6],λg h=>by simp at h⟩
 |(k,x)::r=>by
  obtain⟨i1,i2⟩:=vm f v r;rw[show b6 f v ((k,x)::r)=(if k=f then (k,v)::r else (k,x)::b6 f v r) from rfl];by_cases hk:k=f
  ·rw[ahu hk];subst hk;exact⟨by simp,λg h=>by simpa using h⟩
  ·rw[ahq hk];refine⟨?_,λg h=>?_⟩
   ·rw[ahY];exact ahL _ i1
   ·rw[ahY]at h ⊢;rcases ahp.mp h with e|e
    ·exact ahp.mpr (.inl e)
    ·exact ahL _ (i2 g e)
theorem xr (f:Str)(v:V):∀fs:List (Str×V),(b6 f v fs).length<=fs.length+ 1
 |[]=>by simp[b6]
 |(k,x)::r=>by
  have ih:=xr f v r;rw[show b6 f v ((k,x)::r)=(if k=f then (k,v)::r else (k,x)::b6 f v r) from rfl];by_cases hk:k=f
  ·rw[ahu hk,ahE,ahE];omega
  ·rw[ahq hk,ahE,ahE];omega
theorem gQ.some_of {v:V}{o:Option Value}(r:gQ (some v) o):∃u,o=some u/\RelV v u:=by
 cases o with
 |none=>exact(show False from r).elim
 |some u=>exact⟨u,rfl,r⟩
theorem gQ.none_of {o:Option Value}(r:gQ none o):o=none:=by
 cases o with
 |none=>rfl
 |some u=>exact(show False from r).elim
theorem Jo {v:V}{u:Value}(r:RelV v u):PySem.W.handedIn u=true:=by
 cases v with
 |non=>cases (show u=Value.none from r);rfl
 |bl b=>cases (show u=Value.bool b from r);rfl
 |int i=>obtain⟨t,e⟩:=(show ∃t,u=Value.int i t from r);cases e;rfl
 |str x=>obtain⟨t,e⟩:=(show ∃t,u=Value.str x t from r);cases e;rfl
 |rH b=>obtain⟨t,e⟩:=(show ∃t,u=Value.bytes b t from r);cases e;rfl
 |CY b=>obtain⟨t,e⟩:=(show ∃t,u=Value.float b t from r);cases e;rfl
 |ref a=>cases (show u=Value.ref a from r);rfl
 |ty n=>cases (show u=Value.type n from r);rfl
section
variable {P:Program}{w:World}{H:Hp}{h:Heap}{a C dx:Addr}{fs:List (Str×V)}
theorem wG (bu:fw P w H h)(e:H a=some (.ins C dx fs)):∃mA,xY h a dx C mA/\(∀f,gQ (fs.lookup f) (mA f))/\PySem.Within mA (fs.map (·.1))/\fs.length<=1000/\H dx=some (.own a):=by
 obtain⟨d,z,ne,ob,mA,n,r,q⟩:=(show cK P w H h a (.ins C dx fs) from bu a _ e);exact⟨mA,⟨ob,n,ne⟩,r,q,z,d⟩
end
structure sW (K:Za1) (C:Addr):Prop where
 pg:PySem.W.plainGet K C Str.empty=true
 hd:PySem.W.hasDictIn K C=true
 po:PySem.W.plainOver K C=true
 sa:PySem.W.findIn K (.ref C) "__setattr__"=some (some (.builtin "object.__setattr__"))
theorem sW.get {K:Za1}{C:Addr}(c:sW K C)(f:Str):PySem.W.plainGet K C f=true:=c.pg
def sX (K:Za1)(C:Addr)(f:Str):Prop:=PySem.W.findIn K (.ref C) f=some none
theorem sX.WU {K:Za1}{C:Addr}{f:Str}(n:sX K C f):PySem.W.takerIn K C f=some none:=by
 unfold PySem.W.takerIn;rw[show PySem.W.findIn K (.ref C) f=some none from n];rfl
structure Con (K:Za1) (C:Addr) (f:Str) (v:V) (u:Value):Prop where
 at_:PySem.W.findIn K (.ref C) f=some (some u)
 rel:RelV v u
 get:PySem.W.specialIn K u "__get__"=some none
 cp:PySem.W.copiedNames.contains f=false
structure Meth (K:Za1) (C:Addr) (m:Str) (f:Addr):Prop where
 at_:PySem.W.findIn K (.ref C) m=some (some (.ref f))
 fn:PySem.W.isFn K (.ref f)=true
 kp:PySem.W.keepIn K (.ref f)=true
section
variable {X:Cx}{pins:List (Addr×Obj)}{σ:St}{H:Hp}{s:Shared}{a C dx:Addr}{fs:List (Str×V)}{f:Str}{v:V}{A:Around}{E:Value->Shared->Prop}
theorem HD {b:Bool}{Q:Value->Shared->Prop}(I:Inv X pins σ H s)(e:H a=some (.ins C dx fs))(c:sW X.K C)(n:sX X.K C f)(l:fs.lookup f=some v)
 (h:∀u s',Inv X pins σ H s'->RelV v u->Q u s'):wpAny (model X.prog X.w) A (getAttr (.ref a) f b) Q E s:=by
 obtain⟨mA,O,r,_,_,_⟩:=wG I.bu e;obtain⟨u,hu,ru⟩:=gQ.some_of (v:=v) (o:=mA f) (by rw[←l];exact r f);exact get_map I.iS O (c.get f) c.hd n hu (Jo ru) (h u _ (I.tok _) ru)
theorem yS {m:Str}{g:Addr}{pl:Sem Bool}{Q:Value×List Value->Shared->Prop}(I:Inv X pins σ H s)(e:H a=some (.ins C dx fs))(c:sW X.K C)(k:Meth X.K C m g)(l:fs.lookup m=none)
 (h:Q (.ref g,[.ref a]) s):wpAny (model X.prog X.w) A (getMethod (.ref a) m pl) Q E s:=by
 obtain⟨mA,O,r,_,_,_⟩:=wG I.bu e;have hn:mA m=none:=gQ.none_of (by rw[←l];exact r m);exact LY I.iS O (c.get m) k.at_ k.fn hn h
theorem HF {y:V}{u:Value}{Q:Unit->Shared->Prop}(I:Inv X pins σ H s)(e:H a=some (.ins C dx fs))(c:sW X.K C)(n:sX X.K C f)(hl:fs.length<1000)(ry:RelV y u)
 (h:∀s',Inv X pins σ (upd H a (.ins C dx (b6 f y fs))) s'->Q () s'):wpAny (model X.prog X.w) A (setAttr (.ref a) f u) Q E s:=by
 obtain⟨mA,O,r,wi,_,ho⟩:=wG I.bu e;have hz:(fs.map (·.1)).length<=sizeLine:=by rw[ahl,sizeLine_eq];omega
 refine Qq I.iS O c.sa c.po n.WU c.hd wi hz λh' O' sb=>h _ ?_
 have hd:∃o,h'.get? dx=some o:=let ⟨o,_,_,e',_⟩:=O'.ns;⟨o,e'⟩
 refine I.write (x:=a) (e:=dx) (by rw[e];exact True.intro) (.inr ho) (λb q hb z=>(sb.2 b hb).trans z) hd ?_;refine⟨by rw[av O.ne];exact ho,?_,O.ne,O'.obj,_,O'.ns,λg=>?_,λg hg=>?_⟩
 ·have:=xr f y fs;omega
 ·show gQ ((b6 f y fs).lookup g) (if g=f then some u else mA g);rw[xq];by_cases q:g=f
  ·rw[ahu q,ahu q];exact ry
  ·rw[ahq q,ahq q];exact r g
 ·by_cases q:g=f
  ·rw[q];exact(vm f y fs).1
  ·refine(vm f y fs).2 g (wi g λz=>hg ?_);show (if g=f then some u else mA g)=none;rw[ahq q];exact z
theorem Inv.made (I:Inv X pins σ H s):Inv X pins σ (upd (upd H s.heap.objs.size (.own (s.heap.objs.size+ 1))) (s.heap.objs.size+ 1) (.ins C s.heap.objs.size []))
 { s with heap:=(s.heap.push PySem.W.emptyDict).push (PySem.W.instObj C s.heap.objs.size) }:=by
 have e1:(s.heap.push PySem.W.emptyDict).get? s.heap.objs.size=some PySem.W.emptyDict:=ahz s.heap rfl
 have e2:((s.heap.push PySem.W.emptyDict).push (PySem.W.instObj C s.heap.objs.size)).get? (s.heap.objs.size+ 1)=some (PySem.W.instObj C s.heap.objs.size):=by
  have:=ahz (s.heap.push PySem.W.emptyDict) (o:=PySem.W.instObj C s.heap.objs.size) rfl
  rwa [ajz]at this
 have e3:(s.heap.push PySem.W.emptyDict).Ns s.heap.objs.size (λ_=>none):=⟨PySem.W.emptyDict,#[],_,e1,rfl,(λe he=>absurd he (by simp)),λ_=>rfl⟩;have I1:=I.laid (a:=s.heap.objs.size) (o:=.own (s.heap.objs.size+ 1)) (h':=s.heap.push PySem.W.emptyDict) (t':=s.toks) (λb u q=>ahj _ q) (ahi _) ⟨_,e1⟩;refine I1.laid (a:=s.heap.objs.size+ 1) (o:=.ins C s.heap.objs.size []) (t':=s.toks) (λb u q=>ahj _ q) (ajV (ajz _ _)) ?_;have ne:s.heap.objs.size≠s.heap.objs.size+ 1:=ahS (aja _);refine⟨by rw[av ne,aj],ahT _,ne,e2,λ_=>none,(Heap.Ns1.of_empty e3).at λo q=>ahj _ q,λ_=>True.intro,λy hy=>absurd rfl hy⟩
theorem Qr {prog:Program}{w:World}{env:Env}{e:Expr}{f:Str}{pos:Pos}{s:Shared}{Q:Value->Shared->Prop}(hb:attributeBase e f env (eval e env)=eval e env)
 (h:wpAny (model prog w) A (eval e env) (λo bO=>wpAny (model prog w) A (getAttr o f true) Q E bO) E s):wpAny (model prog w) A (eval (.Attribute e f pos) env) Q E s:=
 Attribute_any_ h (by rw[arm_eval_Attribute,hb])
end
def Sn (K:Za1)(ta:TE)(f:Str):TE:=λ σ H Q=>ta σ H λx H1=>∃a C dx fs v,x=.ref a/\H1 a=some (.ins C dx fs)/\sW K C/\sX K C f/\fs.lookup f=some v/\Q v H1
def abm (K:Za1)(ta tv:TE)(f:Str):TS:=λD σ H=>tv σ H λy H1=>ta σ H1 λx H2=>∃a C dx fs,x=.ref a/\H2 a=some (.ins C dx fs)/\sW K C/\sX K C f/\fs.length<1000/\
 D.nx σ (upd H2 a (.ins C dx (b6 f y fs)))
section
variable {X:Cx}{o e value:Expr}{f:Str}{pos pos':Pos}{ta tv:TE}
theorem aJ (he:PE X e ta)(hb:attributeBase e f X.env (eval e X.env)=eval e X.env):PE X (.Attribute e f pos) (Sn X.K ta f):=by
 intro pins s σ H Q I h;refine Qr hb (bK (he pins s σ H _ I h) λu s1 ⟨x,H1,I1,rx,a,C,dx,fs,v,ex,ea,c,n,l,q⟩=>?_);subst ex;obtain rfl:u=Value.ref a:=rx;exact HD I1 ea c n l λu' s2 I2 ru=>⟨v,H1,I2,ru,q⟩
theorem cE (ha:PE X o ta)(hv:PE X value tv)(hs:swapsWith value (some (.Attribute o f pos')) pos.line X.env=pure false):PS X (.Assign [.Attribute o f pos'] value pos) (abm X.K ta tv f):=by
 intro pins s σ H D I h;refine plainObj_wpAny_Assign_Attribute (bK (hv pins s σ H _ I h) λu s1 ⟨y,H1,I1,ry,q⟩=>bK (ha pins s1 σ H1 _ I1 q) λov s2 ⟨x,H2,I2,rx,a,C,dx,fs,ex,ea,c,n,l,q2⟩=>?_) hs;subst ex;obtain rfl:ov=Value.ref a:=rx;exact HF I2 ea c n l ry λs3 I3=>⟨σ,_,I3,q2⟩
end
section
variable {X:Cx}{pins:List (Addr×Obj)}{σ:St}{H:Hp}{s:Shared}{A:Around}{E:Value->Shared->Prop}{Q:Value->Shared->Prop}{c:Value}{b:Bool}
inductive mR (K:Za1) (H:Hp):V->Value->Prop where
 |non:mR K H .non (.type "NoneType")
 |bl (x:Bool):mR K H (.bl x) (.type "bool")
 |int (i:Int):mR K H (.int i) (.type "int")
 |str (x:Str):mR K H (.str x) (.type "str")
 |CY (x:UInt64):mR K H (.CY x) (.type "float")
 |lst {a:Addr} {xs:List V} (e:H a=some (.lst xs)):mR K H (.ref a) (.type "list")
 |dC {a:Addr} {o:Obj} {xs:List V} (e:H a=some (.dC o (.lst xs))):mR K H (.ref a) (.type "list")
 |tup {a:Addr} {xs:List V} (e:H a=some (.tup xs)):mR K H (.ref a) (.type "tuple")
 |dK {a:Addr} {kvs:List (Key×V)} (e:H a=some (.dK kvs)):mR K H (.ref a) (.type "dict")
 |dT {a:Addr} {kvs:List (List Key×V)} (e:H a=some (.dT kvs)):mR K H (.ref a) (.type "dict")
 |ins {a C dx:Addr} {fs:List (Str×V)} (e:H a=some (.ins C dx fs)) (cl:sW K C) (ha:PySem.W.findIn K (.ref C) "__class__"=some (some (.builtin "object.__class__")))
  (hn:PySem.W.specialIn K (.builtin "object.__class__") "__get__"=some (some (.builtin "getset_descriptor.__get__"))) (rJ:PySem.W.takesIn K (.builtin "object.__class__")=some true)
  (hm:PySem.W.mroIn K C (.type "object")=some true):mR K H (.ref a) (.ref C)
theorem Jp {x:V}{u t:Value}(I:Inv X pins σ H s)(rx:RelV x u)(ty:mR X.K H x t)(e:PySem.W.kitOne X.K t c=some b)(h:∀tk,Q (.bool b) { s with toks:=tk }):
 wpAny (model X.prog X.w) A (call (.builtin "isinstance") [u,c]) Q E s:=by
 cases ty with
 |non=>cases (show u=Value.none from rx);exact aix PySem.W.kitx_none I.iS True.intro e (λz=>nomatch z) h
 |bl y=>cases (show u=Value.bool y from rx);exact aix PySem.W.kitx_bool I.iS True.intro e (λz=>nomatch z) h
 |int i=>obtain⟨t,q⟩:=(show ∃t,u=Value.int i t from rx);cases q;exact aix PySem.W.kitx_int I.iS True.intro e (λz=>nomatch z) h
 |str y=>obtain⟨t,q⟩:=(show ∃t,u=Value.str y t from rx);cases q;exact aix PySem.W.kitx_str I.iS True.intro e (λz=>nomatch z) h
 |CY y=>obtain⟨t,q⟩:=(show ∃t,u=Value.float y t from rx);cases q;exact aix PySem.W.kitx_float I.iS True.intro e (λz=>nomatch z) h
 | @lst a xs ea=>
   cases (show u=Value.ref a from rx);obtain⟨_,_,n,_,h1⟩:=(show cK X.prog X.w H s.heap a (.lst xs) from I.bu a _ ea);exact aix PySem.W.kitx_list I.iS ⟨_,h1,rfl⟩ e (λz=>nomatch z) h
 | @dC a ob xs ea=>
   cases (show u=Value.ref a from rx);obtain⟨_,_,_,n,_,h1⟩:=(show cK X.prog X.w H s.heap a (.dC ob (.lst xs)) from I.bu a _ ea);exact aix PySem.W.kitx_list I.iS ⟨_,h1,rfl⟩ e (λz=>nomatch z) h
 | @tup a xs ea=>
   cases (show u=Value.ref a from rx);obtain⟨_,_,_,p⟩:=(show cK X.prog X.w H s.heap a (.tup xs) from I.bu a _ ea);obtain⟨o,h1,h2,_⟩:=p;exact aix PySem.W.kitx_tuple I.iS ⟨o,h1,h2⟩ e (λz=>nomatch z) h
 | @dK a kvs ea=>
   cases (show u=Value.ref a from rx);obtain⟨_,_,vs,_,p⟩:=(show cK X.prog X.w H s.heap a (.dK kvs) from I.bu a _ ea);obtain⟨o,es,ep,h1,h2,_⟩:=p;exact aix PySem.W.kitx_dict I.iS ⟨o,h1,h2.1⟩ e (λz=>nomatch z) h
 | @dT a kvs ea=>
   cases (show u=Value.ref a from rx);obtain⟨_,_,xs,_,o,es,ep,h1,h2,_⟩:=(show cK X.prog X.w H s.heap a (.dT kvs) from I.bu a _ ea);exact aix PySem.W.kitx_dict I.iS ⟨o,h1,h2.1⟩ e (λz=>nomatch z) h
 | @ins a C dx fs ea cl ha hn rJ hm=>
   cases (show u=Value.ref a from rx);obtain⟨mA,O,_⟩:=wG I.bu ea;obtain⟨od,J,_⟩:=O.look;exact aix (PySem.W.kitx_own (cl.get _) cl.hd ha hn rJ hm) I.iS J e (λz=>nomatch z) h
end
structure fz (k:Nat) (A:Around):Prop where
 hd:A.handled=none
 dp:A.depth+ 3* k+ 5<recursionLimit
 un:A.units+ 16* k+ 200<cLine
theorem fz.mono {j k:Nat}{A:Around}(r:fz k A)(h:j<=k):fz j A:=⟨r.hd,by have:=r.dp;omega,by have:=r.un;omega⟩
theorem fz.Za5 {j k:Nat}{A:Around}(r:fz k A)(h:j<=k:=by decide):fz j A:=r.mono h
theorem fz.deeper {k:Nat}{A:Around}(r:fz (k+ 1) A)(env:Env):fz k (A.deeper env):=
 ⟨r.hd,by have:=r.dp;show A.depth+ 1+ 3* k+ 5<_;omega,by have:=r.un;show A.units+ 3+ 16* k+ 200<_;omega⟩
theorem HG {A:Around}{C:Addr}{us:List Value}{kw:List (Str×Value)}:(A.under (.builtin "type.__call__" ⟨.ref C::us,kw⟩)).depth=A.depth+ 1:=by
 first|rfl|simp[Around.under,Code.weight,Code.isCreation,Code.isGuard,Code.isCaller,Code.frames,Code.isFrame,guardIds]
theorem HJ {A:Around}{C:Addr}{us:List Value}{kw:List (Str×Value)}:(A.under (.builtin "type.__call__" ⟨.ref C::us,kw⟩)).units=A.units+ 1:=by
 first|rfl|simp[Around.under,Code.cUnits,Code.frames,Code.isFrame]
theorem fz.make {k:Nat}{A:Around}(r:fz (k+ 1) A)(C:Addr)(us:List Value)(kw:List (Str×Value)):fz k (A.under (.builtin "type.__call__" ⟨.ref C::us,kw⟩)):=
 ⟨r.hd,by have:=r.dp;rw[HG];omega,by have:=r.un;rw[HJ];omega⟩
theorem fz.depth {k:Nat}{A:Around}(r:fz k A):A.depth<recursionLimit:=by have:=r.dp;omega
theorem fz.units {k:Nat}{A:Around}(r:fz k A):A.units+ 64<cLine:=by have:=r.un;omega
def lG:TA:=λ_ H Q=>Q [] H
def gL (ta:TE)(tr:TA):TA:=λ σ H Q=>ta σ H λx H1=>tr σ H1 λxs H2=>Q (x::xs) H2
section
variable {X:Cx}{e:Expr}{es:List Expr}{te:TE}{t:TA}{pos:Pos}
theorem ah:PA X [] lG:=λ_ _ _ _ H Q I h=>ai6 ⟨[],H,I,.nil,h⟩
theorem ae (ha:PE X e te)(hr:PA X es t)(hs:starEach (e::es) X.env=(false,eval e X.env)::starEach es X.env:=by rfl):PA X (e::es) (gL te t):=by
 intro pos pins s σ H Q I h;rw[hs];show wpAny _ _ (spliced ((false,eval e X.env)::backTo pos (starEach es X.env))) _ _ s;refine aij (bK (ha pins s σ H _ I h) λu s1 ⟨x,H1,I1,r1,q1⟩=>?_);exact bK (hr pos pins s1 σ H1 _ I1 q1) λus s2 ⟨xs,H2,I2,r2,q2⟩=>⟨x::xs,H2,I2,.cons r1 r2,q2⟩
def abo (t:TA):TE:=λ σ H Q=>t σ H λxs H1=>xs.length<=sizeLine/\∀p,H1 p=none->Q (.ref p) (upd H1 p (.tup xs))
def abp (t:TA):TE:=λ σ H Q=>t σ H λxs H1=>xs.length<=sizeLine/\∀p,H1 p=none->Q (.ref p) (upd H1 p (.lst xs))
theorem bS {x1}(h:PA X es t):PE X (.Tuple es x1 pos) (abo t):=by
 intro pins s σ H Q I hq;refine wpAny_Tuple_spliced (bK (h pos pins s σ H _ I hq) λus s1 ⟨xs,H1,I1,r,z,q⟩=>⟨by rw[←r.length];exact z,?_⟩);have hf:H1 s1.heap.objs.size=none:=I1.bu.fresh (ahi _);refine⟨.ref s1.heap.objs.size,upd H1 s1.heap.objs.size (.tup xs),I1.laid (t':=s1.toks) (λb u e=>ahj _ e) (ahi _) ?_,rfl,q _ hf⟩;exact⟨z,us,r,⟨_,ahz _ rfl,rfl,_,rfl⟩⟩
theorem dX (h:PA X es t):PE X (.List es pos) (abp t):=by
 intro pins s σ H Q I hq;refine wpAny_List_spliced (bK (h pos pins s σ H _ I hq) λus s1 ⟨xs,H1,I1,r,z,q⟩=>⟨by rw[←r.length];exact z,?_⟩);have hf:H1 s1.heap.objs.size=none:=I1.bu.fresh (ahi _);refine⟨.ref s1.heap.objs.size,upd H1 s1.heap.objs.size (.lst xs),I1.laid (t':=s1.toks) (λb u e=>ahj _ e) (ahi _) ?_,rfl,q _ hf⟩;exact⟨z,us,0,r,ahz _ rfl⟩
end
abbrev Sp:=List V->Hp->VK->XK->Prop
abbrev sY:=List Env->Hp->Shared->XK->Value->Shared->Prop
structure xZ (P:Program) (w:World) (K:Za1) (mg:Str->Option Value) (base:Heap) (A:Around) (outer:List Env) (s:Shared) (H:Hp):Prop where
 frames:A.frames=some outer
 mod:Mod K mg base
 bs:∀b o,base.get? b=some o->s.heap.get? b=some o/\H b=none
 yM:base.objs.size<=s.heap.objs.size
 mP:s.heap.FunFrames base outer
 A9:∀b∈lA outer,H b=none
 bu:fw P w H s.heap
 bare:AllBare s.gens
def CE (outer:List Env)(P:Program)(w:World)(H:Hp)(s:Shared)(Q:VK)(u:Value)(s':Shared):Prop:=
 ∃v H',s'.os=s.os/\AllBare s'.gens/\Un (lA outer) [] H H' s.heap s'.heap/\fw P w H' s'.heap/\RelV v u/\Q v H'
def CR (CX:sY)(outer:List Env)(P:Program)(w:World)(H:Hp)(s:Shared)(Q:VK)(E:XK)(r:Result)(s':Shared):Prop:=
 match r with
 |.ok (.ret u)=>CE outer P w H s Q u s'
 |.ok _=>False
 |.error e=>CX outer H s E e s'
structure aL (P:Program) (w:World) (K:Za1) (mg:Str->Option Value) (base:Heap) (CX:sY) (k:Nat) (f:Addr) (fd:FuncData) (ps:List Str) (sp:Sp):Prop where
 len:∀vs H Q E,sp vs H Q E->vs.length=ps.length
 run:∀(A:Around) (outer:List Env) (s:Shared) (H:Hp) (args:Args) (us:List Value) (vs:List V) (Q:VK) (E:XK),fz k A->xZ P w K mg base A outer s H->BindsTo s fd args (ps.zip us)->Vals vs us->sp vs H Q E->
  codeAny (model P w) A (.call (.ref f) args) (CR CX outer P w H s Q E) s
theorem xZ.make {P:Program}{w:World}{K:Za1}{mg:Str->Option Value}{base:Heap}{A:Around}{outer:List Env}{s:Shared}{H:Hp}(e:xZ P w K mg base A outer s H)(C:Addr)(us:List Value)(kw:List (Str×Value)):
 xZ P w K mg base (A.under (.builtin "type.__call__" ⟨.ref C::us,kw⟩)) outer s H:=⟨by first|exact e.frames|(simpa [Around.under,Code.envs,Code.isFrame,pushEnvs] using e.frames),e.mod,e.bs,e.yM,e.mP,e.A9,e.bu,e.bare⟩
section
variable {X:Cx}{pins:List (Addr×Obj)}{σ:St}{H:Hp}{s s':Shared}
theorem Inv.Sq (I:Inv X pins σ H s):xZ X.prog X.w X.K X.mg X.base X.A X.stack s H:=
 ⟨I.ok.frames,I.ok.mod,I.bs,ahC I.ok.yM I.sz,I.stack,I.F7,I.bu,I.bare⟩
theorem Inv.after {Q:VK}{u:Value}(I:Inv X pins σ H s)(h:CE X.stack X.prog X.w H s Q u s'):EP X pins σ Q u s':=by
 obtain⟨v,H',os,bare,un,bu,r,q⟩:=h;obtain⟨hh,g,d,t,os'⟩:=s';obtain rfl:os'=s.os:=os;exact⟨v,H',I.call (h':=hh) (g':=g) (d':=d) (t':=t) (ch:=[]) un bu bare (λb z=>absurd z (by simp)),r,q⟩
end
def HK (sp:Sp)(jY:List V)(E:XK)(t:TA):TE:=λ σ H Q=>t σ H λvs H1=>sp (vs++jY) H1 Q E
def CL (C:Addr)(m:Str)(sp:Sp)(jY:List V)(E:XK)(ta:TE)(t:TA):TE:=λ σ H Q=>ta σ H λx H1=>∃a dx fs,x=.ref a/\H1 a=some (.ins C dx fs)/\fs.lookup m=none/\
 t σ H1 λvs H2=>sp (x::(vs++jY)) H2 Q E
def WV (C:Addr)(sp:Sp)(jY:List V)(E:XK)(t:TA):TE:=λ σ H Q=>t σ H λvs H1=>∀x dx,H1 x=none->H1 dx=none->dx≠x->
 sp (.ref x::(vs++jY)) (upd (upd H1 dx (.own x)) x (.ins C dx [])) (λv H2=>v=.non/\Q (.ref x) H2) E
def Binds (K:Za1)(fd:FuncData)(ps:List Str)(ds:List Value):Prop:=
 ∀(s:Shared) (us:List Value),K.In s.heap->(us++ds).length=ps.length->BindsTo s fd ⟨us,[]⟩ (ps.zip (us++ds))
theorem Binds.all {K:Za1}{fd:FuncData}{ps:List Str}(h:∀us:List Value,us.length=ps.length->bindArgs fd ⟨us,[]⟩=pure (ps.zip us)):Binds K fd ps []:=λs us _ hl=>by
 rw[ahU]at hl ⊢;exact .of_eq (h us hl)
def Passes (CX:sY)(X:Cx)(E:XK):Prop:=∀(pins:List (Addr×Obj)) (σ:St) (H:Hp) (s:Shared) (e:Value) (s':Shared),Inv X pins σ H s->CX X.stack H s E e s'->X.xe e s'
section
variable {X:Cx}{CX:sY}{k:Nat}{f C:Addr}{fd:FuncData}{ps:List Str}{sp:Sp}{jY:List V}{ds:List Value}{E:XK}{x m:Str}{p pos apos:Pos}{e o:Expr}{es:List Expr}{ta:TE}{t:TA}
theorem Dc {pins:List (Addr×Obj)}{σ:St}{H:Hp}{s:Shared}{Q:VK}{us:List Value}{vs:List V}(F:aL X.prog X.w X.K X.mg X.base CX k f fd ps sp)(hr:fz k X.A)(hb:Binds X.K fd ps ds)(hd:Vals jY ds)(hx:Passes CX X E)
 (I:Inv X pins σ H s) (r:Vals vs us) (h:sp (vs++jY) H Q E):wpAny (model X.prog X.w) X.A (call (.ref f) us) (EP X pins σ Q) X.xe s:=by
 have r2:Vals (vs++jY) (us++ds):=r.append hd;have hl:(us++ds).length=ps.length:=by rw[←r2.length];exact F.len _ _ _ _ h
 refine wpAny_call (ake (F.run X.A X.stack s H ⟨us,[]⟩ (us++ds) (vs++jY) Q E hr I.Sq (hb s us I.iS hl) r2 h) λr s' hq=>?_)
 cases r with
 |error e=>exact hx pins σ H s e s' I hq
 |ok fl=>
  cases fl with
  |ret u=>exact I.after hq
  |next=>exact False.elim hq
  |brk=>exact False.elim hq
  |cont=>exact False.elim hq
theorem bx (F:aL X.prog X.w X.K X.mg X.base CX k f fd ps sp)(hr:fz k X.A)(hg:Gl X x)(hm:X.mg x=some (.ref f))(hk:PySem.W.keepIn X.K (.ref f)=true)(hb:Binds X.K fd ps ds)(hd:Vals jY ds)(hx:Passes CX X E)
 (ha:PA X (e::es) t) (Dd:(x==("__debug__":Str))=false:=by decide) (he:starEach (e::es) X.env=(false,eval e X.env)::starEach es X.env:=by rfl) (dR:(backTo pos (starEach es X.env)).any (·.1)=false:=by rfl):
 PE X (.Call (.Name x p) (e::es) [] pos) (HK sp jY E t):=by
 intro pins s σ H Q I h;refine ajB (F9 I hg hm ?_ Dd);refine PySem.W.callWith_K (h₀:=X.base) I.ok.mod.Je hk (bK (ha pos pins s σ H _ I h) λus s1 ⟨vs,H1,I1,r,q⟩=>⟨I1.iS,?_⟩) he dR;exact Dc F hr hb hd hx I1 r q
theorem bT {pl:Sem Bool}(he:PE X o ta)(c:sW X.K C)(hm:Meth X.K C m f)(F:aL X.prog X.w X.K X.mg X.base CX k f fd ps sp)(hr:fz k X.A)(hb:Binds X.K fd ps ds)(hd:Vals jY ds)(hx:Passes CX X E)(ha:PA X (e::es) t)
 (cI:starEach (e::es) X.env=(false,eval e X.env)::starEach es X.env:=by rfl) (dR:(backTo pos (starEach es X.env)).any (·.1)=false:=by rfl)
 (ht:eval (.Call (.Attribute o m apos) (e::es) [] pos) X.env=(do
  let ov ←eval o X.env
  standAt apos.atName
  let (f,first) ←holding [ov] (getMethod ov m pl)
  callWith pos f first (backTo pos (starEach (e::es) X.env)) (backToKw pos (keywordEach [] X.env))):=by rfl):
 PE X (.Call (.Attribute o m apos) (e::es) [] pos) (CL C m sp jY E ta t):=by
 intro pins s σ H Q I h;refine PySem.W.methodCall_KW (pl:=pl) (bK (he pins s σ H _ I h) λu s1 ⟨x,H1,I1,rx,a,dx,fs,ex,ea,l,q⟩=>?_) ht;subst ex;obtain rfl:u=Value.ref a:=rx;refine yS I1 ea c hm l ?_;refine PySem.W.callWith_K (first:=[.ref a]) (h₀:=X.base) I.ok.mod.Je hm.kp (bK (ha pos pins s1 σ H1 _ I1 q) λus s2 ⟨vs,H2,I2,r,q2⟩=>⟨I2.iS,?_⟩) cI dR;exact Dc (us:=.ref a::us) (vs:=.ref a::vs) F hr hb hd hx I2 (.cons rfl r) q2
theorem fP {pl:Sem Bool}(he:PE X o ta)(c:sW X.K C)(hm:Meth X.K C m f)(F:aL X.prog X.w X.K X.mg X.base CX k f fd ps sp)(hr:fz k X.A)(hb:Binds X.K fd ps ds)(hd:Vals jY ds)(hx:Passes CX X E)
 (ht:eval (.Call (.Attribute o m apos) [] [] pos) X.env=(do
  let ov ←eval o X.env
  standAt apos.atName
  let (f,first) ←holding [ov] (getMethod ov m pl)
  callWith pos f first (backTo pos (starEach [] X.env)) (backToKw pos (keywordEach [] X.env))):=by rfl):
 PE X (.Call (.Attribute o m apos) [] [] pos) (CL C m sp jY E ta lG):=by
 intro pins s σ H Q I h;refine PySem.W.methodCall_KW (pl:=pl) (bK (he pins s σ H _ I h) λu s1 ⟨x,H1,I1,rx,a,dx,fs,ex,ea,l,q⟩=>?_) ht;subst ex;obtain rfl:u=Value.ref a:=rx;refine yS I1 ea c hm l ?_;exact PySem.W.callWith_K0 (first:=[.ref a]) I1.iS hm.kp (Dc (us:=[.ref a]) (vs:=[.ref a]) F hr hb hd hx I1 (.cons rfl .nil) q)
structure Mk (K:Za1) (C f:Addr):Prop where
 makes:PySem.W.makesIn K C=true
 init:PySem.W.findIn K (.ref C) "__init__"=some (some (.ref f))
 fn:PySem.W.isFn K (.ref f)=true
 kp:PySem.W.keepIn K (.ref C)=true
theorem L0 {pins:List (Addr×Obj)}{σ:St}{H:Hp}{s:Shared}{Q:VK}{us:List Value}{vs:List V}(M:Mk X.K C f)(F:aL X.prog X.w X.K X.mg X.base CX k f fd ps sp)(hr:fz (k+ 1) X.A)(hb:Binds X.K fd ps ds)(hd:Vals jY ds)
 (hx:Passes CX X E) (I:Inv X pins σ H s) (r:Vals vs us)
 (h:∀x dx,H x=none->H dx=none->dx≠x->sp (.ref x::(vs++jY)) (upd (upd H dx (.own x)) x (.ins C dx [])) (λv H2=>v=.non/\Q (.ref x) H2) E):
 wpAny (model X.prog X.w) X.A (call (.ref C) us) (EP X pins σ Q) X.xe s:=by
 have hq:=h (s.heap.objs.size+ 1) s.heap.objs.size (I.bu.fresh (ajS _)) (I.bu.fresh (ahi _)) (ahS (aja _));have I2:=Inv.made (C:=C) I;have r2:Vals (V.ref (s.heap.objs.size+ 1)::(vs++jY)) (Value.ref (s.heap.objs.size+ 1)::(us++ds)):=.cons rfl (r.append hd)
 have hl:(Value.ref (s.heap.objs.size+ 1)::us++ds).length=ps.length:=by
  have e:=r2.length;rw[F.len _ _ _ _ hq]at e;exact e.symm
 refine wpAny_call (LZ (f:=f) I.iS M.makes M.init (aka.mp M.fn) (ake (F.run _ X.stack _ _ ⟨Value.ref (s.heap.objs.size+ 1)::us,[]⟩ (Value.ref (s.heap.objs.size+ 1)::(us++ds)) _ _ E (hr.make C us [])
  (I2.Sq.make C us []) (hb _ (Value.ref (s.heap.objs.size+ 1)::us) I2.iS hl) r2 hq) λr s' Jq=>?_))
 cases r with
 |error e=>exact hx pins σ _ _ e s' I2 Jq
 |ok fl=>
  cases fl with
  |ret u=>
   obtain⟨v,H',I3,rv,ev,q3⟩:=I2.after Jq;subst ev;exact⟨rv,⟨V.ref (s.heap.objs.size+ 1),H',I3,rfl,q3⟩⟩
  |next=>exact False.elim Jq
  |brk=>exact False.elim Jq
  |cont=>exact False.elim Jq
theorem Ao (M:Mk X.K C f)(F:aL X.prog X.w X.K X.mg X.base CX k f fd ps sp)(hr:fz (k+ 1) X.A)(hg:Gl X x)(hm:X.mg x=some (.ref C))(hb:Binds X.K fd ps ds)(hd:Vals jY ds)(hx:Passes CX X E)
 (ha:PA X (e::es) t) (Dd:(x==("__debug__":Str))=false:=by decide) (he:starEach (e::es) X.env=(false,eval e X.env)::starEach es X.env:=by rfl) (dR:(backTo pos (starEach es X.env)).any (·.1)=false:=by rfl):
 PE X (.Call (.Name x p) (e::es) [] pos) (WV C sp jY E t):=by
 intro pins s σ H Q I h;refine ajB (F9 I hg hm ?_ Dd);refine PySem.W.callWith_K (h₀:=X.base) I.ok.mod.Je M.kp (bK (ha pos pins s σ H _ I h) λus s1 ⟨vs,H1,I1,r,q⟩=>⟨I1.iS,?_⟩) he dR;exact L0 M F hr hb hd hx I1 r q
end
def PK (X:Cx)(kws:List Keyword)(t:TA):Prop:=
 ∀(pos:Pos) (pins:List (Addr×Obj)) (s:Shared) (σ:St) (H:Hp) (Q:List V->Hp->Prop),Inv X pins σ H s->t σ H Q->wpAny (model X.prog X.w) X.A (evalAll ((backToKw pos (keywordEach kws X.env)).map (·.2))) (AP X pins σ Q) X.xe s
section
variable {X:Cx}{fd:FuncData}{ps ks:List Str}{x:Str}{pos abq:Pos}{e:Expr}{kws:List Keyword}{te:TE}{t:TA}{nm:Option Str}
theorem Sr:PK X [] lG:=λ_ _ _ _ H Q I h=>wpAny_evalAll_nil ⟨[],H,I,.nil,h⟩
theorem Qs (ha:PE X e te)(hr:PK X kws t):PK X (⟨nm,e,abq⟩::kws) (gL te t):=by
 intro pos pins s σ H Q I h;show wpAny _ _ (evalAll ((do let v ←eval e X.env;standAt pos;pure v)::(backToKw pos (keywordEach kws X.env)).map (·.2))) _ _ s;refine wpAny_evalAll_cons (ahb (bK (ha pins s σ H _ I h) λu s1 ⟨x,H1,I1,r1,q1⟩=>ahb (wpAny_standAt (ahk ?_))));exact bK (hr pos pins s1 σ H1 _ I1 q1) λus s2 ⟨xs,H2,I2,r2,q2⟩=>⟨x::xs,H2,I2,.cons r1 r2,q2⟩
structure acE (K:Za1) (fd:FuncData) (ps ks:List Str) (g:List Value->List Value->List Value) (gV:List V->List V->List V):Prop where
 to:∀(s:Shared) (us ws:List Value),K.In s.heap->(g us ws).length=ps.length->BindsTo s fd ⟨us,ks.zip ws⟩ (ps.zip (g us ws))
 rel:∀{vs:List V} {us:List Value} {zs:List V} {ws:List Value},Vals vs us->Vals zs ws->Vals (gV vs zs) (g us ws)
end
structure bG (N P:List Str) (sc:Scope):Prop where
 kind:sc.kind=.function
 co:sc.isCoroutine=false
 gen:sc.isGenerator=false
 nd:N.Nodup
 pre:N.take P.length=P
 par:∀x∈P,sc.names.lookup x=some .local\/sc.names.lookup x=some .cell
 Ss:∀y∈sc.names,y.2≠.free
theorem Bj {kindOf:Str->Option NameKind}{x:Str}:∀{binds:List (Str×Value)} {m:Str->Option Value},(∀v,(x,v)∉binds)->bindL kindOf binds m x=m x
 |[],_,_=>rfl
 |(n,v)::r,m,h=>by
  unfold bindL;rw[Bj λw hw=>h w (ahL _ hw)];split
  ·have:x≠n:=by rintro rfl;exact h v ahv
   simp[this]
  ·rfl
theorem Bk {kindOf:Str->Option NameKind}{x:Str}:∀{binds:List (Str×Value)} {m:Str->Option Value},(∀v,(x,v)∉binds)->bindC kindOf binds m x=m x
 |[],_,_=>rfl
 |(n,v)::r,m,h=>by
  unfold bindC;rw[Bk λw hw=>h w (ahL _ hw)];split
  ·rfl
  ·have:x≠n:=by rintro rfl;exact h v ahv
   simp[this]
theorem Bl {kindOf:Str->Option NameKind}{x:Str}{v:Value}:∀{P:List Str} {vs:List Value} {i:Nat} {m:Str->Option Value},P.Nodup->P[i]?=some x->vs[i]?=some v->kindOf x=some .local->
 bindL kindOf (P.zip vs) m x=some v
 |[],_,_,_,_,h,_,_=>by simp at h
 |_::_,[],_,_,_,_,h,_=>by simp at h
 |p::P,w::vs,0,m,nd,h1,h2,hk=>by
  simp at h1 h2;subst h1;subst h2;show bindL kindOf ((p,w)::P.zip vs) m p=_;unfold bindL;rw[Bj λv hv=>(ahX.mp nd).1 (List.of_mem_zip hv).1,ahu hk];simp
 |p::P,w::vs,i+ 1,m,nd,h1,h2,hk=>by
  show bindL kindOf ((p,w)::P.zip vs) m x=_;unfold bindL;exact Bl (i:=i) (ahX.mp nd).2 (by simpa using h1) (by simpa using h2) hk
theorem Bm {kindOf:Str->Option NameKind}{x:Str}{v:Value}:∀{P:List Str} {vs:List Value} {i:Nat} {m:Str->Option Value},P.Nodup->P[i]?=some x->vs[i]?=some v->kindOf x≠some .local->
 bindC kindOf (P.zip vs) m x=some v
 |[],_,_,_,_,h,_,_=>by simp at h
 |_::_,[],_,_,_,_,h,_=>by simp at h
 |p::P,w::vs,0,m,nd,h1,h2,hk=>by
  simp at h1 h2;subst h1;subst h2;show bindC kindOf ((p,w)::P.zip vs) m p=_;unfold bindC;rw[Bk λv hv=>(ahX.mp nd).1 (List.of_mem_zip hv).1,ahq hk];simp
 |p::P,w::vs,i+ 1,m,nd,h1,h2,hk=>by
  show bindC kindOf ((p,w)::P.zip vs) m x=_;unfold bindC;exact Bm (i:=i) (ahX.mp nd).2 (by simpa using h1) (by simpa using h2) hk
def start (N:List Str)(vs:List V):St:=vs.map some++List.replicate (N.length - vs.length) none
def vn (CX:sY)(P:Program)(w:World)(K:Za1)(mg:Str->Option Value)(base:Heap)(N:List Str)(qual:Str)(scope:Scope)(f:Addr)(cd:Value)(A:Around)(outer:List Env)(s:Shared)(H:Hp)(E:XK):Cx where
 prog:=P
 w:=w
 K:=K
 mg:=mg
 base:=base
 A:=A.deeper (envOfC qual scope s.heap.objs.size f cd)
 N:=N
 dA:=s
 xU:=H
 env:=envOfC qual scope s.heap.objs.size f cd
 outer:=outer
 stack:=envOfC qual scope s.heap.objs.size f cd::outer
 ex:=[]
 calm:=true
 fn:=λ_=>true
 pn:=[]
 xe:=λe s'=>wpAny (model P w) (A.deeper (envOfC qual scope s.heap.objs.size f cd)) (leaving (envOfC qual scope s.heap.objs.size f cd) e) (λ_ Sv=>CX outer H s E e Sv) (λe' Sv=>CX outer H s E e' Sv) s'
theorem De {sc:Scope}{n:Nat}{x:Str}(h:sc.names.lookup x=some .cell):∃c,(cellsFrom n sc.names []).lookup x=some c:=by
 have q:=PySem.W.cellsFrom_some sc.names n [] (.inl h);exact aio.mp q
theorem Jr {CX:sY}{P:Program}{w:World}{K:Za1}{mg:Str->Option Value}{base:Heap}{N ps:List Str}{qual:Str}{scope:Scope}{f:Addr}{cd:Value}{A:Around}{outer:List Env}{s s1:Shared}{H:Hp}{E:XK}{us:List Value}{vs:List V}
 (S:bG N ps scope) (hd:A.handled=none) (e0:xZ P w K mg base A outer s H) (hl:vs.length=ps.length) (r:Vals vs us)
 (x:InCallC s s.heap.objs.size (bindL (envOfC qual scope s.heap.objs.size f cd).kindOf (ps.zip us) λ_=>none) (cellsFrom (s.heap.objs.size+ 1) scope.names []) (bindC (envOfC qual scope s.heap.objs.size f cd).kindOf (ps.zip us) λ_=>none) s1):
 Inv (vn CX P w K mg base N qual scope f cd A outer s H E) [] (start N vs) H s1:=by
 have dR:ps.length<=N.length:=by have:=ah6 List.length S.pre;rw[ah2]at this;omega
 obtain⟨h1,tk,rfl,hk⟩:=x.done;have Df:∀b:Addr,b∉(vn CX P w K mg base N qual scope f cd A outer s H E).ex:=λb z=>absurd (show b∈([]:List Addr) from z) (by simp)
 refine⟨⟨e0.mod,S.kind,rfl,rfl,ahi _,λy z c h1 h2=>?_,λy hy=>?_,λy c _ h=>?_,λ_=>hd,Around.frames_deeper e0.frames,.inr ⟨rfl,rfl⟩,λb z=>absurd z (Df b),e0.bs,e0.yM,λb _ _=>Df b,λb z=>absurd z (Df b),e0.mP,e0.A9⟩,
  rfl,e0.bare,Un.kept hk,⟨_,x.toInCall.ns,λi y v h1 h2 h3=>?_⟩,λy c h=>⟨_,x.cell y c h⟩,e0.bu.fresh (ahi _),λy c h=>?_,λp hp=>absurd (show p∈([]:List (Addr×Obj)) from hp) (by simp),e0.bu.kept hk,?_⟩
 ·exact name_of_addr x.apart (aiC h1) (aiC h2)
 ·have hy:scope.names.lookup y=some .cell\/scope.names.lookup y=some .free:=hy;rcases hy with hy|hy
  ·exact De hy
  ·exact absurd rfl (S.Ss _ (aiC hy))
 ·exact Nat.le_of_lt (x.above y c (aiC h))
 ·have hi:i<vs.length:=by
   unfold start at h2;by_cases hi:i<vs.length
   ·exact hi
   ·rw[ahs (by simpa using hi)]at h2;rw[List.getElem?_replicate]at h2;split at h2 <;> cases h2
  have ha:vs[i]?=some v:=by
   unfold start at h2;rw[aht (by simpa using hi),ahw]at h2
   cases e:vs[i]? with
   |none=>rw[e]at h2;cases h2
   |some a=>rw[e]at h2;cases h2;rfl
  obtain⟨u,hu,rv⟩:=r.get ha
  have hp:ps[i]?=some y:=by
   rw[←S.pre,ajl (by omega)];exact h1
  have XM:ps.Nodup:=by rw[←S.pre];exact S.nd.sublist (List.take_sublist _ _)
  refine⟨u,rv,?_⟩;rcases S.par y (ahf hp) with k|k
  ·exact .inl ⟨k,Bl XM hp hu k⟩
  ·obtain⟨c,e⟩:=De (n:=s.heap.objs.size+ 1) k;refine .inr ⟨.inl k,c,e,?_⟩;have q:=x.cell y c e;rw[Bm XM hp hu (by show scope.names.lookup y≠_;rw[k];decide)]at q;exact q
 ·exact e0.bu.fresh (Nat.le_of_lt (x.above y c (aiC h)))
 ·unfold start;show _=N.length;rw[ahe,ahl,List.length_replicate];omega
theorem WW {CX:sY}{P:Program}{w:World}{K:Za1}{mg:Str->Option Value}{base:Heap}{k:Nat}{f:Addr}{name qual:Str}{params:Arguments}{body:List Stmt}{scope:Scope}{dV kV doc pm bR ct oc:Value}{an od:Option Addr}
 {uN:Array (Option Value)} {N ps:List Str} {sp:Sp} (lk:K.lookup f=some ⟨oc,od,.func (PySem.W.fnOf name qual params body scope dV kV doc pm an bR ct),uN⟩) (qh:PySem.W.codeIn K bR qual=true) (S:bG N ps scope)
 (len:∀vs H Q E,sp vs H Q E->vs.length=ps.length)
 (HL:∀(A:Around) (outer:List Env) (s:Shared) (H:Hp) (vs:List V) (Q:VK) (E:XK),fz k (A.deeper (envOfC qual scope s.heap.objs.size f bR))->sp vs H Q E->
  ∃t,sV (vn CX P w K mg base N qual scope f bR A outer s H E) body t/\t { nx:=λ_ H'=>Q .non H',rt:=Q } (start N vs) H):
 aL P w K mg base CX (k+ 1) f (PySem.W.fnOf name qual params body scope dV kV doc pm an bR ct) ps sp:=by
 refine⟨len,λA outer s H args us vs Q E hr e0 hb r pJ=>?_⟩;have hl:=len _ _ _ _ pJ;have KX:K.In s.heap:=e0.mod.Je.keeps λb o e=>(e0.bs b o e).1
 have lim:s.heap.NoLimit:=e0.mod.nolimit.keeps λb o e=>(e0.bs b o e).1
 have WX:∀y∈ps.zip us,scope.names.lookup y.1=some .local\/(scope.names.lookup y.1=some .cell/\((cellsFrom (s.heap.objs.size+ 1) scope.names []).lookup y.1).isSome=true):=λ⟨n,v⟩ hy=>by
  rcases S.par n (List.of_mem_zip hy).1 with q|q
  ·exact .inl q
  ·exact .inr ⟨q,PySem.W.cellsFrom_some _ _ _ (.inl q)⟩
 refine codeAny_call_function hr.depth (KX _ _ lk) rfl S.co S.gen rfl (PySem.W.codeRec_of KX qh) (hb _ _ _ _ ?_);refine wpAny_newFunctionEnv_cells S.kind WX λenv he s1 x=>?_
 subst he;refine⟨lim.keeps x.toInCall.keep,codeAny_func ?_⟩;obtain⟨t,ht,hq⟩:=HL A outer s H vs Q E (hr.deeper _) pJ;have I:Inv (vn CX P w K mg base N qual scope f bR A outer s H E) [] (start N vs) H s1:=Jr S hr.hd e0 hl r x;refine aiF (ht [] s1 (start N vs) H _ I hq) (λfl s' hs=>?_) λe s' hs=>hs
 have fin:∀{aX:St} {H':Hp} {v:V} {u:Value},Inv (vn CX P w K mg base N qual scope f bR A outer s H E) [] aX H' s'->RelV v u->Q v H'->CE outer P w H s Q u s':=
  λ{aX H' v u} J rv q=>⟨v,H',J.os,J.bare,J.base,J.bu,rv,q⟩
 cases fl with
 |ret u=>
  obtain⟨v,aX,H',J,rv,q⟩:=hs;exact fin J rv q
 |next=>
  obtain⟨aX,H',J,q⟩:=hs;exact fin (v:=V.non) (u:=Value.none) J rfl q
 |brk=>
  obtain⟨_,_,_,q⟩:=hs;exact False.elim q
 |cont=>
  obtain⟨_,_,_,q⟩:=hs;exact False.elim q
section
variable {X:Cx}{x:Str}{p pos:Pos}{e:Expr}{es:List Expr}{t:TA}{id T:String}{r:List V->Hp->VK->Prop}
def Js (r:List V->Hp->VK->Prop)(t:TA):TE:=λ σ H Q=>t σ H λvs H1=>r vs H1 Q
theorem bq (hc:lD X (.builtin id) r)(hg:Gl X x)(hm:X.mg x=none)(hv:bootBuiltins x=some (.builtin id))(ha:PA X (e::es) t)(hn:x≠"__name__":=by decide)(Dd:(x==("__debug__":Str))=false:=by decide)
 (he:starEach (e::es) X.env=(false,eval e X.env)::starEach es X.env:=by rfl) (dR:(backTo pos (starEach es X.env)).any (·.1)=false:=by rfl):PE X (.Call (.Name x p) (e::es) [] pos) (Js r t):=by
 intro pins s σ H Q I h;refine ajB (oq I hg hm hv ?_ hn Dd);exact PyProof.Rows.callWith_builtin1 (bK (ha pos pins s σ H _ I h) λus s1 ⟨vs,H1,I1,r1,q1⟩=>hc pins s1 σ H1 vs us Q I1 r1 q1) he dR
theorem cZ (hc:lD X (.type T) r)(hg:Gl X x)(hm:X.mg x=none)(hv:bootBuiltins x=some (.type T))(ha:PA X (e::es) t)(hn:x≠"__name__":=by decide)(Dd:(x==("__debug__":Str))=false:=by decide)
 (he:starEach (e::es) X.env=(false,eval e X.env)::starEach es X.env:=by rfl) (dR:(backTo pos (starEach es X.env)).any (·.1)=false:=by rfl):PE X (.Call (.Name x p) (e::es) [] pos) (Js r t):=by
 intro pins s σ H Q I h;refine ajB (oq I hg hm hv ?_ hn Dd);exact aiJ (bK (ha pos pins s σ H _ I h) λus s1 ⟨vs,H1,I1,r1,q1⟩=>hc pins s1 σ H1 vs us Q I1 r1 q1) he dR
end
end L2
namespace HT
open PySem PyProof.Rows
section
variable {prog:Program}{w:World}{A:Around}{E:Value->Shared->Prop}{s:Shared}
theorem Qt {t b:Addr}{vs ws:List Value}{Q:Value->Shared->Prop}(ht:IsTup s.heap t vs.toArray)(hb:IsTup s.heap b ws.toArray)(hv:vs≠[])
 (h1:ws=[]->Q (.ref t) s) (h2:ws≠[]->Q (.ref s.heap.objs.size) { s with heap:=s.heap.push { cls:=.type "tuple",data:=.seq (vs++ws).toArray } })
 (hsz:vs.length+ ws.length<=sizeLine):wpAny (model prog w) A (binaryOp .Add (.ref t) (.ref b)) Q E s:=by
 obtain⟨⟨cls,dd,data,sl⟩,ho,hc,n,hd⟩:=id ht;obtain⟨⟨abr,N4,data2,N5⟩,iU,lH,n2,hd2⟩:=id hb;simp only at hc hd lH hd2;subst hc hd lH hd2;have e:vs.toArray++ws.toArray=(vs++ws).toArray:=by simp
 by_cases hw:ws=[]
 ·exact concat_meets ⟨_,ho,rfl⟩ ⟨_,iU,rfl⟩ noFill_tuple_add seq_tuple_add aj6 ajY (ajW _ _)
   (tuple_addW1 t b vs.toArray ws.toArray n n2 dd N4 sl N5 (by simpa using hv) (by simp[hw])) ⟨ho,iU,h1 hw⟩
 ·refine concat_meets ⟨_,ho,rfl⟩ ⟨_,iU,rfl⟩ noFill_tuple_add seq_tuple_add aj6 ajY (ajW _ _)
   (tuple_addW2 t b vs.toArray ws.toArray n n2 dd N4 sl N5 (by simpa using hv) (by simpa using hw) (by rw[ahm,ahm];exact hsz)) ⟨ho,iU,?_⟩
  rw[e];exact h2 hw
def cw (n d:Nat):Option Int->Nat
 |none=>d
 |some v=>if v<0 then (v+ (n:Int)).toNat else min v.toNat n
theorem Dg (n d:Nat):cw n d none=d:=rfl
theorem wH (n d k:Nat):cw n d (some (k:Int))=min k n:=by
 show (if (k:Int)<0 then ((k:Int)+ (n:Int)).toNat else min (k:Int).toNat n)=min k n;rw[ahq (by omega),ahZ]
theorem Sw (n d:Nat)(hd:d<=n)(o:Option Int):cw n d o<=n:=by
 cases o with
 |none=>exact hd
 |some v=>
  show (if v<0 then (v+ (n:Int)).toNat else min v.toNat n)<=n;by_cases hv:v<0
  ·rw[ahu hv];omega
  ·rw[ahq hv];exact Nat.min_le_right _ _
theorem Gi (v:Int)(n d:Nat):(if v<0 then max (v+ (n:Int)) 0 else min v (n:Int))=((cw n d (some v):Nat):Int):=by
 show (if v<0 then max (v+ (n:Int)) 0 else min v (n:Int))=(((if v<0 then (v+ (n:Int)).toNat else min v.toNat n):Nat):Int);by_cases hv:v<0
 ·simp only[ahu hv];omega
 ·simp only[ahq hv];omega
theorem HM (lo hi:Option Int)(n:Nat):Builtin.Slice.sliceAdjust lo hi 1 (n:Int)=(((cw n 0 lo:Nat):Int),((cw n n hi:Nat):Int)):=by
 have h1:¬((1:Int)<0):=by omega
 unfold Builtin.Slice.sliceAdjust;simp only[h1,ajs];refine Prod.ext ?_ ?_
 ·cases lo with
  |none=>rfl
  |some v=>exact Gi v n 0
 ·cases hi with
  |none=>rfl
  |some v=>exact Gi v n n
theorem HN (i j:Nat):Builtin.Slice.slicePlaces (i:Int) (j:Int) 1=j - i:=by
 unfold Builtin.Slice.slicePlaces;have h1:(1:Int) > 0:=by omega
 simp only[h1,ajT,Int.ediv_one];split <;> omega
theorem yT {v:Value}{o:Option Int}{Q:Option Int->Shared->Prop}(p:IsPart v o)(h:Q o s):wpAny (model prog w) A (Builtin.Slice.slicePartIndex v) Q E s:=by
 cases p with
 |none=>exact slicePart_none h
 |int i t=>exact slicePart_int h
theorem qo {sl:Addr}{vl vu:Value}{lo hi:Option Int}{n:Nat}{Q:Int×Int×Nat->Shared->Prop}(hs:s.heap.IsSliceOf sl vl vu .none)(pl:IsPart vl lo)(pu:IsPart vu hi)
 (h:Q (((cw n 0 lo:Nat):Int),1,cw n n hi - cw n 0 lo) s):wpAny (model prog w) A (Builtin.Slice.sliceApplied (.ref sl) (pure (n:Int))) Q E s:=by
 obtain⟨os,Dh,Gj,vo⟩:=id hs;unfold Builtin.Slice.sliceApplied Builtin.Slice.sliceFields;refine ahb (ahb (aiD Dh vo (x:=vl) rfl (ahb (aiD Dh vo (x:=vu) rfl (ahb (aiD Dh vo (x:=.none) rfl (ahk ?_)))))));refine ahb (slicePart_none ?_);show wpAny _ _ (if ((1:Int)==0)=true then _ else _) _ _ s;rw[ahq (by decide)];refine ahb (yT pl (ahb (yT pu (ahb (ahk ?_)))));show wpAny _ _ (match Builtin.Slice.sliceAdjust lo hi 1 (n:Int) with|(lo,hi)=>pure (lo,(1:Int),Builtin.Slice.slicePlaces lo hi 1)) _ _ s;rw[HM lo hi n];show wpAny _ _ (pure (((cw n 0 lo:Nat):Int),(1:Int),Builtin.Slice.slicePlaces ((cw n 0 lo:Nat):Int) ((cw n n hi:Nat):Int) 1)) _ _ s;rw[HN];exact ahk h
theorem L1 (xs:Array Value)(i k:Nat):((List.range k).filterMap λ(m:Nat)=>xs[((i:Int)+ (m:Int)* 1).toNat]?).toArray=((xs.toList.drop i).take k).toArray:=by
 have e:(λ(m:Nat)=>xs[((i:Int)+ (m:Int)* 1).toNat]?)=λm=>xs[i+ m]?:=by
  funext m
  have:((i:Int)+ (m:Int)* 1).toNat=i+ m:=by omega
  rw[this]
 rw[e];have:=pick_run xs i k;rw[List.filterMap_map]at this;have e2:((λx=>xs[x]?) ∘ λx=>i+ x)=λm=>xs[i+ m]?:=rfl
 rw[e2]at this;rw[this]
theorem xc {t sl:Addr}{items:Array Value}{vl vu:Value}{lo hi:Option Int}{Q:Value->Shared->Prop}(ht:IsTup s.heap t items)(hs:s.heap.IsSliceOf sl vl vu .none)(pl:IsPart vl lo)(pu:IsPart vu hi)
 (hw:¬(cw items.size 0 lo=0/\cw items.size items.size hi=items.size))
 (h:Q (.ref s.heap.objs.size) { s with heap:=s.heap.push { cls:=.type "tuple",data:=.seq ((items.toList.drop (cw items.size 0 lo)).take (cw items.size items.size hi - cw items.size 0 lo)).toArray } })
 (hsz:items.size<=sizeLine):wpAny (model prog w) A (getItem (.ref t) (.ref sl)) Q E s:=by
 have CM:sizeOk (.seq ((items.toList.drop (cw items.size 0 lo)).take (cw items.size items.size hi - cw items.size 0 lo)).toArray):=by
  show ((items.toList.drop (cw items.size 0 lo)).take (cw items.size items.size hi - cw items.size 0 lo)).toArray.size<=sizeLine;rw[ahm,ah2,aiA,ajR];omega
 have hj:cw items.size items.size hi<=items.size:=Sw _ _ (ahi _) hi;obtain⟨os,Dh,Gj,vo⟩:=id hs;have Sx:s.TypeIs (.ref sl) "slice":=⟨os,Dh,Gj⟩;unfold getItem
 try with_reducible refine aiz ?_
 first|refine ahb (ahk ?_)|skip
 refine ahb (wpAny_sequenceKey ht.typeIs (by decide) ?_)
 refine ahb (ah7 (name:=Str.ofString "__getitem__") ht.typeIs aii
  (aib aii ht.typeIs entry_tuple_getitem ?_ (args_tuple_getitem _ _)))
 show wpAny _ _ (Builtin.Tuple.tupleItemsOf (.ref t) >>=_) _ _ s;refine ahb (tupleItemsOf_ ht ?_);refine ahb (ajD Sx ?_);rw[ahu (by decide)];refine ahb (qo hs pl pu ?_)
 have Gk:¬((((cw items.size 0 lo:Nat):Int)==0 && (1:Int)==1 && (cw items.size items.size hi - cw items.size 0 lo)==items.size)=true):=by
  intro q;rw[aiN,aiN]at q;have q1:((cw items.size 0 lo:Nat):Int)=0:=eq_of_beq q.1.1;have q2:cw items.size items.size hi - cw items.size 0 lo=items.size:=eq_of_beq q.2;exact hw ⟨by omega,by omega⟩
 show wpAny _ _ (if (((cw items.size 0 lo:Nat):Int)==0 && (1:Int)==1 && (cw items.size items.size hi - cw items.size 0 lo)==items.size)=true then _ else _) _ _ s;rw[ahq Gk,L1]
 first
  |exact ahb (m:=Builtin.Tuple.tupleExact _) (ah8 (ahk ⟨_,rfl,ahk h⟩) CM)
  |exact ahb (m:=Builtin.Tuple.tupleExact _) (ah8 (ahb (ahk (ahk ⟨_,rfl,ahk h⟩))) CM)
  |exact ahb (ahb (m:=Builtin.Tuple.tupleExact _) (ah8 (ahk (ahk ⟨_,rfl,ahk h⟩)) CM))
  |exact ahb (ahb (m:=Builtin.Tuple.tupleExact _) (ah8 (ahk ⟨_,rfl,ahk h⟩) CM))
end
end HT
namespace L2
open PySem PySem.Spec PyProof.Rows
abbrev TO:=St->Hp->(Option Int->Hp->Prop)->Prop
def PO (X:Cx)(e:Option Expr)(t:TO):Prop:=
 ∀(pins:List (Addr×Obj)) (s:Shared) (σ:St) (H:Hp) (Q:Option Int->Hp->Prop),Inv X pins σ H s->t σ H Q->
  wpAny (model X.prog X.w) X.A (evalPart e X.env) (λu s'=>∃o H',Inv X pins σ H' s'/\IsPart u o/\Q o H') X.xe s
def Ap:TO:=λ_ H Q=>Q none H
def yU (t:TE):TO:=λ σ H Q=>t σ H λx H1=>∃i,x=.int i/\Q (some i) H1
section
variable {X:Cx}{e:Expr}{te:TE}{lo hi:Option Expr}{tl th:TO}{pos p2:Pos}
theorem pY:PO X none Ap:=by
 intro pins s σ H Q I h;rw[evalPart_none];exact ahk ⟨none,H,I,.none,h⟩
theorem iZ (h:PE X e te):PO X (some e) (yU te):=by
 intro pins s σ H Q I hw;rw[evalPart_some];refine bK (h pins s σ H _ I hw) λu s1 ⟨x,H1,I1,r1,q1⟩=>?_
 obtain⟨i,rfl,q⟩:=q1;obtain⟨t,rfl⟩:=r1;exact⟨some i,H1,I1,.int i t,q⟩
def N6 (X:Cx)(r:V->Option Int->Option Int->Hp->VK->Prop):Prop:=
 ∀(pins:List (Addr×Obj)) (s:Shared) (σ:St) (H:Hp) (x:V) (v vl vu:Value) (lo hi:Option Int) (sl:Addr) (Q:VK),Inv X pins σ H s->RelV x v->s.heap.IsSliceOf sl vl vu .none->IsPart vl lo->IsPart vu hi->r x lo hi H Q->
  ∃T id,typeLookup (.type T) "__getitem__"=pure (some (.builtin id))/\s.TypeIs v T/\wpAny (model X.prog X.w) X.A (getItem v (.ref sl)) (EP X pins σ Q) X.xe s
def N7 (r:V->Option Int->Option Int->Hp->VK->Prop)(te:TE)(tl th:TO):TE:=λ σ H Q=>te σ H λx H1=>tl σ H1 λl H2=>th σ H2 λu H3=>r x l u H3 Q
theorem jk {r:V->Option Int->Option Int->Hp->VK->Prop}(hr:N6 X r)(he:PE X e te)(hl:PO X lo tl)(hu:PO X hi th):PE X (.Subscript e (.Slice lo hi none p2) pos) (N7 r te tl th):=by
 intro pins s σ H Q I h;refine Subscript_ (bK (he pins s σ H _ I h) λv s1 ⟨x,H1,I1,r1,q1⟩=>?_);refine wpAny_Slice (bK (hl pins s1 σ H1 _ I1 q1) λvl s2 ⟨l,H2,I2,pl,q2⟩=>bK (hu pins s2 σ H2 _ I2 q2) λvu s3 ⟨u,H3,I3,pu,q3⟩=>?_);rw[evalPart_none];refine ahk ?_;have I4:Inv X pins σ H3 { s3 with heap:=s3.heap.push { cls:=.type "slice",data:=.fields #[vl,vu,.none] } }:=I3.kept (t':=s3.toks) λb ob q=>ahj _ q
 obtain⟨T,id,hT,ht,hg⟩:=hr pins { s3 with heap:=s3.heap.push { cls:=.type "slice",data:=.fields #[vl,vu,.none] } } σ H3 x v vl vu l u s3.heap.objs.size Q I4 r1 (Heap.IsSliceOf.new ..) pl pu q3;show wpAny (model X.prog X.w) X.A (subscriptTail e (.Slice lo hi none p2) v (.ref s3.heap.objs.size)) (EP X pins σ Q) X.xe { s3 with heap:=s3.heap.push { cls:=.type "slice",data:=.fields #[vl,vu,.none] } };exact tail_any (ops:=[.ref s3.heap.objs.size,v]) ht hT hg (by with_unfolding_all rfl)
def i7 (xs:List V)(lo hi:Option Int):List V:=(xs.drop (HT.cw xs.length 0 lo)).take (HT.cw xs.length xs.length hi - HT.cw xs.length 0 lo)
theorem xt (xs:List V)(lo hi:Option Int):(i7 xs lo hi).length<=xs.length:=by
 unfold i7;rw[ah2,aiA];omega
def abt (K:Za1):V->Option Int->Option Int->Hp->VK->Prop:=λx lo hi H Q=>∃a xs,x=.ref a/\bL K H a xs/\
 ¬(HT.cw xs.length 0 lo=0/\HT.cw xs.length xs.length hi=xs.length)/\∀p,H p=none->Q (.ref p) (upd H p (.tup (i7 xs lo hi)))
theorem Sy:N6 X (abt X.K):=by
 intro pins s σ H x v vl vu lo hi sl Q I rx hs pl pu h;obtain⟨a,xs,rfl,hx,hw,q⟩:=h;cases rx;obtain⟨its,r,ht,hz⟩:=I.tuple hx;have hlen:its.toArray.size=xs.length:=by rw[ahm];exact r.length.symm
 refine⟨"tuple",_,aii.lookup,ht.typeIs,?_⟩;refine HT.xc ht hs pl pu (by rw[hlen];exact hw) ?_ (by rw[hlen];exact hz);rw[hlen];refine⟨.ref s.heap.objs.size,_,I.laid (t':=s.toks) (o:=.tup (i7 xs lo hi)) (λb ob q=>ahj _ q) (ahi _) ?_,rfl,q _ (I.bu.fresh (ahi _))⟩;exact⟨ahC (xt xs lo hi) hz,_,(r.drop (HT.cw xs.length 0 lo)).take (HT.cw xs.length xs.length hi - HT.cw xs.length 0 lo),IsTup.new _ _⟩
def WY (K:Za1):R2:=λx y H Q=>∃a b xs ys,x=.ref a/\y=.ref b/\bL K H a xs/\bL K H b ys/\xs≠[]/\xs.length+ ys.length<=sizeLine/\
 (ys=[]->Q (.ref a) H)/\(ys≠[]->∀p,H p=none->Q (.ref p) (upd H p (.tup (xs++ys))))
theorem Vals.wI {xs:List V}{us:List Value}(r:Vals xs us):us=[]↔xs=[]:=by
 cases r with
 |nil=>simp
 |cons _ _=>simp
theorem Qu:gH X (binaryOp .Add) (WY X.K):=by
 intro pins s σ H x y v u Q I rx ry h;obtain⟨a,b,xs,ys,rfl,rfl,ha,hb,hx,hz,q1,q2⟩:=h;cases rx;cases ry;obtain⟨its,r1,p1,_⟩:=I.tuple ha;obtain⟨dg,r2,p2,_⟩:=I.tuple hb;refine HT.Qt p1 p2 (λz=>hx (r1.wI.mp z)) (λz=>⟨.ref a,H,I,rfl,q1 (r2.wI.mp z)⟩) (λz=>?_) (by rw[←r1.length,←r2.length];exact hz);refine⟨.ref s.heap.objs.size,_,I.laid (t':=s.toks) (o:=.tup (xs++ys)) (λb ob q=>ahj _ q) (ahi _) ?_,rfl,q2 (λw=>z (r2.wI.mpr w)) _ (I.bu.fresh (ahi _))⟩;exact⟨by rw[ahe];exact hz,_,r1.append r2,IsTup.new _ _⟩
end
def xu (n:Nat)(i:Int):Option Nat:=if 0<=i then (if i<n then some i.toNat else none) else if -(n:Int)<=i then some (i+ n).toNat else none
def kT {α:Type}(xs:List α)(i:Int):Option α:=(xu xs.length i).bind λj=>xs[j]?
theorem Gm {n:Nat}{i:Int}{j:Nat}(h:xu n i=some j):seqIndex? i n=some j/\j<n/\-(n:Int)<=i/\i<n:=by
 unfold xu at h;by_cases h0:0<=i
 ·rw[ahu h0]at h;by_cases h1:i<n
  ·rw[ahu h1]at h;have e:i.toNat=j:=Za0 h;exact⟨by rw[seqIndex_of h0 h1,e],by omega,by omega,h1⟩
  ·rw[ahq h1]at h;cases h
 ·rw[ahq h0]at h;by_cases h1: -(n:Int)<=i
  ·rw[ahu h1]at h;have e:(i+ n).toNat=j:=Za0 h;exact⟨by rw[seqIndex_neg (by omega) h1,e],by omega,h1,by omega⟩
  ·rw[ahq h1]at h;cases h
theorem Gn {α:Type}{xs:List α}{i:Int}{v:α}(h:kT xs i=some v):∃j,seqIndex? i xs.length=some j/\xs[j]?=some v/\j<xs.length/\-(xs.length:Int)<=i/\i<xs.length:=by
 unfold kT at h
 cases e:xu xs.length i with
 |none=>rw[e]at h;cases h
 |some j=>
  rw[e]at h;obtain⟨h1,h2,h3,h4⟩:=Gm e;exact⟨j,h1,h,h2,h3,h4⟩
theorem cf {α:Type}{xs:List α}{j:Nat}{v:α}(h:xs[j]?=some v):kT xs (j:Int)=some v:=by
 have hj:j<xs.length:=(ahd.mp h).1
 have e:xu xs.length (j:Int)=some j:=by
  unfold xu;rw[ahu (by omega),ahu (by omega)];simp
 unfold kT;rw[e];exact h
def Qv (b:Expr):Prop:=∀o i,subscripted b false o i=operate [o,i] (getItem o i)
def Jt (X:Cx)(r:R2):Prop:=
 ∀(value slice:Expr) (pins:List (Addr×Obj)) (s:Shared) (σ:St) (H:Hp) (x y:V) (v u:Value) (Q:VK),Inv X pins σ H s->RelV x v->RelV y u->r x y H Q->
  subscripted slice false v u=operate [v,u] (getItem v u)->wpAny (model X.prog X.w) X.A (subscriptTail value slice v u) (EP X pins σ Q) X.xe s
def Sz (X:Cx)(id:String)(r:V->List V->Hp->VK->Prop):Prop:=
 ∀(pins:List (Addr×Obj)) (s:Shared) (σ:St) (H:Hp) (x:V) (xs:List V) (v:Value) (us:List Value) (Q:VK),Inv X pins σ H s->RelV x v->Vals xs us->r x xs H Q->
  wpAny (model X.prog X.w) X.A (call (.builtin id) (v::us)) (EP X pins σ Q) X.xe s
section
variable {X:Cx}{a b:Expr}{ta tb:TE}{pos:Pos}
theorem aS {r:R2}(hr:Jt X r)(ha:PE X a ta)(hb:PE X b tb)(hs:Qv b):PE X (.Subscript a b pos) (C8 r ta tb):=by
 intro pins s σ H Q I h;exact Subscript_ (LV ha hb I h λv u s2 x y H2 I2 rx ry q=>hr a b pins s2 σ H2 x y v u Q I2 rx ry q (hs _ _))
def SD (K:Za1):R2:=λx y H Q=>∃p xs i v,x=.ref p/\y=.int i/\aM K H p xs/\kT xs i=some v/\Q v H
def SF (K:Za1):R2:=λx y H Q=>∃p xs i v,x=.ref p/\y=.int i/\bL K H p xs/\kT xs i=some v/\Q v H
theorem ck:Jt X (SD X.K):=by
 intro value slice pins s σ H x y v u Q I rx ry h hs;obtain⟨p,xs,i,z,rfl,rfl,hq,he,q⟩:=h;cases rx;obtain⟨t,rfl⟩:=ry;obtain⟨its,r,pl,hz⟩:=I.list hq;obtain⟨j,h1,h2,h3,h4,h5⟩:=Gn he;obtain⟨w,ew,lI⟩:=r.get h2;have hl:=r.length;have hn:=vk;have fin:EP X pins σ Q w s:=⟨z,H,I,lI,q⟩;by_cases h0:0<=i
 ·have hj:i.toNat=j:=by
   rw[seqIndex_of h0 h5]at h1;exact Za0 h1
  exact item_listR pl.isList h0 (by omega) (by rw[hj];simpa using ew) fin hs
 ·have hj:(i+ (its.toArray.size:Int)).toNat=j:=by
   rw[seqIndex_neg (by omega) h4]at h1;rw[ahm,←hl];exact Za0 h1
  exact subscriptTail_builtinR (x:=w) pl.isList.typeIs slot_list_getitem.lookup
   (wpAny_getItem_list_neg (Q:=λr s'=>r=w/\EP X pins σ Q r s') pl.isList (by omega) (by rw[ahm] <;> omega) (by omega) (by rw[hj];simpa using ew) ⟨rfl,fin⟩) hs
theorem bp:Jt X (SF X.K):=by
 intro value slice pins s σ H x y v u Q I rx ry h hs;obtain⟨p,xs,i,z,rfl,rfl,hq,he,q⟩:=h;cases rx;obtain⟨t,rfl⟩:=ry;obtain⟨its,r,pl,hz⟩:=I.tuple hq;obtain⟨j,h1,h2,h3,h4,h5⟩:=Gn he;obtain⟨w,ew,lI⟩:=r.get h2;have hl:=r.length;have hn:=vk;have fin:EP X pins σ Q w s:=⟨z,H,I,lI,q⟩
 exact subscriptTail_builtinR (x:=w) pl.typeIs slot_tuple_getitem.lookup
  (getItem_tuple (j:=j) (Q:=λr s'=>r=w/\EP X pins σ Q r s') pl (by omega) (by omega) (by rw[ahm,←hl];exact h1) (by simpa using ew) ⟨rfl,fin⟩) hs
theorem HP (its:List Value)(n j:Nat)(u:Value):Obj.mapSeq (·.setIfInBounds j u) { cls:=.type "list",data:=.seq its.toArray n }={ cls:=.type "list",data:=.seq (its.set j u).toArray n }:=by
 simp[Obj.mapSeq]
theorem Inv.lst {pins:List (Addr×Obj)}{σ:St}{H:Hp}{s:Shared}{p:Addr}{xs:List V}(I:Inv X pins σ H s)(h:H p=some (.lst xs)):
 ∃(its:List Value) (n:Nat),Vals xs its/\s.heap.get? p=some { cls:=.type "list",data:=.seq its.toArray n }/\xs.length<=sizeLine:=by
 obtain⟨z,its,n,r,e⟩:=I.bu p _ h;exact⟨its,n,r,e,z⟩
theorem Inv.SG {pins:List (Addr×Obj)}{σ:St}{H:Hp}{s:Shared}{p:Addr}{xs ys:List V}{its its':List Value}{n n':Nat}{f:Obj->Obj}(I:Inv X pins σ H s)(h:H p=some (.lst xs))
 (ho:s.heap.get? p=some { cls:=.type "list",data:=.seq its.toArray n }) (hf:f { cls:=.type "list",data:=.seq its.toArray n }={ cls:=.type "list",data:=.seq its'.toArray n' }) (r:Vals ys its') (hz:ys.length<=sizeLine) (t:Nat):
 Inv X pins σ (upd H p (.lst ys)) { s with heap:=s.heap.update p f,toks:=t }:=by
 have e:(s.heap.update p f).get? p=some { cls:=.type "list",data:=.seq its'.toArray n' }:=by
  rw[aip f ho (by rw[hf] <;> rfl),hf]
 refine I.write (x:=p) (e:=p) (by rw[h];trivial) (.inl rfl) (λb u hb q=>(aiO _ _ (ail hb)).trans q) ⟨_,e⟩ ?_;exact⟨hz,its',n',r,e⟩
def WZ:V->V->V->Hp->(Hp->Prop)->Prop:=λo i v H Q=>∃p xs k j,o=.ref p/\i=.int k/\H p=some (.lst xs)/\xu xs.length k=some j/\Q (upd H p (.lst (xs.set j v)))
theorem set_list:R7 X WZ:=by
 intro pins s σ H o i v ov iv u Q I ro ri rv h;obtain⟨p,xs,k,j,rfl,rfl,hp,hj,q⟩:=h;cases ro;obtain⟨t,rfl⟩:=ri;obtain⟨its,n,r,ho,hz⟩:=I.lst hp;obtain⟨h1,h2,h3,h4⟩:=Gm hj;have hl:=r.length;have hn:=vk
 have I':Inv X pins σ (upd H p (.lst (xs.set j v))) { s with heap:=s.heap.update p (Obj.mapSeq (·.setIfInBounds j u)) }:=
  I.SG hp ho (HP its n j u) (r.set rv j) (by rw[ahG];exact hz) s.toks
 by_cases h0:0<=k
 ·have hk:k.toNat=j:=by
   rw[seqIndex_of h0 h4]at h1;exact Za0 h1
  exact PySem.W.ki_setAt ho h0 (by omega) (by rw[ahm,←hl];exact h4) (by rw[hk];exact⟨_,I',q⟩)
 ·have hk:(k+ (its.toArray.size:Int)).toNat=j:=by
   rw[seqIndex_neg (by omega) h3]at h1;rw[ahm,←hl];exact Za0 h1
  exact PySem.W.ki_setBack ho (by omega) (by rw[ahm,←hl];exact h3) (by omega) (by rw[hk];exact⟨_,I',q⟩)
theorem Dj (lo hi:Option Int)(n:Nat):(sliceBounds lo hi none n).1=((HT.cw n 0 lo:Nat):Int)/\(sliceBounds lo hi none n).2.1=((HT.cw n n hi:Nat):Int)/\(sliceBounds lo hi none n).2.2=1:=by
 refine⟨?_,?_,rfl⟩
 ·cases lo with
  |none=>simp[sliceBounds,HT.cw]
  |some i=>
   simp only[sliceBounds,HT.cw,Option.getD_none,show (1:Int) > 0 by decide,ajT];by_cases h:i<0
   ·simp only[h,ajT] <;> omega
   ·simp only[h,ajs] <;> omega
 ·cases hi with
  |none=>simp[sliceBounds,HT.cw]
  |some i=>
   simp only[sliceBounds,HT.cw,Option.getD_none,show (1:Int) > 0 by decide,ajT];by_cases h:i<0
   ·simp only[h,ajT] <;> omega
   ·simp only[h,ajs] <;> omega
theorem Cr (its:List Value)(lo hi:Option Int):slicePick its.toArray lo hi none=((its.drop (HT.cw its.length 0 lo)).take (HT.cw its.length its.length hi - HT.cw its.length 0 lo)).toArray:=by
 obtain⟨h1,h2,h3⟩:=Dj lo hi its.toArray.size;unfold slicePick;rw[h1,h2,h3];simp only[sliceRange_one,pick_run,ahm] <;> rfl
def HQ (K:Za1):V->Option Int->Option Int->Hp->VK->Prop:=λx lo hi H Q=>∃a xs,x=.ref a/\aM K H a xs/\∀p,H p=none->Q (.ref p) (upd H p (.lst (i7 xs lo hi)))
theorem pZ:N6 X (HQ X.K):=by
 intro pins s σ H x v vl vu lo hi sl Q I rx hs pl pu h;obtain⟨a,xs,rfl,hx,q⟩:=h;cases rx;obtain⟨its,r,ht,hz⟩:=I.list hx;have hlen:=r.length;refine⟨"list",_,slot_list_getitem.lookup,ht.isList.typeIs,?_⟩;refine wpAny_getItem_list_slice ht.isList hs pl pu .none (by simp) ?_ (by rw[ahm] <;> omega);rw[Cr,←hlen];refine⟨.ref s.heap.objs.size,_,I.laid (t':=s.toks) (o:=.lst (i7 xs lo hi)) (λb ob q=>ahj _ q) (ahi _) ?_,rfl,q _ (I.bu.fresh (ahi _))⟩;exact⟨ahC (xt xs lo hi) hz,_,0,(r.drop (HT.cw xs.length 0 lo)).take (HT.cw xs.length xs.length hi - HT.cw xs.length 0 lo),ahz _ rfl⟩
theorem bA:lD X (.builtin "len") (λxs H Q=>∃p ys,xs=[.ref p]/\(aM X.K H p ys\/bL X.K H p ys)/\Q (.int ys.length) H):=by
 intro pins s σ H xs us Q I r h;obtain⟨p,ys,rfl,hq,q⟩:=h;obtain⟨u,rfl,rx⟩:=vals1 r;cases rx;have hn:=vk;rcases hq with hq|hq
 ·obtain⟨its,r',pl,hz⟩:=I.list hq;have hlen:=r'.length;exact Calls.call_len_list pl.isList (by simp only[ahm] <;> omega) ⟨.int ys.length,H,I.tok _,⟨s.toks+ 1,by rw[ahm,hlen]⟩,q⟩
 ·obtain⟨its,r',pl,hz⟩:=I.tuple hq;have hlen:=r'.length;exact len_tuple pl (by simp only[ahm] <;> omega) ⟨.int ys.length,H,I.tok _,⟨s.toks+ 1,by rw[ahm,hlen]⟩,q⟩
theorem vp:lD X (.type "list") (λxs H Q=>∃p ys,xs=[.ref p]/\(aM X.K H p ys\/bL X.K H p ys)/\∀l,H l=none->Q (.ref l) (upd H l (.lst ys))):=by
 intro pins s σ H xs us Q I r h;obtain⟨p,ys,rfl,hq,q⟩:=h;obtain⟨u,rfl,rx⟩:=vals1 r;cases rx
 have fin:∀(its:List Value),Vals ys its->ys.length<=sizeLine->∀(h':Heap) (c':Nat),(∀b o',s.heap.get? b=some o'->h'.get? b=some o')->
  h'.get? s.heap.objs.size=some { cls:=.type "list",dict:=none,data:=.seq its.toArray c',slots:=#[] }->EP X pins σ Q (.ref s.heap.objs.size) { s with heap:=h' }:=λits r' hz h' c' kp e=>
  ⟨.ref s.heap.objs.size,_,I.laid (t':=s.toks) kp (ahi _) (show cK X.prog X.w _ h' _ (.lst ys) from ⟨hz,its,c',r',e⟩),rfl,q _ (I.bu.fresh (ahi _))⟩
 rcases hq with hq|hq
 ·obtain⟨its,r',pl,hz⟩:=I.list hq;have hlen:=r'.length;obtain⟨o,ho,hc,n,hd⟩:=pl.isList;exact call_list_seq p (.inl rfl) ho hc hd (λh' c' kp e=>fin its r' hz h' c' kp e) (by simp only[ahm] <;> omega)
 ·obtain⟨its,r',pl,hz⟩:=I.tuple hq;have hlen:=r'.length;obtain⟨o,ho,hc,n,hd⟩:=pl;exact call_list_seq p (.inr rfl) ho hc hd (λh' c' kp e=>fin its r' hz h' c' kp e) (by simp only[ahm] <;> omega)
theorem gf:lD X (.type "tuple") (λxs H Q=>∃p ys,xs=[.ref p]/\((aM X.K H p ys/\∀l,H l=none->Q (.ref l) (upd H l (.tup ys)))\/(bL X.K H p ys/\Q (.ref p) H))):=by
 intro pins s σ H xs us Q I r h;obtain⟨p,ys,rfl,h⟩:=h;obtain⟨u,rfl,rx⟩:=vals1 r;cases rx;rcases h with ⟨hq,q⟩|⟨hq,q⟩
 ·obtain⟨its,r',pl,hz⟩:=I.list hq;have hlen:=r'.length;refine call_tuple_list pl.isList (λh' kp=>?_) (by simp only[ahm] <;> omega);have I1:Inv X pins σ H { s with heap:=h' }:=I.kept (t':=s.toks) kp
  have I2:Inv X pins σ (upd H h'.objs.size (.tup ys)) { s with heap:=h'.push { cls:=.type "tuple",data:=.seq its.toArray } }:=
   I1.laid (t':=s.toks) (λb o e=>ahj _ e) (ahi _) (show cK X.prog X.w _ _ _ (.tup ys) from ⟨hz,its,r',IsTup.new _ _⟩)
  exact⟨.ref h'.objs.size,_,I2,rfl,q _ (I1.bu.fresh (ahi _))⟩
 ·obtain⟨its,r',pl,hz⟩:=I.tuple hq;exact call_tuple_same pl ⟨.ref p,H,I,rfl,q⟩
def SJ (K:Za1)(T:String)(x:V)(H:Hp):Prop:=match x with
 |.str _=>T="str"
 |.int _=>T="int"
 |.ref p=>(T="list"/\∃xs,aM K H p xs)\/(T="tuple"/\∃o,K.lookup p=some o/\o.cls=.type "tuple"/\o.dict=none)\/
  (T="dict"/\((∃kvs,H p=some (.dK kvs))\/∃kvs,H p=some (.dT kvs)))\/(T="set"/\∃S n,H p=some (.set S n))
 |_=>False
theorem Ju {pins:List (Addr×Obj)}{σ:St}{H:Hp}{s:Shared}{T:String}{x:V}{v:Value}(I:Inv X pins σ H s)(r:RelV x v)(ty:SJ X.K T x H):
 s.TypeIs v T/\∀a,v=.ref a->∃ob,s.heap.get? a=some ob/\ob.dict=none:=by
 cases x with
 |str z=>
  obtain⟨t,rfl⟩:=r;cases (show T="str" from ty);exact⟨typeIs_str s z t,λ_ e=>nomatch e⟩
 |int i=>
  obtain⟨t,rfl⟩:=r;cases (show T="int" from ty);exact⟨typeIs_int s i t,λ_ e=>nomatch e⟩
 |ref p=>
  cases r;rcases ty with ⟨rfl,xs,hq⟩|⟨rfl,o,hk,hc,hd⟩|⟨rfl,hk⟩|⟨rfl,S,n,hk⟩
  ·obtain⟨its,_,pl,_⟩:=I.list hq;refine⟨pl.isList.typeIs,λa e=>?_⟩;cases e;obtain⟨o,n,e,c,hd,_⟩:=pl;exact⟨o,e,hd⟩
  ·refine⟨⟨o,I.iS p o hk,hc⟩,λa e=>?_⟩;cases e;exact⟨o,I.iS _ o hk,hd⟩
  ·have z:∃o,s.heap.get? p=some o/\o.ExactDict:=by
    rcases hk with ⟨kvs,hk⟩|⟨kvs,hk⟩
    ·obtain⟨_,_,_,_,o,_,_,e,ex,_⟩:=I.bu p _ hk;exact⟨o,e,ex⟩
    ·obtain⟨_,_,_,_,o,_,_,e,ex,_⟩:=I.bu p _ hk;exact⟨o,e,ex⟩
   obtain⟨o,e,ex⟩:=z;refine⟨⟨o,e,ex.1⟩,λa e2=>?_⟩;cases e2;exact⟨o,e,ex.2.1⟩
  ·obtain⟨o,_,_,_,e,ex,_⟩:=I.bu p _ hk;refine⟨⟨o,e,ex.1⟩,λa e2=>?_⟩;cases e2;exact⟨o,e,ex.2.1⟩
 |_=>exact False.elim ty
def abu (K:Za1)(T:String)(r:V->List V->Hp->VK->Prop)(to:TE):TE:=λ σ H Q=>to σ H λx H1=>SJ K T x H1/\r x [] H1 Q
def XO (K:Za1)(T:String)(r:V->List V->Hp->VK->Prop)(to:TE)(t:TA):TE:=λ σ H Q=>to σ H λx H1=>SJ K T x H1/\t σ H1 λxs H2=>r x xs H2 Q
variable {o e:Expr}{es:List Expr}{to:TE}{t:TA}{name:Str}{apos cR:Pos}{T id:String}{r:V->List V->Hp->VK->Prop}
theorem Jv (pa:PlainAttrs T)(slot:Slot T name id)(SK:typeOf (.builtin id)=pure (.type "method_descriptor"))(hm:Sz X id r)(ho:PE X o to)
 (yV:attributeBase o name X.env (eval o X.env)=eval o X.env:=by rfl) (hline:(apos.endLine==cR.line)=true:=by rfl):PE X (.Call (.Attribute o name apos) [] [] cR) (abu X.K T r to):=by
 intro pins s σ H Q I h;refine wpAny_Call_method0_late yV hline (bK (ho pins s σ H _ I h) λv s1 ⟨x,H1,I1,r1,ty,q1⟩=>?_);obtain⟨h1,h2⟩:=Ju I1 r1 ty;exact⟨T,id,pa,slot,SK,h1,h2,aic rfl (PySem.evalArgs_none (hm pins s1 σ H1 x [] v [] Q I1 r1 .nil q1))⟩
theorem fG (pa:PlainAttrs T)(slot:Slot T name id)(SK:typeOf (.builtin id)=pure (.type "method_descriptor"))(hm:Sz X id r)(ho:PE X o to)(ha:PA X (e::es) t)
 (yV:attributeBase o name X.env (eval o X.env)=eval o X.env:=by rfl)
 (abv:((backTo cR (starEach (e::es) X.env)).all (λx=>!x.1) && (backToKw cR (keywordEach [] X.env)).all (λx=>x.1.isSome)
  && decide ((e::es).length+ ([]:List Keyword).length+ (if ([]:List Keyword).isEmpty then 0 else 1)<30))=true:=by rfl)
 (hline:(apos.endLine==cR.line)=true:=by rfl) (hs:starEach (e::es) X.env=(false,eval e X.env)::starEach es X.env:=by rfl) (SM:(backTo cR (starEach es X.env)).any (·.1)=false:=by rfl):
 PE X (.Call (.Attribute o name apos) (e::es) [] cR) (XO X.K T r to t):=by
 intro pins s σ H Q I h;refine wpAny_Call_method_late yV abv hline rfl (bK (ho pins s σ H _ I h) λv s1 ⟨x,H1,I1,r1,ty,q1⟩=>?_);obtain⟨h1,h2⟩:=Ju I1 r1 ty;refine⟨T,id,pa,slot,SK,h1,h2,?_⟩;have hA:=ha cR pins s1 σ H1 _ I1 q1;rw[hs]at hA ⊢;refine aic (by show (false || (backTo cR (starEach es X.env)).any (·.1))=false;rw[SM] <;> rfl) (aiL ?_);exact bK hA λus s2 ⟨vs,H2,I2,r2,q2⟩=>hm pins s2 σ H2 x vs v us Q I2 r1 r2 q2
/- xs.append(e),list.index on a module's tuple .. are Sz facts of 06m -/
end
def SN (X:Cx)(id:String)(r:V->List V->Hp->VK->Prop):Prop:=
 ∀(pins:List (Addr×Obj)) (s:Shared) (σ:St) (H:Hp) (x:V) (xs:List V) (v:Value) (us:List Value) (Q:VK),Inv X pins σ H s->RelV x v->Vals xs us->r x xs H Q->
  wpAny (model X.prog X.w) X.A (call (.builtin id) (v::us)) (EP X pins σ Q) X.xe s
theorem Vals.one:∀{x:V} {us:List Value},Vals [x] us->∃u,us=[u]/\RelV x u
 |_,_,.cons r .nil=>⟨_,rfl,r⟩
theorem Vals.zero:∀{us:List Value},Vals [] us->us=[]
 |_,.nil=>rfl
theorem Vals.dropLast {xs:List V}{us:List Value}(h:Vals xs us):Vals xs.dropLast us.dropLast:=by
 induction h with
 |nil=>exact .nil
 |cons r t ih=>
  cases t with
  |nil=>exact .nil
  |cons q t'=>exact .cons r ih
theorem HR {α:Type}(l:List α):l.eraseIdx (l.length - 1)=l.dropLast:=by
 induction l with
 |nil=>rfl
 |cons a r ih=>
  cases r with
  |nil=>rfl
  |cons b r=>
   have e:(a::b::r).length - 1=((b::r).length - 1)+ 1:=by
    have h1:(a::b::r).length=r.length+ 2:=rfl;have h2:(b::r).length=r.length+ 1:=rfl;omega
   rw[e,List.eraseIdx_cons_succ,ih]
   all_goals rfl
section
variable {X:Cx}{pins:List (Addr×Obj)}{σ:St}{H:Hp}{s:Shared}{l:Addr}{xs ys:List V}
theorem Inv.L3 {its its':List Value}{n:Nat}{f:Array Value->Array Value}{t':Nat}(I:Inv X pins σ H s)(hH:H l=some (.lst xs))
 (e:s.heap.get? l=some { cls:=.type "list",data:=.seq its.toArray n }) (hf:f its.toArray=its'.toArray) (hv:Vals ys its') (hz:ys.length<=sizeLine):
 Inv X pins σ (upd H l (.lst ys)) { s with heap:=s.heap.update l (Obj.mapSeq f),toks:=t' }:=by
 have q:=PySem.IsL.update e f;rw[hf]at q;refine I.write (x:=l) (e:=l) (by rw[hH];exact trivial) (.inl rfl) (λb' u hb hu=>(aiO s.heap (Obj.mapSeq f) (ail hb)).trans hu) ⟨_,q⟩ ?_;exact⟨hz,its',_,hv,q⟩
theorem Inv.abw {its:List Value}{t':Nat}(I:Inv X pins σ H s)(hv:Vals ys its)(hz:ys.length<=sizeLine):
 Inv X pins σ (upd H s.heap.objs.size (.lst ys)) { s with heap:=s.heap.push { cls:=.type "list",data:=.seq its.toArray },toks:=t' }:=
 I.laid (λ_ _ q=>ahj _ q) (ahi _) ⟨hz,its,0,hv,ahz _ rfl⟩
theorem Inv.fresh (I:Inv X pins σ H s):H s.heap.objs.size=none:=I.bu.fresh (ahi _)
theorem Inv.Aq (I:Inv X pins σ H s)(hH:H l=some (.lst xs)):xs.length<=sizeLine/\∃(its:List Value) (n:Nat),Vals xs its/\xs.length=its.length/\s.heap.get? l=some { cls:=.type "list",data:=.seq its.toArray n }:=by
 obtain⟨z,its,n,r,e⟩:=I.bu l _ hH;exact⟨z,its,n,r,r.length,e⟩
theorem L4 {n:Nat}(h:n<=sizeLine):Builtin.List.listTooLong n=false:=by
 unfold Builtin.List.listTooLong;exact ah1 (by omega)
end
section
variable {X:Cx}
def Gp:V->List V->Hp->VK->Prop:=λx vs H Q=>∃l xs y,x=.ref l/\vs=[y]/\H l=some (.lst xs)/\xs.length<sizeLine/\Q .non (upd H l (.lst (xs++[y])))
theorem cT:SN X "list.append" Gp:=by
 intro pins s σ H x vs v us Q I rx rv h;obtain⟨l,xs,y,rfl,rfl,hH,hz,q⟩:=h;cases rx;obtain⟨u,rfl,ru⟩:=rv.one;obtain⟨z,its,n,r,hl,e⟩:=I.Aq hH;refine call_meets F.slot_list_append ⟨_,e,rfl⟩ F.entry_list_append (F.args_list_append_2 _ _) (PySem.list_append l its.toArray n u (by rw[ahm];omega)) ⟨e,?_⟩;refine⟨.non,_,I.L3 (its':=its++[u]) hH e (by simp) (r.append (.cons ru .nil)) ?_,rfl,q⟩;rw[ahe,List.length_singleton];omega
def Qw:V->List V->Hp->VK->Prop:=λx vs H Q=>∃l b xs zs,x=.ref l/\vs=[.ref b]/\H l=some (.lst xs)/\H b=some (.lst zs)/\xs.length+ zs.length<=sizeLine/\Q .non (upd H l (.lst (xs++zs)))
theorem Bn:SN X "list.extend" Qw:=by
 intro pins s σ H x vs v us Q I rx rv h;obtain⟨l,b,xs,zs,rfl,rfl,hH,hB,hz,q⟩:=h;cases rx;obtain⟨u,rfl,ru⟩:=rv.one;cases ru;obtain⟨z,its,n,r,hl,e⟩:=I.Aq hH;obtain⟨z2,dg,n2,r2,fM,e2⟩:=I.Aq hB;have hsz:its.toArray.size+ dg.toArray.size<=sizeLine:=by rw[ahm,ahm];omega
 have W6:¬(!its.toArray.isEmpty && Builtin.List.listTooLong (its.toArray.size+ dg.toArray.size))=true:=by
  rw[L4 hsz,Bool.and_false];exact ahV
 refine call_meets F.slot_list_extend ⟨_,e,rfl⟩ F.entry_list_extend (F.args_list_extend_2 _ _)
  (AutoSeq1.list_extend_list_list_0 l its.toArray n b dg.toArray n2 W6 (by rw[ahm];omega) (by omega)) ⟨e,e2,?_⟩
 refine⟨.non,_,I.L3 (its':=its++dg) hH e (by simp) (r.append r2) ?_,rfl,q⟩;rw[ahe];omega
def abx:V->List V->Hp->VK->Prop:=λx vs H Q=>∃l xs y,x=.ref l/\vs=[]/\H l=some (.lst xs)/\xs[xs.length - 1]?=some y/\Q y (upd H l (.lst xs.dropLast))
theorem Jw:SN X "list.pop" abx:=by
 intro pins s σ H x vs v us Q I rx rv h;obtain⟨l,xs,y,rfl,rfl,hH,hy,q⟩:=h;cases rx;have qq:=rv.zero;subst qq;obtain⟨z,its,n,r,hl,e⟩:=I.Aq hH;obtain⟨u,hu,ru⟩:=r.get hy
 have hy':its.toArray[its.toArray.size - 1]?=some u:=by
  show its.toArray[its.length - 1]?=some u
  rw[←Array.getElem?_toList,←hl];exact hu
 refine call_meets F.slot_list_pop ⟨_,e,rfl⟩ F.entry_list_pop (F.args_list_pop_1 _) (MeetsSeq.list_pop_last l its.toArray n u hy' (by rw[ahm];omega)) ⟨e,?_⟩;refine⟨y,_,I.L3 (its':=its.dropLast) hH e ?_ r.dropLast ?_,ru,q⟩
 ·show its.toArray.eraseIdxIfInBounds (its.toArray.size - 1)=its.dropLast.toArray;rw[ahm,List.eraseIdxIfInBounds_toArray,HR]
 ·rw[List.length_dropLast];omega
def aby:R2:=λx y H Q=>∃l b xs zs,x=.ref l/\y=.ref b/\H l=some (.lst xs)/\H b=some (.lst zs)/\xs.length+ zs.length<=sizeLine/\∀p,H p=none->Q (.ref p) (upd H p (.lst (xs++zs)))
theorem vq:gH X (binaryOp .Add) aby:=by
 intro pins s σ H x y v u Q I rx ry h;obtain⟨l,b,xs,zs,rfl,rfl,hH,hB,hz,q⟩:=h;cases rx;cases ry;obtain⟨z,its,n,r,hl,e⟩:=I.Aq hH;obtain⟨z2,dg,n2,r2,fM,e2⟩:=I.Aq hB;refine PySem.P.add_list e e2 ?_ (by rw[ahm,ahm];omega);have ea:its.toArray++dg.toArray=(its++dg).toArray:=by simp
 rw[ea];exact⟨.ref _,_,I.abw (t':=s.toks) (r.append r2) (by rw[ahe];omega),rfl,q _ I.fresh⟩
end
end L2
namespace Att
open PySem PySem.W PySem.Calls PyProof.Rows
theorem yW {P:Params}{h:Heap}:∀(ns:List Int) (vs:List Value),WellAll P h vs (ns.map WData.int)->IntsAre vs ns:=by
 intro ns
 induction ns with
 |nil=>
  intro vs w;rw[List.map_nil]at w;cases w;exact .nil
 |cons n ns ih=>
  intro vs w;rw[ahY]at w
  cases w with
  |cons a b=>
   cases a;exact .cons _ _ (ih _ b)
theorem Jx {l:OpenLaw}{n:Nat}(hn:l.most=some n){P:Params}{h:Heap}{args:List WData}{vals:List Value}
 (HS:l.row.toRowW.claim.pre args=true) (jS:WellAll P h vals args):
 ∃a vs ns,vals=[Value.ref a]/\args=[WData.list (ns.map WData.int)]/\h.get? a=some { cls:=.type "list",data:=.seq vs.toArray }/\IntsAre vs ns/\ns.length<=n:=by
 have hsh:WShape.hasAll [] args [.list .int]=true:=(pre_splitW HS).1;have hc:l.pre.holds [] { args:=args }=true:=(pre_splitW HS).2;obtain⟨d,r,rfl,h1,h2⟩:=hasAllW_cons hsh;obtain rfl:=hasAllW_nil h2;obtain⟨xs,rfl,h3⟩:=hasW_list h1;obtain⟨ns,rfl⟩:=items_int h3
 have hlen:ns.length<=n:=by
  unfold OpenLaw.pre at hc
  have h4:(WTm.not (.lt (.lit (.int (n:Int))) (.len (.arg 0)))).holds [] { args:=[.list (ns.map .int)] }=true:=by
   have h4:=(holds_andW hc).1;rw[hn]at h4;exact h4
  have h5:=condW_of h4 (w_not (w_lt w_lit (w_len_list (w_arg rfl))));rw[ahl]at h5;refine Nat.le_of_not_lt λq=>?_
  have q':(n:Int)<((ns.length:Nat):Int):=by omega
  first
   |(rw[ahy q']at h5;exact absurd h5 (by decide))
   |(simp at h5;omega)
 cases jS with
 |cons w1 w2=>
  cases w2
  cases w1 with
  |list ho abz=>exact⟨_,_,ns,rfl,rfl,ho,yW ns _ abz,hlen⟩
theorem Jy (l:OpenLaw)(args:List WData):l.row.toRowW.claim.post args (.bool true) args=true:=
 postW_of (r:=l.row.toRowW) (X:=(true==true))
  (show WShape.has [] (.bool true) .bool=true by first|rfl|decide|simp[WShape.has,WShape.arms,WShape.armsAll])
  (show (WTm.eq .res (.lit (.bool true))).value [] { args:=args,res:=some (.bool true),after:=args }=some (.bool (true==true)) from w_eq_bool (w_res rfl) w_lit) rfl
theorem FN {l:OpenLaw}{n:Nat}{q:Program}{loose:List Str}{XP:(Str->Option Value)->Heap->Prop}{YP:World->Heap->Prop}{d:DefRec}
 (hn:l.most=some n) (Jz:d.params.defaults=[])
 (call:∀(w:World) (dA bO:Shared) (mg mb:Str->Option Value) (fa:Addr) (o:Obj) (pm cd doc:Value) (a:Addr) (vs:List Value) (ns:List Int),
  Ground q loose [] XP w dA mg mb bO.heap->YP w bO.heap->
  bO.heap.get? fa=some o->o.data=.func (docDef d.name d.params d.body d.scope pm cd doc)->bO.heap.CodeRec cd d.name->mg d.name=some (.ref fa)->
  bO.heap.get? a=some { cls:=.type "list",data:=.seq vs.toArray }->IntsAre vs ns->ns.length<=n->bO.gens=#[]->
  codeAny (model l.prog w) callerA (.call (.ref fa) ⟨[.ref a],[]⟩) (λr s'=>r=.ok (.ret (.bool true))/\OldK bO.heap s'.heap/\s'.os=bO.os/\AllBare s'.gens) bO):
 WalkO q loose XP YP l.row.toRowW d [] (λf vs=>PySem.call f vs):=by
 intro w dA bO mg mb G Y fa o pm cd doc dV kV ho hd qh hD hmg hg args vals as HS hlay hrd jS hlo;obtain rfl:dV=.none:=Dflts.none hD Jz;obtain rfl:kV=.none:=Dflts.noKw hD;obtain⟨a,vs,ns,rfl,rfl,L5,hints,hlen⟩:=Jx hn HS jS;refine enter_call (ake (call w dA bO mg mb fa o pm cd doc a vs ns G Y ho (fd_plain hd) qh hmg L5 hints hlen hg) λr s' hq=>?_);obtain⟨rfl,h2,h3,h4⟩:=hq;exact⟨.inl ⟨.bool true,.bool true,[],rfl,λ_=>rfl,.bool true,Jy l _,λ_=>⟨List.Pairwise.nil,λ_ hm=>(nomatch hm)⟩⟩,h2,h3,h4⟩
end Att
namespace L2
open PySem PySem.Spec PyProof.Rows
theorem Bo:∀{vs:List Value} {ns:List Int},IntsAre vs ns->Vals (ns.map V.int) vs
 |_,_,.nil=>.nil
 |_,_,.cons n t h=>.cons ⟨t,rfl⟩ (Bo h)
def Only (H:Hp):Prop:=∀b,H b=none\/∃o xs,H b=some (.dC o (.lst xs))
theorem L6 {P:Program}{w:World}{K:Za1}{mg mb:Str->Option Value}{CX:sY}{k:Nat}{fa a:Addr}{fd:FuncData}{x:Str}{sp:Sp}{bO:Shared}{vs:List Value}{ns:List Int}
 (KX:K.In bO.heap) (Gq:bO.heap.Ns mainGlobals mg) (hb:bO.heap.Ns builtinsNs mb) (SQ:∀x:Str,x≠"__name__"->mb x=bootBuiltins x) (abA:bO.heap.NoLimit) (hg:bO.gens=#[])
 (ha:bO.heap.get? a=some { cls:=.type "list",data:=.seq vs.toArray }) (hi:IntsAre vs ns) (hl:ns.length<=sizeLine) (hr:fz k callerA)
 (F:∀base:Heap,K.In base->base.Ns mainGlobals mg->aL P w K mg base CX k fa fd [x] sp) (W7:∀(s:Shared) (u:Value),BindsTo s fd ⟨[u],[]⟩ [(x,u)])
 (pJ:∀H:Hp,Only H->aM K H a (ns.map V.int)->sp [.ref a] H (λv _=>v=.bl true) λ_ _ _=>False)
 (SR:∀H e s',CX [] H bO (λ_ _ _=>False) e s'->False):
 codeAny (model P w) callerA (.call (.ref fa) ⟨[.ref a],[]⟩) (λr s'=>r=.ok (.ret (.bool true))/\OldK bO.heap s'.heap/\s'.os=bO.os/\AllBare s'.gens) bO:=by
 have rv:=Bo hi;have abB:=hi.length
 -- from an abstract heap in which nothing but the script may be tracked
 have core:∀H:Hp,Only H->aM K H a (ns.map V.int)->fw P w H bO.heap->(∀b,H b≠none->b=a)->(H a≠none->K.lookup a=none)->
  codeAny (model P w) callerA (.call (.ref fa) ⟨[.ref a],[]⟩) (λr s'=>r=.ok (.ret (.bool true))/\OldK bO.heap s'.heap/\s'.os=bO.os/\AllBare s'.gens) bO:=by
  intro H hO hS bu hA hK;have Gr:∀{b:Addr} {o:Obj},bO.heap.get? b=some o->H b=none->(tZ bO.heap H).get? b=some o:=λe n=>LQ e n
  have Df:∀{b:Addr} {o:Obj} {es:Array DictEntry} {ep:Nat},bO.heap.get? b=some o->o.data=.dict es ep->H b=none:=λ{b o es ep} e d=>by
   cases q:H b with
   |none=>rfl
   |some u=>
    have e':b=a:=hA b (by rw[q];simp);subst e';rw[ha]at e;cases e;have d':Data.seq vs.toArray _=Data.dict es ep:=d;cases d'
  have N8:∀{b:Addr} {m:Str->Option Value},bO.heap.Ns b m->(tZ bO.heap H).Ns b m:=λ{b m} ⟨o,es,ep,e,d,r⟩=>⟨o,es,ep,Gr e (Df e d),d,r⟩
  have XQ:K.In (tZ bO.heap H):=λb o e=>Gr (KX b o e) (by
   cases q:H b with
   |none=>rfl
   |some u=>
    have e':b=a:=hA b (by rw[q];simp);subst e';rw[hK (by rw[q];simp)]at e;cases e)
  have hM:Mod K mg (tZ bO.heap H):=⟨XQ,N8 Gq,⟨mb,N8 hb,SQ⟩,let ⟨mc,h1,h2⟩:=abA;⟨mc,N8 h1,h2⟩⟩;have e0:xZ P w K mg (tZ bO.heap H) callerA [] bO H:=⟨rfl,hM,λb o e=>Qo e,ajV (Jd _ _),trivial,λb hb=>absurd (show b∈([]:List Addr) from hb) (by simp),bu,.of_eq hg⟩;refine ake ((F _ XQ (N8 Gq)).run callerA [] bO H ⟨[.ref a],[]⟩ [.ref a] [.ref a] _ _ hr e0 (W7 bO (.ref a)) (.cons rfl .nil) (pJ H hO hS)) λr s' h=>?_
  cases r with
  |error e=>exact(SR H e s' h).elim
  |ok fl=>
   cases fl with
   |next=>exact False.elim h
   |brk=>exact False.elim h
   |cont=>exact False.elim h
   |ret u=>
    obtain⟨v,H',os,bare,un,abC,r',q⟩:=h;have q':v=.bl true:=q;subst q';obtain rfl:u=Value.bool true:=r';refine⟨rfl,OldK.of_keep λb o e=>?_,os,bare⟩
    cases q:H b with
    |none=>exact un.keep b o e q (by intro z;exact absurd (show b∈([]:List Addr) from z) (by simp)) (by simp)
    |some u=>
     rcases hO b with z|⟨ob,xs,z⟩
     ·rw[q]at z;cases z
     ·have z2:=un.mO b ob _ z;obtain⟨e1,_⟩:=bu b _ z;obtain⟨e2,_⟩:=abC b _ z2;rw[e]at e1;cases e1;exact e2
 cases hk:K.lookup a with
 |some o=>
  -- the script is one of the module's own objects
  have e:=KX a o hk;rw[ha]at e;cases e;refine core (λ_=>none) (λ_=>.inl rfl) (.inr ⟨_,vs.toArray,_,hk,rfl,rfl,rfl,by rw[ahm,abB];exact hl,by simpa using rv⟩) (λb u z=>by have z':(none:Option HO)=some u:=z;cases z') (λb z=>absurd rfl z) λz=>absurd rfl z
 |none=>
  refine core (λb=>if b=a then some (.dC { cls:=.type "list",data:=.seq vs.toArray } (.lst (ns.map V.int))) else none) (λb=>?_) (.inl (.inr ⟨{ cls:=.type "list",data:=.seq vs.toArray },ahu rfl⟩)) (λb u z=>?_) (λb z=>?_) λ_=>hk
  ·by_cases hb:b=a
   ·exact .inr ⟨_,_,ahu hb⟩
   ·exact .inl (ahq hb)
  ·by_cases hb:b=a
   ·have z':=(ahu hb).symm.trans z;cases z';subst hb;exact⟨ha,by rw[ahl];exact hl,vs,_,rv,ha⟩
   ·have z':=(ahq hb).symm.trans z;cases z'
  ·by_cases hb:b=a
   ·exact hb
   ·exact absurd (ahq hb) z
theorem Qx {l:PySem.W.OpenLaw}{n k:Nat}{q:Program}{loose:List Str}{XP:(Str->Option Value)->Heap->Prop}{YP:World->Heap->Prop}{d:DefRec}{K:Params->Za1}{CX:World->sY}{sp:World->Sp}{x:Str}
 (hn:l.most=some n) (Bi:n<=sizeLine) (Jz:d.params.defaults=[]) (hr:fz k callerA)
 (hY:∀(w:World) (h:Heap),YP w h->(K w.params).In h)
 (F:∀(w:World) (mg:Str->Option Value) (fa:Addr) (h:Heap),(K w.params).In h->h.Ns mainGlobals mg->mg d.name=some (.ref fa)->
  ∃fd:FuncData,(∀(s:Shared) (u:Value),BindsTo s fd ⟨[u],[]⟩ [(x,u)])/\
   ∀base:Heap,(K w.params).In base->base.Ns mainGlobals mg->aL l.prog w (K w.params) mg base (CX w) k fa fd [x] (sp w))
 (pJ:∀(w:World) (H:Hp) (a:Addr) (ns:List Int),ns.length<=n->Only H->aM (K w.params) H a (ns.map V.int)->sp w [.ref a] H (λv _=>v=.bl true) λ_ _ _=>False)
 (SR:∀(w:World) (H:Hp) (s:Shared) (e:Value) (s':Shared),CX w [] H s (λ_ _ _=>False) e s'->False):
 PySem.W.WalkO q loose XP YP l.row.toRowW d [] (λf vs=>PySem.call f vs):=by
 refine Att.FN hn Jz λw dA bO mg mb fa o pm cd doc a vs ns G Y ho hd qh hmg L5 hints hlen hg=>?_
 have KX:=hY w _ Y;obtain⟨fd,hb,hF⟩:=F w mg fa _ KX G.T.g hmg;exact L6 KX G.T.g G.T.b G.T.builtins G.T.nolimit hg L5 hints (ahC hlen Bi) hr hF hb (λH hO hS=>pJ w H a ns hlen hO hS) λH e s'=>SR w H bO e s'
def inClass (s:Stmt)(j:Nat):Stmt:=match s with
 |.ClassDef _ _ _ body _ _ _ _ _ _ _=>body.getD j (.Pass ⟨0,0,0,0⟩)
 |_=>.Pass ⟨0,0,0,0⟩
def gR (s:Stmt):Arguments:=match s with
 |.FunctionDef _ a _ _ _ _ _ _ _ _=>a
 |_=>{ posonlyargs:=[],args:=[],vararg:=none,kwonlyargs:=[],kw_defaults:=[],kwarg:=none,defaults:=[] }
def gg (s:Stmt):List Stmt:=match s with
 |.FunctionDef _ _ b _ _ _ _ _ _ _=>b
 |_=>[]
def aT (s:Stmt):Scope:=match s with
 |.FunctionDef _ _ _ _ _ _ sc _ _ _=>sc
 |_=>{ kind:=.function,names:=[],isGenerator:=false,isCoroutine:=false }
abbrev bB:sY:=λ_ _ _ _ _ _=>False
abbrev E0:XK:=λ_ _ _=>False
theorem aO {X:Cx}:Passes bB X E0:=λ_ _ _ _ _ _ _ h=>h.elim
structure Dl (K:Za1) (x qual:Str) (st:Stmt) (f:Addr) (fd:FuncData):Prop where
 ex:∃(oc:Value) (od:Option Addr) (kV doc pm:Value) (an:Option Addr) (bR ct:Value) (uN:Array (Option Value)),
  fd=PySem.W.fnOf x qual (gR st) (gg st) (aT st) .none kV doc pm an bR ct/\K.lookup f=some ⟨oc,od,.func fd,uN⟩/\PySem.W.codeIn K bR qual=true
 kp:PySem.W.keepIn K (.ref f)=true
section
variable {P:Program}{w:World}{K:Za1}{mg:Str->Option Value}{base:Heap}
theorem Dl.ok {x qual:Str}{st:Stmt}{f:Addr}{fd:FuncData}{N ps:List Str}{k:Nat}{sp:Sp}(F:Dl K x qual st f fd)(S:bG N ps (aT st))(len:∀vs H Q E,sp vs H Q E->vs.length=ps.length)
 (HL:∀(bR:Value) (A:Around) (outer:List Env) (s:Shared) (H:Hp) (vs:List V) (Q:VK) (E:XK),fz k (A.deeper (envOfC qual (aT st) s.heap.objs.size f bR))->sp vs H Q E->
  ∃t,sV (vn bB P w K mg base N qual (aT st) f bR A outer s H E).Ji (gg st) t/\t { nx:=λ_ H'=>Q .non H',rt:=Q } (start N vs) H):aL P w K mg base bB (k+ 1) f fd ps sp:=by
 obtain⟨oc,od,kV,doc,pm,an,bR,ct,uN,rfl,lk,qh⟩:=F.ex;refine WW lk qh S len λA outer s H vs Q E hr pJ=>?_
 obtain⟨t,h,q⟩:=HL bR A outer s H vs Q E hr pJ;exact⟨t,h.Ji,q⟩
theorem Dl.binds {x qual:Str}{st:Stmt}{f:Addr}{fd:FuncData}{ps:List Str}(F:Dl K x qual st f fd)
 (h:∀(kV doc pm:Value) (an:Option Addr) (bR ct:Value) (us:List Value),us.length=ps.length->bindArgs (PySem.W.fnOf x qual (gR st) (gg st) (aT st) .none kV doc pm an bR ct) ⟨us,[]⟩=pure (ps.zip us)):Binds K fd ps []:=by
 obtain⟨oc,od,kV,doc,pm,an,bR,ct,uN,rfl,lk,qh⟩:=F.ex;exact .all (h kV doc pm an bR ct)
theorem JA {x qual:Str}{st:Stmt}{f:Addr}{oc:Value}{od an:Option Addr}{uN:Array (Option Value)}{kV doc pm bR ct:Value}(l:K.lookup f=some ⟨oc,od,.func (PySem.W.fnOf x qual (gR st) (gg st) (aT st) .none kV doc pm an bR ct),uN⟩)
 (c:PySem.W.codeIn K bR qual=true) (k:PySem.W.keepIn K (.ref f)=true):Dl K x qual st f (PySem.W.fnOf x qual (gR st) (gg st) (aT st) .none kV doc pm an bR ct):=⟨⟨oc,od,kV,doc,pm,an,bR,ct,uN,rfl,l,c⟩,k⟩
end
theorem gM {A:Around}{k:Nat}(hr:fz k A):A.units+ 1<cLine:=ahr (Nat.add_le_add_left (by decide:1<=64) _) hr.units
section
variable {X:Cx}
theorem pv (i:Nat){x:Str}{pos:Pos}(hN:X.N[i]?=some x:=by rfl)(hv:RL X.env.scope x:=by first|exact Or.inl rfl|exact Or.inr (Or.inl rfl)|exact Or.inr (Or.inr rfl))(hd:(x==("__debug__":Str))=false:=by decide)
 (qh:(x==("__classdict__":Str))=false:=by decide):PE X (.Name x pos) (kx i):=RX hN hv hd qh
end
theorem b8 {A B:Prop}(h:B):if false=true then A else B:=by
 rw[ahq ahV];exact h
theorem fQ {A B:Prop}(h:A):if true=true then A else B:=by
 rw[ahu rfl];exact h
theorem cS {c A B:Prop} [Decidable c](h1:c->A)(h2:¬c->B):if c then A else B:=by
 by_cases h:c
 ·rw[ahu h];exact h1 h
 ·rw[ahq h];exact h2 h
theorem jE {c A B:Prop} [Decidable c](hc:c)(h:B):if (!decide c)=true then A else B:=by
 rw[ahy hc];exact b8 h
def au (H H':Hp):Prop:=∀b o,H b=some o->H' b=some o
theorem au.refl (H:Hp):au H H:=λ_ _ h=>h
theorem au.trans {H H1 H2:Hp}(a:au H H1)(b:au H1 H2):au H H2:=λc o h=>b c o (a c o h)
theorem au.free {H H':Hp}(e:au H H'){l:Addr}(h:H' l=Option.none):H l=Option.none:=by
 cases q:H l with
 |none=>rfl
 |some o=>
  rw[e l o q]at h;cases h
theorem au.seq {K:Za1}{H H':Hp}{a:Addr}{xs:List V}(e:au H H')(h:aM K H a xs):aM K H' a xs:=by
 rcases h with (h|⟨o,h⟩)|h
 ·exact .inl (.inl (e _ _ h))
 ·exact .inl (.inr ⟨o,e _ _ h⟩)
 ·exact .inr h
end L2
set_option maxHeartbeats 4000000
namespace L2
open PySem PySem.Spec PyProof.Rows
section
variable {prog:Program}{w:World}{A:Around}{R:Result->Shared->Prop}{s:Shared}
theorem FP {elt target iter:Expr}{scope:Scope}{pos:Pos}{it acc:Value}{env:Env}(I:Nat->Shared->Prop)
 (turn:∀n s,I n s->wpAny (model prog w) A (pyNext it) (λr bO=>match r with
  |none=>R (.ok .next) bO
  |some v=>wpAny (model prog w) A (letOwnedTupleGo target it v) (λ_ dA=>wpAny (model prog w) A (assign target env v) (λ_ iq=>wpAny (model prog w) A (eval elt env) (λx sh=>
   wpAny (model prog w) A (call (.builtin "list.append") [acc,x]) (λ_ x8=>∃m,m<n/\I m x8) (λ_ _=>False) sh) (λ_ _=>False) iq) (λ_ _=>False) dA) (λ_ _=>False) bO) (λ_ _=>False) s)
 (n:Nat) (h:I n s):codeAny (model prog w) A (.compLoop (.ListComp elt [⟨target,iter,[],0⟩] scope pos) 0 it acc env) R s:=by
 refine codeAny_loop rfl I (λn s hI=>?_) n h;show wpAny _ _ ((compTurn (.ListComp elt [⟨target,iter,[],0⟩] scope pos) 0 it acc env).onRaise (λx=>do noteFrame x env;theTreesLotGoes x)) _ _ s;refine wpAny_noted ?_;rw[compTurn_list1];refine ahb (wpAny_standAt (ahb (aiF (turn n s hI) (λr bO fH=>?_) λ_ _ h'=>h'.elim)))
 cases r with
 |none=>exact ahk fH
 |some v=>
  refine ahb (aiF fH (λ_ dA h₀=>?_) λ_ _ h'=>h'.elim)
  exact ahb (aiF h₀ (λ_ iq mS=>ahb (ahb (aiF mS (λx sh lJ=>ahb (aiF lJ
   (λ_ x8 ua=>ahk (ahk ⟨rfl,ua⟩)) λ_ _ h'=>h'.elim)) λ_ _ h'=>h'.elim))) λ_ _ h'=>h'.elim)
end
def dY (X:Cx)(Nc:List Str)(scope:Scope)(cl:List (Str×Addr))(C:Addr)(s:Shared)(H:Hp)(ex:List Addr):Cx where
 prog:=X.prog
 w:=X.w
 K:=X.K
 mg:=X.mg
 base:=X.base
 A:=X.A
 N:=Nc
 dA:=s
 xU:=H
 env:=compEnvC scope cl C X.env
 outer:=X.stack
 stack:=X.stack
 ex:=ex
 fn:=λ_=>false
 calm:=X.calm
 pn:=[]
 xe:=λ_ _=>False
def Dm (te:TE)(fv:St)(Q:VK)(J:It)(H1:Hp):Prop:=∃W:Nat->Nat->List V->Hp->Prop,(∃m,W 0 m [] H1)/\∀i m ys H2,W i m ys H2->
 (J.stop i H2/\ys.length<=sizeLine/\∀D,H2 D=none->Q (.ref D) (upd H2 D (.lst ys)))\/
 (J.go i H2/\ys.length<sizeLine/\∀x H3,J.pI i H2 x H3->te (some x::fv) H3 λy H4=>∃m',m'<m/\W (i+ 1) m' (ys++[y]) H4)
def HV (wi:TI)(fv:St->St)(te:TE):TE:=λ σ H Q=>wi σ H (Dm te (fv σ) Q)
structure fi (X:Cx) (x:Str) (fns:List Str) (ixs:List Nat) (scope:Scope) (cl:List (Str×Addr)):Prop where
 Dq:closureFor scope X.env=pure cl
 sub:∀y c,cl.lookup y=some c->X.env.cells.lookup y=some c
 cell:∀y∈scope.names,y.2≠.cell
 kind:scope.kind=.function
 names:∀y∈scope.names,y.2=.local->scope.names.lookup y.1=some .local
 own:scope.names.lookup x=some .local
 has:∀y,((relabel scope X.env).names.lookup y=some .cell\/(relabel scope X.env).names.lookup y=some .free)->∃c,cl.lookup y=some c
 nd:(x::fns).Nodup
 len:ixs.length=fns.length
 at_:∀(j:Nat) (y:Str),fns[j]?=some y->∃i:Nat,ixs[j]?=some i/\X.N[i]?=some y/\(X.env.kindOf y=some .cell\/X.env.kindOf y=some .free)/\∃c,cl.lookup y=some c/\((relabel scope X.env).names.lookup y=some .cell\/(relabel scope X.env).names.lookup y=some .free)
def jl (ixs:List Nat):St->St:=λ σ=>ixs.map λi=>(σ[i]?).join
section
variable {X:Cx}{x:Str}{scope:Scope}
theorem xx (hx:scope.names.lookup x=some .local):(relabel scope X.env).names.lookup x=some .local:=lookup_relabel_local hx
end
theorem gw {X:Cx}{x:Str}{scope:Scope}(hf:∀y∈scope.names,y.2≠.free)(hc:∀y∈scope.names,y.2≠.cell)(hk:scope.kind=.function)
 (hn:∀y∈scope.names,y.2=.local->scope.names.lookup y.1=some .local) (hx:scope.names.lookup x=some .local):fi X x [] [] scope [] where
 Dq:=closureFor_none hf
 sub:=λy c h=>nomatch h
 cell:=hc
 kind:=hk
 names:=hn
 own:=hx
 has:=λy h=>by
  have e:(relabel scope X.env).names=scope.names:=by
   unfold relabel;refine map_eq_self λz hz=>?_
   obtain⟨n,k⟩:=z;have:(k==NameKind.free)=false:=by simpa using hf _ hz
   simp[this]
  rw[e]at h;rcases h with h|h
  ·exact absurd rfl (hc _ (aiC h))
  ·exact absurd rfl (hf _ (aiC h))
 nd:=by simp
 len:=rfl
 at_:=λj y h=>by simp at h
theorem JB {J:It}{H1:Hp}{fv:St}{te:TE}{Q:VK}(xs:List V)(g:V->V)(jT:∀i:Nat,i<xs.length->J.go i H1)(hy:∀(i:Nat) (x:V) (H3:Hp),i<xs.length->J.pI i H1 x H3->H3=H1/\xs[i]?=some x)
 (cI:J.stop xs.length H1) (Ar:xs.length<=sizeLine) (he:∀(i:Nat) (x:V),xs[i]?=some x->∀R:VK,R (g x) H1->te (some x::fv) H1 R) (hQ:∀D,H1 D=none->Q (.ref D) (upd H1 D (.lst (xs.map g)))):
 Dm te fv Q J H1:=by
 refine⟨λi m ys H2=>m=xs.length - i/\i<=xs.length/\ys=(xs.take i).map g/\H2=H1,⟨xs.length,by simp,ahT _,by simp,rfl⟩,?_⟩;rintro i m ys H2 ⟨rfl,hi,rfl,rfl⟩;by_cases bU:i<xs.length
 ·refine .inr ⟨jT i bU,by rw[ahl,ah2];omega,λx H3 jm=>?_⟩;obtain⟨e3,hx⟩:=hy i x H3 bU jm;subst e3;refine he i x hx _ ⟨xs.length - (i+ 1),by omega,rfl,bU,?_,rfl⟩;rw[aje,hx];simp
 ·have e:i=xs.length:=by omega
  subst e;refine .inl ⟨cI,by rw[ahl,ah2];omega,λD hD=>?_⟩;rw[aik];exact hQ D hD
theorem JC {K:Za1}{H:Hp}{a:Addr}{xs:List V}(h:bL K H a xs):∀i,i<xs.length->(Bc K a).go i H:=λi hi=>⟨xs,xs[i],h,ahc hi⟩
theorem Gs {K:Za1}{H:Hp}{a:Addr}{xs:List V}(h:bL K H a xs):∀i x H3,i<xs.length->(Bc K a).pI i H x H3->H3=H/\xs[i]?=some x:=λi x H3 _ y=>⟨y.1,y.2 xs h⟩
theorem Dr {K:Za1}{H:Hp}{a:Addr}{xs:List V}(h:bL K H a xs):(Bc K a).stop xs.length H:=⟨xs,h,ahi _⟩
theorem vt {K:Za1}{H:Hp}{a:Addr}{xs:List V}(h:aM K H a xs):∀i,i<xs.length->(yP K a).go i H:=λi hi=>⟨xs,xs[i],h,ahc hi⟩
theorem sZ {K:Za1}{H:Hp}{a:Addr}{xs:List V}(h:aM K H a xs):∀i x H3,i<xs.length->(yP K a).pI i H x H3->H3=H/\xs[i]?=some x:=λi x H3 _ y=>⟨y.1,y.2 xs h⟩
theorem qt {K:Za1}{H:Hp}{a:Addr}{xs:List V}(h:aM K H a xs):(yP K a).stop xs.length H:=⟨xs,h,ahi _⟩
def abD (t:TS):TS:=λD σ H=>∃G:St->Hp->Prop,t { D with nx:=G } σ H/\∀ aX H',G aX H'->D.nx aX H'
theorem bX {X:Cx}{st:Stmt}{t:TS}(h:PS X st t):PS X st (abD t):=by
 intro pins s σ H D I ⟨G,h1,h2⟩;refine bK (h pins s σ H { D with nx:=G } I h1) λf s' q=>?_
 cases f with
 |next=>obtain⟨aX,H',I',g⟩:=q;exact⟨aX,H',I',h2 aX H' g⟩
 |_=>exact q
theorem i3 {scope:Scope}{env:Env}{y:Str}{k:NameKind}(h:(relabel scope env).names.lookup y=some k)(hk:k=.cell\/k=.free)(hc:∀z∈scope.names,z.2≠.cell):(y,NameKind.free)∈scope.names:=by
 have hm:=aiC h;unfold relabel at hm;obtain⟨⟨n,k'⟩,hz,e⟩:=ah0.mp hm;dsimp only at e;by_cases hf:(k'==NameKind.free && env.scope.kind==.function && env.kindOf n==some .cell)=true
 ·rw[ahu hf]at e;have e1:n=y:=ah6 Prod.fst e;rw[aiN,aiN]at hf;have e2:k'=.free:=eq_of_beq hf.1.1;rw[←e1,←e2];exact hz
 ·rw[ahq hf]at e;have e1:n=y:=ah6 Prod.fst e;have e2:k'=k:=ah6 Prod.snd e;subst e1 e2;rcases hk with rfl|rfl
  ·exact absurd rfl (hc _ hz)
  ·exact hz
theorem c9 {env:Env}(hf:env.scope.kind=.function){y:Str}(hy:env.kindOf y=some .cell):∀{names:List (Str×NameKind)},names.lookup y=some .free->
 (names.map λ(n,k)=>if (k==NameKind.free && env.scope.kind==.function && env.kindOf n==some .cell) then (n,NameKind.cell) else (n,k)).lookup y=some .cell
 |[],h=>by simp at h
 |(n,k)::r,h=>by
  have ih:=@c9 env hf y hy r;show List.lookup y ((if (k==NameKind.free && env.scope.kind==.function && env.kindOf n==some .cell)=true then (n,NameKind.cell) else (n,k))::_)=_
  cases hx:y==n with
  |true=>
   simp only[ahM,hx]at h;have e:y=n:=eq_of_beq hx;subst e;cases h;have hc:(NameKind.free==NameKind.free && env.scope.kind==.function && env.kindOf y==some .cell)=true:=by rw[hf,hy];rfl
   rw[ahu hc];simp only[ahM,hx]
  |false=>
   simp only[ahM,hx]at h;by_cases hc:(k==NameKind.free && env.scope.kind==.function && env.kindOf n==some .cell)=true
   ·rw[ahu hc];simp only[ahM,hx];exact ih h
   ·rw[ahq hc];simp only[ahM,hx];exact ih h
theorem fe {X:Cx}{x y:Str}{scope:Scope}{c:Addr}{i:Nat}(yX:closureFor scope X.env=pure [(y,c)])(hy:X.env.cells.lookup y=some c)(hc:∀z∈scope.names,z.2≠.cell)(hk:scope.kind=.function)
 (hn:∀z∈scope.names,z.2=.local->scope.names.lookup z.1=some .local) (hx:scope.names.lookup x=some .local) (lB:∀z∈scope.names,z.2=.free->z.1=y) (gI:x≠y) (hi:X.N[i]?=some y)
 (Bp:X.env.kindOf y=some .cell) (Bq:X.env.scope.kind=.function) (JD:scope.names.lookup y=some .free):fi X x [y] [i] scope [(y,c)] where
 Dq:=yX
 sub:=λz d h=>by
  by_cases e:z=y
  ·subst e;have:c=d:=by simpa [ahM] using h
   rw[←this];exact hy
  ·have hb:(z==y)=false:=aho.mpr e;simp[ahM,hb]at h
 cell:=hc
 kind:=hk
 names:=hn
 own:=hx
 has:=λz h=>by
  have e:z=y:=by
   rcases h with h|h
   ·exact lB _ (i3 h (.inl rfl) hc) rfl
   ·exact lB _ (i3 h (.inr rfl) hc) rfl
  subst e;exact⟨c,by simp[ahM]⟩
 nd:=by simp[gI]
 len:=rfl
 at_:=λj z h=>by
  cases j with
  |zero=>
   have e:y=z:=by simpa using h
   subst e;exact⟨i,rfl,hi,.inl Bp,c,by simp[ahM],.inl (c9 Bq Bp JD)⟩
  |succ j=>simp at h
namespace Rv
theorem JF:Slot "reversed" "__init__" "object.__init__":=
 .of (owner:="object") (n:="__init__") (by rw[typeLookup_type,ajE];kernel_rfl) (by decide +kernel) (by decide +kernel) (by decide +kernel)
  (by first|exact .inl (by decide +kernel)|exact .inr (by decide +kernel)) (by rw[isSubtype_type];kernel_rfl)
theorem called:TypeCalled "reversed" "reversed.__new__" "object.__init__":=
 ⟨by decide +kernel,by decide +kernel,⟨_,_,PySem.F.mro_reversed⟩,PySem.F.made_reversed,by decide +kernel,by rw[isSubtype_type];kernel_rfl,JF⟩
def afX (h:Heap)(it t:Addr)(i:Int):Prop:=∃o,h.get? it=some o/\o.cls=.type "reversed"/\o.data=.fields #[.ref t,rawInt i]
end Rv
def ao (ns:List Int):List V:=ns.map V.int
theorem bZ {ns:List Int}{i:Nat}{z:Int}(h:ns[i]?=some z):(ao ns)[i]?=some (V.int z):=by
 unfold ao;rw[ahw,h];rfl
theorem bh (ns:List Int):(ao ns).length=ns.length:=ahl ..
theorem dN {ns:List Int}{i:Nat}{v:V}(h:(ao ns)[i]?=some v):∃z,v=V.int z/\ns[i]?=some z:=by
 unfold ao at h;rw[ahw]at h
 cases e:ns[i]? with
 |none=>rw[e]at h;cases h
 |some z=>rw[e]at h;exact⟨z,(Za0 h).symm,rfl⟩
theorem ints_app (a b:List Int):ao (a++b)=ao a++ao b:=ahO ..
theorem all_eq (ns ms:List Int):((List.range (min ns.length ms.length)).all (λj=>decide (ns[j]?=ms[j]?)) && ns.length==ms.length)=decide (ns=ms):=by
 rw[ah4,aiN,List.all_eq_true,ahQ,aka];constructor
 ·rintro ⟨h1,h2⟩;refine ajm λi=>?_
  by_cases hi:i<ns.length
  ·exact ahB (h1 i (air.mpr (by omega)))
  ·rw[ahR (by omega),ahR (by omega)]
 ·rintro rfl;exact⟨λj _=>ahy rfl,rfl⟩
section
variable {X:Cx}
theorem Gu {A:Around}{s:Shared}{ns ms:List Int}{its dg:List Value}(r1:Vals (ao ns) its)(r2:Vals (ao ms) dg)(j:Nat)(h1:j<its.toArray.size)(h2:j<dg.toArray.size):
 SeqAt.EqAt A s its.toArray[j] dg.toArray[j] (decide (ns[j]?=ms[j]?)):=by
 have l1:=r1.length;have l2:=r2.length;rw[bh]at l1 l2;have g1:j<its.length:=by simpa using h1
 have g2:j<dg.length:=by simpa using h2
 have e1:ns[j]?=some ns[j]:=ahc (by omega)
 have e2:ms[j]?=some ms[j]:=ahc (by omega)
 obtain⟨u,hu,t,rfl⟩:=r1.get (bZ e1);obtain⟨v,hv,t',rfl⟩:=r2.get (bZ e2)
 have f1:its.toArray[j]=Value.int ns[j] t:=by
  rw[aiu];exact Za0 ((ahc g1).symm.trans hu)
 have f2:dg.toArray[j]=Value.int ms[j] t':=by
  rw[aiu];exact Za0 ((ahc g2).symm.trans hv)
 rw[f1,f2,e1,e2];have:=SeqAt.EqAt.int_int (A:=A) (s:=s) ns[j] t ms[j] t'
 have e:decide (some ns[j]=some ms[j])=(ns[j]==ms[j]):=by
  rw[ah4,ahQ,aka];exact⟨Za0,ah6 some⟩
 rw[e];exact this
def abE (K:Za1):List V->Hp->VK->Prop:=λxs H Q=>∃x T t b,xs=[x,.ty T]/\mR K H x t/\PySem.W.kitOne K t (.type T)=some b/\Q (.bl b) H
theorem eT:lD X (.builtin "isinstance") (abE X.K):=by
 intro pins s σ H xs us Q I r h;obtain⟨x,T,t,b,rfl,ty,e,q⟩:=h;obtain⟨u,w',rfl,rx,ry⟩:=vals2 r;cases ry;exact Jp I rx ty e λtk=>⟨.bl b,H,I.tok tk,rfl,q⟩
theorem mU (K:Za1)(T:String):PySem.W.kitOne K (.type T) (.type T)=some true:=by
 unfold PySem.W.kitOne;rw[ahu (beq_self_eq_true _)]
theorem Ds (K:Za1):PySem.W.kitOne K (.type "int") (.type "bool")=some false:=by
 first|rfl|kernel_rfl|decide +kernel
end
theorem au.upd {H:Hp}{a:Addr}{o:HO}(h:H a=Option.none):au H (upd H a o):=λb u e=>by
 rw[av (aI e h)];exact e
section
variable {X:Cx}
def SV:R2:=λx y H Q=>∃a b xs ys,x=.ref a/\y=.ref b/\H a=some (.tup xs)/\H b=some (.tup ys)/\xs.length+ ys.length<=sizeLine/\
 ∀p H',au H H'->H' p=some (.tup (xs++ys))->Q (.ref p) H'
theorem L7 {prog:Program}{w:World}{A:Around}{E:Value->Shared->Prop}{s:Shared}{t b:Addr}{ws:List Value}{Q:Value->Shared->Prop}(ht:IsTup s.heap t ([]:List Value).toArray)(hb:IsTup s.heap b ws.toArray)
 (h:Q (.ref b) s):wpAny (model prog w) A (binaryOp .Add (.ref t) (.ref b)) Q E s:=by
 obtain⟨⟨cls,dd,data,sl⟩,ho,hc,n,hd⟩:=id ht;obtain⟨⟨abr,N4,data2,N5⟩,iU,lH,n2,hd2⟩:=id hb;simp only at hc hd lH hd2;subst hc hd lH hd2
 exact concat_meets ⟨_,ho,rfl⟩ ⟨_,iU,rfl⟩ noFill_tuple_add seq_tuple_add aj6 ajY (ajW _ _)
  (tuple_addW0 t b ([]:List Value).toArray ws.toArray n n2 dd N4 sl N5 rfl) ⟨ho,iU,h⟩
theorem L8:gH X (binaryOp .Add) SV:=by
 intro pins s σ H x y v u Q I rx ry h;obtain⟨a,b,xs,ys,rfl,rfl,ha,hb,hz,q⟩:=h;by_cases hx:xs=[]
 ·subst hx;cases rx;cases ry;obtain⟨its,r1,p1,_⟩:=I.tuple (bL.of ha);obtain⟨dg,r2,p2,_⟩:=I.tuple (bL.of hb);have e:its=[]:=r1.wI.mpr rfl;subst e;exact L7 p1 p2 ⟨.ref b,H,I,rfl,q b H (au.refl H) hb⟩
 ·refine Qu pins s σ H (.ref a) (.ref b) v u Q I rx ry ⟨a,b,xs,ys,rfl,rfl,bL.of ha,bL.of hb,hx,hz,λe=>?_,λ_ p hp=>q p _ (au.upd hp) aj⟩;subst e;exact q a H (au.refl H) (by rw[ahU];exact ha)
def W8:V->Option Int->Option Int->Hp->VK->Prop:=λx lo hi H Q=>∃a xs,x=.ref a/\H a=some (.tup xs)/\∀p H',au H H'->H' p=some (.tup (i7 xs lo hi))->Q (.ref p) H'
end
end L2
namespace HT
open PySem PyProof.Rows
section
variable {prog:Program}{w:World}{A:Around}{E:Value->Shared->Prop}{s:Shared}
theorem u0 {t sl:Addr}{items:Array Value}{vl vu:Value}{lo hi:Option Int}{Q:Value->Shared->Prop}(ht:IsTup s.heap t items)(hs:s.heap.IsSliceOf sl vl vu .none)(pl:IsPart vl lo)(pu:IsPart vu hi)
 (hw:cw items.size 0 lo=0/\cw items.size items.size hi=items.size) (h:Q (.ref t) s):wpAny (model prog w) A (getItem (.ref t) (.ref sl)) Q E s:=by
 obtain⟨os,Dh,Gj,vo⟩:=id hs;have Sx:s.TypeIs (.ref sl) "slice":=⟨os,Dh,Gj⟩;unfold getItem
 try with_reducible refine aiz ?_
 first|refine ahb (ahk ?_)|skip
 refine ahb (wpAny_sequenceKey ht.typeIs (by decide) ?_)
 refine ahb (ah7 (name:=Str.ofString "__getitem__") ht.typeIs aii
  (aib aii ht.typeIs entry_tuple_getitem ?_ (args_tuple_getitem _ _)))
 show wpAny _ _ (Builtin.Tuple.tupleItemsOf (.ref t) >>=_) _ _ s;refine ahb (tupleItemsOf_ ht ?_);refine ahb (ajD Sx ?_);rw[ahu (by decide)];refine ahb (qo hs pl pu ?_);rw[hw.1,hw.2];have abF:((((0:Nat):Int)==0 && (1:Int)==1 && (items.size - 0)==items.size)=true):=by simp
 show wpAny _ _ (if (((0:Nat):Int)==0 && (1:Int)==1 && (items.size - 0)==items.size)=true then _ else _) _ _ s;rw[ahu abF];obtain⟨ot,hot,hct,_⟩:=id ht;refine ahb (m:=Builtin.Tuple.tupleIsExact _) ?_;unfold Builtin.Tuple.tupleIsExact;refine ahb (ajD ht.typeIs (ahk ?_));show wpAny _ _ (if (Value.type "tuple"==Value.type "tuple")=true then _ else _) _ _ s;rw[ahu (by decide)];exact ahb (wpAny_rule (ahk ⟨_,rfl,ahk h⟩))
end
end HT
namespace L2
open PySem PySem.Spec PyProof.Rows
section
variable {X:Cx}{lo hi:Option Expr}
theorem Du:N6 X W8:=by
 intro pins s σ H x v vl vu lo hi sl Q I rx hs pl pu h;obtain⟨a,xs,rfl,hx,q⟩:=h;by_cases hw:HT.cw xs.length 0 lo=0/\HT.cw xs.length xs.length hi=xs.length
 ·cases rx;obtain⟨its,r,ht,hz⟩:=I.tuple (bL.of hx);have hlen:its.toArray.size=xs.length:=by rw[ahm];exact r.length.symm
  refine⟨"tuple",_,aii.lookup,ht.typeIs,?_⟩;refine HT.u0 ht hs pl pu (by rw[hlen];exact hw) ⟨.ref a,H,I,rfl,q a H (au.refl H) ?_⟩;unfold i7;rw[hw.1,hw.2,List.drop_zero,Nat.sub_zero,aik];exact hx
 ·exact Sy pins s σ H (.ref a) v vl vu lo hi sl Q I rx hs pl pu ⟨a,xs,rfl,bL.of hx,hw,λp hp=>q p _ (au.upd hp) aj⟩
end
def tx (l:List Nat):Str:=⟨l.toArray⟩
theorem SW {a b:List Nat}(h:tx a=tx b):a=b:=by
 have:=ah6 (λs:Str=>s.cps.toList) h;exact this
section
variable {X:Cx}{pos:Pos}
theorem jF {x:Str}{l:List Nat}{j}(h:x=tx l):PE X (.Constant (.str x) j pos) (tC (.str (tx l))):=by
 rw[←h];exact RZ
end
structure Def (K:Za1) (mg:Str->Option Value) (x:Str) (st:Stmt) (ps:List Str) (f:Addr) (fd:FuncData):Prop where
 F:Dl K x x st f fd
 m:mg x=some (.ref f)
 b:Binds K fd ps []
theorem ub (ns:List Int)(lo hi:Option Int):i7 (ao ns) lo hi=ao ((ns.drop (HT.cw ns.length 0 lo)).take (HT.cw ns.length ns.length hi - HT.cw ns.length 0 lo)):=by
 unfold i7 ao;rw[ahl,List.map_take,List.map_drop]
section
variable {κ:Type} [DecidableEq κ]
def bM (kvs:List (κ×V))(k:κ):Option V:=(kvs.find? λkv=>decide (kv.1=k)).map (·.2)
def putK (kvs:List (κ×V))(k:κ)(v:V):List (κ×V):=
 if (kvs.any λkv=>decide (kv.1=k))=true then kvs.map (λkv=>if kv.1=k then (kv.1,v) else kv) else kvs++[(k,v)]
def fI (kvs:List (κ×V))(k:κ):List (κ×V):=kvs.filter λkv=>decide (kv.1≠k)
theorem di {p:κ×V}{r:List (κ×V)}{k:κ}(e:p.1=k):bM (p::r) k=some p.2:=by simp[bM,ajF,e]
theorem da {p:κ×V}{r:List (κ×V)}{k:κ}(e:¬p.1=k):bM (p::r) k=bM r k:=by simp[bM,ajF,e]
theorem qu (k:κ):∀kvs:List (κ×V),(kvs.any λkv=>decide (kv.1=k))=(bM kvs k).isSome
 |[]=>rfl
 |p::r=>by
  rw[List.any_cons];by_cases e:p.1=k
  ·simp only[di e,ahy e,Bool.true_or,Option.isSome_some]
  ·rw[da e,ah1 e,Bool.false_or];exact qu k r
theorem Dv (k j:κ)(y:V):∀kvs:List (κ×V),bM (kvs.map λkv=>if kv.1=k then (kv.1,y) else kv) j=(bM kvs j).map λx=>if j=k then y else x
 |[]=>rfl
 |p::r=>by
  have ih:=Dv k j y r;rw[ahY];by_cases h:p.1=k
  ·rw[ahu h];by_cases e:p.1=j
   ·rw[di (p:=(p.1,y)) e,di e,Option.map_some,ahu (e.symm.trans h)]
   ·rw[da (p:=(p.1,y)) e,da e,ih]
  ·rw[ahq h];by_cases e:p.1=j
   ·rw[di (p:=p) e,di e,Option.map_some,ahq (λz=>h (e.trans z))]
   ·rw[da (p:=p) e,da e,ih]
theorem Br (k j:κ)(y:V):∀kvs:List (κ×V),bM kvs k=none->bM (kvs++[(k,y)]) j=if j=k then some y else bM kvs j
 |[],_=>by
  by_cases e:k=j
  ·rw[ahu e.symm];exact di (p:=(k,y)) e
  ·rw[ahq (λz=>e z.symm)];exact da (p:=(k,y)) e
 |p::r,hn=>by
  rw[List.cons_append];have hk:¬p.1=k:=λz=>by rw[di z]at hn;cases hn
  rw[da hk]at hn;have ih:=Br k j y r hn;by_cases e:p.1=j
  ·rw[di e,di e,ahq (λz=>hk (e.trans z))]
  ·rw[da e,da e,ih]
theorem qv (kvs:List (κ×V))(k j:κ)(y:V):bM (putK kvs k y) j=if j=k then some y else bM kvs j:=by
 unfold putK;by_cases a:(kvs.any λkv=>decide (kv.1=k))=true
 ·rw[ahu a,Dv];rw[qu]at a;by_cases e:j=k
  ·obtain⟨x,hx⟩:=aio.mp a;rw[ahu e,e,hx,Option.map_some,ahu rfl]
  ·rw[ahq e]
   cases bM kvs j with
   |none=>rfl
   |some x=>rw[Option.map_some,ahq e]
 ·rw[ahq a];refine Br k j y kvs ?_;rw[qu]at a
  cases q:bM kvs k with
  |none=>rfl
  |some x=>rw[q]at a;exact(a rfl).elim
theorem dH (kvs:List (κ×V))(k:κ)(v:V):(putK kvs k v).length<=kvs.length+ 1:=by
 unfold putK;split
 ·rw[ahl];omega
 ·rw[ahe,ahE,ajZ];omega
theorem Dw {kvs:List (κ×V)}{k:κ}(v:V)(h:bM kvs k=none):putK kvs k v=kvs++[(k,v)]:=by
 unfold putK;rw[qu,h];exact ahq (by decide)
theorem gQ.oC {o:Option V}{u:Option Value}(r:gQ o u):o.isSome=u.isSome:=by
 cases o with
 |none=>cases u with
  |none=>rfl
  |some _=>exact(show False from r).elim
 |some _=>cases u with
  |none=>exact(show False from r).elim
  |some _=>rfl
theorem gQ.getD {o:Option V}{u:Option Value}{d:V}{d':Value}(r:gQ o u)(rd:RelV d d'):RelV (o.getD d) (u.getD d'):=by
 cases o with
 |none=>cases u with
  |none=>exact rd
  |some _=>exact(show False from r).elim
 |some _=>cases u with
  |none=>exact(show False from r).elim
  |some _=>exact r
theorem KV.val {kvs:List (κ×V)}{vs:List (κ×Value)}(r:KV kvs vs)(k:κ):gQ (bM kvs k) (valueAt vs k):=by
 unfold KV at r
 induction r with
 |nil=>exact True.intro
 | @cons p q ps qs h t ih=>
   obtain⟨h1,h2⟩:=h;by_cases e:p.1=k
   ·have e':q.1=k:=h1.symm.trans e;have b:valueAt (q::qs) k=some q.2:=by simp[valueAt,ajF,e']
    rw[di e,b];exact h2
   ·have e':¬q.1=k:=λz=>e (h1.trans z)
    have b:valueAt (q::qs) k=valueAt qs k:=by simp[valueAt,ajF,e']
    rw[da e,b];exact ih
theorem KV.any {kvs:List (κ×V)}{vs:List (κ×Value)}(r:KV kvs vs)(k:κ):(kvs.any λkv=>decide (kv.1=k))=vs.any λkv=>decide (kv.1=k):=by
 unfold KV at r
 induction r with
 |nil=>rfl
 |cons h t ih=>rw[List.any_cons,List.any_cons,ih,h.1]
theorem KV.repl {kvs:List (κ×V)}{vs:List (κ×Value)}(r:KV kvs vs)(k:κ){y:V}{u:Value}(ry:RelV y u):
 KV (kvs.map λkv=>if kv.1=k then (kv.1,y) else kv) (vs.map λkv=>if kv.1=k then (kv.1,u) else kv):=by
 unfold KV at r ⊢
 induction r with
 |nil=>exact .nil
 | @cons p q ps qs h t ih=>
   rw[ahY,ahY];refine .cons ?_ ih;obtain⟨h1,h2⟩:=h;by_cases e:p.1=k
   ·rw[ahu e,ahu (h1.symm.trans e)];exact⟨h1,ry⟩
   ·rw[ahq e,ahq (λz=>e (h1.trans z))];exact⟨h1,h2⟩
theorem KV.put {kvs:List (κ×V)}{vs:List (κ×Value)}(r:KV kvs vs)(k:κ){y:V}{u:Value}(ry:RelV y u):KV (putK kvs k y) (stored vs k u):=by
 unfold putK stored;rw[r.any k];by_cases e:(vs.any λkv=>decide (kv.1=k))=true
 ·rw[ahu e,ahu e];exact r.repl k ry
 ·rw[ahq e,ahq e];exact Paired.snoc r ⟨rfl,ry⟩
theorem KV.drop {kvs:List (κ×V)}{vs:List (κ×Value)}(r:KV kvs vs)(k:κ):KV (fI kvs k) (without vs k):=by
 unfold KV at r ⊢;unfold fI without
 induction r with
 |nil=>exact .nil
 | @cons p q ps qs h t ih=>
   obtain⟨h1,h2⟩:=h;rw[List.filter_cons,List.filter_cons];by_cases e:p.1=k
   ·have a:¬decide (p.1≠k)=true:=by simp[e]
    have b:¬decide (q.1≠k)=true:=by simp[h1.symm.trans e]
    rw[ahq a,ahq b];exact ih
   ·have e':¬q.1=k:=λz=>e (h1.trans z)
    have a:decide (p.1≠k)=true:=by simp[e]
    have b:decide (q.1≠k)=true:=by simp[e']
    rw[ahu a,ahu b];exact .cons ⟨h1,h2⟩ ih
theorem KV.length {kvs:List (κ×V)}{vs:List (κ×Value)}(r:KV kvs vs):kvs.length=vs.length:=Paired.length r
theorem L9 (kvs:List (κ×V))(k:κ):(fI kvs k).length<=kvs.length:=aiT _ _
end
theorem lK {P:Program}{w:World}{k:Key}{u:Value}(r:RelV (kV k) u):(b9 P w).is k u=true:=by
 cases k with
 |inl i=>obtain⟨t,e⟩:=(show ∃t,u=Value.int i t from r);subst e;exact FJ P w i t
 |inr x=>obtain⟨t,e⟩:=(show ∃t,u=Value.str x t from r);subst e;exact FK P w x t
theorem Bs {P:Program}{w:World}:∀{ks:List Key} {us:List Value},Vals (ks.map kV) us->ItemsAre (b9 P w) ks us
 |[],_,r=>by rw[List.map_nil]at r;cases r;exact .nil
 |k::ks,_,r=>by
  rw[ahY]at r
  cases r with
  |cons h t=>exact .cons (lK h) (Bs t)
abbrev KT (H:Hp):List (List Key×V)->List (List Key×Addr×Value)->Prop:=Paired λp q=>p.1=q.1/\H q.2.1=some (.tup (p.1.map kV))/\RelV p.2 q.2.2
theorem KT.val {H:Hp}{kvs:List (List Key×V)}{xs:List (List Key×Addr×Value)}(r:KT H kvs xs)(k:List Key):gQ (bM kvs k) ((atKey xs k).map (·.2)):=by
 induction r with
 |nil=>exact True.intro
 | @cons p q ps qs h t ih=>
   obtain⟨h1,_,h2⟩:=h;by_cases e:p.1=k
   ·have e':q.1=k:=h1.symm.trans e;have b:atKey (q::qs) k=some q.2:=by simp[atKey,ajF,e']
    rw[di e,b];exact h2
   ·have e':¬q.1=k:=λz=>e (h1.trans z)
    have b:atKey (q::qs) k=atKey qs k:=by simp[atKey,ajF,e']
    rw[da e,b];exact ih
theorem KT.repl {H:Hp}{kvs:List (List Key×V)}{xs:List (List Key×Addr×Value)}(r:KT H kvs xs)(k:List Key){y:V}{u:Value}(ry:RelV y u):
 KT H (kvs.map λkv=>if kv.1=k then (kv.1,y) else kv) (xs.map (putAt k u)):=by
 induction r with
 |nil=>exact .nil
 | @cons p q ps qs h t ih=>
   rw[ahY,ahY];refine .cons ?_ ih;obtain⟨h1,h2,h3⟩:=h;unfold putAt;by_cases e:p.1=k
   ·rw[ahu e,ahu (h1.symm.trans e)];exact⟨h1,h2,ry⟩
   ·rw[ahq e,ahq (λz=>e (h1.trans z))];exact⟨h1,h2,h3⟩
theorem KT.put {H:Hp}{kvs:List (List Key×V)}{xs:List (List Key×Addr×Value)}(r:KT H kvs xs)(k:List Key){b:Addr}{y:V}{u:Value}(hb:H b=some (.tup (k.map kV)))(ry:RelV y u):
 KT H (putK kvs k y) (storedH xs k b u):=by
 have e:(kvs.any λkv=>decide (kv.1=k))=(atKey xs k).isSome:=by
  rw[qu,(r.val k).oC,Option.isSome_map]
 unfold putK storedH;rw[e];by_cases q:(atKey xs k).isSome=true
 ·rw[ahu q,ahu q];exact r.repl k ry
 ·rw[ahq q,ahq q];exact Paired.snoc r ⟨rfl,hb,ry⟩
theorem KT.keeps {H H':Hp}{kvs:List (List Key×V)}{xs:List (List Key×Addr×Value)}(r:KT H kvs xs)(ht:∀b ys,H b=some (.tup ys)->H' b=some (.tup ys)):KT H' kvs xs:=
 Paired.LN r λ_ _ z=>⟨z.1,ht _ _ z.2.1,z.2.2⟩
section
variable {P:Program}{w:World}{H:Hp}{h:Heap}{a:Addr}
theorem N9 {u:HO}(ok:fw P w H h)(e:Rd H a u):cK P w H h a u:=e.ok ok
theorem rK {kvs:List (Key×V)}(ok:fw P w H h)(e:Rd H a (.dK kvs)):kvs.length<=sizeLine/\(a==sysModules)=false/\∃vs,KV kvs vs/\h.DictOf (b9 P w) a vs:=
 show cK P w H h a (.dK kvs) from N9 ok e
theorem yZ {kvs:List (Key×V)}(ok:fw P w H h)(e:H a=some (.dK kvs)):kvs.length<=sizeLine/\(a==sysModules)=false/\∃vs,KV kvs vs/\h.DictOf (b9 P w) a vs:=rK ok (.inl e)
theorem oE {ks:List Key}(ok:fw P w H h)(e:H a=some (.tup (ks.map kV))):(tupleKind (b9 P w)).is h ks a:=by
 obtain⟨_,its,r,o,h1,h2,n,h3⟩:=(show cK P w H h a (.tup (ks.map kV)) from ok a _ e);exact⟨o,its.toArray,n,h1,h2,h3,by simpa using Bs r⟩
theorem rL {kvs:List (List Key×V)}(ok:fw P w H h)(e:Rd H a (.dT kvs)):kvs.length<=sizeLine/\(a==sysModules)=false/\
 ∃xs,KT H kvs xs/\h.DictOfH (tupleKind (b9 P w)) a xs:=by
 obtain⟨z,y,xs,r,o,es,ep,h1,h2,h3,h4,h5⟩:=(show cK P w H h a (.dT kvs) from N9 ok e);refine⟨z,y,xs,r,o,es,ep,h1,h2,h3,h4,λx hx=>?_,h5⟩
 have all:∀{l:List (List Key×V)} {m:List (List Key×Addr×Value)},KT H l m->∀x∈m,(tupleKind (b9 P w)).is h x.1 x.2.1:=by
  intro l m q
  induction q with
  |nil=>intro x hx;exact nomatch hx
  | @cons p q ps qs hq t ih=>
    intro x hx;rcases ahp.mp hx with e|hx
    ·subst e;exact oE ok (by rw[←hq.1];exact hq.2.1)
    ·exact ih x hx
 exact all r x hx
theorem HW {kvs:List (List Key×V)}(ok:fw P w H h)(e:H a=some (.dT kvs)):kvs.length<=sizeLine/\(a==sysModules)=false/\
 ∃xs,KT H kvs xs/\h.DictOfH (tupleKind (b9 P w)) a xs:=rL ok (.inl e)
end
def dB (H:Hp)(a:Addr)(y:V)(r:Option V):Prop:=
 (∃kvs k,Rd H a (.dK kvs)/\y=kV k/\r=bM kvs k)\/∃kvs k b,Rd H a (.dT kvs)/\y=.ref b/\H b=some (.tup (k.map kV))/\r=bM kvs k
def kz (H:Hp)(a:Addr)(y v:V)(H':Hp):Prop:=
 (∃kvs k,H a=some (.dK kvs)/\y=kV k/\kvs.length<sizeLine/\H'=upd H a (.dK (putK kvs k v)))\/
 ∃kvs k b,H a=some (.dT kvs)/\y=.ref b/\H b=some (.tup (k.map kV))/\kvs.length<sizeLine/\H'=upd H a (.dT (putK kvs k v))
theorem dB.k {H:Hp}{a:Addr}{kvs:List (Key×V)}{k:Key}(e:H a=some (.dK kvs)):dB H a (kV k) (bM kvs k):=.inl ⟨kvs,k,.inl e,rfl,rfl⟩
theorem dB.t {H:Hp}{a b:Addr}{kvs:List (List Key×V)}{k:List Key}(e:H a=some (.dT kvs))(eb:H b=some (.tup (k.map kV))):dB H a (.ref b) (bM kvs k):=.inr ⟨kvs,k,b,.inl e,rfl,eb,rfl⟩
theorem kz.k {H:Hp}{a:Addr}{kvs:List (Key×V)}{k:Key}{v:V}(e:H a=some (.dK kvs))(hl:kvs.length<sizeLine):kz H a (kV k) v (upd H a (.dK (putK kvs k v))):=.inl ⟨kvs,k,e,rfl,hl,rfl⟩
theorem kz.t {H:Hp}{a b:Addr}{kvs:List (List Key×V)}{k:List Key}{v:V}(e:H a=some (.dT kvs))(eb:H b=some (.tup (k.map kV)))(hl:kvs.length<sizeLine):
 kz H a (.ref b) v (upd H a (.dT (putK kvs k v))):=.inr ⟨kvs,k,b,e,rfl,eb,hl,rfl⟩
section
variable {X:Cx}{pins:List (Addr×Obj)}{σ:St}{H:Hp}{s:Shared}{a:Addr}{y v:V}{u r:Value}{o:Option V}{A:Around}{E:Value->Shared->Prop}
theorem Inv.big (I:Inv X pins σ H s):sysModules<s.heap.objs.size:=by
 have h:mainGlobals<s.heap.objs.size:=(I.mod.glob.keeps I.bk).lt;exact ajX (by decide) h
theorem JG {Q:Value->Shared->Prop}(hu:A.units+ 1<cLine)(I:Inv X pins σ H s)(g:dB H a y (some v))(ry:RelV y u)(h:∀w' s',Inv X pins σ H s'->RelV v w'->Q w' s'):
 wpAny (model X.prog X.w) A (getItem (.ref a) u) Q E s:=by
 rcases g with ⟨kvs,k,e,ey,l⟩|⟨kvs,k,b,e,ey,eb,l⟩
 ·subst ey;obtain⟨z,hd,vs,rel,dd⟩:=rK I.bu e;obtain⟨w',hw,lI⟩:=gQ.some_of (v:=v) (o:=valueAt vs k) (by rw[l];exact rel.val k);exact wpAny_getItem_of (lK ry) dd.mapOf hw (h w' _ (I.tok _) lI)
 ·subst ey;cases (show u=Value.ref b from ry);obtain⟨z,hd,xs,rel,dd⟩:=rL I.bu e;obtain⟨w',hw,lI⟩:=gQ.some_of (v:=v) (o:=(atKey xs k).map (·.2)) (by rw[l];exact rel.val k);obtain⟨p,hp,JH⟩:=aim.mp hw;refine wpAny_getItem_heap (aiY hu) (oE I.bu eb) dd hp ?_;rw[JH];exact h w' _ (I.tok _) lI
theorem abG {Q:Value->Shared->Prop}(hu:A.units+ 1<cLine)(I:Inv X pins σ H s)(g:dB H a y o)(ry:RelV y u)(h:∀s',Inv X pins σ H s'->Q (.bool o.isSome) s'):
 wpAny (model X.prog X.w) A (compareOp .In u (.ref a)) Q E s:=by
 rcases g with ⟨kvs,k,e,ey,l⟩|⟨kvs,k,b,e,ey,eb,l⟩
 ·subst ey;obtain⟨z,hd,vs,rel,dd⟩:=rK I.bu e;refine wpAny_in_of (lK ry) hd dd.mapOf ?_;rw[←(rel.val k).oC,←l];exact h _ (I.tok _)
 ·subst ey;cases (show u=Value.ref b from ry);obtain⟨z,hd,xs,rel,dd⟩:=rL I.bu e;refine wpAny_in_heap (aiY hu) (oE I.bu eb) hd dd ?_;have q:=(rel.val k).oC;rw[Option.isSome_map]at q;rw[←q,←l];exact h _ (I.tok _)
theorem Qy {Q:Value->Shared->Prop}(hu:A.units+ 1<cLine)(I:Inv X pins σ H s)(g:dB H a y o)(ry:RelV y u)(h:∀s',Inv X pins σ H s'->Q (.bool (!o.isSome)) s'):
 wpAny (model X.prog X.w) A (compareOp .NotIn u (.ref a)) Q E s:=by
 rcases g with ⟨kvs,k,e,ey,l⟩|⟨kvs,k,b,e,ey,eb,l⟩
 ·subst ey;obtain⟨z,hd,vs,rel,dd⟩:=rK I.bu e;refine wpAny_notIn_of (lK ry) hd dd.mapOf ?_;rw[←(rel.val k).oC,←l];exact h _ (I.tok _)
 ·subst ey;cases (show u=Value.ref b from ry);obtain⟨z,hd,xs,rel,dd⟩:=rL I.bu e;refine wpAny_notIn_heap (aiY hu) (oE I.bu eb) hd dd ?_;have q:=(rel.val k).oC;rw[Option.isSome_map]at q;rw[←q,←l];exact h _ (I.tok _)
theorem p8 {h':Heap}{t':Nat}{ob:HO}(I:Inv X pins σ H s)(mu:xn (H a))(hs:Heap.SameBut a s.heap h')(he:∃q,h'.get? a=some q)(new:cK X.prog X.w (upd H a ob) h' a ob):
 Inv X pins σ (upd H a ob) { s with heap:=h',toks:=t' }:=
 I.write (x:=a) (e:=a) mu (.inl rfl) (λb q hb z=>(hs.2 b hb).trans z) he new
theorem y7 {P:Program}{w:World}{H':Hp}{h':Heap}{kvs:List (Key×V)}{vs:List (Key×Value)}(z:kvs.length<=sizeLine)(hd:(a==sysModules)=false)(rel:KV kvs vs)(dd:h'.DictOf (b9 P w) a vs):
 cK P w H' h' a (.dK kvs):=⟨z,hd,vs,rel,dd⟩
theorem JK {H':Hp}{Q:Unit->Shared->Prop}(hu:A.units+ 1<cLine)(I:Inv X pins σ H s)(g:kz H a y v H')(ry:RelV y u)(rv:RelV v r)(h:∀s',Inv X pins σ H' s'->Q () s'):
 wpAny (model X.prog X.w) A (setItem (.ref a) u r) Q E s:=by
 rcases g with ⟨kvs,k,e,ey,l,eH⟩|⟨kvs,k,b,e,ey,eb,l,eH⟩
 ·subst ey eH;obtain⟨z,hd,vs,rel,dd⟩:=yZ I.bu e;have hz:vs.length<=sizeLine:=by rw[←rel.length];exact z
  have hl:(putK kvs k v).length<=sizeLine:=by have:=dH kvs k v;omega
  refine wpAny_setItem_pairs (hsz:=hz) (lK ry) dd λh' uO hs=>h _ ?_
  have he:∃q,h'.get? a=some q:=let ⟨q,_,_,hq,_⟩:=uO;⟨q,hq⟩
  exact p8 I (by rw[e];exact True.intro) hs he (y7 hl hd (rel.put k rv) uO)
 ·subst ey eH;cases (show u=Value.ref b from ry);obtain⟨z,hd,xs,rel,dd⟩:=HW I.bu e;have hz:xs.length<=sizeLine:=by rw[←Paired.length rel];exact z
  have hl:(putK kvs k v).length<=sizeLine:=by have:=dH kvs k v;omega
  refine wpAny_setItem_heap (hsz:=hz) (aiY hu) (oE I.bu eb) dd λh' uO hs=>h _ ?_
  obtain⟨q,es,ep,hq,h2,h3,h4,_,h5⟩:=uO;refine p8 I (by rw[e];exact True.intro) hs ⟨q,hq⟩ ⟨hl,hd,_,(rel.put k eb rv).keeps λc ys ec=>?_,q,es,ep,hq,h2,h3,h4,h5⟩;rw[av (cX ec e (λz=>nomatch z))];exact ec
end
section
variable {X:Cx}{pins:List (Addr×Obj)}{σ:St}{H:Hp}{s:Shared}{a:Addr}{kvs:List (Key×V)}{k:Key}{u:Value}{A:Around}{E:Value->Shared->Prop}
theorem Ob {v:V}{more:List Value}{Q:Value->Shared->Prop}(I:Inv X pins σ H s)(e:H a=some (.dK kvs))(ry:RelV (kV k) u)(l:bM kvs k=some v)(hm:more=[]\/∃x,more=[x])
 (h:∀w' s',Inv X pins σ (upd H a (.dK (fI kvs k))) s'->RelV v w'->Q w' s'):wpAny (model X.prog X.w) A (call (.builtin "dict.pop") (.ref a::u::more)) Q E s:=by
 obtain⟨z,hd,vs,rel,dd⟩:=yZ I.bu e;obtain⟨w',hw,lI⟩:=gQ.some_of (v:=v) (o:=valueAt vs k) (by rw[←l];exact rel.val k)
 have hp:(keyPart u).isSome=true:=by
  cases k with
  |inl i=>obtain⟨t,q⟩:=(show ∃t,u=Value.int i t from ry);subst q;rfl
  |inr x=>obtain⟨t,q⟩:=(show ∃t,u=Value.str x t from ry);subst q;rfl
 have ha:argsOk "dict.pop" ⟨.ref a::u::more,[]⟩:=by
  rcases hm with q|⟨x,q⟩
  ·subst q;exact PySem.F.args_dict_pop_2 _ _
  ·subst q;exact PySem.F.args_dict_pop_3 _ _ _
 refine ajb ajG dd.typeIs PySem.F.entry_dict_pop ha (meets_dict_pop_there (b9 X.prog X.w) a (lK ry) more hm hp)
  ⟨vs,w',dd,by rw[←rel.length];exact z,hw,λh' uO hs=>h w' _ ?_ lI⟩
 have he:∃q,h'.get? a=some q:=let ⟨q,_,_,hq,_⟩:=uO;⟨q,hq⟩
 exact p8 I (by rw[e];exact True.intro) hs he (y7 (ahC (L9 kvs k) z) hd (rel.drop k) uO)
theorem SX {r:Value}{Q:Value->Shared->Prop}(I:Inv X pins σ H s)(e:H a=some (.dK kvs))(ry:RelV (kV k) u)(l:bM kvs k=none)(h:∀s',Inv X pins σ H s'->Q r s'):
 wpAny (model X.prog X.w) A (call (.builtin "dict.pop") [.ref a,u,r]) Q E s:=by
 obtain⟨z,hd,vs,rel,dd⟩:=yZ I.bu e;have hn:valueAt vs k=none:=gQ.none_of (by rw[←l];exact rel.val k)
 have hp:(keyPart u).isSome=true:=by
  cases k with
  |inl i=>obtain⟨t,q⟩:=(show ∃t,u=Value.int i t from ry);subst q;rfl
  |inr x=>obtain⟨t,q⟩:=(show ∃t,u=Value.str x t from ry);subst q;rfl
 exact ajb ajG dd.typeIs PySem.F.entry_dict_pop (PySem.F.args_dict_pop_3 _ _ _) (meets_dict_pop_default (b9 X.prog X.w) a (lK ry) hd hp r) ⟨vs,dd,hn,h _ (I.tok _)⟩
end
def SY (i:Expr):Prop:=∀ov iv,subscripted i false ov iv=operate [ov,iv] (getItem ov iv)
theorem Qz {prog:Program}{w:World}{A:Around}{E:Value->Shared->Prop}{s:Shared}{env:Env}{value slice:Expr}{pos:Pos}{T id:String}{Q:Value->Shared->Prop}
 (hl:typeLookup (.type T) "__getitem__"=pure (some (.builtin id))) (hs:SY slice)
 (h:wpAny (model prog w) A (eval value env) (λo bO=>wpAny (model prog w) A (eval slice env) (λi iq=>iq.TypeIs o T/\wpAny (model prog w) A (getItem o i) Q E iq) E bO) E s):
 wpAny (model prog w) A (eval (.Subscript value slice pos) env) Q E s:=by
 refine Subscript_ (aiF h (λo bO fH=>aiF fH (λi iq mS=>?_) λ_ _ x=>x) λ_ _ x=>x);obtain⟨hT,mS⟩:=mS;unfold subscriptTail;refine ahb ?_;rw[getitemInPython_of_ne hT.not_modules];refine ahb (wpAny_specialOf hT hl ?_)
 have fin:wpAny (model prog w) A (subscripted slice false o i) (λr sh=>wpAny (model prog w) A (letTemporaryGo value o r >>=λ_=>pure r) Q E sh) E iq:=by
  rw[hs o i];exact wpAny_operating (aiF mS (λr sh lJ=>ahb (wpAny_letTemporaryGo (ahk lJ))) λ_ _ x=>x)
 first
  |exact ahk (ahb fin)
  |exact ahb (ahk (ahb fin))
  |exact ahb fin
theorem FQ {X:Cx}{pins:List (Addr×Obj)}{σ:St}{H:Hp}{s:Shared}{a:Addr}{y:V}{o:Option V}(I:Inv X pins σ H s)(g:dB H a y o):s.TypeIs (.ref a) "dict":=by
 rcases g with ⟨kvs,k,e,_,_⟩|⟨kvs,k,b,e,_,_,_⟩
 ·obtain⟨_,_,vs,_,dd⟩:=rK I.bu e;exact dd.typeIs
 ·obtain⟨_,_,xs,_,dd⟩:=rL I.bu e;exact dd.typeIs
def W9 (td ty:TE):TE:=λ σ H Q=>td σ H λx H1=>ty σ H1 λy H2=>∃a v,x=.ref a/\dB H2 a y (some v)/\Q v H2
def abH (ty td:TE):TE:=λ σ H Q=>ty σ H λy H1=>td σ H1 λx H2=>∃a o,x=.ref a/\dB H2 a y o/\Q (.bl o.isSome) H2
def QB (ty td:TE):TE:=λ σ H Q=>ty σ H λy H1=>td σ H1 λx H2=>∃a o,x=.ref a/\dB H2 a y o/\Q (.bl (!o.isSome)) H2
def Xa (td ty tv:TE):TS:=λD σ H=>tv σ H λv H1=>td σ H1 λx H2=>ty σ H2 λy H3=>∃a H4,x=.ref a/\kz H3 a y v H4/\D.nx σ H4
section
variable {X:Cx}{o i value:Expr}{pos pos':Pos}{td ty tv:TE}
theorem As (hu:X.A.units+ 1<cLine)(ho:PE X o td)(hi:PE X i ty)(hs:SY i):PE X (.Subscript o i pos) (W9 td ty):=by
 intro pins s σ H Q I h;refine Qz PySem.F.slot_dict_getitem.lookup hs (bK (ho pins s σ H _ I h) λu s1 ⟨x,H1,I1,rx,q1⟩=>bK (hi pins s1 σ H1 _ I1 q1) λiv s2 ⟨y,H2,I2,ry,a,v,ex,g,q2⟩=>?_);subst ex;obtain rfl:u=Value.ref a:=rx;exact⟨FQ I2 g,JG hu I2 g ry λw' s3 I3 lI=>⟨v,H2,I3,lI,q2⟩⟩
theorem qx (hu:X.A.units+ 1<cLine)(hi:PE X i ty)(ho:PE X o td):PC X .In i o (abH ty td):=by
 intro pins s σ H Q I h;refine bK (hi pins s σ H _ I h) λiv s1 ⟨y,H1,I1,ry,q1⟩=>bK (ho pins s1 σ H1 _ I1 q1) λu s2 ⟨x,H2,I2,rx,a,ov,ex,g,q2⟩=>?_
 subst ex;obtain rfl:u=Value.ref a:=rx;exact abG hu I2 g ry λs3 I3=>⟨.bl ov.isSome,H2,I3,rfl,q2⟩
theorem Bu (hu:X.A.units+ 1<cLine)(hi:PE X i ty)(ho:PE X o td):PC X .NotIn i o (QB ty td):=by
 intro pins s σ H Q I h;refine bK (hi pins s σ H _ I h) λiv s1 ⟨y,H1,I1,ry,q1⟩=>bK (ho pins s1 σ H1 _ I1 q1) λu s2 ⟨x,H2,I2,rx,a,ov,ex,g,q2⟩=>?_
 subst ex;obtain rfl:u=Value.ref a:=rx;exact Qy hu I2 g ry λs3 I3=>⟨.bl (!ov.isSome),H2,I3,rfl,q2⟩
theorem jG (hu:X.A.units+ 1<cLine)(ho:PE X o td)(hi:PE X i ty)(hv:PE X value tv)(hs:swapsWith value (some (.Subscript o i pos')) pos.line X.env=pure false):
 PS X (.Assign [.Subscript o i pos'] value pos) (Xa td ty tv):=by
 intro pins s σ H D I h;refine wpAny_Assign_Subscript (bK (hv pins s σ H _ I h) λr s1 ⟨v,H1,I1,rv,q1⟩=>bK (ho pins s1 σ H1 _ I1 q1) λu s2 ⟨x,H2,I2,rx,q2⟩=>bK (hi pins s2 σ H2 _ I2 q2) λiv s3 ⟨y,H3,I3,ry,a,H4,ex,g,q3⟩=>?_) hs;subst ex;obtain rfl:u=Value.ref a:=rx;exact JK hu I3 g ry rv λs4 I4=>⟨σ,H4,I4,q3⟩
end
theorem Ma {P:Program}{w:World}{H:Hp}(h:Heap)(hb:sysModules<h.objs.size):cK P w H (h.push { cls:=.type "dict",data:=.dict #[] }) h.objs.size (.dK []):=
 ⟨ahT _,aho.mpr (ail (ahS hb)),[],.nil,Heap.DictOf.new h⟩
theorem Mb {P:Program}{w:World}{H:Hp}(h:Heap)(hb:sysModules<h.objs.size):cK P w H (h.push { cls:=.type "dict",data:=.dict #[] }) h.objs.size (.dT []):=
 ⟨ahT _,aho.mpr (ail (ahS hb)),[],.nil,_,#[],0,ahz _ rfl,⟨rfl,rfl,rfl⟩,rfl,rfl,ais⟩
def S7:TE:=λ_ H Q=>∀p,H p=none->Q (.ref p) (upd H p (.dK []))
def S8:TE:=λ_ H Q=>∀p,H p=none->Q (.ref p) (upd H p (.dT []))
section
variable {X:Cx}{pos:Pos}
theorem gC:PE X (.Dict [] [] pos) S7:=λpins s σ H Q I h=>
 wpAny_Dict_empty ⟨.ref s.heap.objs.size,_,I.laid (a:=s.heap.objs.size) (o:=.dK []) (t':=s.toks) (λ_ _ q=>ahj _ q) (ahi _) (Ma s.heap I.big),rfl,h _ (I.bu.fresh (ahi _))⟩
theorem uc:PE X (.Dict [] [] pos) S8:=λpins s σ H Q I h=>
 wpAny_Dict_empty ⟨.ref s.heap.objs.size,_,I.laid (a:=s.heap.objs.size) (o:=.dT []) (t':=s.toks) (λ_ _ q=>ahj _ q) (ahi _) (Mb s.heap I.big),rfl,h _ (I.bu.fresh (ahi _))⟩
end
def oF (kvs more:List (Key×V)):List (Key×V):=more.foldl (λacc kv=>putK acc kv.1 kv.2) kvs
theorem KV.merge:∀{more:List (Key×V)} {rs:List (Key×Value)} {kvs:List (Key×V)} {vs:List (Key×Value)},KV more rs->KV kvs vs->KV (oF kvs more) (merged vs rs):=by
 intro more rs kvs vs r;unfold KV at r
 induction r generalizing kvs vs with
 |nil=>intro q;exact q
 | @cons p q ps qs h t ih=>
   intro r0
   have e:KV (putK kvs p.1 p.2) (stored vs q.1 q.2):=by
    have:=r0.put p.1 h.2;rw[←h.1];exact this
   exact ih e
theorem uP:∀(more kvs:List (Key×V)),(oF kvs more).length<=kvs.length+ more.length
 |[],kvs=>by show kvs.length<=kvs.length+ 0;omega
 |p::r,kvs=>by
  have h1:=uP r (putK kvs p.1 p.2);have h2:=dH kvs p.1 p.2;show (oF (putK kvs p.1 p.2) r).length<=_;rw[ahE];omega
structure M1 (X:Cx) (o:Expr) (m:Str) (apos:Pos) (e:Expr) (cR:Pos):Prop where
 base:attributeBase o m X.env (eval o X.env)=eval o X.env
 few:((backTo cR (starEach [e] X.env)).all (λx=>!x.1) && (backToKw cR (keywordEach [] X.env)).all (λx=>x.1.isSome)
  && decide (([e]:List Expr).length+ ([]:List Keyword).length+ (if ([]:List Keyword).isEmpty then 0 else 1)<30))=true
 line:(apos.endLine==cR.line)=true
 trees:backTo cR (starEach [e] X.env)=[(false,eval e X.env)]
structure M2 (X:Cx) (o:Expr) (m:Str) (apos:Pos) (e f:Expr) (cR:Pos):Prop where
 base:attributeBase o m X.env (eval o X.env)=eval o X.env
 few:((backTo cR (starEach [e,f] X.env)).all (λx=>!x.1) && (backToKw cR (keywordEach [] X.env)).all (λx=>x.1.isSome)
  && decide (([e,f]:List Expr).length+ ([]:List Keyword).length+ (if ([]:List Keyword).isEmpty then 0 else 1)<30))=true
 line:(apos.endLine==cR.line)=true
 trees:backTo cR (starEach [e,f] X.env)=[(false,eval e X.env),(false,eval f X.env)]
def xA (H:Hp)(a:Addr):Prop:=(∃kvs,Rd H a (.dK kvs))\/∃kvs,Rd H a (.dT kvs)
theorem qy {X:Cx}{pins:List (Addr×Obj)}{σ:St}{H:Hp}{s:Shared}{a:Addr}(I:Inv X pins σ H s)(d:xA H a):
 s.TypeIs (.ref a) "dict"/\(∀b,Value.ref a=.ref b->∃ob,s.heap.get? b=some ob/\ob.dict=none)/\(a==sysModules)=false:=by
 rcases d with ⟨kvs,e⟩|⟨kvs,e⟩
 ·obtain⟨_,hd,vs,_,dd⟩:=rK I.bu e;refine⟨dd.typeIs,λb q=>?_,hd⟩;cases q;obtain⟨ob,_,_,h1,h2,_⟩:=dd;exact⟨ob,h1,h2.2.1⟩
 ·obtain⟨_,hd,xs,_,dd⟩:=rL I.bu e;refine⟨dd.typeIs,λb q=>?_,hd⟩;cases q;obtain⟨ob,_,_,h1,h2,_⟩:=dd;exact⟨ob,h1,h2.2.1⟩
section
variable {X:Cx}{pins:List (Addr×Obj)}{σ:St}{H:Hp}{s:Shared}{a:Addr}{y d:V}{u r:Value}{o:Option V}{A:Around}{E:Value->Shared->Prop}
theorem S9 {Q:Value->Shared->Prop}(hu:A.units+ 1<cLine)(I:Inv X pins σ H s)(g:dB H a y o)(ry:RelV y u)(h:∀w' s',Inv X pins σ H s'->RelV (o.getD .non) w'->Q w' s'):
 wpAny (model X.prog X.w) A (call (.builtin "dict.get") [.ref a,u]) Q E s:=by
 rcases g with ⟨kvs,k,e,ey,l⟩|⟨kvs,k,b,e,ey,eb,l⟩
 ·subst ey;obtain⟨z,hd,vs,rel,dd⟩:=rK I.bu e;refine ajb aiU dd.typeIs ajA (PySem.F.args_dict_get_2 _ _) (meets_dict_get (b9 X.prog X.w) a (lK ry) hd) ⟨_,dd.mapOf,h _ _ (I.tok _) ?_⟩;rw[l];exact(rel.val k).getD rfl
 ·subst ey;cases (show u=Value.ref b from ry);obtain⟨z,hd,xs,rel,dd⟩:=rL I.bu e;refine ajb aiU dd.typeIs ajA (PySem.F.args_dict_get_2 _ _) (meetsH_dict_get (tupleKind (b9 X.prog X.w)) a b hd) ⟨aiY hu,k,xs,oE I.bu eb,dd,h _ _ (I.tok _) ?_⟩;rw[l];exact(rel.val k).getD rfl
theorem Ta {Q:Value->Shared->Prop}(hu:A.units+ 1<cLine)(I:Inv X pins σ H s)(g:dB H a y o)(ry:RelV y u)(rd:RelV d r)(h:∀w' s',Inv X pins σ H s'->RelV (o.getD d) w'->Q w' s'):
 wpAny (model X.prog X.w) A (call (.builtin "dict.get") [.ref a,u,r]) Q E s:=by
 rcases g with ⟨kvs,k,e,ey,l⟩|⟨kvs,k,b,e,ey,eb,l⟩
 ·subst ey;obtain⟨z,hd,vs,rel,dd⟩:=rK I.bu e;refine ajb aiU dd.typeIs ajA (PySem.F.args_dict_get_3 _ _ _) (meets_dict_get_default (b9 X.prog X.w) a (lK ry) hd r) ⟨_,dd.mapOf,h _ _ (I.tok _) ?_⟩;rw[l];exact(rel.val k).getD rd
 ·subst ey;cases (show u=Value.ref b from ry);obtain⟨z,hd,xs,rel,dd⟩:=rL I.bu e;refine ajb aiU dd.typeIs ajA (PySem.F.args_dict_get_3 _ _ _) (meetsH_dict_get_default (tupleKind (b9 X.prog X.w)) a b hd r) ⟨aiY hu,k,xs,oE I.bu eb,dd,h _ _ (I.tok _) ?_⟩;rw[l];exact(rel.val k).getD rd
end
def Tb (td ty:TE):TE:=λ σ H Q=>td σ H λx H1=>∃a,x=.ref a/\xA H1 a/\ty σ H1 λy H2=>∃o,dB H2 a y o/\Q (o.getD .non) H2
def Tc (td ty tx:TE):TE:=λ σ H Q=>td σ H λx H1=>∃a,x=.ref a/\xA H1 a/\ty σ H1 λy H2=>tx σ H2 λz H3=>∃o,dB H3 a y o/\Q (o.getD z) H3
def Td (td ty:TE):TE:=λ σ H Q=>td σ H λx H1=>∃a,x=.ref a/\xA H1 a/\ty σ H1 λy H2=>∃kvs k v,H2 a=some (.dK kvs)/\y=kV k/\bM kvs k=some v/\Q v (upd H2 a (.dK (fI kvs k)))
def Te (td ty tx:TE):TE:=λ σ H Q=>td σ H λx H1=>∃a,x=.ref a/\xA H1 a/\ty σ H1 λy H2=>tx σ H2 λz H3=>∃kvs k,H3 a=some (.dK kvs)/\y=kV k/\
 (∀v,bM kvs k=some v->Q v (upd H3 a (.dK (fI kvs k))))/\(bM kvs k=none->Q z H3)
section
variable {X:Cx}{o e f:Expr}{apos cR:Pos}{td ty tx:TE}
theorem Md (hu:X.A.units+ 1<cLine)(ho:PE X o td)(he:PE X e ty)(m:M1 X o "get" apos e cR):PE X (.Call (.Attribute o "get" apos) [e] [] cR) (Tb td ty):=by
 intro pins s σ H Q I h;refine ajn m.base m.few m.line ait aiU PySem.F.type_dict_get (bK (ho pins s σ H _ I h) λu s1 ⟨x,H1,I1,rx,a,ex,d,q1⟩=>?_);subst ex;obtain rfl:u=Value.ref a:=rx;obtain⟨t1,t2,_⟩:=qy I1 d;refine⟨t1,t2,?_⟩;rw[m.trees];refine aic rfl (aiL (aij (bK (he pins s1 σ H1 _ I1 q1) λiv s2 ⟨y,H2,I2,ry,ov,g,q2⟩=>ai6 ?_)));exact S9 hu I2 g ry λw' s3 I3 lI=>⟨_,H2,I3,lI,q2⟩
theorem qA (hu:X.A.units+ 1<cLine)(ho:PE X o td)(he:PE X e ty)(hf:PE X f tx)(m:M2 X o "get" apos e f cR):PE X (.Call (.Attribute o "get" apos) [e,f] [] cR) (Tc td ty tx):=by
 intro pins s σ H Q I h;refine ajn m.base m.few m.line ait aiU PySem.F.type_dict_get (bK (ho pins s σ H _ I h) λu s1 ⟨x,H1,I1,rx,a,ex,d,q1⟩=>?_);subst ex;obtain rfl:u=Value.ref a:=rx;obtain⟨t1,t2,_⟩:=qy I1 d;refine⟨t1,t2,?_⟩;rw[m.trees]
 refine aic rfl (aiL (aij (bK (he pins s1 σ H1 _ I1 q1) λiv s2 ⟨y,H2,I2,ry,q2⟩=>
  aij (bK (hf pins s2 σ H2 _ I2 q2) λfv s3 ⟨z,H3,I3,rz,ov,g,q3⟩=>ai6 ?_))))
 exact Ta hu I3 g ry rz λw' s4 I4 lI=>⟨_,H3,I4,lI,q3⟩
theorem Mf (ho:PE X o td)(he:PE X e ty)(m:M1 X o "pop" apos e cR):PE X (.Call (.Attribute o "pop" apos) [e] [] cR) (Td td ty):=by
 intro pins s σ H Q I h;refine ajn m.base m.few m.line ait ajG PySem.F.type_dict_pop (bK (ho pins s σ H _ I h) λu s1 ⟨x,H1,I1,rx,a,ex,d,q1⟩=>?_);subst ex;obtain rfl:u=Value.ref a:=rx;obtain⟨t1,t2,_⟩:=qy I1 d;refine⟨t1,t2,?_⟩;rw[m.trees];refine aic rfl (aiL (aij (bK (he pins s1 σ H1 _ I1 q1) λiv s2 ⟨y,H2,I2,ry,kvs,k,v,ea,ey,l,q2⟩=>ai6 ?_)));subst ey;exact Ob I2 ea ry l (.inl rfl) λw' s3 I3 lI=>⟨v,_,I3,lI,q2⟩
theorem ya (ho:PE X o td)(he:PE X e ty)(hf:PE X f tx)(m:M2 X o "pop" apos e f cR):PE X (.Call (.Attribute o "pop" apos) [e,f] [] cR) (Te td ty tx):=by
 intro pins s σ H Q I h;refine ajn m.base m.few m.line ait ajG PySem.F.type_dict_pop (bK (ho pins s σ H _ I h) λu s1 ⟨x,H1,I1,rx,a,ex,d,q1⟩=>?_);subst ex;obtain rfl:u=Value.ref a:=rx;obtain⟨t1,t2,_⟩:=qy I1 d;refine⟨t1,t2,?_⟩;rw[m.trees]
 refine aic rfl (aiL (aij (bK (he pins s1 σ H1 _ I1 q1) λiv s2 ⟨y,H2,I2,ry,q2⟩=>
  aij (bK (hf pins s2 σ H2 _ I2 q2) λfv s3 ⟨z,H3,I3,rz,kvs,k,ea,ey,q3,q4⟩=>ai6 ?_))))
 subst ey
 cases l:bM kvs k with
 |some v=>exact Ob I3 ea ry l (.inr ⟨fv,rfl⟩) λw' s4 I4 lI=>⟨v,_,I4,lI,q3 v l⟩
 |none=>exact SX I3 ea ry l λs4 I4=>⟨z,H3,I4,rz,q4 l⟩
end
section
variable {X:Cx}{pins:List (Addr×Obj)}{σ:St}{H:Hp}{s:Shared}{h':Heap}
theorem Inv.ud {fp:List Addr}{a:Addr}{o:HO}{t':Nat}(I:Inv X pins σ H s)(k:∀b u,b∉fp->s.heap.get? b=some u->h'.get? b=some u)(hf:∀b∈fp,t7 X pins H b)
 (hp:s.heap.objs.size<=a) (new:cK X.prog X.w (upd H a o) h' a o):Inv X pins σ (upd H a o) { s with heap:=h',toks:=t' }:=by
 have hn:=I.bu.fresh hp;have nf:∀b u,H b=some u->b∉fp:=λb u e z=>by rw[(hf b z).1]at e;cases e
 refine I.step (g':=s.gens) (d':=s.drawn) (ch:=fp) (λb hb=>⟨(hf b hb).2.2.2.1,(hf b hb).2.1,(hf b hb).2.2.2.2.1,(hf b hb).2.2.2.2.2⟩) (λb o _ _ hc e _=>k b o hc e) (λb o _ _ hc e _=>⟨o.slots,k b o hc e⟩)
  (λb o _ e n=>by rw[av (ahS (ahP (ahA e) hp))];exact n) (λb o hc e=>⟨o,k b o hc e⟩) (λb xs e=>by rw[av (aI e hn)];exact e)
  (λb o u e=>by rw[av (aI e hn)];exact e) (λb ps e=>⟨#[],by rw[av (aI e hn),e];simp⟩) (λm hm=>?_) (λb u e=>?_) I.bare
 ·obtain⟨o,es,ep,ho,r⟩:=hm;exact⟨o,es,ep,k _ o (λz=>(hf _ z).2.1 rfl) ho,r⟩
 ·by_cases hb:b=a
  ·subst hb;rw[aj]at e;cases e;exact new
  ·rw[av hb]at e;refine(I.bu b u e).sg (λc v hc q=>k c v ?_ q) (λc q=>by rw[av (aI q hn)];exact q) λc xs q=>by rw[av (aI q hn)];exact q
   rcases hc with z|z
   ·rw[z];exact nf b u e
   ·exact nf c _ z
theorem Inv.wJ {fp:List Addr}{t':Nat}(I:Inv X pins σ H s)(k:∀b u,b∉fp->s.heap.get? b=some u->h'.get? b=some u)(hf:∀b∈fp,t7 X pins H b):Inv X pins σ H { s with heap:=h',toks:=t' }:=by
 have nf:∀b u,H b=some u->b∉fp:=λb u e z=>by rw[(hf b z).1]at e;cases e
 refine I.step (g':=s.gens) (d':=s.drawn) (ch:=fp) (λb hb=>⟨(hf b hb).2.2.2.1,(hf b hb).2.1,(hf b hb).2.2.2.2.1,(hf b hb).2.2.2.2.2⟩) (λb o _ _ hc e _=>k b o hc e) (λb o _ _ hc e _=>⟨o.slots,k b o hc e⟩)
  (λb o _ e n=>n) (λb o hc e=>⟨o,k b o hc e⟩) (λb xs e=>e) (λb o u e=>e) (λb ps e=>⟨#[],by rw[e];simp⟩) (λm hm=>?_) (λb u e=>?_) I.bare
 ·obtain⟨o,es,ep,ho,r⟩:=hm;exact⟨o,es,ep,k _ o (λz=>(hf _ z).2.1 rfl) ho,r⟩
 ·refine(I.bu b u e).sg (λc v hc q=>k c v ?_ q) (λc q=>q) λc xs q=>q
  rcases hc with z|z
  ·rw[z];exact nf b u e
  ·exact nf c _ z
end
namespace En
section
variable {prog:Program}{w:World}{A:Around}{E:Value->Shared->Prop}{s:Shared}
theorem vw {e it:Addr}{fp:List Addr}{n i:Nat}{j:Int}{P:Nat->Value->Prop}{St:Nat->Heap->Prop}{old:Value}{Q:Option Value->Shared->Prop}(D:Draws prog w A.in1 it fp n P St)
 (he:IsEnum s.heap e it j old) (cI:St i s.heap) (bU:i<n) (cF:e≠it) (XS:e∉fp)
 (hQ:∀x h' tk,P i x->IsEnumOut h' e it (j+ 1) x s.heap.objs.size->St (i+ 1) h'->h'.get? s.heap.objs.size=some { cls:=.type "tuple",data:=.seq #[.int j tk,x] }->
  (∀b o,b≠e->b≠it->s.heap.get? b=some o->h'.get? b=some o)->Q (some (.ref s.heap.objs.size)) { s with heap:=h',toks:=tk+ 1 }):
 wpAny (model prog w) A (pyNext (.ref e)) Q E s:=by
 have hT:s.TypeIs (.ref e) "enumerate":=⟨_,he,rfl⟩;unfold pyNext;refine ahb (wpAny_attempt (ah7 (name:=Str.ofString "__next__") hT ajc (aib ajc hT F.entry_enumerate_next ?_ (F.args_enumerate_next_1 _))));obtain⟨hp,g,d,afO,os⟩:=s;show wpAny _ _ (field (.ref e) 2 >>=_) _ _ _;refine ahb (aiD he rfl (x:=.ref it) rfl (ahb (D.item i _ _ _ bU cI λx fH tk Dx JL wL=>?_)));replace wL:Heap.SameBut it hp fH:=wL;have CN:IsEnum fH e it j old:=(wL.2 e cF).trans he;show wpAny _ _ (field (.ref e) 3 >>=_) _ _ ⟨fH,g,d,tk,os⟩;refine ahb (aiD CN rfl (x:=rawInt j) rfl ?_);show wpAny _ _ (field (.ref e) 4 >>=_) _ _ ⟨fH,g,d,tk,os⟩;refine ahb (aiD CN rfl (x:=.none) rfl ?_);show wpAny _ _ (mkInt j >>=_) _ _ ⟨fH,g,d,tk,os⟩;refine ahb (wpAny_mkInt ?_);show wpAny _ _ (setField (.ref e) 3 (rawInt (j+ 1)) >>=_) _ _ ⟨fH,g,d,tk+ 1,os⟩;refine ahb (ain CN (by simp) λmS CP wM=>?_);replace wM:Heap.SameBut e fH mS:=wM;replace CP:IsEnum mS e it (j+ 1) old:=CP;show wpAny _ _ (setField (.ref e) 4 .none >>=_) _ _ ⟨mS,g,d,tk+ 1,os⟩;refine ahb (ain CP (by simp) λlJ CQ wN=>?_);replace wN:Heap.SameBut e mS lJ:=wN;replace CQ:IsEnum lJ e it (j+ 1) old:=CQ;show wpAny _ _ (newTuple [.int j tk,x] >>=_) _ _ ⟨lJ,g,d,tk+ 1,os⟩;refine ahb (wpAny_newTuple ?_);have CT:IsEnum (lJ.push { cls:=.type "tuple",data:=.seq #[.int j tk,x] }) e it (j+ 1) old:=ahj _ CQ;generalize CV:lJ.push { cls:=.type "tuple",data:=.seq #[.int j tk,x] }=ua at CT;have hsz:lJ.objs.size=hp.objs.size:=by rw[wN.1,wM.1,wL.1]
 have ie:e<hp.objs.size:=ahA he;have Xb:ua.get? hp.objs.size=some { cls:=.type "tuple",data:=.seq #[.int j tk,x] }:=by rw[←CV,←hsz];exact ahz _ rfl
 have Xd:∀b o,b≠e->b≠it->hp.get? b=some o->ua.get? b=some o:=λb o jR Oc hb=>by
  rw[←CV];exact ahj _ (wN.extBut b o jR (wM.extBut b o jR (wL.extBut b o Oc hb)))
 have Tf:St (i+ 1) ua:=D.frame _ _ _ JL λb hb o y=>by
  have jR:b≠e:=λq=>XS (q ▸ hb)
  rw[←CV];exact ahj _ (wN.extBut b o jR (wM.extBut b o jR y))
 show wpAny _ _ (Builtin.SmallTypes.ownedTupleIsFree (.ref e) >>=_) _ _ ⟨ua,g,d,tk+ 1,os⟩;rw[hsz];clear CV CQ wN CP wM CN wL JL hsz lJ mS fH;refine ahb ?_;unfold Builtin.SmallTypes.ownedTupleIsFree;refine ahb (aiD CT rfl (x:=.none) rfl (ahk ?_));simp only[ajT];refine ahb (wpAny_rule (ahb (aiD CT rfl (x:=old) rfl (ahb (ain CT (by simp) λAu HX y8=>?_)))));replace y8:Heap.SameBut e ua Au:=y8;replace HX:IsEnum Au e it (j+ 1) x:=HX;show wpAny _ _ (Builtin.SmallTypes.ownedTupleHandOut (.ref e) (.ref hp.objs.size) >>=_) _ _ ⟨Au,g,d,tk+ 1,os⟩;refine ahb ?_;unfold Builtin.SmallTypes.ownedTupleHandOut;refine ahb (ain HX (by simp) λMg HY y9=>?_);replace y9:Heap.SameBut e Au Mg:=y9;replace HY:IsEnumOut Mg e it (j+ 1) x hp.objs.size:=HY;refine ain HY (by simp) λMh HZ za=>?_
 replace za:Heap.SameBut e Mg Mh:=za;replace HZ:IsEnumOut Mh e it (j+ 1) x hp.objs.size:=HZ;refine ahb (wpAny_letGo (ahk ⟨_,rfl,ahk (hQ x Mh tk Dx HZ ?_ ?_ ?_)⟩))
 ·exact D.frame _ _ _ Tf λb hb o y=>by
   have jR:b≠e:=λq=>XS (q ▸ hb)
   exact za.extBut b o jR (y9.extBut b o jR (y8.extBut b o jR y))
 ·exact za.extBut _ _ (aiM ie) (y9.extBut _ _ (aiM ie) (y8.extBut _ _ (aiM ie) Xb))
 ·exact λb o jR Oc hb=>za.extBut b o jR (y9.extBut b o jR (y8.extBut b o jR (Xd b o jR Oc hb)))
theorem QC {T newId:String}{self a:Value}{kw:List (Str×Value)}(hl:typeLookup (.type T) "__init__"=pure (some (.builtin "object.__init__")))(hm:Bind.madeBy (.type T)=pure (some newId))(cF:(some newId !=some "object.__new__")=true):
 Meets (Builtin.«object.__init__» ⟨[self,a],kw⟩) (λ_ R s=>s.TypeIs self T/\R (.ok (.ret .none)) s):=by
 refine Meets.of_wp λprog w A R s hs=>?_
 obtain⟨hT,hq⟩:=hs
 repeat (any_goals (first|assumption|wp_step))
 exact⟨_,rfl,hq⟩
theorem Xe (a b:Value):checkTypeCall "enumerate" ⟨[a],[("start",b)]⟩=pure ():=by kernel_rfl
theorem Xf (a b:Value):checkBuiltinCall "enumerate.__new__" ⟨[.type "enumerate",a],[("start",b)]⟩=pure ():=by kernel_rfl
theorem Xg (a b c:Value):argsOk "object.__init__" ⟨[a,b],[("start",c)]⟩:=by
 unfold argsOk;rw[signature?_of (id:="object.__init__") (n:=['_','_','t','i','n','i','_','_']) (o:=['t','c','e','j','b','o']) (by kernel_rfl) F.owner_object]
 kernel_rfl
end
end En
def CXw (P:Program)(w:World):sY:=λouter H s E e s'=>∃(x C:Addr) (B:Heap) (H':Hp) (a0:Value),e=.ref x/\s'.os=s.os/\AllBare s'.gens/\Heap.FlyingW B outer x (.ref C) a0 s'.heap/\
 Un (lA outer) [] H H' s.heap s'.heap/\fw P w H' B/\(∀b o,s.heap.get? b=some o->H b=none->b∉lA outer->B.get? b=some o)/\(∀b o,s.heap.get? b=some o->b∉lA outer->∃o',B.get? b=some o')/\E (.ref C) none H'
def afY (x C:Addr)(h:Heap):Prop:=∃ob vs,h.get? x=some ob/\ob.cls=.ref C/\ob.data=.fields vs
def Thr (X:Cx)(pins:List (Addr×Obj))(σ:St)(H':Hp)(x C:Addr)(s:Shared):Prop:=
 ∃(B:Heap) (H1:Hp) (s1:Shared) (a0:Value),Inv X pins σ H1 s1/\s.os=s1.os/\AllBare s.gens/\Heap.FlyingW B X.stack x (.ref C) a0 s.heap/\Un (lA X.stack) [] H1 H' s1.heap s.heap/\fw X.prog X.w H' B/\
  (∀b o,s1.heap.get? b=some o->H1 b=none->b∉lA X.stack->B.get? b=some o)/\(∀b o,s1.heap.get? b=some o->b∉lA X.stack->∃o',B.get? b=some o')
abbrev XR:=Addr->St->Hp->Prop
def XP (X:Cx)(pins:List (Addr×Obj))(R:XR)(e:Value)(s:Shared):Prop:=∃x C σ H,e=.ref x/\Thr X pins σ H x C s/\R C σ H
abbrev TH:=Ends->Addr->St->Hp->Prop
end L2
namespace L2
open PySem PySem.Spec PyProof.Rows PySem.Calls PySem.W Builtin Builtin.ObjectAttr Builtin.Getset_descriptor
structure af0 (K:Za1) (C:Addr):Prop where
 ga:findIn K (.ref C) "__getattribute__"=some (some (.builtin "BaseException.__getattribute__"))
 gt:findIn K (.ref C) "__getattr__"=some none
 cl:isClsIn K C=true
 at_:findIn K (.ref C) "__class__"=some (some (.builtin "object.__class__"))
 gs:specialIn K (.builtin "object.__class__") "__get__"=some (some (.builtin "getset_descriptor.__get__"))
 tk:takesIn K (.builtin "object.__class__")=some true
 mo:mroIn K C (.type "object")=some true
 be:subIn K (.ref C) (.type "BaseException")=some true
end L2
namespace L2
open PySem PySem.Spec PyProof.Rows
section
variable {prog:Program}{w:World}{A:Around}{R:Result->Shared->Prop}{s:Shared}
theorem Ct {elt target iter c:Expr}{scope:Scope}{pos:Pos}{it acc:Value}{env:Env}(I:Nat->Shared->Prop)
 (turn:∀n s,I n s->wpAny (model prog w) A (pyNext it) (λr bO=>match r with
  |none=>R (.ok .next) bO
  |some v=>wpAny (model prog w) A (letOwnedTupleGo target it v) (λ_ dA=>wpAny (model prog w) A (assign target env v) (λ_ iq=>wpAny (model prog w) A (isTrue c env (eval c env)) (λb Av=>
   match b with
   |true=>wpAny (model prog w) A (eval elt env) (λx sh=>wpAny (model prog w) A (call (.builtin "list.append") [acc,x]) (λ_ x8=>∃m,m<n/\I m x8) (λ_ _=>False) sh) (λ_ _=>False) Av
   |false=>∃m,m<n/\I m Av) (λ_ _=>False) iq) (λ_ _=>False) dA) (λ_ _=>False) bO) (λ_ _=>False) s)
 (n:Nat) (h:I n s):codeAny (model prog w) A (.compLoop (.ListComp elt [⟨target,iter,[c],0⟩] scope pos) 0 it acc env) R s:=by
 refine codeAny_loop rfl I (λn s hI=>?_) n h;show wpAny _ _ ((compTurn (.ListComp elt [⟨target,iter,[c],0⟩] scope pos) 0 it acc env).onRaise (λx=>do noteFrame x env;theTreesLotGoes x)) _ _ s;refine wpAny_noted ?_;rw[compTurn_list];refine ahb (wpAny_standAt (ahb (aiF (turn n s hI) (λr bO fH=>?_) λ_ _ h'=>h'.elim)))
 cases r with
 |none=>exact ahk fH
 |some v=>
  refine ahb (aiF fH (λ_ dA h₀=>?_) λ_ _ h'=>h'.elim);refine ahb (aiF h₀ (λ_ iq mS=>ahb (wpAny_tests_one (aiF mS (λok sh lJ=>?_) λ_ _ h'=>h'.elim))) λ_ _ h'=>h'.elim)
  cases ok with
  |false=>exact ahk ⟨rfl,lJ⟩
  |true=>
   exact ahb (ahb (aiF lJ (λx x8 ua=>ahb (aiF ua (λ_ Av Au=>ahk (ahk ⟨rfl,Au⟩)) λ_ _ h'=>h'.elim)) λ_ _ h'=>h'.elim))
end
def yb (tt:TT)(te:TE)(fv:St)(Q:VK)(J:It)(H1:Hp):Prop:=∃W:Nat->Nat->List V->Hp->Prop,(∃m,W 0 m [] H1)/\∀i m ys H2,W i m ys H2->
 (J.stop i H2/\ys.length<=sizeLine/\∀D,H2 D=none->Q (.ref D) (upd H2 D (.lst ys)))\/
 (J.go i H2/\ys.length<sizeLine/\∀x H3,J.pI i H2 x H3->tt (some x::fv) H3 λb H4=>match b with
  |true=>te (some x::fv) H4 λy H5=>∃m',m'<m/\W (i+ 1) m' (ys++[y]) H5
  |false=>∃m',m'<m/\W (i+ 1) m' ys H4)
def tf (wi:TI)(fv:St->St)(tt:TT)(te:TE):TE:=λ σ H Q=>wi σ H (yb tt te (fv σ) Q)
end L2
set_option maxRecDepth 10000
set_option maxHeartbeats 400000
set_option maxRecDepth 100000
set_option maxHeartbeats 4000000
namespace L2
open PySem PySem.Spec PyProof.Rows
def NT (lo:Int)(n:Nat):List Int:=(List.range n).map λi:Nat=>lo+ (i:Int)
def Ti (H:Hp)(rs:List Addr)(rows:Za3):Prop:=rs.length=rows.length/\∀(i:Nat) (r:Addr) (ns:List Int),rs[i]?=some r->rows[i]?=some ns->H r=some (.lst (ao ns))
def TabAt (H:Hp)(a:Addr)(rows:Za3):Prop:=∃rs:List Addr,H a=some (.lst (rs.map V.ref))/\Ti H rs rows
theorem vx {rs:List Addr}:∀{us:List Value},Vals (rs.map V.ref) us->us=rs.map Value.ref:=by
 induction rs with
 |nil=>intro us r;cases r;rfl
 |cons c rs ih=>
  intro us r
  cases r with
  |cons r0 r1=>cases r0;rw[ih r1];rfl
theorem Gv {α:Type} [DecidableEq α]{ns ms:List α}(h:ns.length=ms.length):(List.range ns.length).all (λj=>decide (ns[j]?=ms[j]?))=decide (ns=ms):=by
 rw[ah4,List.all_eq_true,ahQ];constructor
 ·intro h1;refine ajm λi=>?_
  by_cases hi:i<ns.length
  ·exact ahB (h1 i (air.mpr hi))
  ·rw[ahR (by omega),ahR (by omega)]
 ·rintro rfl j _;exact ahy rfl
section
variable {X:Cx}
def Xh:R2:=λx y H Q=>∃a b ns ms,x=.ref a/\y=.ref b/\H a=some (.lst (ao ns))/\H b=some (.lst (ao ms))/\Q (.bl (!decide (ns=ms))) H
theorem Gw (hu:X.A.units<cLine):gH X (compareOp .NotEq) Xh:=by
 intro pins s σ H x y v u Q I rx ry h;obtain⟨a,b,ns,ms,rfl,rfl,ha,hb,q⟩:=h;cases rx;cases ry;obtain⟨its,r1,p1,_⟩:=I.list (aM.of ha);obtain⟨dg,r2,p2,_⟩:=I.list (aM.of hb);have l1:=r1.length;have l2:=r2.length;rw[bh]at l1 l2;by_cases hl:ns.length=ms.length
 ·refine SeqAt.RcNeAt.lists (e:=λj=>decide (ns[j]?=ms[j]?)) p1.isList p2.isList (by rw[ahm,ahm];omega) hu (λj h1 h2=>Gu r1 r2 j h1 h2) X.prog X.w X.xe _ ⟨.bl (!decide (ns=ms)),H,I,?_,q⟩;show _=Value.bool (!decide (ns=ms));rw[ahm,←l1,Gv hl]
 ·have e:decide (ns=ms)=false:=ah1 (λz=>hl (by rw[z]));rw[e]at q;refine SeqAt.RcNeAt.lists_lengths p1.isList p2.isList ?_ hu X.prog X.w X.xe _ ⟨.bl true,H,I,rfl,q⟩;rw[ahm,ahm];simp;omega
theorem yc {K:Za1}(h:X.K=K):Jt X (SD K):=by subst h;exact ck
theorem tj {K:Za1}(h:X.K=K):Jt X (SF K):=by subst h;exact bp
theorem zc {x y z:Str}{scope:Scope}{c d:Addr}{i j:Nat}(yX:closureFor scope X.env=pure [(y,c),(z,d)])(hy:X.env.cells.lookup y=some c)(hz:X.env.cells.lookup z=some d)(hc:∀q∈scope.names,q.2≠.cell)(hk:scope.kind=.function)
 (hn:∀q∈scope.names,q.2=.local->scope.names.lookup q.1=some .local) (hx:scope.names.lookup x=some .local) (lB:∀q∈scope.names,q.2=.free->q.1=y\/q.1=z) (gI:x≠y/\x≠z/\y≠z) (hi:X.N[i]?=some y) (hj:X.N[j]?=some z)
 (Bp:X.env.kindOf y=some .cell) (JM:X.env.kindOf z=some .cell) (Bq:X.env.scope.kind=.function) (JD:scope.names.lookup y=some .free) (Gx:scope.names.lookup z=some .free):fi X x [y,z] [i,j] scope [(y,c),(z,d)] where
 Dq:=yX
 sub:=λw e h=>by
  by_cases e1:w=y
  ·subst e1;have:c=e:=by simpa [ahM] using h
   rw[←this];exact hy
  ·have hb:(w==y)=false:=aho.mpr e1;by_cases e2:w=z
   ·subst e2;have:d=e:=by simpa [ahM,hb] using h
    rw[←this];exact hz
   ·have qB:(w==z)=false:=aho.mpr e2;simp[ahM,hb,qB]at h
 cell:=hc
 kind:=hk
 names:=hn
 own:=hx
 has:=λw h=>by
  have e:w=y\/w=z:=by
   rcases h with h|h
   ·exact lB _ (i3 h (.inl rfl) hc) rfl
   ·exact lB _ (i3 h (.inr rfl) hc) rfl
  rcases e with rfl|rfl
  ·exact⟨c,by simp[ahM]⟩
  ·have hb:(w==y)=false:=aho.mpr (λq=>gI.2.2 q.symm);exact⟨d,by simp[ahM,hb]⟩
 nd:=by simp[gI.1,gI.2.1,gI.2.2]
 len:=rfl
 at_:=λk w h=>by
  match k,h with
  |0,h=>
   have e:y=w:=by simpa using h
   subst e;exact⟨i,rfl,hi,.inl Bp,c,by simp[ahM],.inl (c9 Bq Bp JD)⟩
  |1,h=>
   have e:z=w:=by simpa using h
   subst e;have hb:(z==y)=false:=aho.mpr (λq=>gI.2.2 q.symm);exact⟨j,rfl,hj,.inl JM,d,by simp[ahM,hb],.inl (c9 Bq JM Gx)⟩
  |k+ 2,h=>simp at h
end
def dZ (H:Hp)(ps:List Addr)(ws:Za3):Prop:=ps.length=ws.length/\∀(i:Nat) (p:Addr) (w:List Int),ps[i]?=some p->ws[i]?=some w->H p=some (.tup (ao w))
def b0 (H:Hp)(a:Addr)(ws:Za3):Prop:=∃ps:List Addr,H a=some (.lst (ps.map V.ref))/\dZ H ps ws
theorem dZ.keep {H H':Hp}{ps:List Addr}{ws:Za3}(h:dZ H ps ws)(s:∀p xs,H p=some (.tup xs)->H' p=some (.tup xs)):dZ H' ps ws:=⟨h.1,λi p w h1 h2=>s _ _ (h.2 i p w h1 h2)⟩
theorem dZ.same {H H':Hp}{ps:List Addr}{ws:Za3}(h:dZ H ps ws)(s:au H H'):dZ H' ps ws:=h.keep λp xs e=>s _ _ e
theorem b0.same {H H':Hp}{a:Addr}{ws:Za3}(h:b0 H a ws)(s:au H H'):b0 H' a ws:=by
 obtain⟨ps,h1,h2⟩:=h;exact⟨ps,s _ _ h1,h2.same s⟩
theorem dZ.snoc {H:Hp}{ps:List Addr}{ws:Za3}{p:Addr}{w:List Int}(h:dZ H ps ws)(hp:H p=some (.tup (ao w))):dZ H (ps++[p]) (ws++[w]):=by
 refine⟨by rw[ahe,ahe,h.1];rfl,λi q u h1 h2=>?_⟩;by_cases hi:i<ps.length
 ·rw[aht hi]at h1;rw[aht (by rw[←h.1];exact hi)]at h2;exact h.2 i q u h1 h2
 ·rw[ahs (by omega)]at h1;rw[ahs (by rw[←h.1];omega)]at h2;rw[ahg.mp (ahf h1),ahg.mp (ahf h2)];exact hp
section
variable {X:Cx}{pins:List (Addr×Obj)}{σ:St}{H:Hp}{s:Shared}{A:Around}
theorem QD (I:Inv X pins σ H s){r q:Addr}{ns ms:List Int}(hr:H r=some (.tup (ao ns)))(hq:H q=some (.tup (ao ms)))(hu:A.units<cLine):SeqAt.EqAt A s (.ref r) (.ref q) (decide (ns=ms)):=by
 by_cases e:r=q
 ·subst e
  have:ns=ms:=by
   rw[hr]at hq;injection hq with hq
   injection hq with hq
   unfold ao at hq;exact(List.map_inj_right (λa b z=>V.int.inj z)).mp hq
  rw[ahy this];exact SeqAt.EqAt.same _
 ·refine SeqAt.EqAt.of_refs e ?_;obtain⟨its,r1,p1,_⟩:=I.tuple (bL.of hr);obtain⟨dg,r2,p2,_⟩:=I.tuple (bL.of hq);have l1:=r1.length;have l2:=r2.length;rw[bh]at l1 l2;have:=SeqAt.RcAt.tuples (A:=A) (e:=λj=>decide (ns[j]?=ms[j]?)) (show s.heap.IsTuple r its.toArray from p1) (show s.heap.IsTuple q dg.toArray from p2) hu (λj h1 h2=>Gu r1 r2 j h1 h2);rw[ahm,ahm,←l1,←l2,all_eq]at this;exact this
theorem Ia (I:Inv X pins σ H s){rs qs:List Addr}{ns ms:Za3}(hr:dZ H rs ns)(hq:dZ H qs ms)(hu:A.units<cLine)(j:Nat)(h1:j<(rs.map Value.ref).toArray.size)(h2:j<(qs.map Value.ref).toArray.size):
 SeqAt.EqAt A s (rs.map Value.ref).toArray[j] (qs.map Value.ref).toArray[j] (decide (ns[j]?=ms[j]?)):=by
 have g1:j<rs.length:=by simpa using h1
 have g2:j<qs.length:=by simpa using h2
 have k1:j<ns.length:=by rw[←hr.1];exact g1
 have k2:j<ms.length:=by rw[←hq.1];exact g2
 have e1:(rs.map Value.ref).toArray[j]=.ref rs[j]:=by simp
 have e2:(qs.map Value.ref).toArray[j]=.ref qs[j]:=by simp
 rw[e1,e2];have a1:=hr.2 j rs[j] ns[j] (ahc g1) (ahc k1);have a2:=hq.2 j qs[j] ms[j] (ahc g2) (ahc k2);have:=QD (A:=A) I a1 a2 hu;rw[ahc k1,ahc k2]
 have ed:decide (some ns[j]=some ms[j])=decide (ns[j]=ms[j]):=by
  rw[ah4,ahQ,ahQ];exact⟨Za0,ah6 some⟩
 rw[ed];exact this
end
section
variable {X:Cx}
def Xi:R2:=λx y H Q=>∃a b ns ms,x=.ref a/\y=.ref b/\b0 H a ns/\b0 H b ms/\Q (.bl (decide (ns=ms))) H
theorem Gy (hu:X.A.units+ 1<cLine):gH X (compareOp .Eq) Xi:=by
 intro pins s σ H x y v u Q I rx ry h;obtain⟨a,b,ns,ms,rfl,rfl,⟨rs,ha,Od⟩,⟨qs,hb,Tj⟩,q⟩:=h;cases rx;cases ry;obtain⟨its,r1,p1,_⟩:=I.list (aM.of ha);obtain⟨dg,r2,p2,_⟩:=I.list (aM.of hb);have e1:=vx r1;have e2:=vx r2;subst e1 e2;by_cases hl:ns.length=ms.length
 ·refine SeqAt.eq_listAt (e:=λj=>decide (ns[j]?=ms[j]?)) p1.isList p2.isList (by simp[Od.1,Tj.1,hl]) (by omega) (λj h1 h2=>Ia I Od Tj hu j h1 h2) ⟨.bl (decide (ns=ms)),H,I,?_,q⟩;show _=Value.bool (decide (ns=ms));rw[ahm,ahl,Od.1,Gv hl]
 ·have e:decide (ns=ms)=false:=ah1 (λz=>hl (by rw[z]));rw[e]at q;refine SeqAt.eq_list_lengthsAt p1.isList p2.isList ?_ (by omega) ⟨.bl false,H,I,rfl,q⟩;simp[Od.1,Tj.1,hl]
end
section
def isInt (k:Int):Value->Bool
 |.int z _=>z==k
 |_=>false
end
def Dy (K:Za1)(a:Addr):It:=
 ⟨λi H=>∃xs x,aM K H a xs/\xs[i]?=some x,λi H x H'=>∃p v,H p=none/\(∀ys,aM K H a ys->ys[i]?=some v)/\x=.ref p/\H'=upd H p (.tup [.int (i:Int),v]),λi H=>∃xs,aM K H a xs/\xs.length=i⟩
theorem lL {h:Heap}{a b:Addr}{o u:Obj}(ha:h.get? a=some o)(hb:h.get? b=some u)(hc:o.cls≠u.cls):a≠b:=λz=>by
 subst z;rw[ha]at hb;exact hc (by rw[Za0 hb])
theorem Ib {P:Program}{w:World}{K:Za1}{elts:List Expr}{x1:Nat}{tp:Pos}(e it a:Addr)(lM:e≠it):
 Turn P w K (.Tuple elts x1 tp) (Dy K a) [e,it] e (λi h=>(∃old,IsEnum h e it (i:Int) old)/\h.IsListIter it a i) where
 mem:=by simp
 obj:=λi h st b hb=>by
  obtain⟨⟨old,he⟩,o,ho,hc,hd⟩:=st;rcases ahp.mp hb with rfl|hb
  ·exact⟨_,he,λv z=>by cases z⟩
  ·rw[ahg.mp hb];exact⟨o,ho,λv z=>by rw[hd]at z;cases z⟩
 keep:=λi h h' st k=>by
  obtain⟨⟨old,he⟩,hl⟩:=st;exact⟨⟨old,k e (by simp) _ he⟩,hl.at λo e=>k it (by simp) o e⟩
 item:=by
  intro X hP hw hK hc i pins s σ H E I hf st hg;subst hP hw hK;obtain⟨⟨old,he⟩,cI⟩:=st;obtain⟨xs,x,hq,hx⟩:=hg;obtain⟨its,rv,p,hz⟩:=I.list hq;obtain⟨u,hu,ru⟩:=rv.get hx;have hit:=p.isList;obtain⟨o1,rM,oH,jZ⟩:=id hit;obtain⟨o2,iU,lH,hd2⟩:=id cI;have vy:a≠it:=lL rM iU (by rw[oH,lH];decide);have Bv:e≠a:=lL he rM (by rw[oH];show Value.type "enumerate"≠Value.type "list";decide);have D:=Draws.list (prog:=X.prog) (w:=X.w) (A:=X.A.in1) (I.ok.hd hc) it a vy its.toArray;have ie:e<s.heap.objs.size:=ahA he;have tm:i<its.length:=(ahd.mp hu).1;refine En.vw D he ⟨cI,hit⟩ (by simpa using tm) lM (by simp[lM,Bv]) λy h' tk Dx ho Gz hT hk=>?_
  have ey:u=y:=by
   have h2:its[i]?=some y:=by simpa using Dx
   exact Za0 (hu.symm.trans h2)
  subst ey;refine⟨_,rfl,?_⟩;refine ajQ ho λjb dh qC=>?_
  have Dz:jb.get? s.heap.objs.size=some { cls:=.type "tuple",data:=.seq #[.int (i:Int) tk,u] }:=(qC.2 _ (aiM ie)).trans hT
  have DB:∀b ob,b∉[e,it]->s.heap.get? b=some ob->jb.get? b=some ob:=λb ob hb q=>by
   have h1:b≠e:=λz=>hb (by simp[z])
   have h2:b≠it:=λz=>hb (by simp[z])
   exact(qC.2 b h1).trans (hk b ob h1 h2 q)
  have qD:=I.bu.fresh (ahi s.heap.objs.size);refine⟨.ref s.heap.objs.size,_,I.ud (fp:=[e,it]) (a:=s.heap.objs.size) (o:=.tup [.int (i:Int),x]) (h':=jb) (t':=tk+ 1) DB hf (ahi _) ?_,rfl,⟨_,x,qD,λys hy=>by rw[I.xV hy hq];exact hx,rfl,rfl⟩,⟨⟨u,?_⟩,?_⟩,λb hb=>?_⟩
  ·exact⟨by show 2<=sizeLine;decide,[.int (i:Int) tk,u],.cons ⟨_,rfl⟩ (.cons ru .nil),_,Dz,rfl,_,rfl⟩
  ·rw[show ((i+ 1:Nat):Int)=(i:Int)+ 1 by omega];exact dh
  ·exact(D.frame _ _ _ Gz λb hb o q=>(qC.2 b (by
    rcases ahp.mp hb with z|hb
    ·rw[z];exact ail lM
    ·rw[ahg.mp hb];exact ail Bv)).trans q).1
  ·rw[av]
   ·exact(hf b hb).1
   ·intro z;subst z;rcases ahp.mp hb with z|hb
    ·exact absurd ie (by rw[←z];exact aie _)
    ·exact absurd (ahA iU) (by rw[←ahg.mp hb];exact aie _)
 done:=by
  intro X hP hw hK hc i pins s σ H E I hf st hg;subst hP hw hK;obtain⟨⟨old,he⟩,cI⟩:=st;obtain⟨xs,hq,hx⟩:=hg;obtain⟨its,rv,p,hz⟩:=I.list hq;have hit:=p.isList;obtain⟨o1,rM,oH,jZ⟩:=id hit;obtain⟨o2,iU,lH,hd2⟩:=id cI;have vy:a≠it:=lL rM iU (by rw[oH,lH];decide);have D:=Draws.list (prog:=X.prog) (w:=X.w) (A:=X.A.in1) (I.ok.hd hc) it a vy its.toArray;have hsz:its.toArray.size=i:=by rw[ahm,←rv.length];exact hx
  refine wpAny_pyNext_enum_endD D he (by rw[hsz];exact⟨cI,hit⟩) λh' eb=>⟨rfl,I.wJ (fp:=[e,it]) (t':=s.toks) (λb o hb q=>eb b o (λz=>hb (by simp[z])) q) hf⟩
 self:=λA i s Q E st h=>by
  obtain⟨⟨old,he⟩,_⟩:=st;have hT:s.TypeIs (.ref e) "enumerate":=⟨_,he,rfl⟩;refine ajN hT aiV (aib aiV hT F.entry_enumerate_iter ?_ (F.args_enumerate_iter_1 _));show wpAny _ _ (ret (.ref e)) _ _ s;exact ahk ⟨_,rfl,"enumerate",_,hT,ajc.lookup,h⟩
section
variable {X:Cx}
def Tn (K:Za1)(ta:TA):TI:=λ σ H R=>ta σ H λvs H1=>∃a,vs=[.ref a]/\(∃xs,aM K H1 a xs)/\R (Dy K a) H1
theorem Mi {a:Expr}{te:TE}{elts:List Expr}{x1:Nat}{tp p pos:Pos}(hg:Gl X "enumerate")(hm:X.mg "enumerate"=none)(he:PE X a te)(hs:starEach [a] X.env=[(false,eval a X.env)]:=by rfl):
 PI X (.Tuple elts x1 tp) (.Call (.Name "enumerate" p) [a] [] pos) (Tn X.K (gL te lG)):=by
 intro pins s σ H R I h;refine Call_ (oq I hg hm boot_enumerate (aiJ (bK ((ae he ah hs) pos pins s σ H _ I h) λus s1 ⟨vs,H1,I1,r1,q1⟩=>?_) hs rfl));obtain⟨l,rfl,⟨xs,hq⟩,q⟩:=q1;obtain⟨u,rfl,ru⟩:=vals1 r1;cases ru;obtain⟨its,rv,pl,hz⟩:=I1.list hq;refine call_enumerate_list pl.isList λh' dh hit hsz hk=>?_
 have I3:Inv X pins σ H1 { s1 with heap:=h' }:=I1.kept (t':=s1.toks) hk;have T:=Ib (P:=X.prog) (w:=X.w) (K:=X.K) (elts:=elts) (x1:=x1) (tp:=tp) (s1.heap.objs.size+ 1) s1.heap.objs.size l (Nat.succ_ne_self _);refine T.self _ 0 { s1 with heap:=h' } _ _ ⟨⟨_,dh⟩,hit⟩ ⟨_,_,_,_,H1,rfl,I3,T,⟨⟨_,dh⟩,hit⟩,λb hb=>?_,q⟩;rcases ahp.mp hb with e|hb
 ·subst e;exact I1.qj (ajS _) (I1.bu.fresh (ajS _))
 ·rw[ahg.mp hb];exact I1.qj (ahi _) (I1.bu.fresh (ahi _))
end
theorem JN {K:Za1}{a:Addr}{xs:List V}{g:TG}{tb:TS}{D:Ends}{σ:St}{H:Hp}(Pv:Nat->St->Hp->Prop)(h0:Pv 0 σ H)(hl:∀i σ H,i<=xs.length->Pv i σ H->aM K H a xs)
 (hs:∀i v σ H p,xs[i]?=some v->H p=none->Pv i σ H->g (.ref p) σ (upd H p (.tup [.int (i:Int),v])) λ fB H2=>tb { D with nx:=Pv (i+ 1),ct:=Pv (i+ 1),bk:=D.nx } fB H2) (hd:∀ σ H,Pv xs.length σ H->D.nx σ H):
 ∃W:Nat->Nat->St->Hp->Prop,(∃m,W 0 m σ H)/\∀i m σ H,W i m σ H->
  ((Dy K a).stop i H/\D.nx σ H)\/((Dy K a).go i H/\∃N:St->Hp->Prop,(∀ aX H',N aX H'->∃m',m'<m/\W (i+ 1) m' aX H')/\∀x H',(Dy K a).pI i H x H'->g x σ H' λ fB H2=>tb { D with nx:=N,ct:=N,bk:=D.nx } fB H2):=by
 refine⟨λi m σ H=>m=xs.length - i/\i<=xs.length/\Pv i σ H,⟨xs.length,by simp,ahT _,h0⟩,?_⟩;rintro i m σ H ⟨rfl,hi,p⟩;have q:=hl i σ H hi p;by_cases bU:i<xs.length
 ·refine .inr ⟨⟨xs,_,q,ahc bU⟩,Pv (i+ 1),λ aX H' p'=>⟨xs.length - (i+ 1),by omega,rfl,bU,p'⟩,λx H' y=>?_⟩;obtain⟨r,v,hr,hv,rfl,rfl⟩:=y;exact hs i v σ H r (hv xs q) hr p
 ·have e:i=xs.length:=by omega
  subst e;exact .inl ⟨⟨xs,q,rfl⟩,hd σ H p⟩
namespace En
open AutoSeq1 (wpAny_loadPart')
theorem Ic (l:Addr)(items:Array Value)(n:Nat)(dct:Option Addr)(sl:Array (Option Value))(k:Int)(u:Tok)(hk:0<=k)(Bw:k<1000):
 Meets (Builtin.«enumerate.__new__» ⟨[.type "enumerate",.ref l],[("start",.int k u)]⟩) (λ_ R s=>s.heap.get? l=some { cls:=.type "list",dict:=dct,data:=.seq items n,slots:=sl }/\
  R (.ok (.ret (.ref (s.heap.push { cls:=.type "list_iterator",data:=.fields #[.ref l,.int 0 0] }).objs.size)))
    { s with heap:=(s.heap.push { cls:=.type "list_iterator",data:=.fields #[.ref l,.int 0 0] }).push { cls:=.type "enumerate",data:=.fields #[.none,.bool false,.ref s.heap.objs.size,rawInt k,.none,.none] } }):=
 .of_wp λprog w A R s h=>by
  obtain⟨hp,g,d,tk,os⟩:=s;obtain⟨hl,h⟩:=h;have To:=sub_enumerate;have f1:=AutoSeq1.idx_int;have hL:Heap.IsList (Shared.heap ⟨hp,g,d,tk,os⟩) l items:=⟨_,hl,rfl,n,rfl⟩
  have Ar:(!Builtin.SmallTypes.fitsIndex k)=false:=by
   unfold Builtin.SmallTypes.fitsIndex;simp;omega
  wp_walk using ajo hl
  refine wpAny_stack_any λst=>ahk ?_
  split
  ·rename_i c _ _ _ _ _;cases (c==Value.type "enumerate")
   ·wp_walk using ajo hl,ajM hL
    exact⟨_,rfl,h⟩
   ·wp_walk using ajo hl,ajM hL
    exact⟨_,rfl,h⟩
  ·wp_walk using ajo hl,ajM hL
   exact⟨_,rfl,h⟩
section
variable {prog:Program}{w:World}{A:Around}{E:Value->Shared->Prop}{s:Shared}
theorem FT {l:Addr}{items:Array Value}{k:Int}{u:Tok}{Q:Value->Shared->Prop}(hL:s.heap.IsList l items)(hk:0<=k)(Bw:k<1000)
 (h:∀h',IsEnum h' (s.heap.objs.size+ 1) s.heap.objs.size k .none->h'.IsListIter s.heap.objs.size l 0->(∀b o,s.heap.get? b=some o->h'.get? b=some o)->Q (.ref (s.heap.objs.size+ 1)) { s with heap:=h' }):
 wpAny (model prog w) A (call (.type "enumerate") [.ref l] [("start",.int k u)]) Q E s:=by
 obtain⟨⟨c0,dct,dt,sl⟩,hl,DC,n,hd⟩:=hL;replace DC:c0=.type "list":=DC;replace hd:dt=.seq items n:=hd;subst DC hd;have ft:=F.called_enumerate;obtain⟨c,tl,af1⟩:=ft.mro;have lO:=ft.made;have To:=ft.sub;have hct:=Xe (.ref l) (.int k u);have hcn:=Xf (.ref l) (.int k u);refine wpAny_call (codeAny_of_tree ?_);show wpAny _ _ (callAny (.type "enumerate") _) _ _ _;refine ahk ⟨Code.quiet_builtin _ (by decide +kernel),codeAny_builtin F.entry_type_call ?_⟩;rw[Around.under_plain (weight_type_call_type "enumerate" [.ref l] [("start",.int k u)]) (units_type_call_type "enumerate" [.ref l] [("start",.int k u)])];have h1:=ft.notType;have h2:=ft.canCreate
 repeat (any_goals (first|assumption|wp_step))
 refine ake (codeAny_call_builtin ft.plain F.entry_enumerate_new (wpAny_of_eq hcn (Ic l items n dct sl k u hk Bw prog w A.in1 (wants (λobj bO=>bO.TypeIs obj "enumerate"/\Q obj bO) E) s ⟨hl,?_⟩))) λr bO hr=>?_
 ·have hz:(s.heap.push { cls:=.type "list_iterator",data:=.fields #[.ref l,.int 0 0] }).objs.size=s.heap.objs.size+ 1:=ajz ..;show _/\_;rw[hz]
  have he:IsEnum ((s.heap.push { cls:=.type "list_iterator",data:=.fields #[.ref l,.int 0 0] }).push { cls:=.type "enumerate",data:=.fields #[.none,.bool false,.ref s.heap.objs.size,rawInt k,.none,.none] }) (s.heap.objs.size+ 1) s.heap.objs.size k .none:=by
   have q:=ahz (s.heap.push { cls:=.type "list_iterator",data:=.fields #[.ref l,.int 0 0] }) (o:={ cls:=.type "enumerate",data:=.fields #[.none,.bool false,.ref s.heap.objs.size,rawInt k,.none,.none] }) rfl;rw[hz]at q;exact q
  exact⟨⟨_,he,rfl⟩,h _ he ⟨_,ahj _ (ahz _ rfl),rfl,rfl⟩ λb o y=>ahj _ (ahj _ y)⟩
 cases r with
 |error e=>exact hr
 |ok fl=>
  cases fl with
  |ret obj=>
   obtain⟨hT,hq⟩:=hr;have hli:=ft.init.lookup;have Oc:=ft.init.bind obj;have bu:=Xg obj (.ref l) (.int k u);have hsi:(λ(_:Around) (R:Result->Shared->Prop) (s:Shared)=>s.TypeIs obj "enumerate"/\R (.ok (.ret .none)) s) A.in1 (wants (λr iq=>r=.none/\Q obj iq) E) bO:=⟨hT,rfl,hq⟩;have gi:=QC (T:="enumerate") (self:=obj) (a:=.ref l) (kw:=[("start",.int k u)]) ft.init.lookup ft.made (by decide)
   repeat (any_goals (first|assumption|wp_step))
   refine ake (codeAny_call_builtin ft.init.plain F.entry_object_init (ft.init.check _ _ _ _ _ _ _ _ hT bu (gi prog w A.in1 _ bO hsi))) λabI iq Ie=>?_
   cases abI with
   |error e=>exact Ie
   |ok Xj=>
    cases Xj with
    |ret r=>
     obtain⟨rfl,hq⟩:=Ie
     repeat (any_goals (first|assumption|wp_step))
    |_=>exact Ie.elim
  |_=>exact hr.elim
end
end En
def wO (K:Za1)(a:Addr)(n:Int):It:=
 ⟨λi H=>∃xs x,aM K H a xs/\xs[i]?=some x,λi H x H'=>∃p v,H p=none/\(∀ys,aM K H a ys->ys[i]?=some v)/\x=.ref p/\H'=upd H p (.tup [.int (n+ (i:Int)),v]),λi H=>∃xs,aM K H a xs/\xs.length=i⟩
theorem FU {P:Program}{w:World}{K:Za1}{elts:List Expr}{x1:Nat}{tp:Pos}(e it a:Addr)(n:Int)(lM:e≠it):
 Turn P w K (.Tuple elts x1 tp) (wO K a n) [e,it] e (λi h=>(∃old,IsEnum h e it (n+ (i:Int)) old)/\h.IsListIter it a i) where
 mem:=by simp
 obj:=λi h st b hb=>by
  obtain⟨⟨old,he⟩,o,ho,hc,hd⟩:=st;rcases ahp.mp hb with rfl|hb
  ·exact⟨_,he,λv z=>by cases z⟩
  ·rw[ahg.mp hb];exact⟨o,ho,λv z=>by rw[hd]at z;cases z⟩
 keep:=λi h h' st k=>by
  obtain⟨⟨old,he⟩,hl⟩:=st;exact⟨⟨old,k e (by simp) _ he⟩,hl.at λo e=>k it (by simp) o e⟩
 item:=by
  intro X hP hw hK hc i pins s σ H E I hf st hg;subst hP hw hK;obtain⟨⟨old,he⟩,cI⟩:=st;obtain⟨xs,x,hq,hx⟩:=hg;obtain⟨its,rv,p,hz⟩:=I.list hq;obtain⟨u,hu,ru⟩:=rv.get hx;have hit:=p.isList;obtain⟨o1,rM,oH,jZ⟩:=id hit;obtain⟨o2,iU,lH,hd2⟩:=id cI;have vy:a≠it:=lL rM iU (by rw[oH,lH];decide);have Bv:e≠a:=lL he rM (by rw[oH];show Value.type "enumerate"≠Value.type "list";decide);have D:=Draws.list (prog:=X.prog) (w:=X.w) (A:=X.A.in1) (I.ok.hd hc) it a vy its.toArray;have ie:e<s.heap.objs.size:=ahA he;have tm:i<its.length:=(ahd.mp hu).1;refine En.vw D he ⟨cI,hit⟩ (by simpa using tm) lM (by simp[lM,Bv]) λy h' tk Dx ho Gz hT hk=>?_
  have ey:u=y:=by
   have h2:its[i]?=some y:=by simpa using Dx
   exact Za0 (hu.symm.trans h2)
  subst ey;refine⟨_,rfl,?_⟩;refine ajQ ho λjb dh qC=>?_
  have Dz:jb.get? s.heap.objs.size=some { cls:=.type "tuple",data:=.seq #[.int (n+ (i:Int)) tk,u] }:=(qC.2 _ (aiM ie)).trans hT
  have DB:∀b ob,b∉[e,it]->s.heap.get? b=some ob->jb.get? b=some ob:=λb ob hb q=>by
   have h1:b≠e:=λz=>hb (by simp[z])
   have h2:b≠it:=λz=>hb (by simp[z])
   exact(qC.2 b h1).trans (hk b ob h1 h2 q)
  have qD:=I.bu.fresh (ahi s.heap.objs.size);refine⟨.ref s.heap.objs.size,_,I.ud (fp:=[e,it]) (a:=s.heap.objs.size) (o:=.tup [.int (n+ (i:Int)),x]) (h':=jb) (t':=tk+ 1) DB hf (ahi _) ?_,rfl,⟨_,x,qD,λys hy=>by rw[I.xV hy hq];exact hx,rfl,rfl⟩,⟨⟨u,?_⟩,?_⟩,λb hb=>?_⟩
  ·exact⟨by show 2<=sizeLine;decide,[.int (n+ (i:Int)) tk,u],.cons ⟨_,rfl⟩ (.cons ru .nil),_,Dz,rfl,_,rfl⟩
  ·rw[show n+ ((i+ 1:Nat):Int)=n+ (i:Int)+ 1 by omega];exact dh
  ·exact(D.frame _ _ _ Gz λb hb o q=>(qC.2 b (by
    rcases ahp.mp hb with z|hb
    ·rw[z];exact ail lM
    ·rw[ahg.mp hb];exact ail Bv)).trans q).1
  ·rw[av]
   ·exact(hf b hb).1
   ·intro z;subst z;rcases ahp.mp hb with z|hb
    ·exact absurd ie (by rw[←z];exact aie _)
    ·exact absurd (ahA iU) (by rw[←ahg.mp hb];exact aie _)
 done:=by
  intro X hP hw hK hc i pins s σ H E I hf st hg;subst hP hw hK;obtain⟨⟨old,he⟩,cI⟩:=st;obtain⟨xs,hq,hx⟩:=hg;obtain⟨its,rv,p,hz⟩:=I.list hq;have hit:=p.isList;obtain⟨o1,rM,oH,jZ⟩:=id hit;obtain⟨o2,iU,lH,hd2⟩:=id cI;have vy:a≠it:=lL rM iU (by rw[oH,lH];decide);have D:=Draws.list (prog:=X.prog) (w:=X.w) (A:=X.A.in1) (I.ok.hd hc) it a vy its.toArray;have hsz:its.toArray.size=i:=by rw[ahm,←rv.length];exact hx
  refine wpAny_pyNext_enum_endD D he (by rw[hsz];exact⟨cI,hit⟩) λh' eb=>⟨rfl,I.wJ (fp:=[e,it]) (t':=s.toks) (λb o hb q=>eb b o (λz=>hb (by simp[z])) q) hf⟩
 self:=λA i s Q E st h=>by
  obtain⟨⟨old,he⟩,_⟩:=st;have hT:s.TypeIs (.ref e) "enumerate":=⟨_,he,rfl⟩;refine ajN hT aiV (aib aiV hT F.entry_enumerate_iter ?_ (F.args_enumerate_iter_1 _));show wpAny _ _ (ret (.ref e)) _ _ s;exact ahk ⟨_,rfl,"enumerate",_,hT,ajc.lookup,h⟩
theorem Ig {K:Za1}{a:Addr}{xs:List V}{n:Int}{g:TG}{tb:TS}{D:Ends}{σ:St}{H:Hp}(Pv:Nat->St->Hp->Prop)(h0:Pv 0 σ H)(hl:∀i σ H,i<=xs.length->Pv i σ H->aM K H a xs)
 (hs:∀i v σ H p,xs[i]?=some v->H p=none->Pv i σ H->g (.ref p) σ (upd H p (.tup [.int (n+ (i:Int)),v])) λ fB H2=>tb { D with nx:=Pv (i+ 1),ct:=Pv (i+ 1),bk:=D.nx } fB H2) (hd:∀ σ H,Pv xs.length σ H->D.nx σ H):
 ∃W:Nat->Nat->St->Hp->Prop,(∃m,W 0 m σ H)/\∀i m σ H,W i m σ H->
  ((wO K a n).stop i H/\D.nx σ H)\/((wO K a n).go i H/\∃N:St->Hp->Prop,(∀ aX H',N aX H'->∃m',m'<m/\W (i+ 1) m' aX H')/\∀x H',(wO K a n).pI i H x H'->g x σ H' λ fB H2=>tb { D with nx:=N,ct:=N,bk:=D.nx } fB H2):=by
 refine⟨λi m σ H=>m=xs.length - i/\i<=xs.length/\Pv i σ H,⟨xs.length,by simp,ahT _,h0⟩,?_⟩;rintro i m σ H ⟨rfl,hi,p⟩;have q:=hl i σ H hi p;by_cases bU:i<xs.length
 ·refine .inr ⟨⟨xs,_,q,ahc bU⟩,Pv (i+ 1),λ aX H' p'=>⟨xs.length - (i+ 1),by omega,rfl,bU,p'⟩,λx H' y=>?_⟩;obtain⟨r,v,hr,hv,rfl,rfl⟩:=y;exact hs i v σ H r (hv xs q) hr p
 ·have e:i=xs.length:=by omega
  subst e;exact .inl ⟨⟨xs,q,rfl⟩,hd σ H p⟩
section
theorem all_true (n:Nat)(f:Nat->Bool)(h:∀j,f j=true):(List.range n).all f=true:=List.all_eq_true.mpr λj _=>h j
end
def eU (h:Heap)(d:Addr)(es:Array DictEntry)(ep:Nat):Prop:=∃o,h.get? d=some o/\o.ExactDict/\o.data=.dict es ep
namespace Dk
section
variable {prog:Program}{w:World}{A:Around}{E:Value->Shared->Prop}{s:Shared}{d:Addr}{es:Array DictEntry}{ep:Nat}
theorem typ (hm:eU s.heap d es ep):s.TypeIs (.ref d) "dict":=let ⟨o,ho,hc,_⟩:=hm;⟨o,ho,hc.1⟩
theorem iter {Q:Value->Shared->Prop}(hd:(d==sysModules)=false)(hm:eU s.heap d es ep)
 (hQ:Q (.ref s.heap.objs.size) { s with heap:=s.heap.push { cls:=.type "dict_keyiterator",data:=.fields #[.ref d,.int 0 0,.int es.size 0,.int ep 0] } }):wpAny (model prog w) A (pyIter (.ref d)) Q E s:=by
 have hT:=typ hm;obtain⟨o,ho,hc,iA⟩:=hm;refine ajN hT F.slot_dict_iter (aib F.slot_dict_iter hT F.entry_dict_iter ?_ (F.args_dict_iter_1 _));unfold Builtin.«dict.__iter__»;refine ahb ?_;unfold Builtin.Dict.dictSlotNone;refine ahb (ajH hT ?_);show wpAny _ _ (pure (Value.ref d)) _ _ s;refine ahk ?_;show wpAny _ _ (Builtin.Dict.showsAll d >>=_) _ _ s;unfold Builtin.Dict.showsAll;rw[ahq (by rw[hd];exact ahV)];refine ahb (ahk (ahb (aiQ ho iA (ahb (ajI ho iA ?_)))));exact ahb (ah8 (ahk ⟨_,rfl,"dict_keyiterator",_,⟨_,ahz _ rfl,rfl⟩,aiI.lookup,by simpa [rawInt] using hQ⟩))
theorem item {it:Addr}{i:Nat}{en:DictEntry}{Q:Option Value->Shared->Prop}(hit:s.heap.IsKeyIter it d i es.size ep)(hm:eU s.heap d es ep)(hx:es[i]?=some en)
 (hQ:∀g1,g1.IsKeyIter it d (i+ 1) es.size ep->Heap.SameBut it s.heap g1->Q (some en.key) { s with heap:=g1 }):wpAny (model prog w) A (pyNext (.ref it)) Q E s:=by
 obtain⟨o,ho,hc,hd⟩:=id hit;obtain⟨od,vz,qh,vA⟩:=id hm;unfold pyNext;refine ahb (wpAny_attempt (ah7 (name:=Str.ofString "__next__") hit.typeIs aiI (aib aiI hit.typeIs F.entry_dict_keyiterator_next ?_ (F.args_dict_keyiterator_next_1 _))));refine ahb (ahk (ahb (ahb ?_)))
 first|refine ahb (aiZ hit.typeIs (ahk ?_))|refine ahb (ajp hit.typeIs (ahk ?_))
 refine ahb (wpAny_fieldsOf ho hd ?_);have own:Builtin.Dict_items.ownsTuple "dict_keyiterator"=false:=by decide
 simp only[own,aj0,ajs];show wpAny _ _ (if (Value.ref d==Value.none)=true then _ else _) _ _ s;rw[ahq (show ¬((Value.ref d==Value.none)=true) from ahV)];refine ahb (ahk (ahb (aiQ vz vA ?_)));rw[ahq (by simp)];refine ahb (ahk (ahb (ajI vz vA ?_)));rw[ahq (by simp)];refine ahk ?_;simp only[show ¬((i:Int)<0) from by omega,ajs,ahZ,hx];refine ahb ?_
 first|refine ahb (aiZ hit.typeIs (ahk ?_))|refine ahb (ajp hit.typeIs (ahk ?_))
 refine ahb (wpAny_isOneOf_keyiter hit.typeIs ?_);show wpAny _ _ (setField (.ref it) 1 (rawInt ((i:Int)+ 1)) >>=_) _ _ s;refine ahb (akc ho hd (by simp) ?_)
 have j1:(s.heap.update it (Obj.mapFields (·.setIfInBounds 1 (rawInt ((i:Int)+ 1))))).IsKeyIter it d (i+ 1) es.size ep:=
  ⟨_,aip _ ho (Obj.isFreed_of_fields (aj1 hd _)),(Obj.cls_mapFields ..).trans hc,by rw[aj1 hd];simp[rawInt]⟩
 refine ahb (aiz ?_);refine ahb (wpAny_isOneOf_keyiter (s:={ s with heap:=s.heap.update it (Obj.mapFields (·.setIfInBounds 1 (rawInt ((i:Int)+ 1)))) }) j1.typeIs ?_);show wpAny _ _ (pure en.key) _ _ _;exact ahk (ahk ⟨_,rfl,ahk (hQ _ j1 (aiE ..))⟩)
theorem fin {it:Addr}{i:Nat}{Q:Option Value->Shared->Prop}(hh:A.handled=none)(hit:s.heap.IsKeyIter it d i es.size ep)(hm:eU s.heap d es ep)(hx:es[i]?=none)
 (hQ:∀g1,Heap.ExtBut it s.heap g1->Q none { s with heap:=g1 }):wpAny (model prog w) A (pyNext (.ref it)) Q E s:=by
 obtain⟨o,ho,hc,hd⟩:=id hit;obtain⟨od,vz,qh,vA⟩:=id hm;unfold pyNext;refine ahb (wpAny_attempt (ah7 (name:=Str.ofString "__next__") hit.typeIs aiI (aib aiI hit.typeIs F.entry_dict_keyiterator_next ?_ (F.args_dict_keyiterator_next_1 _))));refine ahb (ahk (ahb (ahb ?_)))
 first|refine ahb (aiZ hit.typeIs (ahk ?_))|refine ahb (ajp hit.typeIs (ahk ?_))
 refine ahb (wpAny_fieldsOf ho hd ?_);have own:Builtin.Dict_items.ownsTuple "dict_keyiterator"=false:=by decide
 simp only[own,aj0,ajs];show wpAny _ _ (if (Value.ref d==Value.none)=true then _ else _) _ _ s;rw[ahq (show ¬((Value.ref d==Value.none)=true) from ahV)];refine ahb (ahk (ahb (aiQ vz vA ?_)));rw[ahq (by simp)];refine ahb (ahk (ahb (ajI vz vA ?_)));rw[ahq (by simp)];refine ahk ?_;simp only[show ¬((i:Int)<0) from by omega,ajs,ahZ,hx];refine ahb ?_
 first|refine ahb (aiZ hit.typeIs (ahk ?_))|refine ahb (ajp hit.typeIs (ahk ?_))
 show wpAny _ _ (setField (.ref it) 0 .none >>=_) _ _ s;refine ahb (akc ho hd (by simp) ?_);show wpAny _ _ (newExc (.type "StopIteration") [] >>=_) _ _ _;refine ahb ?_;simp only[newExc,newTuple];refine ahb (ah8 ?_ (by size_fits));refine ahb (m:=firstArgMember _ _) (wpAny_of_eq (a:=Value.none) (by first|rfl|(simp only[firstArgMember];rfl)) ?_);refine ah8 ?_ (by size_fits);simp only[raiseNew];refine ahb (wpAny_handled ?_);rw[show A.in1.handled=none from hh];refine ahb (ahk (wpAny_throw ?_));refine ahb (wpAny_isInstance (T:="StopIteration") (b:=true) ⟨_,ahz _ rfl,rfl⟩ isSubtype_stop ?_);exact ahk (hQ _ (((aiE ..).extBut.push _).push _))
theorem eU.at {h h':Heap}(x:eU h d es ep)(e:∀o,h.get? d=some o->h'.get? d=some o):eU h' d es ep:=let ⟨o,ho,r⟩:=x;⟨o,e _ ho,r⟩
theorem walks (hh:A.handled=none)(I:Addr)(cF:d≠I):Walks prog w A I [I,d] [I] es.size (λi v=>∃en,es[i]?=some en/\v=en.key) (λi h=>h.IsKeyIter I d i es.size ep/\eU h d es ep) where
 sub:=λb hb=>by simp at hb;simp[hb]
 frame:=λ_ _ _ st hk=>⟨st.1.at λo e=>hk I (by simp) o e,eU.at st.2 λo e=>hk d (by simp) o e⟩
 item:=λi s Q E hi st hQ=>by
  refine item (en:=es[i]) st.1 st.2 (by simp[hi]) λg1 j1 b1=>?_
  exact hQ _ g1 s.toks ⟨_,by simp[hi],rfl⟩ ⟨j1,eU.at st.2 λo e=>b1.extBut _ _ cF e⟩ λb o hb e=>b1.extBut b o (λh=>hb (by simp[h])) e
 done:=λs Q E st hQ=>fin hh st.1 st.2 (by simp) λg1 b1=>hQ g1 s.toks λb o hb e=>b1 b o (λh=>hb (by simp[h])) e
 self:=λ_ _ _ _ st hQ=>wpAny_pyIter_keyiter st.1 hQ
theorem hint {Q:Bool->Shared->Prop}(hm:eU s.heap d es ep)(h:Q false s):wpAny (model prog w) A (Builtin.List.listLengthHint (.ref d)) Q E s:=by
 unfold Builtin.List.listLengthHint;refine ahb (wpAny_specialOf (typ hm) F.slot_dict_len.lookup ?_);generalize JP:("dict.__len__":String)=Tp
 wp_delta
 rw[show splitId Tp=some ("dict","__len__") from by subst JP;decide +kernel];subst JP;refine ahb (wpAny_isInstance (T:="dict") (b:=true) (typ hm) (by rw[isSubtype_type];kernel_rfl) ?_);refine aiW (λjn=>absurd jn (by decide)) (λ_=>?_);refine aiW (λ_=>?_) (λjn=>absurd (by decide +kernel) jn);exact ahb (ajD (T:="dict") (typ hm) (ahk h))
theorem extend {R:Result->Shared->Prop}(hh:A.handled=none)(hd:(d==sysModules)=false)(hm:eU s.heap d es ep)(hlen:es.size<=sizeLine)(S:Addr)(res:Value)(c₀:Nat)(hS:s.heap.get? S=some { cls:=.type "list",data:=.seq #[] c₀ })
 (hR:∀g1 tk dk c',(∀b o,b≠S->s.heap.get? b=some o->g1.get? b=some o)->g1.get? S=some { cls:=.type "list",dict:=none,data:=.seq dk c',slots:=#[] }->
  ItemsOf (λi v=>∃en,es[i]?=some en/\v=en.key) dk es.size->R (.ok (.ret res)) { s with heap:=g1,toks:=tk }):
 wpAny (model prog w) A.in1 (Builtin.List.listExtendWith (.ref S) (.ref d) res)
  (λfin s'=>match fin with|.done f=>R (.ok f) s'|.again c'=>c'.quiet=true/\codeAny (model prog w) A c' R s') (λe s'=>R (.error e) s') s:=by
 have JQ:S≠d:=λe=>by
  obtain⟨o,ho,hc,iA⟩:=hm;rw[←e,hS]at ho;rw[←Za0 ho]at iA;cases iA
 have JR:d<s.heap.objs.size:=by obtain⟨o,ho,_⟩:=hm;exact ahA ho
 have XT:S≠s.heap.objs.size:=ahS (ahA hS);have hdI:d≠s.heap.objs.size:=ahS JR;unfold Builtin.List.listExtendWith;refine ahb (ajD (T:="dict") (typ hm) ?_);have h1:Builtin.List.listSameRef (.ref S) (.ref d)=false:=by simp[Builtin.List.listSameRef,JQ]
 have h2:(Value.type "dict"==Value.type "list")=false:=by decide
 have h3:(Value.type "dict"==Value.type "tuple")=false:=by decide
 simp only[h1,h2,h3,Bool.or_false,aj0,ajs];refine ahb (iter hd hm ?_);have JS:eU (s.heap.push { cls:=.type "dict_keyiterator",data:=.fields #[.ref d,.int 0 0,.int es.size 0,.int ep 0] }) d es ep:=eU.at hm λo e=>ahj _ e
 refine ahb (aiz (hint (s:={ s with heap:=s.heap.push { cls:=.type "dict_keyiterator",data:=.fields #[.ref d,.int 0 0,.int es.size 0,.int ep 0] } }) JS ?_));have zf:=ahj { cls:=.type "dict_keyiterator",data:=.fields #[.ref d,.int 0 0,.int es.size 0,.int ep 0] } hS;have XU:(s.heap.push { cls:=.type "dict_keyiterator",data:=.fields #[.ref d,.int 0 0,.int es.size 0,.int ep 0] }).IsKeyIter s.heap.objs.size d 0 es.size ep:=⟨_,ahz _ rfl,rfl,rfl⟩;have kp:∀b o,s.heap.get? b=some o->(s.heap.push { cls:=.type "dict_keyiterator",data:=.fields #[.ref d,.int 0 0,.int es.size 0,.int ep 0] }).get? b=some o:=λb o e=>ahj _ e
 generalize s.heap.push { cls:=.type "dict_keyiterator",data:=.fields #[.ref d,.int 0 0,.int es.size 0,.int ep 0] }=Oe at zf XU kp JS ⊢;refine aiW (λ_=>?_) (λjn=>absurd (by decide +kernel) jn);refine ahb (wpAny_rule ?_);refine ahb ?_;show wpAny _ _ (updateSeq S (·.push .none) >>=λ_=>updateSeq S (·.pop)) _ _ _;refine ahb (wpAny_updateSeq zf rfl ?_);have zg:=aip (Obj.mapSeq (·.push Value.none)) zf rfl;refine wpAny_updateSeq (hz:=by seq_fits) zg rfl ?_;have hS3:=aip (Obj.mapSeq (·.pop)) zg rfl;have xB:∀b o,b≠S->Oe.get? b=some o->((Oe.update S (Obj.mapSeq (·.push Value.none))).update S (Obj.mapSeq (·.pop))).get? b=some o:=λb o hb e=>(aiO _ _ (ail hb)).trans ((aiO _ _ (ail hb)).trans e)
 have W:=(walks (prog:=prog) (w:=w) (A:=A.in1) (d:=d) (es:=es) (ep:=ep) hh s.heap.objs.size hdI).toS
 have Tq:S∉[s.heap.objs.size,d]:=λlQ=>by
  rcases ahp.mp lQ with e|lQ
  ·exact XT e
  ·exact JQ (ahg.mp lQ)
 refine ahk ⟨plainId_quiet F.plain_extend_loop _,?_⟩;refine codeAny_extend_loopS W hlen S Tq res es.size 0 _ #[] _ rfl (ahT _) ⟨XU.at λo e=>xB _ o (ail XT) e,eU.at JS λo e=>xB _ o (ail JQ) e⟩ hS3 (ItemsOf.nil _) λs' dk c' JT rN lS=>?_
 rw[Moved.eq_with JT];refine hR s'.heap s'.toks dk c' (λb o hb e=>JT.heap b o (λlQ=>?_) (xB b o hb (kp b o e))) rN lS;rcases ahp.mp lQ with e'|lQ
 ·exact hb e'
 ·exact absurd (ahA e) (by rw[ahg.mp lQ];exact aie _)
theorem init {R:Result->Shared->Prop}(hh:A.handled=none)(hd:(d==sysModules)=false)(hm:eU s.heap d es ep)(hlen:es.size<=sizeLine)(S:Addr)(hS:s.heap.get? S=some { cls:=.type "list",data:=.seq #[] })
 (hR:∀g1 tk dk c',(∀b o,b≠S->s.heap.get? b=some o->g1.get? b=some o)->g1.get? S=some { cls:=.type "list",dict:=none,data:=.seq dk c',slots:=#[] }->
  ItemsOf (λi v=>∃en,es[i]?=some en/\v=en.key) dk es.size->R (.ok (.ret .none)) { s with heap:=g1,toks:=tk }):
 wpAny (model prog w) A.in1 (Builtin.«list.__init__» ⟨[.ref S,.ref d],[]⟩)
  (λfin s'=>match fin with|.done f=>R (.ok f) s'|.again c'=>c'.quiet=true/\codeAny (model prog w) A c' R s') (λe s'=>R (.error e) s') s:=by
 have JQ:d≠S:=λe=>by
  obtain⟨o,ho,hc,iA⟩:=hm;rw[e,hS]at ho;rw[←Za0 ho]at iA;cases iA
 show wpAny _ _ (do let old ←Builtin.List.listItems (.ref S);Builtin.List.listUpdate (.ref S) (λ_=>#[]);letGo old.toList.reverse;Builtin.List.listExtendWith (.ref S) (.ref d) .none) _ _ s;refine ahb ?_;unfold Builtin.List.listItems;refine ahb (akd hS rfl (ahk ?_));show wpAny _ _ (updateSeq S (λ_=>#[]) >>=λ_=>letGo (#[]:Array Value).toList.reverse >>=λ_=>Builtin.List.listExtendWith (.ref S) (.ref d) .none) _ _ s;refine ahb (wpAny_updateSeq hS rfl ?_);have zg:=aip (Obj.mapSeq (λ_=>(#[]:Array Value))) hS rfl;have xB:∀b o,b≠S->s.heap.get? b=some o->(s.heap.update S (Obj.mapSeq (λ_=>(#[]:Array Value)))).get? b=some o:=λb o hb e=>(aiO _ _ (ail hb)).trans e
 refine ahb (wpAny_letGo ?_);refine extend (s:={ s with heap:=s.heap.update S (Obj.mapSeq (λ_=>(#[]:Array Value))) }) hh hd (eU.at hm λo e=>xB _ o JQ e) hlen S .none _ zg λg1 tk dk c' hk rN lS=>?_
 exact hR g1 tk dk c' (λb o hb e=>hk b o hb (xB b o hb e)) rN lS
theorem JV {Q:Value->Shared->Prop}(hh:A.handled=none)(hd:(d==sysModules)=false)(hm:eU s.heap d es ep)(hlen:es.size<=sizeLine)
 (hQ:∀g1 tk dk c',(∀b o,s.heap.get? b=some o->g1.get? b=some o)->g1.get? s.heap.objs.size=some { cls:=.type "list",dict:=none,data:=.seq dk c',slots:=#[] }->ItemsOf (λi v=>∃en,es[i]?=some en/\v=en.key) dk es.size->Q (.ref s.heap.objs.size) { s with heap:=g1,toks:=tk }):
 wpAny (model prog w) A (call (.type "list") [.ref d]) Q E s:=by
 refine callType_codes (Q₁:=λobj bO=>obj=.ref s.heap.objs.size/\bO={ s with heap:=s.heap.push { cls:=.type "list",data:=.seq #[] } }) F.called_list (F.typeCall_list_1 _) F.entry_list_init (code_list_new _ ⟨rfl,rfl⟩) λobj bO fH=>?_
 obtain⟨rfl,rfl⟩:=fH;have hS:(s.heap.push { cls:=.type "list",data:=.seq #[] }).get? s.heap.objs.size=some { cls:=.type "list",data:=.seq #[] }:=ahz _ rfl;refine⟨⟨_,hS,rfl⟩,F.args_list_init_2 _ _,init (A:=A.in1) (s:={ s with heap:=s.heap.push { cls:=.type "list",data:=.seq #[] } }) hh hd (eU.at hm λo e=>ahj _ e) hlen _ hS λg1 tk dk c' hk rN lS=>?_⟩;exact⟨rfl,hQ g1 tk dk c' (λb o e=>hk b o (ahS (ahA e)) (ahj _ e)) rN lS⟩
end
end Dk
theorem kt_at {H:Hp}:∀{kvs:List (List Key×V)} {ys:List (List Key×Addr×Value)},KT H kvs ys->∀{i:Nat} {kv:List Key×V} {y:List Key×Addr×Value},kvs[i]?=some kv->ys[i]?=some y->H y.2.1=some (.tup (kv.1.map kV))
 |[],_,h,i,kv,y,h1,_=>by simp at h1
 |k::kvs,_,h,i,kv,y,h1,h2=>by
  cases h with
  |cons h0 ht=>
   cases i with
   |zero=>
    rw[←Za0 h1,←Za0 h2];exact h0.2.1
   |succ i=>exact kt_at ht h1 h2
structure MDef (K:Za1) (C:Addr) (x q:Str) (st:Stmt) (ps:List Str) (f:Addr) (fd:FuncData):Prop where
 F:Dl K x q st f fd
 m:Meth K C x f
 b:Binds K fd ps []
open PySem.W (KasT kas_rev kas_asc kas_desc kas_tail3 kas_descPart kas_count kas_place kas_bin kas_sort kas_ask kas_ask_eq kas_runs kas_st kas_range kas_item kas_item_eq)
namespace Srt
def Gd {α:Type}(P:Nat->Nat->Prop)(f:Nat->Nat->Bool):KasT α->(α->Prop)->Prop
 |.ret a,Q=>Q a
 |.ask i j k,Q=>P i j/\Gd P f (k (f i j)) Q
section
variable {n:Nat}{key:Nat->Int}
structure Pr (n:Nat) (p:Array Nat):Prop where
 sz:p.size=n
 lt:∀i,i<n->p.getD i 0<n
 inj:∀i j,i<n->j<n->p.getD i 0=p.getD j 0->i=j
def Up (key:Nat->Int)(p:Array Nat)(m:Nat):Prop:=∀i j,i<j->j<m->key (p.getD i 0)<key (p.getD j 0)
def Dn (key:Nat->Int)(p:Array Nat)(m:Nat):Prop:=∀i j,i<j->j<m->key (p.getD j 0)<key (p.getD i 0)
def Ok (n:Nat)(key:Nat->Int)(i j:Nat):Prop:=i<n/\j<n/\key i≠key j
def Inj (n:Nat)(key:Nat->Int):Prop:=∀i j,i<n->j<n->key i=key j->i=j
abbrev ask (key:Nat->Int) (i j:Nat):Bool:=decide (key i<key j)
end
end Srt
end L2
namespace L2
open PySem PySem.Spec PyProof.Rows
theorem JW:typeLookup (.type "list") "keys"=pure none:=by rw[typeLookup_type,ajE];kernel_rfl
theorem Mj {prog:Program}{w:World}{A:Around}{E:Value->Shared->Prop}{s:Shared}{a:Addr}{xs:Array Value}{k:Nat}{Q:Option Value->Shared->Prop}
 (hx:s.heap.get? a=some { cls:=.type "list",data:=.seq xs k }) (hA:A.handled=none)
 (h:∀h' tk,(∀b o,s.heap.get? b=some o->h'.get? b=some o)->Q none { s with heap:=h',toks:=tk }):
 wpAny (model prog w) A (getAttr? (.ref a) "keys") Q E s:=by
 obtain⟨hp,g,d,tk,os⟩:=s;have hT:∀XW,(⟨hp,g,d,XW,os⟩:Shared).TypeIs (.ref a) "list":=λ_=>⟨_,hx,rfl⟩
 have f1:=sub_AttributeError;have f3:=F.slot_list_getattribute.lookup;have f4:=F.slot_list_getattribute.bind (.ref a);have f5:=am_list_getattr_none;unfold getAttr? getAttrBy? getAttrBy
 repeat (any_goals (first|assumption|exact hT _|((with_reducible show wpAny _ _ (call (Value.builtin "list.__getattribute__") _ _) _ _ _);refine call_meets F.slot_list_getattribute (hT _) am_entry_list_getattribute (F.args_list_getattribute_2 _ _) (meets_getattribute_miss_list a xs k #[] "keys" _ JW (by decide +kernel) (by decide +kernel)) ⟨hx,hA,λh' XW e XX=>?_⟩)|wp_step))
 obtain⟨t',u',he⟩:=XX.there;show wpAny _ _ (getattributeRaised _ _ _ _ _ _ _) _ _ _;unfold getattributeRaised
 repeat (any_goals (first|assumption|wp_step))
 exact h _ _ XX.keeps
theorem tu:entryFor table "dict.update.loop"=some Builtin.«dict.update.loop»:=entryFor_of_fast (by kernel_rfl)
theorem jH:plainId "dict.update.loop"=true:=by decide +kernel
section
variable {prog:Program} {w:World} {K:Type} [DecidableEq K] {knd:KeyKind prog w K} {A:Around} {E:Value->Shared->Prop}
theorem Ih {R:Result->Shared->Prop}{it l d:Addr}{its:List Value}{rs:List (K×Value)}(hh:A.in1.handled=none)(cF:l≠it)(Ts:d≠it)(XY:d≠l)(hlen:its.length=rs.length)(hsz:rs.length<=sizeLine):
 ∀(k i:Nat) (s:Shared),its.length - i=k->i<=its.length->s.heap.IsListIter it l i->s.heap.IsList l its.toArray->s.heap.DictOf knd d (merged [] (rs.take i))->
 (∀(j:Nat) (u:Value) (kv:K×Value),its[j]?=some u->rs[j]?=some kv->∃p key,u=.ref p/\p≠d/\p≠it/\knd.is kv.1 key=true/\IsTup s.heap p #[key,kv.2])->
 (∀h' tk,h'.DictOf knd d (merged [] rs)->(∀b o,b≠d->b≠it->s.heap.get? b=some o->h'.get? b=some o)->R (.ok (.ret .none)) { s with heap:=h',toks:=tk })->
 codeAny (model prog w) A (.builtin "dict.update.loop" ⟨[.ref d,.ref it,rawInt (i:Int),.none],[]⟩) R s:=by
 have W:=Walks.list (prog:=prog) (w:=w) (A:=A.in1) hh it l cF its.toArray;have zh:∀b:Addr,b≠it->b∉[it]:=λb hb z=>hb (ahg.mp z)
 intro k
 induction k with
 |zero=>
  intro i s hk hi hit hl hd hp hR;have ei:i=its.length:=by omega
  refine codeAny_builtin tu ?_;rw[Around.under_plainId jH _];show wpAny _ A.in1 (pyNext (.ref it) >>=_) _ _ s;refine ahb (W.done s _ _ ⟨by rw[ahm,←ei];exact hit,hl⟩ λh' tk kp=>?_);show wpAny _ A.in1 (Builtin.Dict.addKeywords d [] >>=_) _ _ _;refine ahb (ahk (ahk ?_));rw[aiP (by omega)]at hd;obtain⟨od,x1,x2,h1,h2⟩:=id hd;refine hR h' tk ⟨od,x1,x2,kp _ _ (zh _ Ts) h1,h2⟩ λb o _ hb e=>kp b o (zh _ hb) e
 |succ k ih=>
  intro i s hk hi hit hl hd hp hR;have bU:i<its.length:=by omega
  refine codeAny_builtin tu ?_;rw[Around.under_plainId jH _];show wpAny _ A.in1 (pyNext (.ref it) >>=_) _ _ s;refine ahb (W.item i s _ _ (by rw[ahm];exact bU) ⟨hit,hl⟩ λv h' tk hP vi kp=>?_);obtain⟨abJ,fM⟩:=vi;have JX:its[i]?=some v:=by simpa using hP
  have dP:rs[i]?=some (rs[i]'(by omega)):=ahc (by omega)
  generalize rs[i]'(by omega)=kv at dP;obtain⟨p,key,rfl,pd,pi,t9,o,ho,hc,n,iA⟩:=hp i v kv JX dP;have iU:=kp _ _ (zh _ pi) ho;have DE:rs.take (i+ 1)=rs.take i++[kv]:=by rw[aje,dP];rfl
  have hd2:h'.DictOf knd d (merged [] (rs.take i)):=by
   obtain⟨od,x1,x2,h1,h2⟩:=id hd;exact⟨od,x1,x2,kp _ _ (zh _ Ts) h1,h2⟩
  have JY:=merged_length_le ([]:List (K×Value)) (rs.take i)
  have abK:(merged [] (rs.take i)).length<=sizeLine:=by
   rw[ah2,ajZ]at JY;omega
  show wpAny _ A.in1 (holding [Value.ref p] _ >>=_) _ _ _;refine ahb (aiz ?_);refine ahb (wpAny_tryCatch ?_);show wpAny _ A.in1 (typeOf (Value.ref p) >>=_) _ _ _;refine ahb (ajD (T:="tuple") ⟨o,iU,hc⟩ ?_);rw[ahu (by decide)];refine ahb (akd iU iA ?_);refine ahk ?_;show wpAny _ A.in1 (holding [key,kv.2] (dictSet d key kv.2)) _ _ _;refine aiz (wpAny_dictSet_pairs t9 hd2 (λg DF sb=>?_) abK);have kg:∀b o,b≠d->h'.get? b=some o->g.get? b=some o:=λb o hb e=>(sb.2 b hb).trans e
  refine ahk ⟨plainId_quiet jH _,?_⟩;have Xk:rawInt ((i:Int)+ 1)=rawInt (((i+ 1:Nat)):Int):=rfl;rw[Xk];refine ih (i+ 1) _ (by omega) (by omega) (abJ.at λo e=>kg _ _ (ail Ts) e) (fM.at λo e=>kg _ _ (ail XY) e) ?_ ?_ ?_
  ·rw[DE,merged,List.foldl_append];exact DF
  ·intro j u uQ h1 h2;obtain⟨p,key,rfl,a1,a2,a3,o,b1,b2⟩:=hp j u uQ h1 h2;exact⟨p,key,rfl,a1,a2,a3,o,kg _ _ a1 (kp _ _ (zh _ a2) b1),b2⟩
  ·intro h2 Tt tD Tv;exact hR h2 Tt tD λb o hb hi e=>Tv b o hb hi (kg _ _ hb (kp _ _ (zh _ hi) e))
theorem Aw {s:Shared}{Q:Value->Shared->Prop}{l:Addr}{its:List Value}{c:Nat}{rs:List (K×Value)}(hh:A.handled=none)(hlen:its.length=rs.length)(hsz:rs.length<=sizeLine)
 (hl:s.heap.get? l=some { cls:=.type "list",data:=.seq its.toArray c })
 (hp:∀(j:Nat) (u:Value) (kv:K×Value),its[j]?=some u->rs[j]?=some kv->∃p key,u=.ref p/\knd.is kv.1 key=true/\IsTup s.heap p #[key,kv.2])
 (hQ:∀h' tk,h'.DictOf knd s.heap.objs.size (merged [] rs)->(∀b o,s.heap.get? b=some o->h'.get? b=some o)->Q (.ref s.heap.objs.size) { s with heap:=h',toks:=tk }):
 wpAny (model prog w) A (call (.type "dict") [.ref l]) Q E s:=by
 refine callType_codes (Q₁:=λobj bO=>obj=.ref s.heap.objs.size/\bO={ s with heap:=s.heap.push { cls:=.type "dict",data:=.dict #[] } }) F.kt_called_dict (F.kt_typeCall_dict_1 _) F.entry_dict_init (kt_code_dict_new _ ⟨rfl,rfl⟩) ?_;rintro obj bO ⟨rfl,rfl⟩;have Ii:(s.heap.push { cls:=.type "dict",data:=.dict #[] }).DictOf knd s.heap.objs.size []:=Heap.DictOf.new s.heap;have fM:(s.heap.push { cls:=.type "dict",data:=.dict #[] }).get? l=some { cls:=.type "list",data:=.seq its.toArray c }:=ahj _ hl;have Og:=ahA hl;refine⟨Ii.typeIs,F.args_dict_init_2 _ _,?_⟩;unfold Builtin.«dict.__init__»;refine ahb ?_;unfold Builtin.Dict.selfAndRest;refine ahb (ajH Ii.typeIs ?_);show wpAny _ _ (pure (s.heap.objs.size,[Value.ref l])) _ _ _;refine ahk ?_;show wpAny _ _ (Builtin.Dict.updateFrom "dict.__init__" s.heap.objs.size (.ref l) [] .none) _ _ _;unfold Builtin.Dict.updateFrom;refine ahb (ajD (T:="list") ⟨_,fM,rfl⟩ ?_);rw[ahu (by decide)];refine ahb (Mj fM hh λg tk kp=>?_);rw[ahu (by decide)];refine ahb (wpAny_rule ?_);have DG:=kp _ _ fM;refine ahb (ajM (items:=its.toArray) ⟨_,DG,rfl,c,rfl⟩ ?_)
 have zi:s.heap.objs.size<g.objs.size:=by
  obtain⟨od,_,_,h1,_⟩:=id Ii;exact ahA (kp _ _ h1)
 have hlg:=ahA DG;have k2:∀b o,s.heap.get? b=some o->(g.push { cls:=.type "list_iterator",data:=.fields #[.ref l,.int 0 0] }).get? b=some o:=λb o e=>ahj _ (kp _ _ (ahj _ e))
 refine ahk ⟨plainId_quiet jH _,Ih (knd:=knd) (A:=A.in1) (rs:=rs) (its:=its) (l:=l) (it:=g.objs.size) hh (ahS hlg) (ahS zi) (aiM Og) hlen hsz its.length 0 _ rfl (ahT _) ?_ ⟨_,ahj _ DG,rfl,c,rfl⟩ ?_ ?_ ?_⟩
 ·exact⟨_,ahz _ rfl,rfl,rfl⟩
 ·obtain⟨od,x1,x2,h1,h2⟩:=id Ii;exact⟨od,x1,x2,ahj _ (kp _ _ h1),h2⟩
 ·intro j u kv h1 h2;obtain⟨p,key,rfl,a3,o,b1,b2⟩:=hp j u kv h1 h2;have dR:=ahA b1;exact⟨p,key,rfl,ahS dR,ahS (ajX dR zi),a3,o,k2 _ _ b1,b2⟩
 ·intro h' Tt tD Tv;refine⟨rfl,hQ h' Tt tD λb o e=>?_⟩;have hb:=ahA e;exact Tv b o (ahS hb) (ahS (ajX hb zi)) (k2 _ _ e)
end
section
variable {X:Cx}
def Tw:List V->Hp->VK->Prop:=λxs H Q=>∃(l:Addr) (ps:List Addr) (kvs:List (Key×V)),xs=[.ref l]/\H l=some (.lst (ps.map V.ref))/\ps.length=kvs.length/\
 (∀(i:Nat) (p:Addr) (kv:Key×V),ps[i]?=some p->kvs[i]?=some kv->H p=some (.tup [kV kv.1,kv.2]))/\∀d,H d=none->Q (.ref d) (upd H d (.dK (oF [] kvs)))
theorem DH {P:Program}{w:World}{H:Hp}{h:Heap}(ok:fw P w H h):∀(ps:List Addr) (kvs:List (Key×V)),ps.length=kvs.length->(∀(i:Nat) (p:Addr) (kv:Key×V),ps[i]?=some p->kvs[i]?=some kv->H p=some (.tup [kV kv.1,kv.2]))->
 ∃rs:List (Key×Value),KV kvs rs/\∀(j:Nat) (p:Addr) (kv:Key×Value),ps[j]?=some p->rs[j]?=some kv->∃key,(b9 P w).is kv.1 key=true/\IsTup h p #[key,kv.2]
 |[],[],_,_=>⟨[],.nil,λj p kv h1=>by simp at h1⟩
 |p::ps,kv::kvs,hl,hp=>by
  obtain⟨rs,r1,r2⟩:=DH ok ps kvs (by simpa using hl) λi q kv h1 h2=>hp (i+ 1) q kv (by simpa using h1) (by simpa using h2)
  obtain⟨-,its,rv,ht⟩:=ok p _ (hp 0 p kv rfl rfl);obtain⟨u,v,rfl,ru,rv2⟩:=vals2 rv;refine⟨(kv.1,v)::rs,.cons ⟨rfl,rv2⟩ r1,λj q uQ h1 h2=>?_⟩
  cases j with
  |zero=>
   obtain rfl:p=q:=by simpa using h1
   obtain rfl:(kv.1,v)=uQ:=by simpa using h2
   exact⟨u,lK ru,ht⟩
  |succ j=>exact r2 j q uQ (by simpa using h1) (by simpa using h2)
theorem jc (hc:X.calm=true):lD X (.type "dict") Tw:=by
 intro pins s σ H xs us Q I r h;obtain⟨l,ps,kvs,rfl,hl,hlen,hp,q⟩:=h;obtain⟨u,rfl,rx⟩:=vals1 r;cases rx;obtain⟨hz,its,c,rv,hg⟩:=I.bu l _ hl;obtain rfl:=vx rv;obtain⟨rs,r1,r2⟩:=DH I.bu ps kvs hlen hp;have vB:kvs.length=rs.length:=r1.length;rw[ahl]at hz;refine Aw (knd:=b9 X.prog X.w) (rs:=rs) (I.ok.hd hc) (by rw[ahl];omega) (by omega) hg (λj u kv h1 h2=>?_) λg tk dd kp=>?_
 ·rw[ahw]at h1
  cases hy:ps[j]? with
  |none=>rw[hy]at h1;cases h1
  |some p=>
   rw[hy]at h1;obtain⟨key,k1,k2⟩:=r2 j p kv hy h2;exact⟨p,key,(Za0 h1).symm,k1,k2⟩
 ·have hm:KV (oF [] kvs) (merged [] rs):=KV.merge r1 .nil;have JY:=uP kvs [];rw[ajZ]at JY;exact⟨.ref s.heap.objs.size,_,I.laid (t':=tk) kp (ahi _) (y7 (by omega) (aho.mpr (ail (ahS I.big))) hm dd),rfl,q _ (I.bu.fresh (ahi _))⟩
end
section
variable {X:Cx}{pins:List (Addr×Obj)}{σ:St}{H:Hp}{s:Shared}{d:Addr}{u:HO}{o:Obj}
theorem Inv.freeze (I:Inv X pins σ H s)(e:H d=some u)(mu:xn (some u))(ho:s.heap.get? d=some o):Inv X pins σ (upd H d (.dC o u)) s:=by
 have JZ:xn (H d):=by rw[e];exact mu
 have Al:∀c y,H c=some (.own y)->c≠d:=λc y r z=>by subst z;rw[r]at JZ;exact JZ
 have mN:∀c xs,H c=some (.tup xs)->c≠d:=λc xs r z=>by subst z;rw[r]at JZ;exact JZ
 have new:cK X.prog X.w (upd H d (.dC o u)) s.heap d u:=(I.bu d u e).sg (λc v _ r=>r) (λc r=>by rw[av (Al _ _ r)];exact r) λc xs r=>by rw[av (mN _ _ r)];exact r
 exact p8 (t':=s.toks) I JZ (Heap.SameBut.refl _ _) ⟨o,ho⟩ ⟨ho,new⟩
theorem Inv.Ij (I:Inv X pins σ H s)(e:H d=some (.dC o u))(mu:xn (some u))(h0:∀o u,X.xU d≠some (.dC o u)):Inv X pins σ (upd H d u) s:=by
 have nn:∀b,H b=none->b≠d:=λb n z=>by rw[z,e]at n;cases n
 have Al:∀c y,H c=some (.own y)->c≠d:=λc y r z=>by rw[z,e]at r;cases r
 have mN:∀c xs,H c=some (.tup xs)->c≠d:=λc xs r z=>by rw[z,e]at r;cases r
 refine⟨I.ok,I.os,I.bare,⟨I.base.keep,I.base.slot,λb ob q n hx=>?_,I.base.there,λb xs q=>?_,λb ob v q=>?_,λb ps q=>?_⟩,I.loc,I.cell,?_,λx c q=>?_,λp hp=>?_,λb v q=>?_,I.len⟩
 ·have h1:=I.base.free b ob q n hx;rw[av (nn b h1)];exact h1
 ·have h1:=I.base.qc b xs q;rw[av (mN _ _ h1)];exact h1
 ·have h1:=I.base.mO b ob v q;rw[av (λz=>h0 ob v (by rw[←z];exact q))];exact h1
 ·obtain⟨m,h1⟩:=I.base.qe b ps q;refine⟨m,?_⟩;rw[av (λz=>by rw[z,e]at h1;cases h1)];exact h1
 ·rw[av (nn _ I.free)];exact I.free
 ·have h1:=I.ke x c q;rw[av (nn _ h1)];exact h1
 ·obtain⟨a,b,c⟩:=I.pin p hp;refine⟨a,?_,c⟩;rw[av (nn _ b)];exact b
 ·have st:∀b v,cK X.prog X.w H s.heap b v->cK X.prog X.w (upd H d u) s.heap b v:=λb v q=>q.sg (λc v _ r=>r) (λc r=>by rw[av (Al _ _ r)];exact r) λc xs r=>by rw[av (mN _ _ r)];exact r
  by_cases hb:b=d
  ·subst hb;rw[aj]at q;obtain rfl:=Za0 q;exact st _ _ (I.bu _ _ e).2
  ·rw[av hb]at q;exact st _ _ (I.bu b v q)
theorem Inv.Ml (I:Inv X pins σ H s)(e:H d=some u)(mu:xn (some u)):∀o u,X.xU d≠some (.dC o u):=λo v q=>by
 rw[I.base.mO d o v q]at e;cases e;exact mu
def Xl (t:TS):TS:=λD σ H=>∃(d:Addr) (u:HO),H d=some u/\xn (some u)/\
 t { nx:=λ aX H'=>∃o,H' d=some (.dC o u)/\D.nx aX (upd H' d u),rt:=λv H'=>∃o,H' d=some (.dC o u)/\D.rt v (upd H' d u),
     bk:=λ aX H'=>∃o,H' d=some (.dC o u)/\D.bk aX (upd H' d u),ct:=λ aX H'=>∃o,H' d=some (.dC o u)/\D.ct aX (upd H' d u) } σ H
theorem Ax {st:Stmt}{t:TS}(h:PS X st t):PS X st (Xl t):=by
 intro pins s σ H D I q;obtain⟨d,u,e,mu,q⟩:=q;have h0:=I.Ml e mu;refine bK (h pins s σ H _ I q) λf s' p=>?_
 cases f with
 |next=>obtain⟨aX,H',I',o,e',q'⟩:=p;exact⟨aX,_,I'.Ij e' mu h0,q'⟩
 |brk=>obtain⟨aX,H',I',o,e',q'⟩:=p;exact⟨aX,_,I'.Ij e' mu h0,q'⟩
 |cont=>obtain⟨aX,H',I',o,e',q'⟩:=p;exact⟨aX,_,I'.Ij e' mu h0,q'⟩
 |ret v=>obtain⟨v',aX,H',I',r,o,e',q'⟩:=p;exact⟨v',aX,_,I'.Ij e' mu h0,r,q'⟩
end
def DJ (d:Addr)(o:Obj)(kvs:List (List Key×V)):It:=
 ⟨λi H=>i<kvs.length/\H d=some (.dC o (.dT kvs)),λi H x H'=>H'=H/\∃p kv,kvs[i]?=some kv/\x=.ref p/\H p=some (.tup (kv.1.map kV)),λi H=>kvs.length<=i/\H d=some (.dC o (.dT kvs))⟩
theorem kt_key {H:Hp}:∀{kvs:List (List Key×V)} {ys:List (List Key×Addr×Value)},KT H kvs ys->∀{i:Nat} {y:List Key×Addr×Value},ys[i]?=some y->∃kv,kvs[i]?=some kv/\H y.2.1=some (.tup (kv.1.map kV)):=λ{kvs ys} h {i y} h1=>by
 have hl:kvs.length=ys.length:=Paired.length h;have hi:i<kvs.length:=by rw[hl];exact(ahd.mp h1).1
 exact⟨_,ahc hi,kt_at h (ahc hi) h1⟩
theorem QF {P:Program}{w:World}{K:Za1}{tg:Expr}(d it:Addr)(o:Obj)(es:Array DictEntry)(ep:Nat)(kvs:List (List Key×V))(ho:o.data=.dict es ep):Turn P w K tg (DJ d o kvs) [it] it (λi h=>h.IsKeyIter it d i es.size ep) where
 mem:=by simp
 obj:=λi h st b hb=>by
  have e:b=it:=by simpa using hb
  subst e;obtain⟨o,e,c,d⟩:=st;exact⟨o,e,λv z=>by rw[d]at z;cases z⟩
 keep:=λi h h' st k=>st.at λo e=>k it (by simp) o e
 item:=by
  intro X hP hw hK hc i pins s σ H E I hf st hg;subst hP hw hK;obtain⟨hi,hd⟩:=hg;obtain⟨jT,-,vC,ys,kt,o2,Tx,Tz,h1,h2,h3,h4,h5⟩:=I.bu d _ hd;rw[jT]at h1;obtain rfl:=Za0 h1;rw[ho]at h3;injection h3 with e1 e2
  subst e1 e2;have jm:kvs.length=ys.length:=Paired.length kt;have hy:ys[i]?=some (ys[i]'(by omega)):=ahc (by omega)
  generalize ys[i]'(by omega)=y at hy;have TB:es[i]?=some (entryOfKey (tupleKind (b9 X.prog X.w)) y):=by rw[entry_at h4,hy];rfl
  obtain⟨kv,dP,hp⟩:=kt_key kt hy;obtain⟨f0,f1,f2,f3,f4,f5⟩:=hf it (by simp);refine Dk.item st ⟨_,jT,h2,ho⟩ TB λh' cU sb=>?_
  have I1:Inv X pins σ H { s with heap:=h' }:=I.turned (t':=s.toks) (λb o hb e=>(sb.2 b hb).trans e) f0 f1 f3 f4 f5;obtain⟨oi,e,c,dd⟩:=id cU;exact⟨_,rfl,CJ (s:={ s with heap:=h' }) e c dd (by decide) ⟨.ref y.2.1,H,I1,rfl,⟨rfl,y.2.1,kv,dP,rfl,hp⟩,cU,λb hb=>(hf b hb).1⟩⟩
 done:=by
  intro X hP hw hK hc i pins s σ H E I hf st hg;subst hP hw hK;obtain⟨hi,hd⟩:=hg;obtain⟨jT,-,vC,ys,kt,o2,Tx,Tz,h1,h2,h3,h4,h5⟩:=I.bu d _ hd;rw[jT]at h1;obtain rfl:=Za0 h1;rw[ho]at h3;injection h3 with e1 e2
  subst e1 e2;have jm:kvs.length=ys.length:=Paired.length kt;have hsz:es.size=ys.length:=size_of_entries h4;obtain⟨f0,f1,f2,f3,f4,f5⟩:=hf it (by simp);exact Dk.fin (I.ok.hd hc) st ⟨_,jT,h2,ho⟩ (aj7 (by omega)) λh' eb=>⟨rfl,I.turned (t':=s.toks) (λb o hb e=>eb b o hb e) f0 f1 f3 f4 f5⟩
 self:=λ_ _ _ _ _ st h=>wpAny_pyIter_keyiter st h
section
variable {X:Cx}{tg:Expr}
def iDT (tl:TE):TI:=λ σ H R=>tl σ H λx H1=>∃d kvs,x=.ref d/\H1 d=some (.dT kvs)/\∀o,R (DJ d o kvs) (upd H1 d (.dC o (.dT kvs)))
theorem Oh {l:Expr}{tl:TE}(hl:PE X l tl):PI X tg l (iDT tl):=by
 intro pins s σ H R I h;refine bK (hl pins s σ H _ I h) λu s1 ⟨x,H1,I1,rx,d,kvs,ex,hd,q⟩=>?_
 subst ex;cases rx;obtain⟨-,vC,ys,kt,o,es,ep,h1,h2,h3,h4,h5⟩:=I1.bu d _ hd;refine Dk.iter vC ⟨o,h1,h2,h3⟩ ?_;have I2:=(I1.freeze hd True.intro h1).kept (h':=s1.heap.push { cls:=.type "dict_keyiterator",data:=.fields #[.ref d,.int 0 0,.int es.size 0,.int ep 0] }) (t':=s1.toks) λb o e=>ahj _ e
 have T:=QF (P:=X.prog) (w:=X.w) (K:=X.K) (tg:=tg) d s1.heap.objs.size o es ep kvs h3;refine⟨_,_,_,_,_,rfl,I2,T,⟨_,ahz _ rfl,rfl,rfl⟩,λb hb=>?_,q o⟩;rw[ahg.mp hb];have qD:=I1.bu.fresh (ahi s1.heap.objs.size);exact I1.qj (ahi _) (by rw[av (λz=>by rw[z,hd]at qD;cases qD)];exact qD)
theorem QG {P:Program}{w:World}{k:Key}{v:Value}(h:(b9 P w).is k v=true):RelV (kV k) v:=by
 cases k with
 |inl i=>
  have h':Value.isInt i v=true:=h
  cases v with
  |int j t=>simp[Value.isInt]at h';subst h';exact⟨_,rfl⟩
  |_=>simp[Value.isInt]at h'
 |inr x=>
  have h':Value.isStrOf x v=true:=h
  cases v with
  |str j t=>simp[Value.isStrOf]at h';subst h';exact⟨_,rfl⟩
  |_=>simp[Value.isStrOf]at h'
end
theorem J0 {d:Addr}{o:Obj}{kvs:List (List Key×V)}{g:TG}{tb:TS}{D:Ends}{σ:St}{H:Hp}(Pv:Nat->St->Hp->Prop)(h0:Pv 0 σ H)(hl:∀i σ H,i<=kvs.length->Pv i σ H->H d=some (.dC o (.dT kvs)))
 (hs:∀i kv σ H p,kvs[i]?=some kv->H p=some (.tup (kv.1.map kV))->Pv i σ H->g (.ref p) σ H λ fB H2=>tb { D with nx:=Pv (i+ 1),ct:=Pv (i+ 1),bk:=D.nx } fB H2) (hd:∀ σ H,Pv kvs.length σ H->D.nx σ H):
 ∃W:Nat->Nat->St->Hp->Prop,(∃m,W 0 m σ H)/\∀i m σ H,W i m σ H->
  ((DJ d o kvs).stop i H/\D.nx σ H)\/((DJ d o kvs).go i H/\∃N:St->Hp->Prop,(∀ aX H',N aX H'->∃m',m'<m/\W (i+ 1) m' aX H')/\∀x H',(DJ d o kvs).pI i H x H'->g x σ H' λ fB H2=>tb { D with nx:=N,ct:=N,bk:=D.nx } fB H2):=by
 refine⟨λi m σ H=>m=kvs.length - i/\i<=kvs.length/\Pv i σ H,⟨kvs.length,by simp,ahT _,h0⟩,?_⟩;rintro i m σ H ⟨rfl,hi,p⟩;have q:=hl i σ H hi p;by_cases bU:i<kvs.length
 ·refine .inr ⟨⟨bU,q⟩,Pv (i+ 1),λ aX H' p'=>⟨kvs.length - (i+ 1),by omega,rfl,bU,p'⟩,λx H' y=>?_⟩;obtain⟨rfl,p2,kv,h1,rfl,h2⟩:=y;exact hs i kv σ _ p2 h1 h2 p
 ·have e:i=kvs.length:=by omega
  subst e;exact .inl ⟨⟨ahi _,q⟩,hd σ H p⟩
inductive Dt where
 |i (n:Int)|s (l:List Nat)|n|b (k:Bool)|t (xs:List Dt)|l (xs:List Dt)
inductive bN (H:Hp):Nat->V->Dt->Prop where
 |i {k:Nat} {n:Int}:bN H k (.int n) (.i n)
 |s {k:Nat} {l:List Nat}:bN H k (.str (tx l)) (.s l)
 |n {k:Nat}:bN H k .non .n
 |b {k:Nat} {c:Bool}:bN H k (.bl c) (.b c)
 |t {k:Nat} {a:Addr} {vs:List V} {ds:List Dt}:H a=some (.tup vs)->vs.length=ds.length->(∀(j:Nat) (v:V) (d:Dt),vs[j]?=some v->ds[j]?=some d->bN H k v d)->bN H (k+ 1) (.ref a) (.t ds)
 |l {k:Nat} {a:Addr} {vs:List V} {ds:List Dt}:H a=some (.lst vs)->vs.length=ds.length->(∀(j:Nat) (v:V) (d:Dt),vs[j]?=some v->ds[j]?=some d->bN H k v d)->bN H (k+ 1) (.ref a) (.l ds)
theorem bN.keep {H H':Hp}(ht:∀a xs,H a=some (.tup xs)->H' a=some (.tup xs))(hl:∀a xs,H a=some (.lst xs)->H' a=some (.lst xs)){k:Nat}{v:V}{d:Dt}(h:bN H k v d):bN H' k v d:=by
 induction h with
 |i=>exact .i
 |s=>exact .s
 |n=>exact .n
 |b=>exact .b
 |t a b c ih=>exact .t (ht _ _ a) b ih
 |l a b c ih=>exact .l (hl _ _ a) b ih
theorem bN.same {H H':Hp}(s:au H H'){k:Nat}{v:V}{d:Dt}(h:bN H k v d):bN H' k v d:=h.keep (λ_ _ e=>s _ _ e) (λ_ _ e=>s _ _ e)
theorem bN.up {H:Hp}{k:Nat}{v:V}{d:Dt}(h:bN H k v d):bN H (k+ 1) v d:=by
 induction h with
 |i=>exact .i
 |s=>exact .s
 |n=>exact .n
 |b=>exact .b
 |t a b c ih=>exact .t a b ih
 |l a b c ih=>exact .l a b ih
theorem bN.le {H:Hp}{k m:Nat}{v:V}{d:Dt}(h:bN H k v d)(hm:k<=m):bN H m v d:=by
 obtain⟨j,rfl⟩:=Nat.exists_eq_add_of_le hm;clear hm
 induction j with
 |zero=>exact h
 |succ j ih=>exact ih.up
section
variable {X:Cx}{pins:List (Addr×Obj)}{σ:St}{H:Hp}{s:Shared}
theorem Mm (x:Str):(x==x)=true:=by simp
theorem xC {A:Around}(n:Int)(t t':Tok):SeqAt.EqAt A s (.int n t) (.int n t') true:=by
 have:=SeqAt.EqAt.int_int (A:=A) (s:=s) n t n t';rw[beq_self_eq_true]at this;exact this
theorem xD {A:Around}(x:Str)(t t':Tok):SeqAt.EqAt A s (.str x t) (.str x t') true:=by
 have:=SeqAt.EqAt.str_str (A:=A) (s:=s) x t x t';rw[Mm]at this;exact this
theorem Xm (I:Inv X pins σ H s):∀(k:Nat) (A:Around) (v v':V) (u u':Value) (d:Dt),A.units+ k<cLine->bN H k v d->bN H k v' d->RelV v u->RelV v' u'->SeqAt.EqAt A s u u' true:=by
 intro k
 induction k with
 |zero=>
  intro A v v' u u' d hu h h' r r'
  cases h with
  | @i n=>cases h' with|i=>?_
          obtain⟨t,rfl⟩:=r;obtain⟨t',rfl⟩:=r';exact xC _ _ _
  | @s l=>cases h' with|s=>?_
          obtain⟨t,rfl⟩:=r;obtain⟨t',rfl⟩:=r';exact xD _ _ _
  |n=>cases h' with|n=>?_
      cases r;cases r';exact SeqAt.EqAt.same _
  | @b c=>cases h' with|b=>?_
          cases r;cases r';exact SeqAt.EqAt.same _
 |succ k ih=>
  intro A v v' u u' d hu h h' r r'
  cases h with
  | @i _ n=>cases h' with|i=>?_
            obtain⟨t,rfl⟩:=r;obtain⟨t',rfl⟩:=r';exact xC _ _ _
  | @s _ l=>cases h' with|s=>?_
            obtain⟨t,rfl⟩:=r;obtain⟨t',rfl⟩:=r';exact xD _ _ _
  |n=>cases h' with|n=>?_
      cases r;cases r';exact SeqAt.EqAt.same _
  | @b _ c=>cases h' with|b=>?_
            cases r;cases r';exact SeqAt.EqAt.same _
  | @t _ a vs ds h1 h2 h3=>
    cases h' with
    | @t _ b vD _ g1 g2 g3=>
      cases r;cases r';by_cases e:a=b
      ·subst e;exact SeqAt.EqAt.same _
      ·refine SeqAt.EqAt.of_refs e ?_;obtain⟨its,r1,p1,_⟩:=I.tuple (bL.of h1);obtain⟨dg,r2,p2,_⟩:=I.tuple (bL.of g1);have l1:=r1.length;have l2:=r2.length;have:=SeqAt.RcAt.tuples (A:=A) (e:=λ_=>true) (show s.heap.IsTuple a its.toArray from p1) (show s.heap.IsTuple b dg.toArray from p2) (by omega) (λj q1 q2=>?_)
       ·rw[ahm,ahm,←l1,←l2,h2,g2,all_true _ _ λ_=>rfl]at this;simpa using this
       ·have k1:j<its.length:=by simpa using q1
        have k2:j<dg.length:=by simpa using q2
        have d1:vs[j]?=some (vs[j]'(by omega)):=ahc (by omega)
        have d2:vD[j]?=some (vD[j]'(by omega)):=ahc (by omega)
        have d3:ds[j]?=some (ds[j]'(by omega)):=ahc (by omega)
        obtain⟨w1,e1,z1⟩:=r1.get d1;obtain⟨w2,e2,z2⟩:=r2.get d2;have f1:its.toArray[j]=w1:=by rw[aiu];exact Za0 ((ahc k1).symm.trans e1)
        have f2:dg.toArray[j]=w2:=by rw[aiu];exact Za0 ((ahc k2).symm.trans e2)
        rw[f1,f2];exact ih _ _ _ _ _ _ (show A.units+ 1+ k<cLine by omega) (h3 j _ _ d1 d3) (g3 j _ _ d2 d3) z1 z2
  | @l _ a vs ds h1 h2 h3=>
    cases h' with
    | @l _ b vD _ g1 g2 g3=>
      cases r;cases r';by_cases e:a=b
      ·subst e;exact SeqAt.EqAt.same _
      ·refine SeqAt.EqAt.of_refs e ?_;obtain⟨its,r1,p1,_⟩:=I.list (aM.of h1);obtain⟨dg,r2,p2,_⟩:=I.list (aM.of g1);have l1:=r1.length;have l2:=r2.length;have:=SeqAt.RcAt.lists (A:=A) (e:=λ_=>true) p1.isList p2.isList (by simp;omega) (by omega) (λj q1 q2=>?_)
       ·rw[all_true _ _ λ_=>rfl]at this;exact this
       ·have k1:j<its.length:=by simpa using q1
        have k2:j<dg.length:=by simpa using q2
        have d1:vs[j]?=some (vs[j]'(by omega)):=ahc (by omega)
        have d2:vD[j]?=some (vD[j]'(by omega)):=ahc (by omega)
        have d3:ds[j]?=some (ds[j]'(by omega)):=ahc (by omega)
        obtain⟨w1,e1,z1⟩:=r1.get d1;obtain⟨w2,e2,z2⟩:=r2.get d2;have f1:its.toArray[j]=w1:=by rw[aiu];exact Za0 ((ahc k1).symm.trans e1)
        have f2:dg.toArray[j]=w2:=by rw[aiu];exact Za0 ((ahc k2).symm.trans e2)
        rw[f1,f2];exact ih _ _ _ _ _ _ (show A.units+ 1+ k<cLine by omega) (h3 j _ _ d1 d3) (g3 j _ _ d2 d3) z1 z2
end
section
variable {X:Cx}
theorem uf {pins:List (Addr×Obj)}{σ:St}{H:Hp}{s:Shared}(I:Inv X pins σ H s){k:Nat}{A:Around}(hu:A.units+ k<cLine){vs vD:List V}{its dg:List Value}{ds:List Dt}(r1:Vals vs its)(r2:Vals vD dg)(h2:vs.length=ds.length)(g2:vD.length=ds.length)
 (h3:∀(j:Nat) (v:V) (d:Dt),vs[j]?=some v->ds[j]?=some d->bN H k v d) (g3:∀(j:Nat) (v:V) (d:Dt),vD[j]?=some v->ds[j]?=some d->bN H k v d) (j:Nat) (q1:j<its.toArray.size) (q2:j<dg.toArray.size):SeqAt.EqAt A s its.toArray[j] dg.toArray[j] true:=by
 have l1:=r1.length;have l2:=r2.length;have k1:j<its.length:=by simpa using q1
 have k2:j<dg.length:=by simpa using q2
 have d1:vs[j]?=some (vs[j]'(by omega)):=ahc (by omega)
 have d2:vD[j]?=some (vD[j]'(by omega)):=ahc (by omega)
 have d3:ds[j]?=some (ds[j]'(by omega)):=ahc (by omega)
 obtain⟨w1,e1,z1⟩:=r1.get d1;obtain⟨w2,e2,z2⟩:=r2.get d2;have f1:its.toArray[j]=w1:=by rw[aiu];exact Za0 ((ahc k1).symm.trans e1)
 have f2:dg.toArray[j]=w2:=by rw[aiu];exact Za0 ((ahc k2).symm.trans e2)
 rw[f1,f2];exact Xm I k _ _ _ _ _ _ hu (h3 j _ _ d1 d3) (g3 j _ _ d2 d3) z1 z2
def Xn:R2:=λx y H Q=>∃d a b,x=.ref a/\y=.ref b/\bN H 8 x d/\bN H 8 y d/\Q (.bl true) H
def Oi:R2:=λx y H Q=>∃d a b,x=.ref a/\y=.ref b/\bN H 8 x d/\bN H 8 y d/\Q (.bl false) H
theorem QH (hu:X.A.units+ 8<cLine):gH X (compareOp .Eq) Xn:=by
 intro pins s σ H x y v u Q I rx ry h;obtain⟨d,a,b,rfl,rfl,h,h',q⟩:=h;cases rx;cases ry
 cases h with
 |t h1 h2 h3=>
  cases h' with
  |t g1 g2 g3=>
   obtain⟨its,r1,p1,_⟩:=I.tuple (bL.of h1);obtain⟨dg,r2,p2,_⟩:=I.tuple (bL.of g1);have l1:=r1.length;have l2:=r2.length;refine SeqAt.eq_tupleAt (e:=λ_=>true) (show s.heap.IsTuple a _ from p1) (show s.heap.IsTuple b _ from p2) (by omega) (λj q1 q2=>uf I (k:=7) (by show X.A.units+ 1+ 7<cLine;omega) r1 r2 h2 g2 h3 g3 j q1 q2) ⟨.bl true,H,I,?_,q⟩;show _=Value.bool true;rw[ahm,ahm,←l1,←l2,h2,g2,all_true _ _ λ_=>rfl];simp
 |l h1 h2 h3=>
  cases h' with
  |l g1 g2 g3=>
   obtain⟨its,r1,p1,_⟩:=I.list (aM.of h1);obtain⟨dg,r2,p2,_⟩:=I.list (aM.of g1);have l1:=r1.length;have l2:=r2.length;refine SeqAt.eq_listAt (e:=λ_=>true) p1.isList p2.isList (by simp;omega) (by omega) (λj q1 q2=>uf I (k:=7) (by show X.A.units+ 1+ 7<cLine;omega) r1 r2 h2 g2 h3 g3 j q1 q2) ⟨.bl true,H,I,?_,q⟩;show _=Value.bool true;rw[all_true _ _ λ_=>rfl]
theorem GA (hu:X.A.units+ 8<cLine):gH X (compareOp .NotEq) Oi:=by
 intro pins s σ H x y v u Q I rx ry h;obtain⟨d,a,b,rfl,rfl,h,h',q⟩:=h;cases rx;cases ry
 cases h with
 |t h1 h2 h3=>
  cases h' with
  |t g1 g2 g3=>
   obtain⟨its,r1,p1,_⟩:=I.tuple (bL.of h1);obtain⟨dg,r2,p2,_⟩:=I.tuple (bL.of g1);have l1:=r1.length;have l2:=r2.length;refine SeqAt.RcNeAt.tuples (e:=λ_=>true) (show s.heap.IsTuple a _ from p1) (show s.heap.IsTuple b _ from p2) (by omega) (λj q1 q2=>uf I (k:=7) (by show X.A.units+ 1+ 7<cLine;omega) r1 r2 h2 g2 h3 g3 j q1 q2) X.prog X.w X.xe _ ⟨.bl false,H,I,?_,q⟩;show _=Value.bool false;rw[ahm,ahm,←l1,←l2,h2,g2,all_true _ _ λ_=>rfl];simp
 |l h1 h2 h3=>
  cases h' with
  |l g1 g2 g3=>
   obtain⟨its,r1,p1,_⟩:=I.list (aM.of h1);obtain⟨dg,r2,p2,_⟩:=I.list (aM.of g1);have l1:=r1.length;have l2:=r2.length;refine SeqAt.RcNeAt.lists (e:=λ_=>true) p1.isList p2.isList (by simp;omega) (by omega) (λj q1 q2=>uf I (k:=7) (by show X.A.units+ 1+ 7<cLine;omega) r1 r2 h2 g2 h3 g3 j q1 q2) X.prog X.w X.xe _ ⟨.bl false,H,I,?_,q⟩;show _=Value.bool false;rw[all_true _ _ λ_=>rfl];rfl
end
def nI (l:List Nat):List Int:=l.map λn:Nat=>(n:Int)
theorem cy (l:List Nat):(nI l).length=l.length:=ahl ..
theorem fj {l:List Nat}{i n:Nat}(h:l[i]?=some n):(nI l)[i]?=some (n:Int):=by unfold nI;rw[ahw,h];rfl
theorem jo (a b:List Nat):nI (a++b)=nI a++nI b:=ahO ..
theorem TC (l:List Nat)(i n:Nat):(nI l).set i (n:Int)=nI (l.set i n):=by unfold nI;rw[List.map_set]
structure RS where
 L:Nat
 made:Nat
 rows:List Dt
 ways:List (List (Int×Nat))
 gaps:Za3
 aB:List Nat
 called:List (List Nat)
 bE:List Nat
def wK (l:List (Int×Nat)):List (Key×V):=l.map λp=>(Sum.inl p.1,V.int p.2)
def gK (l:List Int):List (Key×V):=l.map λs=>(Sum.inl s,V.bl true)
def fJ (l:List (Int×Nat))(s:Int):Option Nat:=(l.find? λp=>decide (p.1=s)).map (·.2)
def jW (l:List (Int×Nat))(s:Int)(r:Nat):List (Int×Nat):=if (l.any λp=>decide (p.1=s))=true then l.map λp=>if p.1=s then (p.1,r) else p else l++[(s,r)]
theorem DK (l:List (Int×Nat)):(wK l).length=l.length:=ahl ..
theorem TF (l:List Int):(gK l).length=l.length:=ahl ..
theorem TJ (a b:Int):decide ((Sum.inl a:Key)=Sum.inl b)=decide (a=b):=by
 rw[ah4,ahQ,ahQ];exact⟨Sum.inl.inj,ah6 Sum.inl⟩
theorem oI (s:Int):∀l:List (Int×Nat),bM (wK l) (Sum.inl s)=(fJ l s).map λr:Nat=>V.int (r:Int)
 |[]=>rfl
 |p::l=>by
  have ih:=oI s l;by_cases h:p.1=s
  ·have e:bM (wK (p::l)) (Sum.inl s)=some (V.int p.2):=di (p:=(Sum.inl p.1,V.int p.2)) (by rw[h]);have e2:fJ (p::l) s=some p.2:=by unfold fJ;rw[ai7 (by exact ahy h)];rfl
   rw[e,e2];rfl
  ·have e:bM (wK (p::l)) (Sum.inl s)=bM (wK l) (Sum.inl s):=da (p:=(Sum.inl p.1,V.int p.2)) (λz=>h (Sum.inl.inj z));have e2:fJ (p::l) s=fJ l s:=by unfold fJ;rw[ai8 (by simpa using h)]
   rw[e,e2,ih]
theorem DL (l:List (Int×Nat))(s:Int)(r:Nat):putK (wK l) (Sum.inl s) (.int r)=wK (jW l s r):=by
 unfold putK jW
 have ha:((wK l).any λkv=>decide (kv.1=Sum.inl s))=l.any λp=>decide (p.1=s):=by
  unfold wK;rw[List.any_map]
  congr 1
  funext p
  exact TJ _ _
 rw[ha];split
 ·unfold wK;rw[aiv,aiv];refine ajU λp _=>?_
  show (if (Sum.inl p.1:Key)=Sum.inl s then _ else _)=_;by_cases h:p.1=s
  ·simp only[Function.comp,h,ajT]
  ·have:¬(Sum.inl p.1:Key)=Sum.inl s:=λz=>h (Sum.inl.inj z)
   simp only[Function.comp,h,this,ajs]
 ·unfold wK;rw[ahO];rfl
theorem Mp (l:List (Int×Nat))(s t:Int)(r:Nat):fJ (jW l s r) t=if t=s then some r else fJ l t:=by
 have h1:=oI t (jW l s r);rw[←DL,qv,oI]at h1
 have inj:∀a b:Option Nat,(a.map λr:Nat=>V.int (r:Int))=(b.map λr:Nat=>V.int (r:Int))->a=b:=λa b h=>by
  cases a <;> cases b <;> simp at h ⊢
  omega
 apply inj;rw[←h1];by_cases e:t=s
 ·rw[ahu e,ahu (by rw[e])];rfl
 ·rw[ahq e,ahq (λz=>e (Sum.inl.inj z))]
theorem Mq (l:List (Int×Nat))(s:Int)(r:Nat):(jW l s r).length<=l.length+ 1:=by
 unfold jW;split
 ·rw[ahl];omega
 ·rw[ahe];exact ahi _
theorem QI (l:List Int)(s:Int):fI (gK l) (Sum.inl s)=gK (l.filter λx=>decide (x≠s)):=by
 unfold fI gK;rw[List.filter_map]
 congr 1
 refine List.filter_congr λx _=>?_
 show decide ((Sum.inl x:Key)≠Sum.inl s)=decide (x≠s);rw[ah4,ahQ,ahQ];exact⟨λh z=>h (ah6 Sum.inl z),λh z=>h (Sum.inl.inj z)⟩
theorem J1 (s:Int):∀l:List Int,bM (gK l) (Sum.inl s)=if s∈l then some (V.bl true) else none
 |[]=>rfl
 |x::l=>by
  by_cases h:x=s
  ·rw[ahu (by rw[h];exact ahv)];exact di (p:=(Sum.inl x,V.bl true)) (by rw[h])
  ·have e:bM (gK (x::l)) (Sum.inl s)=bM (gK l) (Sum.inl s):=da (p:=(Sum.inl x,V.bl true)) (λz=>h (Sum.inl.inj z));rw[e,J1 s l];have:(s∈x::l)↔s∈l:=⟨λz=>(ahp.mp z).elim (λq=>absurd q.symm h) id,ahL _⟩;simp only[this]
theorem Bx:∀(more acc:List (Key×V)),((acc++more).map (·.1)).Nodup->oF acc more=acc++more
 |[],acc,_=>(ahU _).symm
 |p::more,acc,h=>by
  have hn:bM acc p.1=none:=by
   unfold bM;rw[List.find?_eq_none.mpr ?_];rfl;intro q hq;rw[ahQ];intro e;rw[ahO,ah9]at h;exact h.2.2 q.1 (aiR hq) p.1 (aiR ahv) e
  show oF (putK acc p.1 p.2) more=_;rw[Dw _ hn,Bx more (acc++[(p.1,p.2)]) (by rw[aia];exact h),aia];rfl
structure RA where
 dx:Addr
 aR:Addr
 aW:Addr
 aG:Addr
 aE:Addr
 aC:Addr
 aN:Addr
 rs:List Addr
 ws:List Addr
 gs:List Addr
 cs:List Addr
def gb (L made:Int)(a:RA):List (Str×V):=[("letters",.int L),("made",.int made),("rows",.ref a.aR),("ways",.ref a.aW),("gaps",.ref a.aG),("elders",.ref a.aE),("called",.ref a.aC),("went",.ref a.aN)]
theorem J2 (L m n:Int)(a:RA):b6 "made" (.int n) (gb L m a)=gb L n a:=by
 have h:¬(("letters":Str)="made"):=by decide +kernel
 unfold gb;simp only[b6,ahq h,ajT]
theorem Ik (L m:Int)(a:RA):(gb L m a).lookup ("letters":Str)=some (.int L):=by kernel_rfl
theorem GB (L m:Int)(a:RA):(gb L m a).lookup ("made":Str)=some (.int m):=by kernel_rfl
theorem wQ (L m:Int)(a:RA):(gb L m a).lookup ("rows":Str)=some (.ref a.aR):=by kernel_rfl
theorem jI (L m:Int)(a:RA):(gb L m a).lookup ("ways":Str)=some (.ref a.aW):=by kernel_rfl
theorem Ay (L m:Int)(a:RA):(gb L m a).lookup ("gaps":Str)=some (.ref a.aG):=by kernel_rfl
theorem kU (L m:Int)(a:RA):(gb L m a).lookup ("elders":Str)=some (.ref a.aE):=by kernel_rfl
theorem rO (L m:Int)(a:RA):(gb L m a).lookup ("called":Str)=some (.ref a.aC):=by kernel_rfl
theorem wR (L m:Int)(a:RA):(gb L m a).lookup ("went":Str)=some (.ref a.aN):=by kernel_rfl
theorem cq (L m:Int)(a:RA){x:Str}(h:x∉(["letters","made","rows","ways","gaps","elders","called","went"]:List Str)):(gb L m a).lookup x=none:=by
 simp only[ahp,ah5,ajt,not_or]at h;obtain⟨h1,h2,h3,h4,h5,h6,h7,h8⟩:=h;unfold gb;simp only[List.lookup,aho.mpr h1,aho.mpr h2,aho.mpr h3,aho.mpr h4,aho.mpr h5,aho.mpr h6,aho.mpr h7,aho.mpr h8]
theorem fA {f:Str}{v:V}:∀{fs:List (Str×V)},fs.lookup f=none->b6 f v fs=fs++[(f,v)]
 |[],_=>rfl
 |(g,x)::r,h=>by
  by_cases e:g=f
  ·have hb:(f==g)=true:=aka.mpr e.symm;simp[List.lookup,hb]at h
  ·have hb:(f==g)=false:=aho.mpr (ail e);simp only[List.lookup,hb]at h;show (if g=f then _ else _)=_;rw[ahq e,fA h];rfl
inductive ig:Dt->Prop where
 |i {n:Int}:ig (.i n)
 |s {l:List Nat}:ig (.s l)
 |t {ds:List Dt}:ds.length<=100000->(∀d∈ds,ig d)->ig (.t ds)
theorem bN.dW {H H':Hp}(ht:∀a xs,H a=some (.tup xs)->H' a=some (.tup xs)){k:Nat}{v:V}{d:Dt}(h:bN H k v d)(hn:ig d):bN H' k v d:=by
 induction h with
 |i=>exact .i
 |s=>exact .s
 |n=>exact .n
 |b=>exact .b
 |t a b c ih=>
  cases hn with
  |t _ hh=>exact .t (ht _ _ a) b λj v d h1 h2=>ih j v d h1 h2 (hh d (ahf h2))
 |l a b c ih=>cases hn
def Each {α:Type}(R:Addr->α->Prop)(ps:List Addr)(xs:List α):Prop:=ps.length=xs.length/\∀(i:Nat) (p:Addr) (x:α),ps[i]?=some p->xs[i]?=some x->R p x
theorem Each.imp {α:Type}{R R':Addr->α->Prop}{ps:List Addr}{xs:List α}(h:Each R ps xs)(f:∀p x,p∈ps->x∈xs->R p x->R' p x):Each R' ps xs:=
 ⟨h.1,λi p x h1 h2=>f p x (ahf h1) (ahf h2) (h.2 i p x h1 h2)⟩
theorem Each.snoc {α:Type}{R:Addr->α->Prop}{ps:List Addr}{xs:List α}{p:Addr}{x:α}(h:Each R ps xs)(hp:R p x):Each R (ps++[p]) (xs++[x]):=by
 refine⟨by rw[ahe,ahe,h.1];rfl,λi q y h1 h2=>?_⟩;by_cases hi:i<ps.length
 ·rw[aht hi]at h1;rw[aht (by rw[←h.1];exact hi)]at h2;exact h.2 i q y h1 h2
 ·rw[ahs (by omega)]at h1;rw[ahs (by rw[←h.1];omega)]at h2;rw[ahg.mp (ahf h1),ahg.mp (ahf h2)];exact hp
theorem Each.at {α:Type}{R:Addr->α->Prop}{ps:List Addr}{xs:List α}(h:Each R ps xs){i:Nat}{x:α}(hx:xs[i]?=some x):∃p,ps[i]?=some p/\R p x:=by
 have hi:i<ps.length:=by rw[h.1];exact(ahd.mp hx).1
 exact⟨_,ahc hi,h.2 i _ x (ahc hi) hx⟩
theorem Each.mem {α:Type}{R:Addr->α->Prop}{ps:List Addr}{xs:List α}(h:Each R ps xs){p:Addr}(hp:p∈ps):∃x,x∈xs/\R p x:=by
 obtain⟨i,hi⟩:=aih hp;have hl:i<xs.length:=by rw[←h.1];exact(ahd.mp hi).1
 exact⟨_,ahf (ahc hl),h.2 i p _ hi (ahc hl)⟩
theorem Each.set {α:Type}{R R':Addr->α->Prop}{ps:List Addr}{xs:List α}{i:Nat}{p:Addr}{x:α}(h:Each R ps xs)(hp:ps[i]?=some p)(hx:R' p x)(hn:ps.Nodup)(f:∀q y,q∈ps->q≠p->R q y->R' q y):Each R' ps (xs.set i x):=by
 refine⟨by rw[ahG];exact h.1,λj q y h1 h2=>?_⟩;by_cases e:i=j
 ·subst e;rw[hp]at h1;obtain rfl:=Za0 h1;have hi:i<xs.length:=by rw[←h.1];exact(ahd.mp hp).1
  rw[ahW hi]at h2;obtain rfl:=Za0 h2;exact hx
 ·rw[aif e]at h2;refine f q y (ahf h1) (λz=>?_) (h.2 j q y h1 h2);subst z;exact e ((akb (ahd.mp hp).1 hn).mp (hp.trans h1.symm))
def RA.lists (a:RA):List Addr:=a.aR::a.aW::a.aG::a.aE::a.aC::a.aN::a.cs
def RA.fK (a:RA):List Addr:=a.ws++a.gs
def RA.own (a:RA)(r b:Addr):Prop:=b=r\/b∈a.lists\/b∈a.fK
structure ax (C:Addr) (H:Hp) (r:Addr) (S:RS) (a:RA):Prop where
 ins:H r=some (.ins C a.dx (gb S.L S.made a))
 hR:H a.aR=some (.lst (a.rs.map V.ref))
 hW:H a.aW=some (.lst (a.ws.map V.ref))
 hG:H a.aG=some (.lst (a.gs.map V.ref))
 hE:H a.aE=some (.lst (ao (nI S.aB)))
 hC:H a.aC=some (.lst (a.cs.map V.ref))
 hN:H a.aN=some (.lst (ao (nI S.bE)))
 rR:Each (λp d=>bN H 4 (.ref p) d) a.rs S.rows
 rW:Each (λp l=>H p=some (.dK (wK l))) a.ws S.ways
 rG:Each (λp l=>H p=some (.dK (gK l))) a.gs S.gaps
 rC:Each (λp l=>H p=some (.lst (ao (nI l)))) a.cs S.called
 flat:∀d∈S.rows,ig d
 jU:a.lists.Nodup
 qE:a.fK.Nodup
section
variable {C:Addr}{H H':Hp}{r:Addr}{S:RS}{a:RA}
theorem ax.keep (h:ax C H r S a)(k:∀b o,a.own r b->H b=some o->H' b=some o)(kt:∀b xs,H b=some (.tup xs)->H' b=some (.tup xs)):ax C H' r S a:=by
 have kl:∀b o,b∈a.lists->H b=some o->H' b=some o:=λb o hb=>k b o (.inr (.inl hb))
 have kd:∀b o,b∈a.fK->H b=some o->H' b=some o:=λb o hb=>k b o (.inr (.inr hb))
 exact⟨k _ _ (.inl rfl) h.ins,kl _ _ (by simp[RA.lists]) h.hR,kl _ _ (by simp[RA.lists]) h.hW,kl _ _ (by simp[RA.lists]) h.hG,kl _ _ (by simp[RA.lists]) h.hE,kl _ _ (by simp[RA.lists]) h.hC,kl _ _ (by simp[RA.lists]) h.hN,
  h.rR.imp λp x _ hx e=>e.dW kt (h.flat x hx),h.rW.imp λp x hp _ e=>kd _ _ (ahF _ hp) e,h.rG.imp λp x hp _ e=>kd _ _ (ahn _ hp) e,
  h.rC.imp λp x hp _ e=>kl _ _ (by simp[RA.lists,hp]) e,h.flat,h.jU,h.qE⟩
theorem ax.same (h:ax C H r S a)(s:au H H'):ax C H' r S a:=h.keep (λ_ _ _ e=>s _ _ e) (λ_ _ e=>s _ _ e)
theorem ax.there (h:ax C H r S a){b:Addr}(hb:a.own r b):∃o,H b=some o:=by
 rcases hb with rfl|hb|hb
 ·exact⟨_,h.ins⟩
 ·unfold RA.lists at hb;simp only[ahp]at hb;rcases hb with rfl|rfl|rfl|rfl|rfl|rfl|hb
  ·exact⟨_,h.hR⟩
  ·exact⟨_,h.hW⟩
  ·exact⟨_,h.hG⟩
  ·exact⟨_,h.hE⟩
  ·exact⟨_,h.hC⟩
  ·exact⟨_,h.hN⟩
  ·obtain⟨x,_,e⟩:=h.rC.mem hb;exact⟨_,e⟩
 ·rcases ahx.mp hb with hb|hb
  ·obtain⟨x,_,e⟩:=h.rW.mem hb;exact⟨_,e⟩
  ·obtain⟨x,_,e⟩:=h.rG.mem hb;exact⟨_,e⟩
theorem ax.nZ (h:ax C H r S a){b:Addr}{xs:List V}(e:H b=some (.tup xs)):¬a.own r b:=λhb=>by
 rcases hb with rfl|hb|hb
 ·rw[h.ins]at e;cases e
 ·unfold RA.lists at hb;simp only[ahp]at hb;rcases hb with rfl|rfl|rfl|rfl|rfl|rfl|hb
  ·rw[h.hR]at e;cases e
  ·rw[h.hW]at e;cases e
  ·rw[h.hG]at e;cases e
  ·rw[h.hE]at e;cases e
  ·rw[h.hC]at e;cases e
  ·rw[h.hN]at e;cases e
  ·obtain⟨x,_,e'⟩:=h.rC.mem hb;rw[e']at e;cases e
 ·rcases ahx.mp hb with hb|hb
  ·obtain⟨x,_,e'⟩:=h.rW.mem hb;rw[e']at e;cases e
  ·obtain⟨x,_,e'⟩:=h.rG.mem hb;rw[e']at e;cases e
end
section
variable {C:Addr}{H:Hp}{r:Addr}{S:RS}{a:RA}
theorem gN:a.aR∈a.lists:=by simp[RA.lists]
theorem gO:a.aW∈a.lists:=by simp[RA.lists]
theorem kh:a.aG∈a.lists:=by simp[RA.lists]
theorem iB:a.aE∈a.lists:=by simp[RA.lists]
theorem jJ:a.aC∈a.lists:=by simp[RA.lists]
theorem jd:a.aN∈a.lists:=by simp[RA.lists]
theorem gS {p:Addr}(h:p∈a.cs):p∈a.lists:=by simp[RA.lists,h]
theorem eh {p:Addr}(h:p∈a.ws):p∈a.fK:=ahF _ h
theorem gT {p:Addr}(h:p∈a.gs):p∈a.fK:=ahn _ h
theorem ax.TK (h:ax C H r S a){b:Addr}(hb:b∈a.lists):∃xs,H b=some (.lst xs):=by
 unfold RA.lists at hb;simp only[ahp]at hb;rcases hb with rfl|rfl|rfl|rfl|rfl|rfl|hb
 ·exact⟨_,h.hR⟩
 ·exact⟨_,h.hW⟩
 ·exact⟨_,h.hG⟩
 ·exact⟨_,h.hE⟩
 ·exact⟨_,h.hC⟩
 ·exact⟨_,h.hN⟩
 ·obtain⟨x,_,e⟩:=h.rC.mem hb;exact⟨_,e⟩
theorem ax.vE (h:ax C H r S a){b:Addr}(hb:b∈a.fK):∃kvs,H b=some (.dK kvs):=by
 rcases ahx.mp hb with hb|hb
 ·obtain⟨x,_,e⟩:=h.rW.mem hb;exact⟨_,e⟩
 ·obtain⟨x,_,e⟩:=h.rG.mem hb;exact⟨_,e⟩
theorem ax.rl (h:ax C H r S a){b:Addr}(hb:b∈a.lists):r≠b:=by obtain⟨xs,e⟩:=h.TK hb;exact cX h.ins e (by intro z;cases z)
theorem ax.rd (h:ax C H r S a){b:Addr}(hb:b∈a.fK):r≠b:=by obtain⟨xs,e⟩:=h.vE hb;exact cX h.ins e (by intro z;cases z)
theorem ax.ld (h:ax C H r S a){b c:Addr}(hb:b∈a.lists)(hc:c∈a.fK):b≠c:=by
 obtain⟨xs,e⟩:=h.TK hb;obtain⟨ys,e'⟩:=h.vE hc;exact cX e e' (by intro z;cases z)
theorem ax.tl (h:ax C H r S a){b c:Addr}{xs:List V}(hb:H b=some (.tup xs))(hc:c∈a.lists):b≠c:=λz=>h.nZ hb (.inr (.inl (by rw[z];exact hc)))
theorem ax.td (h:ax C H r S a){b c:Addr}{xs:List V}(hb:H b=some (.tup xs))(hc:c∈a.fK):b≠c:=λz=>h.nZ hb (.inr (.inr (by rw[z];exact hc)))
theorem ax.tr (h:ax C H r S a){b:Addr}{xs:List V}(hb:H b=some (.tup xs)):b≠r:=λz=>h.nZ hb (.inl z)
theorem ax.QJ (h:ax C H r S a)(n:Nat):ax C (upd H r (.ins C a.dx (gb S.L n a))) r { S with made:=n } a:=by
 have kl:∀b o,b∈a.lists->H b=some o->upd H r (.ins C a.dx (gb S.L n a)) b=some o:=λb o hb e=>by rw[av (h.rl hb).symm];exact e
 have kd:∀b o,b∈a.fK->H b=some o->upd H r (.ins C a.dx (gb S.L n a)) b=some o:=λb o hb e=>by rw[av (h.rd hb).symm];exact e
 exact⟨aj,kl _ _ gN h.hR,kl _ _ gO h.hW,kl _ _ kh h.hG,kl _ _ iB h.hE,kl _ _ jJ h.hC,kl _ _ jd h.hN,h.rR.imp λp x _ hx e=>e.dW (λb xs eb=>by rw[av (h.tr eb)];exact eb) (h.flat x hx),
  h.rW.imp λp x hp _ e=>kd _ _ (eh hp) e,h.rG.imp λp x hp _ e=>kd _ _ (gT hp) e,h.rC.imp λp x hp _ e=>kl _ _ (gS hp) e,h.flat,h.jU,h.qE⟩
theorem ax.kX (h:ax C H r S a){q:Addr}{o:HO}(hq:q∈a.lists):upd H q o r=some (.ins C a.dx (gb S.L S.made a))/\(∀b x,b∈a.lists->b≠q->H b=some x->upd H q o b=some x)/\(∀b x,b∈a.fK->H b=some x->upd H q o b=some x)/\∀b xs,H b=some (.tup xs)->upd H q o b=some (.tup xs):=
 ⟨by rw[av (h.rl hq)];exact h.ins,λb x _ n e=>by rw[av n];exact e,λb x hb e=>by rw[av (h.ld hq hb).symm];exact e,λb xs e=>by rw[av (h.tl e hq)];exact e⟩
theorem zj (nd:a.lists.Nodup):(a.aR≠a.aW/\a.aR≠a.aG/\a.aR≠a.aE/\a.aR≠a.aC/\a.aR≠a.aN)/\(a.aW≠a.aG/\a.aW≠a.aE/\a.aW≠a.aC/\a.aW≠a.aN)/\(a.aG≠a.aE/\a.aG≠a.aC/\a.aG≠a.aN)/\(a.aE≠a.aC/\a.aE≠a.aN)/\a.aC≠a.aN/\∀p∈a.cs,p≠a.aR/\p≠a.aW/\p≠a.aG/\p≠a.aE/\p≠a.aC/\p≠a.aN:=by
 unfold RA.lists at nd;simp only[ahX,ahp,not_or]at nd;obtain⟨⟨h1,h2,h3,h4,h5,h6⟩,⟨g2,g3,g4,g5,g6⟩,⟨f3,f4,f5,f6⟩,⟨e4,e5,e6⟩,⟨d5,d6⟩,c6,-⟩:=nd;exact⟨⟨h1,h2,h3,h4,h5⟩,⟨g2,g3,g4,g5⟩,⟨f3,f4,f5⟩,⟨e4,e5⟩,d5,λp hp=>⟨λz=>h6 (z ▸ hp),λz=>g6 (z ▸ hp),λz=>f6 (z ▸ hp),λz=>e6 (z ▸ hp),λz=>d6 (z ▸ hp),λz=>c6 (z ▸ hp)⟩⟩
theorem ax.DM (h:ax C H r S a){p:Addr}{d:Dt}(hp:bN H 4 (.ref p) d)(hd:ig d):ax C (upd H a.aR (.lst (a.rs.map V.ref++[.ref p]))) r { S with rows:=S.rows++[d] } { a with rs:=a.rs++[p] }:=by
 obtain⟨h0,kl,kd,kt⟩:=h.kX (o:=.lst (a.rs.map V.ref++[.ref p])) (gN (a:=a));obtain⟨⟨n1,n2,n3,n4,n5⟩,-,-,-,-,nc⟩:=zj h.jU
 refine⟨h0,?_,kl _ _ gO n1.symm h.hW,kl _ _ kh n2.symm h.hG,kl _ _ iB n3.symm h.hE,kl _ _ jJ n4.symm h.hC,kl _ _ jd n5.symm h.hN,(h.rR.imp λq x _ hx e=>e.dW kt (h.flat x hx)).snoc (hp.dW kt hd),
  h.rW.imp λq x hq _ e=>kd _ _ (eh hq) e,h.rG.imp λq x hq _ e=>kd _ _ (gT hq) e,h.rC.imp λq x hq _ e=>kl _ _ (gS hq) (nc q hq).1 e,λx hx=>?_,h.jU,h.qE⟩
 ·show upd H a.aR _ a.aR=some (.lst ((a.rs++[p]).map V.ref));rw[aj,ahO];rfl
 ·rcases ahx.mp hx with hx|hx
  ·exact h.flat x hx
  ·rw[ahg.mp hx];exact hd
theorem ax.TL (h:ax C H r S a){p:Addr}{l:List (Int×Nat)}(hp:H p=some (.dK (wK l)))(hn:p∉a.fK):ax C (upd H a.aW (.lst (a.ws.map V.ref++[.ref p]))) r { S with ways:=S.ways++[l] } { a with ws:=a.ws++[p] }:=by
 obtain⟨h0,kl,kd,kt⟩:=h.kX (o:=.lst (a.ws.map V.ref++[.ref p])) (gO (a:=a));obtain⟨⟨n1,-⟩,⟨n2,n3,n4,n5⟩,-,-,-,nc⟩:=zj h.jU;have J9:upd H a.aW (.lst (a.ws.map V.ref++[.ref p])) p=some (.dK (wK l)):=by rw[av (cX hp h.hW (by intro z;cases z))];exact hp
 refine⟨h0,kl _ _ gN n1 h.hR,?_,kl _ _ kh n2.symm h.hG,kl _ _ iB n3.symm h.hE,kl _ _ jJ n4.symm h.hC,kl _ _ jd n5.symm h.hN,h.rR.imp λq x _ hx e=>e.dW kt (h.flat x hx),
  (h.rW.imp λq x hq _ e=>kd _ _ (eh hq) e).snoc J9,h.rG.imp λq x hq _ e=>kd _ _ (gT hq) e,h.rC.imp λq x hq _ e=>kl _ _ (gS hq) (nc q hq).2.1 e,h.flat,h.jU,?_⟩
 ·show upd H a.aW _ a.aW=some (.lst ((a.ws++[p]).map V.ref));rw[aj,ahO];rfl
 ·show (a.ws++[p]++a.gs).Nodup;rw[aia];exact(List.perm_middle.nodup_iff).mpr (ahX.mpr ⟨hn,h.qE⟩)
theorem ax.TN (h:ax C H r S a){p:Addr}{l:List Int}(hp:H p=some (.dK (gK l)))(hn:p∉a.fK):ax C (upd H a.aG (.lst (a.gs.map V.ref++[.ref p]))) r { S with gaps:=S.gaps++[l] } { a with gs:=a.gs++[p] }:=by
 obtain⟨h0,kl,kd,kt⟩:=h.kX (o:=.lst (a.gs.map V.ref++[.ref p])) (kh (a:=a));obtain⟨⟨-,n1,-⟩,⟨n2,-⟩,⟨n3,n4,n5⟩,-,-,nc⟩:=zj h.jU;have J9:upd H a.aG (.lst (a.gs.map V.ref++[.ref p])) p=some (.dK (gK l)):=by rw[av (cX hp h.hG (by intro z;cases z))];exact hp
 refine⟨h0,kl _ _ gN n1 h.hR,kl _ _ gO n2 h.hW,?_,kl _ _ iB n3.symm h.hE,kl _ _ jJ n4.symm h.hC,kl _ _ jd n5.symm h.hN,h.rR.imp λq x _ hx e=>e.dW kt (h.flat x hx),
  h.rW.imp λq x hq _ e=>kd _ _ (eh hq) e,(h.rG.imp λq x hq _ e=>kd _ _ (gT hq) e).snoc J9,h.rC.imp λq x hq _ e=>kl _ _ (gS hq) (nc q hq).2.2.1 e,h.flat,h.jU,?_⟩
 ·show upd H a.aG _ a.aG=some (.lst ((a.gs++[p]).map V.ref));rw[aj,ahO];rfl
 ·show (a.ws++(a.gs++[p])).Nodup;rw[←aia];refine ah9.mpr ⟨h.qE,by simp,λx hx y hy z=>?_⟩;rw[ahg.mp hy]at z;exact hn (z ▸ hx)
theorem ax.By (h:ax C H r S a)(es:List Nat):ax C (upd H a.aE (.lst (ao (nI es)))) r { S with aB:=es } a:=by
 obtain⟨h0,kl,kd,kt⟩:=h.kX (o:=.lst (ao (nI es))) (iB (a:=a));obtain⟨⟨-,-,n1,-⟩,⟨-,n2,-⟩,⟨n3,-⟩,⟨n4,n5⟩,-,nc⟩:=zj h.jU
 exact⟨h0,kl _ _ gN n1 h.hR,kl _ _ gO n2 h.hW,kl _ _ kh n3 h.hG,aj,kl _ _ jJ n4.symm h.hC,kl _ _ jd n5.symm h.hN,h.rR.imp λq x _ hx e=>e.dW kt (h.flat x hx),
  h.rW.imp λq x hq _ e=>kd _ _ (eh hq) e,h.rG.imp λq x hq _ e=>kd _ _ (gT hq) e,h.rC.imp λq x hq _ e=>kl _ _ (gS hq) (nc q hq).2.2.2.1 e,h.flat,h.jU,h.qE⟩
theorem ax.QK (h:ax C H r S a)(es:List Nat):ax C (upd H a.aN (.lst (ao (nI es)))) r { S with bE:=es } a:=by
 obtain⟨h0,kl,kd,kt⟩:=h.kX (o:=.lst (ao (nI es))) (jd (a:=a));obtain⟨⟨-,-,-,-,n1⟩,⟨-,-,-,n2⟩,⟨-,-,n3⟩,⟨-,n4⟩,n5,nc⟩:=zj h.jU
 exact⟨h0,kl _ _ gN n1 h.hR,kl _ _ gO n2 h.hW,kl _ _ kh n3 h.hG,kl _ _ iB n4 h.hE,kl _ _ jJ n5 h.hC,aj,h.rR.imp λq x _ hx e=>e.dW kt (h.flat x hx),
  h.rW.imp λq x hq _ e=>kd _ _ (eh hq) e,h.rG.imp λq x hq _ e=>kd _ _ (gT hq) e,h.rC.imp λq x hq _ e=>kl _ _ (gS hq) (nc q hq).2.2.2.2.2 e,h.flat,h.jU,h.qE⟩
theorem ax.Ka (h:ax C H r S a){p:Addr}{l:List Nat}(hp:H p=some (.lst (ao (nI l))))(hn:p∉a.lists):ax C (upd H a.aC (.lst (a.cs.map V.ref++[.ref p]))) r { S with called:=S.called++[l] } { a with cs:=a.cs++[p] }:=by
 obtain⟨h0,kl,kd,kt⟩:=h.kX (o:=.lst (a.cs.map V.ref++[.ref p])) (jJ (a:=a));obtain⟨⟨-,-,-,n1,-⟩,⟨-,-,n2,-⟩,⟨-,n3,-⟩,⟨n4,-⟩,n5,nc⟩:=zj h.jU;have npc:p≠a.aC:=λz=>hn (by rw[z];exact jJ)
 have J9:upd H a.aC (.lst (a.cs.map V.ref++[.ref p])) p=some (.lst (ao (nI l))):=by rw[av npc];exact hp
 refine⟨h0,kl _ _ gN n1 h.hR,kl _ _ gO n2 h.hW,kl _ _ kh n3 h.hG,kl _ _ iB n4 h.hE,?_,kl _ _ jd n5.symm h.hN,h.rR.imp λq x _ hx e=>e.dW kt (h.flat x hx),
  h.rW.imp λq x hq _ e=>kd _ _ (eh hq) e,h.rG.imp λq x hq _ e=>kd _ _ (gT hq) e,(h.rC.imp λq x hq _ e=>kl _ _ (gS hq) (nc q hq).2.2.2.2.1 e).snoc J9,h.flat,?_,h.qE⟩
 ·show upd H a.aC _ a.aC=some (.lst ((a.cs++[p]).map V.ref));rw[aj,ahO];rfl
 ·show (a.lists++[p]).Nodup;refine ah9.mpr ⟨h.jU,by simp,λx hx y hy z=>?_⟩;rw[ahg.mp hy]at z;exact hn (z ▸ hx)
theorem ax.Kb (h:ax C H r S a){i:Nat}{p:Addr}(hp:a.cs[i]?=some p)(l:List Nat):ax C (upd H p (.lst (ao (nI l)))) r { S with called:=S.called.set i l } a:=by
 have hm:=ahf hp;obtain⟨h0,kl,kd,kt⟩:=h.kX (o:=.lst (ao (nI l))) (gS hm);obtain⟨-,-,-,-,-,nc⟩:=zj h.jU;obtain⟨n1,n2,n3,n4,n5,n6⟩:=nc p hm
 have ncs:a.cs.Nodup:=by
  have:=h.jU;unfold RA.lists at this;simp only[ahX]at this;exact this.2.2.2.2.2.2
 exact⟨h0,kl _ _ gN n1.symm h.hR,kl _ _ gO n2.symm h.hW,kl _ _ kh n3.symm h.hG,kl _ _ iB n4.symm h.hE,kl _ _ jJ n5.symm h.hC,kl _ _ jd n6.symm h.hN,h.rR.imp λq x _ hx e=>e.dW kt (h.flat x hx),
  h.rW.imp λq x hq _ e=>kd _ _ (eh hq) e,h.rG.imp λq x hq _ e=>kd _ _ (gT hq) e,h.rC.set hp aj ncs λq y hq n e=>kl _ _ (gS hq) n e,h.flat,h.jU,h.qE⟩
theorem ax.GC (h:ax C H r S a){q:Addr}{o:HO}(hq:q∈a.fK):upd H q o r=some (.ins C a.dx (gb S.L S.made a))/\(∀b x,b∈a.fK->b≠q->H b=some x->upd H q o b=some x)/\(∀b x,b∈a.lists->H b=some x->upd H q o b=some x)/\∀b xs,H b=some (.tup xs)->upd H q o b=some (.tup xs):=
 ⟨by rw[av (h.rd hq)];exact h.ins,λb x _ n e=>by rw[av n];exact e,λb x hb e=>by rw[av (h.ld hb hq)];exact e,λb xs e=>by rw[av (h.td e hq)];exact e⟩
theorem ax.DN (h:ax C H r S a){i:Nat}{p:Addr}(hp:a.ws[i]?=some p)(l:List (Int×Nat)):ax C (upd H p (.dK (wK l))) r { S with ways:=S.ways.set i l } a:=by
 have hm:=ahf hp;obtain⟨h0,kd,kl,kt⟩:=h.GC (o:=.dK (wK l)) (eh hm);have nd:=ah9.mp h.qE
 exact⟨h0,kl _ _ gN h.hR,kl _ _ gO h.hW,kl _ _ kh h.hG,kl _ _ iB h.hE,kl _ _ jJ h.hC,kl _ _ jd h.hN,h.rR.imp λq x _ hx e=>e.dW kt (h.flat x hx),
  h.rW.set hp aj nd.1 λq y hq n e=>kd _ _ (eh hq) n e,h.rG.imp λq x hq _ e=>kd _ _ (gT hq) (λz=>nd.2.2 p hm q hq z.symm) e,h.rC.imp λq x hq _ e=>kl _ _ (gS hq) e,h.flat,h.jU,h.qE⟩
theorem ax.TQ (h:ax C H r S a){i:Nat}{p:Addr}(hp:a.gs[i]?=some p)(l:List Int):ax C (upd H p (.dK (gK l))) r { S with gaps:=S.gaps.set i l } a:=by
 have hm:=ahf hp;obtain⟨h0,kd,kl,kt⟩:=h.GC (o:=.dK (gK l)) (gT hm);have nd:=ah9.mp h.qE
 exact⟨h0,kl _ _ gN h.hR,kl _ _ gO h.hW,kl _ _ kh h.hG,kl _ _ iB h.hE,kl _ _ jJ h.hC,kl _ _ jd h.hN,h.rR.imp λq x _ hx e=>e.dW kt (h.flat x hx),
  h.rW.imp λq x hq _ e=>kd _ _ (eh hq) (λz=>nd.2.2 q hq p hm z) e,h.rG.set hp aj nd.2.1 λq y hq n e=>kd _ _ (gT hq) n e,h.rC.imp λq x hq _ e=>kl _ _ (gS hq) e,h.flat,h.jU,h.qE⟩
end
def RS.oU (S:RS)(i:Nat)(l:List (Int×Nat)):RS:={ S with ways:=S.ways.set i l }
def RS.setG (S:RS)(i:Nat)(l:List Int):RS:={ S with gaps:=S.gaps.set i l }
def RS.way (S:RS)(c:Nat):List (Int×Nat):=S.ways.getD c []
def RS.gap (S:RS)(c:Nat):List Int:=S.gaps.getD c []
def RS.by (S:RS)(c:Nat)(z:Int):Option Nat:=fJ (S.way c) z
def RS.dz (S:RS)(c:Nat)(z:Int)(d:Nat):RS:=S.oU c (jW (S.way c) z d)
def RS.wU (S:RS)(c:Nat)(z:Int):RS:=S.setG c ((S.gap c).filter λx=>decide (x≠z))
def RS.keep (S:RS)(c:Nat)(z:Int)(d:Nat):RS:=(((S.dz c z d).dz d (-z) c).wU c z).wU d (-z)
def oJ (c:Nat)(z:Int)(n:Nat):Dt:=.t [.s [110,101,119],.i c,.i z,.i n]
def RS.grown (S:RS)(c:Nat)(z:Int)(gaps:List Int):RS:={ S with made:=S.made+ 1,rows:=S.rows++[oJ c z S.made],ways:=S.ways++[[]],gaps:=S.gaps++[gaps],aB:=S.aB++[S.made],called:=S.called++[[S.made]] }
def RS.make (S:RS)(c:Nat)(z:Int)(gaps:List Int):RS:=(S.grown c z gaps).keep c z S.made
def RS.new (L:Nat)(gaps:List Int):RS:=⟨L,1,[],[[]],[gaps],[0],[[0]],[]⟩
structure RS.Wf (S:RS):Prop where
 w:S.ways.length=S.made
 g:S.gaps.length=S.made
 e:S.aB.length=S.made
 c:S.called.length=S.made
section
variable {X:Cx}{e:Expr}{f:Str}{ta:TE}{pos:Pos}
theorem QL {K:Za1}(hK:X.K=K)(he:PE X e ta)(hb:attributeBase e f X.env (eval e X.env)=eval e X.env):PE X (.Attribute e f pos) (Sn K ta f):=by
 subst hK;exact aJ he hb
end
theorem jq {α:Type}{J:It}{H:Hp}{fv:St}{te:TE}{Q:VK}(n:Nat)(xs:Nat->V)(R:Hp->V->Nat->Prop)(hR:∀H1 H2 v i,au H1 H2->R H1 v i->R H2 v i)(Ar:n<=sizeLine)
 (jT:∀(i:Nat) H2,au H H2->i<n->J.go i H2) (hy:∀(i:Nat) (x:V) (H2 H3:Hp),au H H2->i<n->J.pI i H2 x H3->H3=H2/\x=xs i) (cI:∀H2,au H H2->J.stop n H2)
 (he:∀(i:Nat) (H2:Hp) (Rr:VK),i<n->au H H2->(∀v H3,au H2 H3->R H3 v i->Rr v H3)->te (some (xs i)::fv) H2 Rr)
 (hQ:∀D H2 ys,au H H2->H2 D=none->ys.length=n->(∀(i:Nat) (v:V),ys[i]?=some v->R H2 v i)->Q (.ref D) (upd H2 D (.lst ys))):Dm te fv Q J H:=by
 refine⟨λi m ys H2=>m=n - i/\i<=n/\ys.length=i/\au H H2/\∀(j:Nat) (v:V),ys[j]?=some v->R H2 v j,⟨n,by simp,ahT _,rfl,λ_ _ e=>e,λj v h=>by simp at h⟩,?_⟩;rintro i m ys H2 ⟨rfl,hi,hl,s2,hr⟩;by_cases bU:i<n
 ·refine .inr ⟨jT i H2 s2 bU,by omega,λx H3 jm=>?_⟩;obtain⟨rfl,rfl⟩:=hy i x H2 H3 s2 bU jm;refine he i _ _ bU s2 λv H4 s4 hv=>⟨n - (i+ 1),by omega,rfl,bU,by rw[ahe,hl];rfl,s2.trans s4,λj w hw=>?_⟩
  by_cases hj:j<ys.length
  ·rw[aht hj]at hw;exact hR _ _ _ _ s4 (hr j w hw)
  ·rw[ahs (by omega)]at hw
   have ej:j - ys.length=0:=by
    have:=(ahd.mp hw).1;rw[List.length_singleton]at this;omega
   rw[ej]at hw;have:j=i:=by omega
   subst this;rw[←Za0 hw];exact hv
 ·have e:i=n:=by omega
  subst e;exact .inl ⟨cI H2 s2,by omega,λD hD=>hQ D H2 ys s2 hD hl hr⟩
theorem tE {P:Nat->Addr->Prop}:∀(ys:List V) (k:Nat),(∀(i:Nat) (v:V),ys[i]?=some v->∃p,v=.ref p/\P (k+ i) p)->∃ps:List Addr,ys=ps.map V.ref/\∀(i:Nat) (p:Addr),ps[i]?=some p->P (k+ i) p
 |[],_,_=>⟨[],rfl,λi p h=>by simp at h⟩
 |v::ys,k,h=>by
  obtain⟨p,rfl,hp⟩:=h 0 v rfl
  obtain⟨ps,rfl,jr⟩:=tE (P:=P) ys (k+ 1) λi w hw=>by
   obtain⟨q,e,hq⟩:=h (i+ 1) w (by simpa using hw);exact⟨q,e,by rw[show k+ 1+ i=k+ (i+ 1) by omega];exact hq⟩
  refine⟨p::ps,rfl,λi q hq=>?_⟩
  cases i with
  |zero=>obtain rfl:p=q:=by simpa using hq
         exact hp
  |succ i=>
   have:=jr i q (by simpa using hq);rw[show k+ 1+ i=k+ (i+ 1) by omega]at this;exact this
theorem kY {f:Str}{v:V}{n:Nat}:∀{fs:List (Str×V)},fs.length<=n->(b6 f v fs).length<=n+ 1
 |[],h=>by show 1<=n+ 1;omega
 |(g,x)::r,h=>by
  show (if g=f then (g,v)::r else (g,x)::b6 f v r).length<=n+ 1;rw[ahE]at h;split
  ·rw[ahE];omega
  ·have:=kY (f:=f) (v:=v) (n:=n - 1) (fs:=r) (by omega);rw[ahE];omega
theorem oV (K:Za1):PySem.W.kitOne K (.type "int") (.type "tuple")=some false:=by first|rfl|kernel_rfl
theorem qF (K:Za1):PySem.W.kitOne K (.type "int") (.type "list")=some false:=by first|rfl|kernel_rfl
theorem qG (K:Za1):PySem.W.kitOne K (.type "int") (.type "dict")=some false:=by first|rfl|kernel_rfl
theorem oW (K:Za1):PySem.W.kitOne K (.type "str") (.type "tuple")=some false:=by first|rfl|kernel_rfl
theorem qH (K:Za1):PySem.W.kitOne K (.type "str") (.type "list")=some false:=by first|rfl|kernel_rfl
theorem qI (K:Za1):PySem.W.kitOne K (.type "str") (.type "dict")=some false:=by first|rfl|kernel_rfl
theorem Bz {P:Program}{w:World}:∀{es:List DictEntry} {vs:List (Key×Value)} {kvs:List (Key×V)},Pairs (b9 P w) es vs->KV kvs vs->Vals (kvs.map λkv=>kV kv.1) (es.map (·.key))
 |[],_,_,.nil,r=>by cases r;exact .nil
 |e::es,_,_,.cons h1 h2 h3,r=>by
  cases r with
  |cons a b=>
   rw[ahY,ahY];refine .cons ?_ (Bz h3 b);rw[a.1];exact QG h1
theorem pairs_len {P:Program}{w:World}:∀{es:List DictEntry} {vs:List (Key×Value)},Pairs (b9 P w) es vs->es.length=vs.length
 |_,_,.nil=>rfl
 |_,_,.cons _ _ h=>by rw[ahE,ahE,pairs_len h]
section
variable {X:Cx}
def TR:List V->Hp->VK->Prop:=λxs H Q=>∃(d:Addr) (kvs:List (Key×V)),xs=[.ref d]/\H d=some (.dK kvs)/\∀l,H l=none->Q (.ref l) (upd H l (.lst (kvs.map λkv=>kV kv.1)))
theorem lT (hc:X.calm=true):lD X (.type "list") TR:=by
 intro pins s σ H xs us Q I r h;obtain⟨d,kvs,rfl,hd,q⟩:=h;obtain⟨u,rfl,rx⟩:=vals1 r;cases rx;obtain⟨hz,vC,vs,rel,o,es,ep,ho,TV,iA,hk,hp,hn⟩:=yZ I.bu hd;have hlen:kvs.length=vs.length:=rel.length;have ie:=pairs_len hp;have hsz:es.size=kvs.length:=by rw[←ajR,ie,hlen]
 refine Dk.JV (I.ok.hd hc) vC ⟨o,ho,TV,iA⟩ (by omega) λg1 tk dk c' hk' rN lS=>?_
 have ea:dk.toList=es.toList.map (·.key):=by
  refine ajm λi=>?_
  rw[Array.getElem?_toList,ahw,Array.getElem?_toList]
  cases hv:dk[i]? with
  |none=>
   have hi:es.size<=i:=by
    have h1:dk.size<=i:=Array.getElem?_eq_none_iff.mp hv;rw[lS.1]at h1;exact h1
   rw[aj7 hi];rfl
  |some v=>
   obtain⟨en,e1,rfl⟩:=lS.2 i v hv;rw[e1];rfl
 have eb:dk=(es.toList.map (·.key)).toArray:=by rw[←ea]
 rw[eb]at rN;have hv:=Bz hp rel;exact⟨.ref s.heap.objs.size,_,I.laid (t':=tk) hk' (ahi _) (show cK X.prog X.w _ g1 _ (.lst (kvs.map λkv=>kV kv.1)) from ⟨by rw[ahl];exact hz,_,c',hv,rN⟩),rfl,q _ (I.bu.fresh (ahi _))⟩
end
section
variable {C:Addr}{H:Hp}{r:Addr}{S:RS}{a:RA}
theorem ax.TX (h:ax C H r S a){i:Nat}(hi:i<a.ws.length){q:Addr}{l:List (Int×Nat)}(hq:H q=some (.dK (wK l)))(hn:q∉a.fK):ax C (upd H a.aW (.lst ((a.ws.map V.ref).set i (.ref q)))) r { S with ways:=S.ways.set i l } { a with ws:=a.ws.set i q }:=by
 obtain⟨h0,kl,kd,kt⟩:=h.kX (o:=.lst ((a.ws.map V.ref).set i (.ref q))) (gO (a:=a));obtain⟨⟨n1,-⟩,⟨n2,n3,n4,n5⟩,-,-,-,nc⟩:=zj h.jU;have hqw:upd H a.aW (.lst ((a.ws.map V.ref).set i (.ref q))) q=some (.dK (wK l)):=by rw[av (cX hq h.hW (by intro z;cases z))];exact hq
 have nd:=ah9.mp h.qE
 refine⟨h0,kl _ _ gN n1 h.hR,?_,kl _ _ kh n2.symm h.hG,kl _ _ iB n3.symm h.hE,kl _ _ jJ n4.symm h.hC,kl _ _ jd n5.symm h.hN,h.rR.imp λq x _ hx e=>e.dW kt (h.flat x hx),
  ?_,h.rG.imp λq x hq _ e=>kd _ _ (gT hq) e,h.rC.imp λq x hq _ e=>kl _ _ (gS hq) (nc q hq).2.1 e,h.flat,h.jU,?_⟩
 ·show upd H a.aW _ a.aW=some (.lst ((a.ws.set i q).map V.ref));rw[aj,List.map_set]
 ·refine⟨by show (a.ws.set i q).length=(S.ways.set i l).length;rw[ahG,ahG];exact h.rW.1,λj p x e1 e2=>?_⟩;have DP:(a.ws.set i q)[j]?=some p:=e1
  have BD:(S.ways.set i l)[j]?=some x:=e2
  by_cases z:i=j
  ·subst z;rw[ahW hi]at DP;rw[ahW (by rw[←h.rW.1];exact hi)]at BD;obtain rfl:=Za0 DP;obtain rfl:=Za0 BD;exact hqw
  ·rw[aif z]at DP BD;exact kd _ _ (eh (ahf DP)) (h.rW.2 j p x DP BD)
 ·show (a.ws.set i q++a.gs).Nodup;have qw:q∉a.ws:=λz=>hn (ahF _ z)
  have qg:q∉a.gs:=λz=>hn (ahn _ z)
  refine ah9.mpr ⟨?_,nd.2.1,λx hx y hy z=>?_⟩
  ·have:∀(l:List Addr) (i:Nat),l.Nodup->q∉l->(l.set i q).Nodup:=by
    intro l
    induction l with
    |nil=>intro i _ _;simp
    |cons x l ih=>
     intro i h1 h2;obtain⟨h3,h4⟩:=ahX.mp h1;have h5:q≠x:=λz=>h2 (by rw[z];exact ahv)
     have h6:q∉l:=λz=>h2 (ahL _ z)
     cases i with
     |zero=>exact ahX.mpr ⟨h6,h4⟩
     |succ i=>
      refine ahX.mpr ⟨λz=>?_,ih i h4 h6⟩;rcases ajf z with z|z
      ·exact h3 z
      ·exact h5 z.symm
   exact this a.ws i nd.1 qw
  ·rcases ajf hx with hx|hx
   ·exact nd.2.2 x hx y hy z
   ·rw[←hx,z]at qg;exact qg hy
end
theorem QM (l:List (Int×Nat))(s:Int):fI (wK l) (Sum.inl s)=wK (l.filter λp=>decide (p.1≠s)):=by
 unfold fI wK;rw[List.filter_map]
 congr 1
 refine List.filter_congr λx _=>?_
 show decide ((Sum.inl x.1:Key)≠Sum.inl s)=decide (x.1≠s);rw[ah4,ahQ,ahQ];exact⟨λh z=>h (ah6 Sum.inl z),λh z=>h (Sum.inl.inj z)⟩
theorem Kc (l:List (Int×Nat))(s t:Int):fJ (l.filter λp=>decide (p.1≠s)) t=if t=s then none else fJ l t:=by
 induction l with
 |nil=>unfold fJ;split <;> rfl
 |cons p l ih=>
  have hc:∀(q:Int×Nat) (m:List (Int×Nat)),fJ (q::m) t=if q.1=t then some q.2 else fJ m t:=λq m=>by
   unfold fJ;by_cases h:q.1=t
   ·rw[ai7 (by exact ahy h),ahu h];rfl
   ·rw[ai8 (by simpa using h),ahq h]
  by_cases h:p.1=s
  ·rw[aju (by simpa using h),ih,hc];by_cases e:t=s
   ·rw[ahu e,ahu e]
   ·rw[ahq e,ahq e,ahq (λz=>e (z.symm.trans h))]
  ·rw[ajv (by simpa using h),hc,hc,ih];by_cases e:p.1=t
   ·rw[ahu e,ahu e,ahq (λz=>h (e.trans z))]
   ·rw[ahq e,ahq e]
abbrev Way:=Nat×Int×Nat
def RS.ay (S:RS)(c:Nat):Nat:=S.aB.getD c 0
def RS.cG (S:RS)(c:Nat):List Nat:=S.called.getD c []
def gU (c:Nat)(z:Int)(x y:Nat):Dt:=.t [.s [109,101,101,116],.i c,.i z,.i x,.i y]
def RS.joined (S:RS)(c:Nat)(z:Int)(x y:Nat):RS:=
 { S with rows:=S.rows++[gU c z x y],bE:=S.bE++[y],aB:=(S.cG y).foldl (λes n=>es.set n x) S.aB,called:=S.called.set x (S.cG x++S.cG y) }
def RS.tF (S:RS)(c:Nat)(z:Int):RS:=S.oU c ((S.way c).filter λp=>decide (p.1≠z))
def kZ (c:Nat)(st:RS×List Way)(p:Int×Nat):RS×List Way:=(if p.2≠c then st.1.tF p.2 (-p.1) else st.1,st.2++[(c,p.1,p.2)])
def RS.tG (S:RS)(c:Nat)(pend:List Way):RS×List Way:=(S.way c).foldl (kZ c) (S.oU c [],pend)
def RS.meet (S:RS)(c:Nat)(z:Int)(x y:Nat)(pend:List Way):RS×List Way:=(S.joined c z (min x y) (max x y)).tG (max x y) pend
def RS.takeIn (S:RS)(pend:List Way)(w:Way):RS×List Way:=
 if (S.by (S.ay w.1) w.2.1).getD (S.ay w.2.2)≠S.ay w.2.2 then S.meet (S.ay w.1) w.2.1 ((S.by (S.ay w.1) w.2.1).getD (S.ay w.2.2)) (S.ay w.2.2) pend
 else if (S.by (S.ay w.2.2) (-w.2.1)).getD (S.ay w.1)≠S.ay w.1 then S.meet (S.ay w.2.2) (-w.2.1) ((S.by (S.ay w.2.2) (-w.2.1)).getD (S.ay w.1)) (S.ay w.1) pend
 else (S.keep (S.ay w.1) w.2.1 (S.ay w.2.2),pend)
structure Il (S:RS) (c:Nat):Prop where
 nd:((S.way c).map (·.1)).Nodup
 lt:∀q∈S.way c,q.2<S.made
 bk:∀q∈S.way c,q.2≠c->(S.by q.2 (-q.1)).isSome=true
theorem kA {S:RS}{c c':Nat}{l:List (Int×Nat)}(hc:c<S.ways.length):(S.oU c l).way c'=if c'=c then l else S.way c':=by
 unfold RS.oU RS.way;show (S.ways.set c l).getD c' []=_;rw[ahh,ahh];by_cases h:c=c'
 ·subst h;rw[ahW hc,ahu rfl];rfl
 ·rw[aif h,ahq (ail h)]
theorem rP {S:RS}{c c' d:Nat}{z z':Int}(hc:c<S.ways.length):(S.dz c z d).by c' z'=if c'=c/\z'=z then some d else S.by c' z':=by
 unfold RS.dz RS.by;rw[kA hc];by_cases h:c'=c
 ·subst h;rw[ahu rfl,Mp];by_cases hz:z'=z
  ·rw[ahu hz,ahu ⟨rfl,hz⟩]
  ·rw[ahq hz,ahq (λq=>hz q.2)]
 ·rw[ahq h,ahq (λq=>h q.1)]
theorem Io {S:RS}{c c':Nat}{z z':Int}(hc:c<S.ways.length):(S.tF c z).by c' z'=if c'=c/\z'=z then none else S.by c' z':=by
 unfold RS.tF RS.by;rw[kA hc];by_cases h:c'=c
 ·subst h;rw[ahu rfl,Kc];by_cases hz:z'=z
  ·rw[ahu hz,ahu ⟨rfl,hz⟩]
  ·rw[ahq hz,ahq (λq=>hz q.2)]
 ·rw[ahq h,ahq (λq=>h q.1)]
theorem QN {S:RS}{c c':Nat}{l:List (Int×Nat)}{z:Int}(hc:c<S.ways.length):(S.oU c l).by c' z=if c'=c then fJ l z else S.by c' z:=by
 unfold RS.by;rw[kA hc];split <;> rfl
def dm (c:Nat)(S:RS)(pend:List Way)(ps:List (Int×Nat)):RS×List Way:=ps.foldl (kZ c) (S.oU c [],pend)
theorem jt (c:Nat)(S:RS)(pend:List Way)(ps:List (Int×Nat))(p:Int×Nat):dm c S pend (ps++[p])=kZ c (dm c S pend ps) p:=by unfold dm;rw[List.foldl_append];rfl
theorem snoc_ind {α:Type}{P:List α->Prop}(h0:P [])(h1:∀l x,P l->P (l++[x])):∀l,P l:=λl=>by
 have:∀n (l:List α),l.length=n->P l:=by
  intro n
  induction n with
  |zero=>intro l e;rw[List.eq_nil_of_length_eq_zero e];exact h0
  |succ n ih=>
   intro l e;have cF:l≠[]:=λz=>by rw[z]at e;cases e
   rw[←ai2 cF];exact h1 _ _ (ih _ (by rw[List.length_dropLast];omega))
 exact this _ l rfl
theorem BE (c:Nat)(S:RS)(pend:List Way):∀ps:List (Int×Nat),(dm c S pend ps).2=pend++ps.map λp=>(c,p.1,p.2):=by
 refine snoc_ind (by simp[dm]) λps p ih=>?_
 rw[jt];show (dm c S pend ps).2++_=_;rw[ih,ahO,aia];rfl
theorem k8 (c:Nat)(S:RS)(pend:List Way):∀ps:List (Int×Nat),(dm c S pend ps).1.ways.length=S.ways.length/\(dm c S pend ps).1={ S with ways:=(dm c S pend ps).1.ways }:=by
 refine snoc_ind ⟨by simp[dm,RS.oU],rfl⟩ λps p ih=>?_
 rw[jt];unfold kZ;by_cases h:p.2≠c
 ·simp only[h,ajT,ajq,ne_eq];refine⟨?_,?_⟩
  ·show (List.set _ _ _).length=_;rw[ahG];exact ih.1
  ·unfold RS.tF RS.oU;rw[ih.2]
 ·simp only[h,ajs];exact ih
theorem GD {c:Nat}{S:RS}{pend:List Way}(hc:c<S.ways.length):∀ps:List (Int×Nat),(∀q∈ps,q.2<S.ways.length)->∀d z,(dm c S pend ps).1.by d z=if d=c\/∃q∈ps,q.2=d/\z= -q.1 then none else S.by d z:=by
 refine snoc_ind (λ_ d z=>?_) λps p ih hl d z=>?_
 ·show (S.oU c []).by d z=_;rw[QN hc];by_cases h:d=c
  ·rw[ahu h,ahu (.inl h)];rfl
  ·rw[ahq h,ahq (by rintro (q|⟨q,hq,_⟩);exact h q;cases hq)]
 ·have GF:=ih (λq hq=>hl q (ahF _ hq)) d z;have hp:=hl p (ahn _ ahv);rw[jt];unfold kZ;by_cases h:p.2≠c
  ·simp only[h,ajT,ajq,ne_eq];rw[Io (by rw[(k8 c S pend ps).1];exact hp),GF];by_cases e:d=p.2/\z= -p.1
   ·rw[ahu e,ahu (.inr ⟨p,ahn _ ahv,e.1.symm,e.2⟩)]
   ·rw[ahq e];by_cases e2:d=c\/∃q∈ps,q.2=d/\z= -q.1
    ·rw[ahu e2,ahu (e2.imp id λ⟨q,hq,r⟩=>⟨q,ahF _ hq,r⟩)]
    ·rw[ahq e2,ahq];rintro (q|⟨q,hq,r⟩)
     ·exact e2 (.inl q)
     ·rcases ahx.mp hq with hq|hq
      ·exact e2 (.inr ⟨q,hq,r⟩)
      ·rw[ahg.mp hq]at r;exact e ⟨r.1.symm,r.2⟩
  ·simp only[h,ajs];rw[GF];have h':p.2=c:=ajO.mp h;by_cases e2:d=c\/∃q∈ps,q.2=d/\z= -q.1
   ·rw[ahu e2,ahu (e2.imp id λ⟨q,hq,r⟩=>⟨q,ahF _ hq,r⟩)]
   ·rw[ahq e2,ahq];rintro (q|⟨q,hq,r⟩)
    ·exact e2 (.inl q)
    ·rcases ahx.mp hq with hq|hq
     ·exact e2 (.inr ⟨q,hq,r⟩)
     ·rw[ahg.mp hq]at r;exact e2 (.inl (r.1.symm.trans h'))
inductive Cg (R:Za2):Nat->Nat->Prop where
 |refl (a:Nat):Cg R a a
 |symm {a b:Nat}:Cg R a b->Cg R b a
 |trans {a b c:Nat}:Cg R a b->Cg R b c->Cg R a c
 |step {a a' b b':Nat} {z:Int}:R a z b->R a' z b'->Cg R a a'->Cg R b b'
theorem Cg.mono {R R':Za2}(h:∀a z b,R a z b->R' a z b){a b:Nat}(c:Cg R a b):Cg R' a b:=by
 induction c with
 |refl=>exact .refl _
 |symm _ ih=>exact .symm ih
 |trans _ _ i1 i2=>exact .trans i1 i2
 |step r1 r2 _ ih=>exact .step (h _ _ _ r1) (h _ _ _ r2) ih
def Im (S:RS)(R:Za2)(c:Nat)(z:Int)(d:Nat):Prop:=∃c' d',R c' z d'/\S.ay c'=c/\S.ay d'=d
def BF (S:RS)(pend:List Way)(c:Nat)(z:Int)(d:Nat):Prop:=S.by c z=some d\/∃w∈pend,(S.ay w.1=c/\w.2.1=z/\S.ay w.2.2=d)\/(S.ay w.1=d/\w.2.1= -z/\S.ay w.2.2=c)
structure Good (S:RS) (pend:List Way) (R:Za2):Prop where
 wf:S.Wf
 el:∀c,c<S.made->S.ay c<=c/\S.ay (S.ay c)=S.ay c
 ca:∀e,e<S.made->S.ay e=e->∀c,c∈S.cG e↔c<S.made/\S.ay c=e
 cb:∀e c,c∈S.cG e->c<S.made
 cn:∀e,(S.cG e).Nodup
 kn:∀c,((S.way c).map (·.1)).Nodup
 st:∀c z d,S.by c z=some d->c<S.made/\d<S.made/\S.ay c=c/\S.ay d=d
 sy:∀c z d,S.by c z=some d->S.by d (-z)=some c
 pl:∀w∈pend,w.1<S.made/\w.2.2<S.made
 rl:∀c z d,R c z d->c<S.made/\d<S.made/\R d (-z) c
 cv:∀c z d,R c z d->BF S pend (S.ay c) z (S.ay d)
 so:∀c z d,S.by c z=some d->Im S R c z d
 sp:∀w∈pend,Im S R (S.ay w.1) w.2.1 (S.ay w.2.2)
 cg:∀c,c<S.made->Cg R c (S.ay c)
section
variable {S:RS}{pend:List Way}{R:Za2}
theorem Good.lt (h:Good S pend R){c:Nat}(hc:c<S.made):S.ay c<S.made:=ahr (h.el c hc).1 hc
theorem Im.back (h:Good S pend R){c d:Nat}{z:Int}(i:Im S R c z d):Im S R d (-z) c:=by
 obtain⟨c',d',r,e1,e2⟩:=i;exact⟨d',c',(h.rl _ _ _ r).2.2,e2,e1⟩
theorem Good.must (h:Good S pend R){c x y:Nat}{z:Int}(i:Im S R c z x)(j:Im S R c z y):Cg R x y:=by
 obtain⟨c1,x1,r1,e1,e2⟩:=i;obtain⟨c2,y2,r2,f1,f2⟩:=j;obtain⟨l1,l2,_⟩:=h.rl _ _ _ r1;obtain⟨m1,m2,_⟩:=h.rl _ _ _ r2;have a1:=h.cg _ l1;have a2:=h.cg _ l2;have b1:=h.cg _ m1;have b2:=h.cg _ m2;rw[e1]at a1;rw[e2]at a2;rw[f1]at b1;rw[f2]at b2;exact a2.symm.trans ((Cg.step r1 r2 (a1.trans b1.symm)).trans b2)
theorem Good.keep (h:Good S pend R){c d:Nat}{z:Int}(hc:c<S.made)(hd:d<S.made)(ec:S.ay c=c)(ed:S.ay d=d)(i:Im S R c z d)(h1:S.by c z=none\/S.by c z=some d)(h2:S.by d (-z)=none\/S.by d (-z)=some c){dc:List Way}(hp:∀w∈dc,w∈pend)
 (GH:∀w∈pend,w∉dc->S.ay w.1=c/\w.2.1=z/\S.ay w.2.2=d):Good (S.keep c z d) dc R:=by
 have GJ:c<S.ways.length:=by rw[h.wf.w];exact hc
 have XZ:d<S.ways.length:=by rw[h.wf.w];exact hd
 have zk:∀a s,(S.keep c z d).by a s=if a=d/\s= -z then some c else if a=c/\s=z then some d else S.by a s:=λa s=>by
  show ((S.dz c z d).dz d (-z) c).by a s=_;rw[rP (by show d<(S.ways.set c _).length;rw[ahG];exact XZ),rP GJ]
 have old:∀a s b,S.by a s=some b->(S.keep c z d).by a s=some b:=λa s b e=>by
  rw[zk];by_cases q1:a=d/\s= -z
  ·rw[ahu q1];obtain⟨rfl,rfl⟩:=q1;rcases h2 with q|q <;> rw[q]at e <;> cases e
   rfl
  ·rw[ahq q1];by_cases q2:a=c/\s=z
   ·rw[ahu q2];obtain⟨rfl,rfl⟩:=q2;rcases h1 with q|q <;> rw[q]at e <;> cases e
    rfl
   ·rw[ahq q2];exact e
 have el:∀a,(S.keep c z d).ay a=S.ay a:=λa=>rfl
 have new:∀a s b,(S.keep c z d).by a s=some b->(a=d/\s= -z/\b=c)\/(a=c/\s=z/\b=d)\/S.by a s=some b:=λa s b e=>by
  rw[zk]at e;by_cases q1:a=d/\s= -z
  ·rw[ahu q1]at e;exact .inl ⟨q1.1,q1.2,(Za0 e).symm⟩
  ·rw[ahq q1]at e;by_cases q2:a=c/\s=z
   ·rw[ahu q2]at e;exact .inr (.inl ⟨q2.1,q2.2,(Za0 e).symm⟩)
   ·rw[ahq q2]at e;exact .inr (.inr e)
 have TY:(S.keep c z d).by d (-z)=some c:=by rw[zk,ahu ⟨rfl,rfl⟩]
 have put2:(S.keep c z d).by c z=some d:=by
  rw[zk];by_cases q1:c=d/\z= -z
  ·rw[ahu q1,q1.1]
  ·rw[ahq q1,ahu ⟨rfl,rfl⟩]
 have X1:∀(l:List (Int×Nat)) (s:Int) (r:Nat),(l.map (·.1)).Nodup->((jW l s r).map (·.1)).Nodup:=λl s r hl=>by
  unfold jW;split
  ·rw[aiv]
   have:((λx:Int×Nat=>x.1) ∘ λp:Int×Nat=>if p.1=s then (p.1,r) else p)=λx=>x.1:=by
    funext p
    show (if p.1=s then (p.1,r) else p).1=p.1;split <;> rfl
   rw[this];exact hl
  ·rename_i q;rw[ahO];refine ah9.mpr ⟨hl,by simp,λa ha b hb e=>q ?_⟩;obtain⟨p,hp,rfl⟩:=ah0.mp ha;have:b=s:=by simpa using hb
   exact akg.mpr ⟨p,hp,ahy (e.trans this)⟩
 refine⟨⟨?_,?_,h.wf.e,h.wf.c⟩,h.el,h.ca,h.cb,h.cn,λa=>?_,λa s b e=>?_,λa s b e=>?_,λw hw=>h.pl w (hp w hw),h.rl,λa s b r=>?_,λa s b e=>?_,λw hw=>h.sp w (hp w hw),h.cg⟩
 ·show ((List.set _ _ _).set _ _).length=S.made;rw[ahG,ahG];exact h.wf.w
 ·show ((List.set _ _ _).set _ _).length=S.made;rw[ahG,ahG];exact h.wf.g
 ·show ((((S.dz c z d).dz d (-z) c).way a).map (·.1)).Nodup;unfold RS.dz;rw[kA (by show d<(S.ways.set c _).length;rw[ahG];exact XZ)]
  have k1:∀a,(((S.oU c (jW (S.way c) z d)).way a).map (·.1)).Nodup:=λa=>by
   rw[kA GJ];split
   ·exact X1 _ _ _ (h.kn c)
   ·exact h.kn a
  split
  ·exact X1 _ _ _ (k1 d)
  ·exact k1 a
 ·rcases new a s b e with ⟨rfl,rfl,rfl⟩|⟨rfl,rfl,rfl⟩|e
  ·exact⟨hd,hc,ed,ec⟩
  ·exact⟨hc,hd,ec,ed⟩
  ·exact h.st a s b e
 ·rcases new a s b e with ⟨rfl,rfl,rfl⟩|⟨rfl,rfl,rfl⟩|e
  ·rw[aiK];exact put2
  ·exact TY
  ·exact old _ _ _ (h.sy _ _ _ e)
 ·rcases h.cv a s b r with q|⟨w,hw,q⟩
  ·exact .inl (old _ _ _ q)
  ·by_cases hm:w∈dc
   ·exact .inr ⟨w,hm,q⟩
   ·obtain⟨f1,f2,f3⟩:=GH w hw hm;refine .inl ?_;show (S.keep c z d).by (S.ay a) s=some (S.ay b);rcases q with ⟨q1,q2,q3⟩|⟨q1,q2,q3⟩
    ·rw[←q1,←q2,←q3,f1,f2,f3];exact put2
    ·have es:s= -z:=by rw[←f2,q2,aiK]
     rw[←q1,←q3,f1,f3,es];exact TY
 ·rcases new a s b e with ⟨rfl,rfl,rfl⟩|⟨rfl,rfl,rfl⟩|e
  ·exact Im.back h i
  ·exact i
  ·exact h.so a s b e
end
theorem DQ (x:Nat):∀(l es:List Nat) (a:Nat),(∀n∈l,n<es.length)->(l.foldl (λes n=>es.set n x) es).getD a 0=if a∈l then x else es.getD a 0
 |[],es,a,_=>by simp
 |n::l,es,a,h=>by
  rw[List.foldl_cons,DQ x l (es.set n x) a (λm hm=>by rw[ahG];exact h m (ahL _ hm))];by_cases h1:a∈l
  ·rw[ahu h1,ahu (ahL _ h1)]
  ·rw[ahq h1];by_cases h2:a=n
   ·subst h2;rw[ahu ahv,ahh,ahW (h a ahv)];rfl
   ·rw[ahq (λz=>(ahp.mp z).elim h2 h1),ahh,aif (ail h2),←ahh]
theorem BG (x:Nat):∀(l es:List Nat),(l.foldl (λes n=>es.set n x) es).length=es.length
 |[],_=>rfl
 |n::l,es=>by rw[List.foldl_cons,BG x l,ahG]
theorem vF {l:List (Int×Nat)}{s:Int}{r:Nat}(h:fJ l s=some r):(s,r)∈l:=by
 unfold fJ at h;obtain⟨q,hq,rfl⟩:=aim.mp h;have h1:=List.find?_some hq;have h2:=ajg hq;have:q.1=s:=ahB h1;rw[←this];exact h2
theorem mV {l:List (Int×Nat)}(nd:(l.map (·.1)).Nodup){q:Int×Nat}(h:q∈l):fJ l q.1=some q.2:=by
 induction l with
 |nil=>cases h
 |cons p l ih=>
  unfold fJ;rw[ahY,ahX]at nd;by_cases e:p.1=q.1
  ·rw[ai7 (by exact ahy e)];rcases ahp.mp h with rfl|h
   ·rfl
   ·exact absurd (by rw[e];exact aiR h) nd.1
  ·rw[ai8 (by simpa using e)];rcases ahp.mp h with rfl|h
   ·exact absurd rfl e
   ·exact ih nd.2 h
theorem pN:∀(n:Nat) (l:List Nat),l.Nodup->(∀x∈l,x<n)->l.length<=n
 |0,[],_,_=>ahi _
 |0,a::l,_,h=>absurd (h a (ahv ..)) (by omega)
 |n+ 1,l,hn,h=>by
  by_cases hm:n∈l
  ·have:=pN n (l.erase n) (hn.erase n) (λx hx=>by
    have h1:=(hn.mem_erase_iff).mp hx;have h2:=h x h1.2;have h3:=h1.1;omega)
   rw[ajr hm]at this;omega
  ·have:=pN n l hn (λx hx=>by
    have h2:=h x hx;have h3:x≠n:=λz=>hm (by rw[←z];exact hx)
    omega)
   omega
theorem vG:∀(k l:List Int),l.Nodup->(∀x∈l,x∈k)->l.length<=k.length
 |[],[],_,_=>ahi _
 |[],a::l,_,h=>by have:=h a ahv;cases this
 |y::k,l,hn,h=>by
  by_cases hm:y∈l
  ·have:=vG k (l.erase y) (hn.erase y) (λx hx=>by
    have h1:=(hn.mem_erase_iff).mp hx;rcases ahp.mp (h x h1.2) with e|e
    ·exact absurd e h1.1
    ·exact e)
   rw[ajr hm]at this;have:1<=l.length:=aj8 hm;rw[ahE];omega
  ·have:=vG k l hn (λx hx=>by
    rcases ahp.mp (h x hx) with e|e
    ·exact absurd (e ▸ hx) hm
    ·exact e)
   rw[ahE];omega
theorem QO {c:Nat}{S:RS}{pend:List Way}(hc:c<S.ways.length)(kn:∀a,((S.way a).map (·.1)).Nodup):∀ps:List (Int×Nat),(∀q∈ps,q.2<S.ways.length)->∀a,(((dm c S pend ps).1.way a).map (·.1)).Nodup:=by
 refine snoc_ind (λ_ a=>?_) λps p ih hl a=>?_
 ·show (((S.oU c []).way a).map (·.1)).Nodup;rw[kA hc];split
  ·exact ais
  ·exact kn a
 ·have GF:=ih (λq hq=>hl q (ahF _ hq));rw[jt];unfold kZ;by_cases h:p.2≠c
  ·simp only[h,ajT,ajq,ne_eq];unfold RS.tF;rw[kA (by rw[(k8 c S pend ps).1];exact hl p (ahn _ ahv))];split
   ·exact List.Nodup.sublist (List.Sublist.map _ List.filter_sublist) (GF p.2)
   ·exact GF a
  ·simp only[h,ajs];exact GF a
section
variable {S:RS}{pend:List Way}{R:Za2}
theorem BF.back (h:Good S pend R){S':RS}{dc:List Way}(sy:∀c z d,S'.by c z=some d->S'.by d (-z)=some c){c d:Nat}{z:Int}(i:BF S' dc c z d):BF S' dc d (-z) c:=by
 rcases i with q|⟨w,hw,q⟩
 ·exact .inl (sy _ _ _ q)
 ·refine .inr ⟨w,hw,?_⟩;rcases q with ⟨q1,q2,q3⟩|⟨q1,q2,q3⟩
  ·exact .inr ⟨q1,by rw[q2,aiK],q3⟩
  ·exact .inl ⟨q1,q2,q3⟩
theorem Good.meet (h:Good S pend R){c x y:Nat}{z:Int}(hx:S.by c z=some x)(hy:y<S.made)(ey:S.ay y=y)(gI:x≠y)(iy:Im S R c z y){dc:List Way}(hp:∀w∈dc,w∈pend)
 (GH:∀w∈pend,w∉dc->(S.ay w.1=c/\w.2.1=z/\S.ay w.2.2=y)\/(S.ay w.1=y/\w.2.1= -z/\S.ay w.2.2=c)):
 Good (S.meet c z x y dc).1 (S.meet c z x y dc).2 R/\(∀a,(S.meet c z x y dc).1.ay a=if S.ay a=max x y then min x y else S.ay a)/\(S.meet c z x y dc).2=dc++(S.way (max x y)).map (λp=>(max x y,p.1,p.2)):=by
 obtain⟨hc,Oj,ec,ex⟩:=h.st _ _ _ hx;have Ol:Cg R x y:=h.must (h.so _ _ _ hx) iy;have hu:min x y<S.made:=by omega
 have hv:max x y<S.made:=by omega
 have GK:min x y<max x y:=by omega
 have eu:S.ay (min x y)=min x y:=by rcases ajJ x y with q|q;rw[aiq (by omega)];exact ex;rw[ai0 (by omega)];exact ey
 have ev:S.ay (max x y)=max x y:=by rcases ajJ x y with q|q;rw[ajx (by omega)];exact ey;rw[ajK (by omega)];exact ex
 have T1:x=min x y\/x=max x y:=by omega
 have T2:y=min x y\/y=max x y:=by omega
 have Ip:Cg R (max x y) (min x y):=by
  rcases ajJ x y with q|q
  ·rw[ajx (by omega),aiq (by omega)];exact Ol.symm
  ·rw[ajK (by omega),ai0 (by omega)];exact Ol
 unfold RS.meet;generalize max x y=v at hv GK ev T1 T2 Ip ⊢;generalize min x y=u at hu GK eu T1 T2 Ip ⊢;have X2:v<S.ways.length:=by rw[h.wf.w];exact hv
 have j0:∀q∈S.way v,q.2<S.ways.length:=λq hq=>by
  rw[h.wf.w];exact(h.st v q.1 q.2 (mV (h.kn v) hq)).2.1
 have hP:((S.joined c z u v).tG v dc)=dm v (S.joined c z u v) dc (S.way v):=rfl;rw[hP];have rest:=k8 v (S.joined c z u v) dc (S.way v);have byJ:∀a s,(S.joined c z u v).by a s=S.by a s:=λa s=>rfl
 have zk:∀a s,(dm v (S.joined c z u v) dc (S.way v)).1.by a s=if a=v\/S.by a s=some v then none else S.by a s:=λa s=>by
  rw[GD (S:=S.joined c z u v) X2 _ j0,byJ]
  have:(a=v\/∃q∈S.way v,q.2=a/\s= -q.1)↔(a=v\/S.by a s=some v):=by
   refine or_congr Iff.rfl ⟨?_,λe=>?_⟩
   ·rintro ⟨q,hq,rfl,rfl⟩;exact h.sy _ _ _ (mV (h.kn v) hq)
   ·have:=vF (h.sy _ _ _ e);exact⟨_,this,rfl,(aiK s).symm⟩
  simp only[this]
 have DR:(dm v (S.joined c z u v) dc (S.way v)).2=dc++(S.way v).map λp=>(v,p.1,p.2):=BE _ _ _ _
 have X3:=QO (S:=S.joined c z u v) (pend:=dc) X2 h.kn (S.way v) j0
 have heq:∀a,(dm v (S.joined c z u v) dc (S.way v)).1.ay a=if S.ay a=v then u else S.ay a:=λa=>by
  rw[rest.2];show ((S.cG v).foldl (λes n=>es.set n u) S.aB).getD a 0=_;rw[DQ u _ _ _ (λn hn=>by rw[h.wf.e];exact h.cb v n hn)];by_cases ha:a<S.made
  ·have:=h.ca v hv ev a;by_cases e:S.ay a=v
   ·rw[ahu (this.mpr ⟨ha,e⟩),ahu e]
   ·rw[ahq (λq=>e (this.mp q).2),ahq e];rfl
  ·have e0:S.ay a=0:=by unfold RS.ay;rw[ahh,ahR (by rw[h.wf.e];omega)];rfl
   rw[ahq (λq=>ha (h.cb v a q)),ahq (by rw[e0];omega)];rfl
 have Iq:∀e,(dm v (S.joined c z u v) dc (S.way v)).1.cG e=if e=u then S.cG u++S.cG v else S.cG e:=λe=>by
  rw[rest.2];show (S.called.set u (S.cG u++S.cG v)).getD e []=_;rw[ahh];by_cases q:e=u
  ·subst q;rw[ahW (by rw[h.wf.c];exact hu),ahu rfl];rfl
  ·rw[aif (ail q),ahq q];unfold RS.cG;rw[ahh]
 have lO:(dm v (S.joined c z u v) dc (S.way v)).1.made=S.made:=by rw[rest.2];rfl
 have X4:(dm v (S.joined c z u v) dc (S.way v)).1.Wf:=by
  refine⟨by rw[rest.1,lO];exact h.wf.w,?_,?_,?_⟩
  ·rw[rest.2];exact h.wf.g
  ·rw[rest.2];show ((S.cG v).foldl (λes n=>es.set n u) S.aB).length=S.made;rw[BG];exact h.wf.e
  ·rw[rest.2];show (S.called.set u (S.cG u++S.cG v)).length=S.made;rw[ahG];exact h.wf.c
 generalize (dm v (S.joined c z u v) dc (S.way v)).2=P2 at DR ⊢;generalize (dm v (S.joined c z u v) dc (S.way v)).1=S2 at rest zk X3 heq Iq lO X4 ⊢;clear rest;refine⟨?_,heq,DR⟩
 have bo:∀a s b,S2.by a s=some b↔S.by a s=some b/\a≠v/\b≠v:=λa s b=>by
  rw[zk];by_cases q:a=v\/S.by a s=some v
  ·rw[ahu q];refine⟨(λz=>by cases z),λ⟨e,n1,n2⟩=>?_⟩;rcases q with q|q
   ·exact absurd q n1
   ·rw[q]at e;exact absurd (Za0 e).symm n2
  ·rw[ahq q];refine⟨λe=>⟨e,λz=>q (.inl z),λz=>q (.inr (by rw[e,z]))⟩,λe=>e.1⟩
 have Om:∀a,S2.ay (S.ay a)=S2.ay a:=λa=>by
  rw[heq,heq];by_cases ha:a<S.made
  ·rw[(h.el a ha).2]
  ·have e0:∀a,¬a<S.made->S.ay a=0:=λa ha=>by unfold RS.ay;rw[ahh,ahR (by rw[h.wf.e];omega)];rfl
   rw[e0 a ha];have:S.ay 0=0:=by have:=(h.el 0 (by omega)).1;omega
   rw[this]
 have eqv:∀{a b},S.ay a=S.ay b->S2.ay a=S2.ay b:=λ{a b} e=>by rw[heq,heq,e]
 have T3:∀a s b,S2.by a s=some b->S2.by b (-s)=some a:=λa s b e=>by
  rw[bo]at e ⊢;exact⟨h.sy _ _ _ e.1,e.2.2,e.2.1⟩
 have std:∀{a},S.ay a=a->S2.ay a=if a=v then u else a:=λ{a} e=>by rw[heq,e]
 have kept:∀p s q,S.by p s=some q->BF S2 P2 (S2.ay p) s (S2.ay q):=λp s q e=>by
  obtain⟨lp,lq,ep,eq⟩:=h.st _ _ _ e;by_cases h1:p=v
  ·refine .inr ⟨(v,s,q),?_,.inl ⟨by rw[h1],rfl,rfl⟩⟩;rw[DR];rw[h1]at e;exact ahn _ (ah0.mpr ⟨(s,q),vF e,rfl⟩)
  ·by_cases h2:q=v
   ·refine .inr ⟨(v,-s,p),?_,.inr ⟨by rw[h2],rfl,rfl⟩⟩;rw[DR];have e':=h.sy _ _ _ e;rw[h2]at e';exact ahn _ (ah0.mpr ⟨(-s,p),vF e',rfl⟩)
   ·refine .inl ?_;rw[std ep,std eq,ahq h1,ahq h2];exact(bo _ _ _).mpr ⟨e,h1,h2⟩
 have eu2:S2.ay u=u:=by rw[std eu,ahq (by omega)]
 have ev2:S2.ay v=u:=by rw[std ev,ahu rfl]
 have exy:S2.ay x=S2.ay y:=by
  have q1:S2.ay x=u:=by rcases T1 with q|q <;> rw[q] <;> assumption
  have q2:S2.ay y=u:=by rcases T2 with q|q <;> rw[q] <;> assumption
  rw[q1,q2]
 have T4:∀{a b s},Im S R (S.ay a) s (S.ay b)->Im S2 R (S2.ay a) s (S2.ay b):=λ{a b s} ⟨a',b',r,e1,e2⟩=>⟨a',b',r,eqv e1,eqv e2⟩
 refine⟨X4,λa ha=>?_,λe he ee a=>?_,λe a ha=>?_,λe=>?_,X3,λa s b e=>?_,T3,λw hw=>?_,λa s b r=>?_,λa s b r=>?_,λa s b e=>?_,λw hw=>?_,λa ha=>?_⟩
 ·rw[lO]at ha;obtain⟨l1,l2⟩:=h.el a ha;rw[heq];by_cases q:S.ay a=v
  ·rw[ahu q];exact⟨by omega,eu2⟩
  ·rw[ahq q];exact⟨l1,by rw[heq,l2,ahq q]⟩
 ·rw[lO]at he ⊢;rw[Iq];have nev:e≠v:=λz=>by rw[z,ev2]at ee;omega
  by_cases q:e=u
  ·subst q;rw[ahu rfl,ahx,h.ca _ hu eu,h.ca v hv ev,heq];constructor
   ·rintro (⟨q1,q2⟩|⟨q1,q2⟩)
    ·exact⟨q1,by rw[ahq (by omega)];exact q2⟩
    ·exact⟨q1,by rw[ahu q2]⟩
   ·rintro ⟨q1,q2⟩;by_cases q3:S.ay a=v
    ·exact .inr ⟨q1,q3⟩
    ·rw[ahq q3]at q2;exact .inl ⟨q1,q2⟩
  ·rw[ahq q]
   have e0:S.ay e=e:=by
    rw[heq]at ee;by_cases q3:S.ay e=v
    ·rw[ahu q3]at ee;exact absurd ee.symm q
    ·rw[ahq q3]at ee;exact ee
   rw[h.ca e he e0,heq];constructor
   ·rintro ⟨q1,q2⟩;exact⟨q1,by rw[ahq (by rw[q2];exact nev)];exact q2⟩
   ·rintro ⟨q1,q2⟩;by_cases q3:S.ay a=v
    ·rw[ahu q3]at q2;exact absurd q2.symm q
    ·rw[ahq q3]at q2;exact⟨q1,q2⟩
 ·rw[lO];rw[Iq]at ha;split at ha
  ·rcases ahx.mp ha with ha|ha
   ·exact h.cb _ _ ha
   ·exact h.cb _ _ ha
  ·exact h.cb _ _ ha
 ·rw[Iq];split
  ·refine ah9.mpr ⟨h.cn _,h.cn _,λa ha b hb e=>?_⟩;have q1:=((h.ca _ hu eu a).mp ha).2;have q2:=((h.ca v hv ev b).mp hb).2;rw[e,q2]at q1;omega
  ·exact h.cn _
 ·rw[bo]at e;obtain⟨l1,l2,l3,l4⟩:=h.st _ _ _ e.1;exact⟨by rw[lO];exact l1,by rw[lO];exact l2,by rw[std l3,ahq e.2.1],by rw[std l4,ahq e.2.2]⟩
 ·rw[lO];rw[DR]at hw;rcases ahx.mp hw with hw|hw
  ·exact h.pl w (hp w hw)
  ·obtain⟨q,hq,rfl⟩:=ah0.mp hw;exact⟨hv,(h.st v q.1 q.2 (mV (h.kn v) hq)).2.1⟩
 ·rw[lO];exact h.rl a s b r
 ·rcases h.cv a s b r with q|⟨w,hw,q⟩
  ·have:=kept _ _ _ q;rw[Om,Om]at this;exact this
  ·by_cases hm:w∈dc
   ·refine .inr ⟨w,by rw[DR];exact ahF _ hm,?_⟩;rcases q with ⟨q1,q2,q3⟩|⟨q1,q2,q3⟩
    ·exact .inl ⟨eqv q1,q2,eqv q3⟩
    ·exact .inr ⟨eqv q1,q2,eqv q3⟩
   ·have base:BF S2 P2 (S2.ay c) z (S2.ay y):=by rw[←exy];exact kept _ _ _ hx
    have one:∀{p q:Nat},S.ay p=c->S.ay q=y->S2.ay p=S2.ay c/\S2.ay q=S2.ay y:=λ{p q} e1 e2=>⟨by rw[←Om p,e1],by rw[←Om q,e2]⟩
    rcases GH w hw hm with ⟨f1,f2,f3⟩|⟨f1,f2,f3⟩
    ·rcases q with ⟨q1,q2,q3⟩|⟨q1,q2,q3⟩
     ·obtain⟨g1,g2⟩:=one (q1.symm.trans f1) (q3.symm.trans f3);rw[g1,g2,←q2,f2];exact base
     ·obtain⟨g1,g2⟩:=one (q1.symm.trans f1) (q3.symm.trans f3);have es:s= -z:=by rw[←f2,q2,aiK]
      rw[g1,g2,es];exact BF.back h T3 base
    ·rcases q with ⟨q1,q2,q3⟩|⟨q1,q2,q3⟩
     ·obtain⟨g1,g2⟩:=one (q3.symm.trans f3) (q1.symm.trans f1);have es:s= -z:=by rw[←q2,f2]
      rw[g1,g2,es];exact BF.back h T3 base
     ·obtain⟨g1,g2⟩:=one (q3.symm.trans f3) (q1.symm.trans f1);have es:s=z:=by have:=q2.symm.trans f2;omega
      rw[g1,g2,es];exact base
 ·rw[bo]at e;obtain⟨l1,l2,l3,l4⟩:=h.st _ _ _ e.1;have:=h.so _ _ _ e.1;rw[←l3,←l4]at this;have q:=T4 this;rw[std l3,std l4,ahq e.2.1,ahq e.2.2]at q;exact q
 ·rw[DR]at hw;rcases ahx.mp hw with hw|hw
  ·exact T4 (h.sp w (hp w hw))
  ·obtain⟨q,hq,rfl⟩:=ah0.mp hw;have e:=mV (h.kn v) hq;obtain⟨l1,l2,l3,l4⟩:=h.st v q.1 q.2 e;have:=h.so _ _ _ e;rw[←l3,←l4]at this;exact T4 this
 ·rw[lO]at ha;rw[heq];split
  ·rename_i q;have:=h.cg a ha;rw[q]at this;exact this.trans Ip
  ·exact h.cg a ha
end
def RS.stand (S:RS):Nat:=(List.range S.made).countP λc=>decide (S.ay c=c)
theorem pO {p p':Nat->Bool}{v:Nat}(h:∀a,p' a=(p a && decide (a≠v)))(hv:p v=true):∀n,(List.range n).countP p'+ (if v<n then 1 else 0)=(List.range n).countP p
 |0=>rfl
 |n+ 1=>by
  have ih:=pO h hv n;rw[aiy,List.countP_append,List.countP_append,←ih];rw[List.countP_singleton,List.countP_singleton,h n];by_cases e:n=v
  ·subst e;rw[hv,ahq (aie n),ahu (aja n)];simp
  ·have:decide (n≠v)=true:=ahy e;rw[this,Bool.and_true];have hh:(v<n+ 1)=(v<n):=propext ⟨λ_=>by omega,λ_=>by omega⟩;simp only[hh];omega
def mu (k:Nat)(S:RS)(pend:List Way):Nat:=S.stand* (k+ 1)+ pend.length
section
variable {S:RS}{pend:List Way}{R:Za2}{w:Way}{ks:List Int}
theorem Good.DS (h:Good S pend R)(hk:∀c z d,R c z d->z∈ks)(c:Nat):(S.way c).length<=ks.length:=by
 have:=vG ks ((S.way c).map (·.1)) (h.kn c) (λx hx=>by
  obtain⟨q,hq,rfl⟩:=ah0.mp hx;obtain⟨a,b,r,_⟩:=h.so c q.1 q.2 (mV (h.kn c) hq);exact hk _ _ _ r)
 rw[ahl]at this;exact this
theorem Good.T5 (h:Good S pend R)(c:Nat):(S.cG c).length<=S.made:=pN _ _ (h.cn c) λx hx=>h.cb c x hx
theorem Good.take (h:Good S (pend++[w]) R)(hk:∀c z d,R c z d->z∈ks):Good (S.takeIn pend w).1 (S.takeIn pend w).2 R/\mu ks.length (S.takeIn pend w).1 (S.takeIn pend w).2<mu ks.length S (pend++[w])/\(S.takeIn pend w).1.made=S.made/\(S.takeIn pend w).1.L=S.L/\
 ((S.takeIn pend w).1.stand=S.stand/\(S.takeIn pend w).1.rows=S.rows/\(S.takeIn pend w).1.bE=S.bE\/(S.takeIn pend w).1.stand+ 1=S.stand/\∃c z x y,S.by c z=some x/\Im S R c z y/\y<S.made/\S.ay y=y/\x≠y/\(S.takeIn pend w).1.rows=S.rows++[gU c z (min x y) (max x y)]/\(S.takeIn pend w).1.bE=S.bE++[max x y]/\∀a,(S.takeIn pend w).1.ay a=if S.ay a=max x y then min x y else S.ay a):=by
 have hw:=h.pl w (ahn _ ahv);have iw:=h.sp w (ahn _ ahv);have hc:=h.lt hw.1;have hd:=h.lt hw.2;have ec:=(h.el _ hw.1).2;have ed:=(h.el _ hw.2).2;have hp:∀x∈pend,x∈pend++[w]:=λx hx=>ahF _ hx
 have last:∀x∈pend++[w],x∉pend->x=w:=λx hx nx=>by
  rcases ahx.mp hx with q|q
  ·exact absurd q nx
  ·exact ahg.mp q
 have met:∀{c x y:Nat} {z:Int},S.by c z=some x->y<S.made->S.ay y=y->x≠y->Im S R c z y->((S.ay w.1=c/\w.2.1=z/\S.ay w.2.2=y)\/(S.ay w.1=y/\w.2.1= -z/\S.ay w.2.2=c))->
  Good (S.meet c z x y pend).1 (S.meet c z x y pend).2 R/\mu ks.length (S.meet c z x y pend).1 (S.meet c z x y pend).2<mu ks.length S (pend++[w])/\(S.meet c z x y pend).1.made=S.made/\(S.meet c z x y pend).1.L=S.L/\(S.meet c z x y pend).1.stand+ 1=S.stand/\(S.meet c z x y pend).1.rows=S.rows++[gU c z (min x y) (max x y)]/\(S.meet c z x y pend).1.bE=S.bE++[max x y]/\∀a,(S.meet c z x y pend).1.ay a=if S.ay a=max x y then min x y else S.ay a:=by
  intro c x y z hx hy ey gI iy GH;obtain⟨g,g1,g2⟩:=h.meet hx hy ey gI iy hp (λx hx nx=>by rw[last x hx nx];exact GH);obtain⟨hc,Oj,ec,ex⟩:=h.st _ _ _ hx;have rest:=(k8 (max x y) (S.joined c z (min x y) (max x y)) pend ((S.joined c z (min x y) (max x y)).way (max x y))).2
  have hm:(S.meet c z x y pend).1.made=S.made:=by
   show (dm (max x y) (S.joined c z (min x y) (max x y)) pend ((S.joined c z (min x y) (max x y)).way (max x y))).1.made=_;rw[rest];rfl
  have hL:(S.meet c z x y pend).1.L=S.L:=by
   show (dm (max x y) (S.joined c z (min x y) (max x y)) pend ((S.joined c z (min x y) (max x y)).way (max x y))).1.L=_;rw[rest];rfl
  have hr:(S.meet c z x y pend).1.rows=S.rows++[gU c z (min x y) (max x y)]:=by
   show (dm (max x y) (S.joined c z (min x y) (max x y)) pend ((S.joined c z (min x y) (max x y)).way (max x y))).1.rows=_;rw[rest];rfl
  have hn:(S.meet c z x y pend).1.bE=S.bE++[max x y]:=by
   show (dm (max x y) (S.joined c z (min x y) (max x y)) pend ((S.joined c z (min x y) (max x y)).way (max x y))).1.bE=_;rw[rest];rfl
  have GK:min x y<max x y:=by omega
  have ev:S.ay (max x y)=max x y:=by rcases ajJ x y with q|q;rw[ajx (by omega)];exact ey;rw[ajK (by omega)];exact ex
  have hs:(S.meet c z x y pend).1.stand+ 1=S.stand:=by
   unfold RS.stand;rw[hm]
   have:=pO (p:=λc=>decide (S.ay c=c)) (p':=λa=>decide ((S.meet c z x y pend).1.ay a=a)) (v:=max x y) (λa=>by
    rw[g1,ah4,aiN,ahQ,ahQ,ahQ];by_cases q:S.ay a=max x y
    ·rw[ahu q];constructor
     ·intro e;have e2:S.ay (min x y)=min x y:=by rcases ajJ x y with q|q;rw[aiq (by omega)];exact ex;rw[ai0 (by omega)];exact ey
      rw[e]at e2;rw[e2]at q;omega
     ·rintro ⟨e1,e2⟩;exact absurd (e1.symm.trans q) e2
    ·rw[ahq q];exact⟨λe=>⟨e,λe2=>q (by rw[e2];exact ev)⟩,λe=>e.1⟩) (ahy ev) S.made
   rw[ahu (by omega)]at this;exact this
  have hl:=h.DS hk (max x y);refine⟨g,?_,hm,hL,hs,hr,hn,g1⟩;unfold mu;rw[g2,←hs,ahe,ahe,ahl,aki,Nat.one_mul];have:([w]:List Way).length=1:=rfl;omega
 unfold RS.takeIn;by_cases h1:(S.by (S.ay w.1) w.2.1).getD (S.ay w.2.2)≠S.ay w.2.2
 ·rw[ahu h1]
  cases e:S.by (S.ay w.1) w.2.1 with
  |none=>rw[e]at h1;exact absurd rfl h1
  |some x=>
   rw[e]at h1;obtain⟨a1,a2,a3,a4,a5,a6,a7,a8⟩:=met e hd ed h1 iw (.inl ⟨rfl,rfl,rfl⟩);exact⟨a1,a2,a3,a4,.inr ⟨a5,_,_,x,_,e,iw,hd,ed,h1,a6,a7,a8⟩⟩
 ·rw[ahq h1];by_cases h2:(S.by (S.ay w.2.2) (-w.2.1)).getD (S.ay w.1)≠S.ay w.1
  ·rw[ahu h2]
   cases e:S.by (S.ay w.2.2) (-w.2.1) with
   |none=>rw[e]at h2;exact absurd rfl h2
   |some x=>
    rw[e]at h2;have ib:=Im.back h iw;obtain⟨a1,a2,a3,a4,a5,a6,a7,a8⟩:=met e hc ec h2 ib (.inr ⟨rfl,(aiK _).symm,rfl⟩);exact⟨a1,a2,a3,a4,.inr ⟨a5,_,_,x,_,e,ib,hc,ec,h2,a6,a7,a8⟩⟩
  ·rw[ahq h2]
   have k1:S.by (S.ay w.1) w.2.1=none\/S.by (S.ay w.1) w.2.1=some (S.ay w.2.2):=by
    cases e:S.by (S.ay w.1) w.2.1 with
    |none=>exact .inl rfl
    |some x=>rw[e]at h1;exact .inr (ah6 some (ajO.mp h1))
   have k2:S.by (S.ay w.2.2) (-w.2.1)=none\/S.by (S.ay w.2.2) (-w.2.1)=some (S.ay w.1):=by
    cases e:S.by (S.ay w.2.2) (-w.2.1) with
    |none=>exact .inl rfl
    |some x=>rw[e]at h2;exact .inr (ah6 some (ajO.mp h2))
   refine⟨h.keep hc hd ec ed iw k1 k2 hp (λx hx nx=>by rw[last x hx nx];exact⟨rfl,rfl,rfl⟩),?_,rfl,rfl,.inl ⟨rfl,rfl,rfl⟩⟩;unfold mu;show S.stand* _+ pend.length<S.stand* _+ (pend++[w]).length;rw[ahe];have:([w]:List Way).length=1:=rfl;omega
theorem Good.fin (h:Good S [] R){a b:Nat}(ha:a<S.made)(hb:b<S.made):S.ay a=S.ay b↔Cg R a b:=by
 have det:∀{a a' b b':Nat} {z:Int},R a z b->R a' z b'->S.ay a=S.ay a'->S.ay b=S.ay b':=λ{a a' b b' z} r1 r2 e=>by
  rcases h.cv _ _ _ r1 with q1|⟨w,hw,_⟩
  ·rcases h.cv _ _ _ r2 with q2|⟨w,hw,_⟩
   ·rw[e,q2]at q1;exact(Za0 q1).symm
   ·cases hw
  ·cases hw
 constructor
 ·intro e;have h1:=h.cg a ha;have h2:=h.cg b hb;rw[e]at h1;exact h1.trans h2.symm
 ·intro c;clear ha hb
  induction c with
  |refl=>rfl
  |symm _ ih=>exact ih.symm
  |trans _ _ i1 i2=>exact i1.trans i2
  |step r1 r2 _ ih=>exact det r1 r2 ih
theorem Good.zl (h:Good S [] R){c d:Nat}{z:Int}:S.by c z=some d↔Im S R c z d:=by
 constructor
 ·exact h.so c z d
 ·rintro ⟨c',d',r,rfl,rfl⟩;rcases h.cv _ _ _ r with q|⟨w,hw,_⟩
  ·exact q
  ·cases hw
end
section
variable {X:Cx}
theorem Cu {prog:Program}{w:World}{d:Addr}(hd:(d==sysModules)=false):
 MeetsIn prog w (Builtin.«dict.__len__» ⟨[.ref d],[]⟩) (λ_ R s=>∃es ep,eU s.heap d es ep/\R (.ok (.ret (.int (es.size:Nat) s.toks))) { s with toks:=s.toks+ 1 }):=
 .of_wp λA R s ⟨es,ep,hm,h⟩=>by
  obtain⟨o,ho,hc,iA⟩:=hm;show wpAny _ _ (dictSize d >>=_) _ _ s;unfold dictSize;refine ahb (ahb (aiQ ho iA (ahk ?_)));show wpAny _ _ (Builtin.Dict.pendingCount d >>=_) _ _ s;refine ahb (wpAny_pendingCount_other hd ?_);refine wpAny_ret_mkInt ?_;rw[Nat.add_zero];exact h
theorem QP {prog:Program}{w:World}{A:Around}{E:Value->Shared->Prop}{s:Shared}{d:Addr}{es:Array DictEntry}{ep:Nat}{Q:Value->Shared->Prop}(hd:(d==sysModules)=false)(hm:eU s.heap d es ep)(Ar:(es.size:Int)<2 ^ 63)
 (h:Q (.int (es.size:Nat) (s.toks+ 1)) { s with toks:=s.toks+ 1+ 1 }):wpAny (model prog w) A (call (.builtin "len") [.ref d]) Q E s:=by
 refine Calls.call_function_entry kind_len plain_len entry_len (args_len1 _) ?_;unfold Builtin.«len»;refine ahb (m:=oneArg "len" _) (ahk ?_)
 refine ahb (m:=callSpecial? (.ref d) (Str.ofString "__len__")) (ah7 (name:=Str.ofString "__len__") (Dk.typ hm) F.slot_dict_len
  (ajb F.slot_dict_len (Dk.typ hm) F.entry_dict_len (F.args_dict_len_1 _) (Cu hd) ⟨es,ep,hm,?_⟩))
 show wpAny _ _ _ _ _ { s with toks:=s.toks+ 1 };refine ahb (aiz (ahk ?_));refine ahb (wpAny_letGo ?_);show wpAny _ _ (if ((es.size:Nat):Int)<0 then _ else _) _ _ _;rw[ahq (by omega)];show wpAny _ _ (if ((es.size:Nat):Int)>=2 ^ 63 then _ else _) _ _ _;rw[ahq (by omega)];exact ahb (wpAny_mkInt (ahk ⟨_,rfl,h⟩))
theorem FV:lD X (.builtin "len") (λxs H Q=>∃(d:Addr) (kvs:List (List Key×V)),xs=[.ref d]/\H d=some (.dT kvs)/\Q (.int kvs.length) H):=by
 intro pins s σ H xs us Q I r h;obtain⟨d,kvs,rfl,hd,q⟩:=h;obtain⟨u,rfl,rx⟩:=vals1 r;cases rx;obtain⟨hz,vC,ys,kt,o,es,ep,ho,TV,iA,hes,_,_⟩:=HW I.bu hd;have hlen:ys.length=kvs.length:=(Paired.length kt).symm;have hsz:es.size=ys.length:=size_of_entries hes;have hl:sizeLine=16777216:=sizeLine_eq;refine QP vC ⟨o,ho,TV,iA⟩ (by omega) ?_;rw[hsz,hlen];exact⟨.int kvs.length,H,I.tok _,⟨_,rfl⟩,q⟩
end
def et (R:Za2)(c:Nat)(z:Int)(d:Nat):Za2:=λa s b=>R a s b\/(a=c/\s=z/\b=d)\/(a=d/\s= -z/\b=c)
theorem qJ {R:Za2}{c d:Nat}{z:Int}:∀a s b,R a s b->et R c z d a s b:=λ_ _ _ r=>.inl r
theorem yd {R:Za2}{c d:Nat}{z:Int}:et R c z d c z d:=.inr (.inl ⟨rfl,rfl,rfl⟩)
theorem DT (L:Nat)(g:List Int):Good (RS.new L g) [] (λ_ _ _=>False) where
 wf:=⟨rfl,rfl,rfl,rfl⟩
 el:=λc hc=>by
  have:c=0:=by have:c<1:=hc;omega
  subst this;exact⟨ahi _,rfl⟩
 ca:=λe he _ c=>by
  have:e=0:=by have:e<1:=he;omega
  subst this;show c∈[0]↔c<1/\(RS.new L g).ay c=0;rw[ahg];constructor
  ·rintro rfl;exact⟨by decide,rfl⟩
  ·rintro ⟨h,_⟩;omega
 cb:=λe c hc=>by
  have:(RS.new L g).cG e=[0]\/(RS.new L g).cG e=[]:=by
   rcases e with _|e
   ·exact .inl rfl
   ·exact .inr rfl
  show c<1;rcases this with q|q <;> rw[q]at hc
  ·rw[ahg.mp hc];decide
  ·cases hc
 cn:=λe=>by
  rcases e with _|e
  ·show [0].Nodup;simp
  ·exact ais
 kn:=λc=>by
  rcases c with _|c <;> exact ais
 st:=λc z d h=>by
  have:(RS.new L g).by c z=none:=by rcases c with _|c <;> rfl
  rw[this]at h;cases h
 sy:=λc z d h=>by
  have:(RS.new L g).by c z=none:=by rcases c with _|c <;> rfl
  rw[this]at h;cases h
 pl:=λw hw=>by cases hw
 rl:=λ_ _ _ h=>h.elim
 cv:=λ_ _ _ h=>h.elim
 so:=λc z d h=>by
  have:(RS.new L g).by c z=none:=by rcases c with _|c <;> rfl
  rw[this]at h;cases h
 sp:=λw hw=>by cases hw
 cg:=λc hc=>by
  have:c=0:=by have:c<1:=hc;omega
  subst this;exact .refl _
section
variable {S:RS}{R:Za2}
theorem Good.lay (h:Good S [] R){c d:Nat}(z:Int)(hc:c<S.made)(hd:d<S.made)(rows:List Dt):Good { S with rows:=rows } [(c,z,d)] (et R c z d) where
 wf:=⟨h.wf.w,h.wf.g,h.wf.e,h.wf.c⟩
 el:=h.el
 ca:=h.ca
 cb:=h.cb
 cn:=h.cn
 kn:=h.kn
 st:=h.st
 sy:=h.sy
 pl:=λw hw=>by rw[ahg.mp hw];exact⟨hc,hd⟩
 rl:=by
  rintro a s b (r|⟨rfl,rfl,rfl⟩|⟨rfl,rfl,rfl⟩)
  ·obtain⟨q1,q2,q3⟩:=h.rl _ _ _ r;exact⟨q1,q2,.inl q3⟩
  ·exact⟨hc,hd,.inr (.inr ⟨rfl,rfl,rfl⟩)⟩
  ·exact⟨hd,hc,.inr (.inl ⟨rfl,aiK _,rfl⟩)⟩
 cv:=by
  rintro a s b (r|⟨rfl,rfl,rfl⟩|⟨rfl,rfl,rfl⟩)
  ·rcases h.cv _ _ _ r with q|⟨w,hw,_⟩
   ·exact .inl q
   ·cases hw
  ·exact .inr ⟨_,ahv,.inl ⟨rfl,rfl,rfl⟩⟩
  ·exact .inr ⟨_,ahv,.inr ⟨rfl,(aiK _).symm,rfl⟩⟩
 so:=λa s b e=>by
  obtain⟨c',d',r,e1,e2⟩:=h.so a s b e;exact⟨c',d',.inl r,e1,e2⟩
 sp:=λw hw=>by
  rw[ahg.mp hw];exact⟨c,d,yd,rfl,rfl⟩
 cg:=λa ha=>(h.cg a ha).mono qJ
theorem lb (hw:S.Wf)(c:Nat)(z:Int)(g:List Int)(a:Nat):(S.grown c z g).ay a=if a=S.made then S.made else S.ay a:=by
 unfold RS.ay;show (S.aB++[S.made]).getD a 0=_;rw[ahh];by_cases e:a=S.made
 ·rw[ahu e,e,ahs (by rw[hw.e];exact ahi _),hw.e,ai4];rfl
 ·rw[ahq e,ahh];by_cases q:a<S.made
  ·rw[aht (by rw[hw.e];exact q)]
  ·rw[ahR (by rw[ahe,hw.e];show S.made+ 1<=a;omega),ahR (by rw[hw.e];omega)]
theorem vH (hw:S.Wf)(c:Nat)(z:Int)(g:List Int)(a:Nat):(S.grown c z g).cG a=if a=S.made then [S.made] else S.cG a:=by
 unfold RS.cG;show (S.called++[[S.made]]).getD a []=_;rw[ahh];by_cases e:a=S.made
 ·rw[ahu e,e,ahs (by rw[hw.c];exact ahi _),hw.c,ai4];rfl
 ·rw[ahq e,ahh];by_cases q:a<S.made
  ·rw[aht (by rw[hw.c];exact q)]
  ·rw[ahR (by rw[ahe,hw.c];show S.made+ 1<=a;omega),ahR (by rw[hw.c];omega)]
theorem vI (hw:S.Wf)(c:Nat)(z:Int)(g:List Int)(a:Nat):(S.grown c z g).way a=S.way a:=by
 unfold RS.way;show (S.ways++[[]]).getD a []=_;rw[ahh,ahh];by_cases q:a<S.ways.length
 ·rw[aht q]
 ·rw[ahs (by omega),ahR (l:=S.ways) (by omega)];by_cases h2:a - S.ways.length=0
  ·rw[h2];rfl
  ·rw[ahR (by simp;omega)]
theorem Good.make (h:Good S [] R){c:Nat}{z:Int}(hc:c<S.made)(ec:S.ay c=c)(hn:S.by c z=none)(g:List Int):Good (S.make c z g) [] (et R c z S.made):=by
 have hw:=h.wf;have vJ:∀a,a<S.made->(S.grown c z g).ay a=S.ay a:=λa ha=>by rw[lb hw,ahq (by omega)]
 have GL:(S.grown c z g).ay S.made=S.made:=by rw[lb hw,ahu rfl]
 have GN:∀a s,(S.grown c z g).by a s=S.by a s:=λa s=>by unfold RS.by;rw[vI hw]
 have G:Good (S.grown c z g) [(c,z,S.made)] (et R c z S.made):=by
  refine⟨⟨?_,?_,?_,?_⟩,λa ha=>?_,λe he ee a=>?_,λe a ha=>?_,λe=>?_,λa=>?_,λa s b e=>?_,λa s b e=>?_,λw hw=>?_,?_,?_,λa s b e=>?_,λw hw=>?_,λa ha=>?_⟩
  ·show (S.ways++[[]]).length=S.made+ 1;rw[ahe,hw.w];rfl
  ·show (S.gaps++[_]).length=S.made+ 1;rw[ahe,hw.g];rfl
  ·show (S.aB++[_]).length=S.made+ 1;rw[ahe,hw.e];rfl
  ·show (S.called++[_]).length=S.made+ 1;rw[ahe,hw.c];rfl
  ·have ha':a<S.made+ 1:=ha;by_cases e:a=S.made
   ·rw[e,GL];exact⟨ahi _,GL⟩
   ·have hl:a<S.made:=by omega
    rw[vJ a hl];obtain⟨q1,q2⟩:=h.el a hl;exact⟨q1,by rw[vJ _ (by omega)];exact q2⟩
  ·have dh:e<S.made+ 1:=he;show _↔a<S.made+ 1/\_;rw[vH hw,lb hw];by_cases q:e=S.made
   ·subst q;rw[ahu rfl,ahg];constructor
    ·rintro rfl;exact⟨by omega,by rw[ahu rfl]⟩
    ·rintro ⟨q1,q2⟩;by_cases q3:a=S.made
     ·exact q3
     ·rw[ahq q3]at q2;have:=(h.el a (by omega)).1;omega
   ·have hl:e<S.made:=by omega
    rw[vJ e hl]at ee;rw[ahq q,h.ca e hl ee a];constructor
    ·rintro ⟨q1,q2⟩;exact⟨by omega,by rw[ahq (by omega)];exact q2⟩
    ·rintro ⟨q1,q2⟩;by_cases q3:a=S.made
     ·rw[ahu q3]at q2;exact absurd q2.symm q
     ·rw[ahq q3]at q2;exact⟨by omega,q2⟩
  ·show a<S.made+ 1;rw[vH hw]at ha;split at ha
   ·rw[ahg.mp ha];omega
   ·exact aiG (h.cb e a ha)
  ·rw[vH hw];split
   ·simp
   ·exact h.cn e
  ·rw[vI hw];exact h.kn a
  ·rw[GN]at e;obtain⟨q1,q2,q3,q4⟩:=h.st a s b e;exact⟨aiG q1,aiG q2,by rw[vJ a q1];exact q3,by rw[vJ b q2];exact q4⟩
  ·rw[GN]at e ⊢;exact h.sy a s b e
  ·rw[ahg.mp hw];exact⟨aiG hc,aja _⟩
  ·rintro a s b (r|⟨rfl,rfl,rfl⟩|⟨rfl,rfl,rfl⟩)
   ·obtain⟨q1,q2,q3⟩:=h.rl _ _ _ r;exact⟨aiG q1,aiG q2,.inl q3⟩
   ·exact⟨aiG hc,aja _,.inr (.inr ⟨rfl,rfl,rfl⟩)⟩
   ·exact⟨aja _,aiG hc,.inr (.inl ⟨rfl,aiK _,rfl⟩)⟩
  ·rintro a s b (r|⟨rfl,rfl,rfl⟩|⟨rfl,rfl,rfl⟩)
   ·obtain⟨q1,q2,_⟩:=h.rl _ _ _ r;rcases h.cv _ _ _ r with q|⟨w,hw,_⟩
    ·exact .inl (by rw[vJ a q1,vJ b q2,GN];exact q)
    ·cases hw
   ·exact .inr ⟨_,ahv,.inl ⟨rfl,rfl,rfl⟩⟩
   ·exact .inr ⟨_,ahv,.inr ⟨rfl,(aiK _).symm,rfl⟩⟩
  ·rw[GN]at e;obtain⟨c',d',r,e1,e2⟩:=h.so a s b e;obtain⟨q1,q2,_⟩:=h.rl _ _ _ r;exact⟨c',d',.inl r,by rw[vJ c' q1];exact e1,by rw[vJ d' q2];exact e2⟩
  ·rw[ahg.mp hw];exact⟨c,S.made,yd,rfl,rfl⟩
  ·have ha':a<S.made+ 1:=ha;by_cases e:a=S.made
   ·rw[e,GL];exact .refl _
   ·rw[vJ a (by omega)];exact(h.cg a (by omega)).mono qJ
 have e1:(S.grown c z g).ay c=c:=by rw[vJ c hc];exact ec
 have i:=G.sp _ ahv;rw[show (c,z,S.made).1=c from rfl,show (c,z,S.made).2.2=S.made from rfl,e1,GL]at i;refine G.keep (aiG hc) (aja _) e1 GL i (.inl (by rw[GN];exact hn)) (.inl ?_) (λw hw=>by cases hw) (λw hw _=>by rw[ahg.mp hw];exact⟨e1,rfl,GL⟩);rw[GN]
 cases e:S.by S.made (-z) with
 |none=>rfl
 |some b=>have:=(h.st _ _ _ e).1;omega
end
def abL (n:Nat)(s:Int):Za2:=λa z b=>(z=s/\b=a+ 1/\b<n)\/(z= -s/\a=b+ 1/\a<n)
section
variable {X:Cx}
theorem zm {x y z v:Str}{scope:Scope}{c d e:Addr}{i j l:Nat}(yX:closureFor scope X.env=pure [(y,c),(z,d),(v,e)])(hy:X.env.cells.lookup y=some c)(hz:X.env.cells.lookup z=some d)(hv:X.env.cells.lookup v=some e)(hc:∀q∈scope.names,q.2≠.cell)(hk:scope.kind=.function)
 (hn:∀q∈scope.names,q.2=.local->scope.names.lookup q.1=some .local) (hx:scope.names.lookup x=some .local) (lB:∀q∈scope.names,q.2=.free->q.1=y\/q.1=z\/q.1=v) (gI:(x≠y/\x≠z/\x≠v)/\y≠z/\y≠v/\z≠v) (hi:X.N[i]?=some y) (hj:X.N[j]?=some z) (hl:X.N[l]?=some v)
 (Bp:X.env.kindOf y=some .cell) (JM:X.env.kindOf z=some .cell) (dP:X.env.kindOf v=some .cell) (Bq:X.env.scope.kind=.function) (JD:scope.names.lookup y=some .free) (Gx:scope.names.lookup z=some .free) (BH:scope.names.lookup v=some .free):fi X x [y,z,v] [i,j,l] scope [(y,c),(z,d),(v,e)] where
 Dq:=yX
 sub:=λw q h=>by
  by_cases e1:w=y
  ·subst e1;have:c=q:=by simpa [ahM] using h
   rw[←this];exact hy
  ·have hb:(w==y)=false:=aho.mpr e1;by_cases e2:w=z
   ·subst e2;have:d=q:=by simpa [ahM,hb] using h
    rw[←this];exact hz
   ·have qB:(w==z)=false:=aho.mpr e2;by_cases e3:w=v
    ·subst e3;have:e=q:=by simpa [ahM,hb,qB] using h
     rw[←this];exact hv
    ·have hb3:(w==v)=false:=aho.mpr e3;simp[ahM,hb,qB,hb3]at h
 cell:=hc
 kind:=hk
 names:=hn
 own:=hx
 has:=λw h=>by
  have ew:w=y\/w=z\/w=v:=by
   rcases h with h|h
   ·exact lB _ (i3 h (.inl rfl) hc) rfl
   ·exact lB _ (i3 h (.inr rfl) hc) rfl
  rcases ew with rfl|rfl|rfl
  ·exact⟨c,by simp[ahM]⟩
  ·have hb:(w==y)=false:=aho.mpr (λq=>gI.2.1 q.symm);exact⟨d,by simp[ahM,hb]⟩
  ·have hb:(w==y)=false:=aho.mpr (λq=>gI.2.2.1 q.symm);have qB:(w==z)=false:=aho.mpr (λq=>gI.2.2.2 q.symm);exact⟨e,by simp[ahM,hb,qB]⟩
 nd:=by simp[gI.1.1,gI.1.2.1,gI.1.2.2,gI.2.1,gI.2.2.1,gI.2.2.2]
 len:=rfl
 at_:=λk w h=>by
  match k,h with
  |0,h=>
   have e:y=w:=by simpa using h
   subst e;exact⟨i,rfl,hi,.inl Bp,c,by simp[ahM],.inl (c9 Bq Bp JD)⟩
  |1,h=>
   have e:z=w:=by simpa using h
   subst e;have hb:(z==y)=false:=aho.mpr (λq=>gI.2.1 q.symm);exact⟨j,rfl,hj,.inl JM,d,by simp[ahM,hb],.inl (c9 Bq JM Gx)⟩
  |2,h=>
   have ew:v=w:=by simpa using h
   subst ew;have hb:(v==y)=false:=aho.mpr (λq=>gI.2.2.1 q.symm);have qB:(v==z)=false:=aho.mpr (λq=>gI.2.2.2 q.symm);exact⟨l,rfl,hl,.inl dP,e,by simp[ahM,hb,qB],.inl (c9 Bq dP BH)⟩
  |k+ 3,h=>simp at h
end
end L2
namespace L2
theorem bI {p:Prop}(h:let q:Prop:=p;q):p:=h
theorem ug {a1 z:TS}{D:Ends}{σ:St}{H:Hp}(h:let u1:TS:=z;aH a1 u1 D σ H):(aH a1 z) D σ H:=h
theorem ye {a1 z:TS}{D:Ends}{σ:St}{H:Hp}(h:let D0:Ends:=D;let u1:TS:=z;aH a1 u1 D0 σ H):(aH a1 z) D σ H:=h
theorem gE {a1 a2 z:TS}{D:Ends}{σ:St}{H:Hp}(h:let u2:TS:=z;let u1:TS:=aH a2 u2;aH a1 u1 D σ H):(aH a1 (aH a2 z)) D σ H:=h
theorem yf {a1 a2 z:TS}{D:Ends}{σ:St}{H:Hp}(h:let D0:Ends:=D;let u2:TS:=z;let u1:TS:=aH a2 u2;aH a1 u1 D0 σ H):(aH a1 (aH a2 z)) D σ H:=h
theorem qK {a1 a2 a3 z:TS}{D:Ends}{σ:St}{H:Hp}(h:let u3:TS:=z;let u2:TS:=aH a3 u3;let u1:TS:=aH a2 u2;aH a1 u1 D σ H):(aH a1 (aH a2 (aH a3 z))) D σ H:=h
theorem DU {a1 a2 a3 a4 z:TS}{D:Ends}{σ:St}{H:Hp}(h:let u4:TS:=z;let u3:TS:=aH a4 u4;let u2:TS:=aH a3 u3;let u1:TS:=aH a2 u2;aH a1 u1 D σ H):(aH a1 (aH a2 (aH a3 (aH a4 z)))) D σ H:=h
theorem yg {a1 a2 a3 a4 a5 z:TS}{D:Ends}{σ:St}{H:Hp}(h:let u5:TS:=z;let u4:TS:=aH a5 u5;let u3:TS:=aH a4 u4;let u2:TS:=aH a3 u3;let u1:TS:=aH a2 u2;aH a1 u1 D σ H):(aH a1 (aH a2 (aH a3 (aH a4 (aH a5 z))))) D σ H:=h
theorem DV {a1 a2 a3 a4 a5 a6 z:TS}{D:Ends}{σ:St}{H:Hp}(h:let u6:TS:=z;let u5:TS:=aH a6 u6;let u4:TS:=aH a5 u5;let u3:TS:=aH a4 u4;let u2:TS:=aH a3 u3;let u1:TS:=aH a2 u2;aH a1 u1 D σ H):(aH a1 (aH a2 (aH a3 (aH a4 (aH a5 (aH a6 z)))))) D σ H:=h
theorem uh {a1 a2 a3 a4 a5 a6 a7 z:TS}{D:Ends}{σ:St}{H:Hp}(h:let u7:TS:=z;let u6:TS:=aH a7 u7;let u5:TS:=aH a6 u6;let u4:TS:=aH a5 u5;let u3:TS:=aH a4 u4;let u2:TS:=aH a3 u3;let u1:TS:=aH a2 u2;aH a1 u1 D σ H):(aH a1 (aH a2 (aH a3 (aH a4 (aH a5 (aH a6 (aH a7 z))))))) D σ H:=h
theorem Mr {a1 a2 a3 a4 a5 a6 a7 a8 z:TS}{D:Ends}{σ:St}{H:Hp}(h:let u8:TS:=z;let u7:TS:=aH a8 u8;let u6:TS:=aH a7 u7;let u5:TS:=aH a6 u6;let u4:TS:=aH a5 u5;let u3:TS:=aH a4 u4;let u2:TS:=aH a3 u3;let u1:TS:=aH a2 u2;aH a1 u1 D σ H):(aH a1 (aH a2 (aH a3 (aH a4 (aH a5 (aH a6 (aH a7 (aH a8 z)))))))) D σ H:=h
theorem Ms {a1 a2 a3 a4 a5 a6 a7 a8 a9 z:TS}{D:Ends}{σ:St}{H:Hp}(h:let u9:TS:=z;let u8:TS:=aH a9 u9;let u7:TS:=aH a8 u8;let u6:TS:=aH a7 u7;let u5:TS:=aH a6 u6;let u4:TS:=aH a5 u5;let u3:TS:=aH a4 u4;let u2:TS:=aH a3 u3;let u1:TS:=aH a2 u2;aH a1 u1 D σ H):(aH a1 (aH a2 (aH a3 (aH a4 (aH a5 (aH a6 (aH a7 (aH a8 (aH a9 z))))))))) D σ H:=h
theorem Kd {a1 a2 a3 a4 a5 a6 a7 a8 a9 qL z:TS}{D:Ends}{σ:St}{H:Hp}(h:let BI:TS:=z;let u9:TS:=aH qL BI;let u8:TS:=aH a9 u9;let u7:TS:=aH a8 u8;let u6:TS:=aH a7 u7;let u5:TS:=aH a6 u6;let u4:TS:=aH a5 u5;let u3:TS:=aH a4 u4;let u2:TS:=aH a3 u3;let u1:TS:=aH a2 u2;aH a1 u1 D σ H):(aH a1 (aH a2 (aH a3 (aH a4 (aH a5 (aH a6 (aH a7 (aH a8 (aH a9 (aH qL z)))))))))) D σ H:=h
theorem Ke {a1 a2 a3 a4 a5 a6 a7 a8 a9 qL X5 X6 z:TS}{D:Ends}{σ:St}{H:Hp}(h:let u12:TS:=z;let T6:TS:=aH X6 u12;let BI:TS:=aH X5 T6;let u9:TS:=aH qL BI;let u8:TS:=aH a9 u9;let u7:TS:=aH a8 u8;let u6:TS:=aH a7 u7;let u5:TS:=aH a6 u6;let u4:TS:=aH a5 u5;let u3:TS:=aH a4 u4;let u2:TS:=aH a3 u3;let u1:TS:=aH a2 u2;aH a1 u1 D σ H):(aH a1 (aH a2 (aH a3 (aH a4 (aH a5 (aH a6 (aH a7 (aH a8 (aH a9 (aH qL (aH X5 (aH X6 z)))))))))))) D σ H:=h
theorem cM {z:TS}{D:Ends}{σ:St}{H:Hp}(h:let D0:Ends:=D;z D0 σ H):z D σ H:=h
theorem args_is1 {α:Type}:∀{us:List α},us.length=1->∃x0,us=[x0]
 |[x0],_=>⟨x0,rfl⟩
theorem args_is2 {α:Type}:∀{us:List α},us.length=2->∃x0 x1,us=[x0,x1]
 |[x0,x1],_=>⟨x0,x1,rfl⟩
theorem args_is3 {α:Type}:∀{us:List α},us.length=3->∃x0 x1 x2,us=[x0,x1,x2]
 |[x0,x1,x2],_=>⟨x0,x1,x2,rfl⟩
theorem args_is4 {α:Type}:∀{us:List α},us.length=4->∃x0 x1 x2 x3,us=[x0,x1,x2,x3]
 |[x0,x1,x2,x3],_=>⟨x0,x1,x2,x3,rfl⟩
theorem args_is5 {α:Type}:∀{us:List α},us.length=5->∃x0 x1 x2 x3 x4,us=[x0,x1,x2,x3,x4]
 |[x0,x1,x2,x3,x4],_=>⟨x0,x1,x2,x3,x4,rfl⟩
theorem args_is6 {α:Type}:∀{us:List α},us.length=6->∃x0 x1 x2 x3 x4 x5,us=[x0,x1,x2,x3,x4,x5]
 |[x0,x1,x2,x3,x4,x5],_=>⟨x0,x1,x2,x3,x4,x5,rfl⟩
section
open PySem PySem.Spec PyProof.Rows
variable {C:sY}{P:Program}{w:World}{K:Za1}{mg:Str->Option Value}{base:Heap}{N:List Str}{q:Str}{sc:Scope}{f:Addr}{cd:Value}{A:Around}{outer:List Env}{s:Shared}{H:Hp}{E:XK}
theorem bJ:(vn C P w K mg base N q sc f cd A outer s H E).Ji.K=K:=rfl
theorem cx:(vn C P w K mg base N q sc f cd A outer s H E).K=K:=rfl
end
structure af2 (S:RS) (R:Za2) (ks:List Int):Prop where
 sub:∀c,c<S.made->(S.gap c).Sublist ks
 im:∀c,c<S.made->S.ay c=c->∀z∈ks,z∉S.gap c->∃d,Im S R c z d
 by_:∀c z d,S.by c z=some d->z∉S.gap c
end L2
namespace L2
open PySem PySem.Spec PyProof.Rows
section
structure Fly (B:Heap) (l:List Env) (x:Addr) (cls a0:Value) (h:Heap):Prop where
 stays:B.StaysIn h
 new:B.get? x=none
 af3:h.FunFrames B l
 tr:∃fl,h.TracedAtW B x cls a0 fl
end
def Xo (td ty tx:TE):TE:=λ σ H Q=>td σ H λx H1=>∃a,x=.ref a/\xA H1 a/\ty σ H1 λy H2=>tx σ H2 λz H3=>∃kvs k,H3 a=some (.dK kvs)/\y=kV k/\kvs.length<sizeLine/\
 (∀v,bM kvs k=some v->Q v H3)/\(bM kvs k=none->Q z (upd H3 a (.dK (putK kvs k z))))
section
variable {X:Cx}{o e f:Expr}{apos cR:Pos}{td ty tx:TE}
theorem rQ (ho:PE X o td)(he:PE X e ty)(hf:PE X f tx)(m:M2 X o "setdefault" apos e f cR):PE X (.Call (.Attribute o "setdefault" apos) [e,f] [] cR) (Xo td ty tx):=by
 intro pins s σ H Q I h;refine ajn m.base m.few m.line ait ai3 PySem.F.type_dict_setdefault (bK (ho pins s σ H _ I h) λu s1 ⟨x,H1,I1,rx,a,ex,d,q1⟩=>?_);subst ex;obtain rfl:u=Value.ref a:=rx;obtain⟨t1,t2,_⟩:=qy I1 d;refine⟨t1,t2,?_⟩;rw[m.trees]
 refine aic rfl (aiL (aij (bK (he pins s1 σ H1 _ I1 q1) λiv s2 ⟨y,H2,I2,ry,q2⟩=>
  aij (bK (hf pins s2 σ H2 _ I2 q2) λfv s3 ⟨z,H3,I3,rz,kvs,k,ea,ey,bU,q3,q4⟩=>ai6 ?_))))
 subst ey;obtain⟨hz,hd,vs,rel,dd⟩:=yZ I3.bu ea;have ju:=rel.val k;have Kf:vs.length<=sizeLine:=by rw[←rel.length];exact hz
 refine ajb ai3 dd.typeIs PySem.F.entry_dict_setdefault (PySem.F.args_dict_setdefault_3 _ _ _) (kt_meets_setdefault (b9 X.prog X.w) a (lK ry) hd fv) ⟨vs,dd,Kf,λv hv=>?_,λhn g1 uO sb=>?_⟩
 ·rw[hv]at ju
  cases l:bM kvs k with
  |none=>rw[l]at ju;exact ju.elim
  |some y0=>
   rw[l]at ju;exact⟨y0,H3,I3.tok _,ju,q3 y0 l⟩
 ·rw[hn]at ju
  cases l:bM kvs k with
  |some y0=>rw[l]at ju;exact ju.elim
  |none=>
   have hl:(putK kvs k z).length<=sizeLine:=by have:=dH kvs k z;omega
   have he:∃q,g1.get? a=some q:=let ⟨q,_,_,hq,_⟩:=uO;⟨q,hq⟩
   exact⟨z,_,p8 I3 (by rw[ea];exact True.intro) sb he (y7 hl hd (rel.put k rz) uO),rz,q4 l⟩
end
namespace Di
section
variable {prog:Program}{w:World}{A:Around}{E:Value->Shared->Prop}{s:Shared}{d:Addr}{es:Array DictEntry}{ep:Nat}
theorem meets (d:Addr)(hd:(d==sysModules)=false):MeetsIn prog w (Builtin.«dict.items» ⟨[.ref d],[]⟩) (λ_ R s=>(∃es ep,eU s.heap d es ep)/\R (.ok (.ret (.ref s.heap.objs.size))) { s with heap:=s.heap.push { cls:=.type "dict_items",data:=.fields #[.ref d] } }):=
 .of_wp λA R s ⟨⟨es,ep,hm⟩,h⟩=>by
  unfold Builtin.«dict.items»;refine ahb ?_;unfold Builtin.Dict.noArgs;refine ahb (ajH (Dk.typ hm) ?_);show wpAny _ _ (pure d) _ _ s
  refine ahk ?_;show wpAny _ _ (Builtin.Dict.showsAll d >>=_) _ _ s;unfold Builtin.Dict.showsAll
  rw[ahq (by rw[hd];decide)];exact ahb (ahk (ahb (ah8 (ahk ⟨_,rfl,h⟩))))
theorem iter {v:Addr}{Q:Value->Shared->Prop}(hv:s.heap.IsItemsView v d)(hm:eU s.heap d es ep)
 (hQ:Q (.ref s.heap.objs.size) { s with heap:=s.heap.push { cls:=.type "dict_itemiterator",data:=.fields #[.none,.bool false,.ref d,.int 0 0,.int es.size 0,.int ep 0,.none,.none] } }):wpAny (model prog w) A (pyIter (.ref v)) Q E s:=by
 obtain⟨ov,hov,GH,hdv⟩:=id hv;obtain⟨o,ho,hc,iA⟩:=id hm;refine ajN hv.typeIs F.slot_dict_items_iter (aib F.slot_dict_items_iter hv.typeIs F.entry_dict_items_iter ?_ (F.args_dict_items_iter_1 _));unfold Builtin.«dict_items.__iter__»;refine ahb (ahk (ahb ?_));unfold Builtin.Dict_items.dictOf;refine ahb (aiD hov hdv (x:=.ref d) rfl (ahk (ahb ?_)));unfold Builtin.Dict_items.newIterator;refine ahb (aiQ ho iA (ahb (ajI ho iA ?_)));have own:Builtin.Dict_items.ownsTuple "dict_itemiterator"=true:=by decide
 simp only[own,ajT];refine ah8 (ahk ⟨_,rfl,"dict_itemiterator",_,⟨_,ahz _ rfl,rfl⟩,aiB.lookup,?_⟩) (by simp only[sizeOk,Builtin.Dict_items.ownedTupleFields,ahm,ahe,ahE,ajZ,sizeLine_eq];omega);simpa [rawInt,Builtin.Dict_items.ownedTupleFields] using hQ
theorem item {it:Addr}{i:Nat}{en:DictEntry}{ok ov:Value}{Q:Option Value->Shared->Prop}(hit:IsItemIter s.heap it d i es.size ep ok ov)(hm:eU s.heap d es ep)(hx:es[i]?=some en)
 (hQ:∀g,IsItemIterOut g it d (i+ 1) es.size ep en.key en.val s.heap.objs.size->g.get? s.heap.objs.size=some { cls:=.type "tuple",data:=.seq #[en.key,en.val] }->
  (∀b o,b≠it->s.heap.get? b=some o->g.get? b=some o)->Q (some (.ref s.heap.objs.size)) { s with heap:=g }):wpAny (model prog w) A (pyNext (.ref it)) Q E s:=by
 obtain⟨hp,gn,dr,tk,os⟩:=s;obtain⟨od,vz,qh,vA⟩:=id hm;have hT:Shared.TypeIs ⟨hp,gn,dr,tk,os⟩ (.ref it) "dict_itemiterator":=⟨_,hit,rfl⟩;unfold pyNext;refine ahb (wpAny_attempt (ah7 (name:=Str.ofString "__next__") hT aiB (aib aiB hT F.entry_dict_itemiterator_next ?_ (F.args_dict_itemiterator_next_1 _))));refine ahb (ahk (ahb (ahb ?_)))
 first|(refine ahb (aiX hT (ahk ?_));skip)|(refine ahb (ajh hT (ahk ?_));skip)
 refine ahb (wpAny_fieldsOf hit rfl ?_);have own:Builtin.Dict_items.ownsTuple "dict_itemiterator"=true:=by decide
 simp only[own,ajT];show wpAny _ _ (if (Value.ref d==Value.none)=true then _ else _) _ _ _
 rw[ahq (show ¬((Value.ref d==Value.none)=true) by intro z;cases z)];refine ahb (ahk (ahb (aiQ vz vA ?_)));rw[ahq (by simp)];refine ahb (ahk (ahb (ajI vz vA ?_)));rw[ahq (by simp)];refine ahk ?_;simp only[show ¬((i:Int)<0) by omega,ajs,ahZ,hx];refine ahb ?_
 first|(refine ahb (aiX hT (ahk ?_));skip)|(refine ahb (ajh hT (ahk ?_));skip)
 refine ahb (wpAny_isOneOf_itemiter hT ?_);show wpAny _ _ (setField (.ref it) 3 (rawInt ((i:Int)+ 1)) >>=_) _ _ ⟨hp,gn,dr,tk,os⟩
 refine ahb (ain hit (by simp) λg1 e1 s1=>?_);replace s1:Heap.SameBut it hp g1:=s1
 replace e1:IsItemIter g1 it d (i+ 1) es.size ep ok ov:=by
  unfold IsItemIter;rw[show ((i+ 1:Nat):Int)=(i:Int)+ 1 by omega];simpa [rawInt] using e1
 have T7:Shared.TypeIs ⟨g1,gn,dr,tk,os⟩ (.ref it) "dict_itemiterator":=⟨_,e1,rfl⟩;refine ahb (aiz (ahb (wpAny_isOneOf_itemiter T7 (ahb (wpAny_isOneOf_itemiter T7 ?_)))));show wpAny _ _ (Builtin.Dict_items.pairFromOwner (.ref it) 6 en.key en.val) _ _ ⟨g1,gn,dr,tk,os⟩;unfold Builtin.Dict_items.pairFromOwner;refine ahb (wpAny_newTuple ?_);have e2:IsItemIter (g1.push { cls:=.type "tuple",data:=.seq #[en.key,en.val] }) it d (i+ 1) es.size ep ok ov:=ahj _ e1;generalize T8:g1.push { cls:=.type "tuple",data:=.seq #[en.key,en.val] }=g2 at e2;have z1:g1.objs.size=hp.objs.size:=s1.1;have il:it<hp.objs.size:=ahA hit;have t2:g2.get? hp.objs.size=some { cls:=.type "tuple",data:=.seq #[en.key,en.val] }:=by rw[←T8,←z1];exact ahz _ rfl
 have k2:∀b o,b≠it->hp.get? b=some o->g2.get? b=some o:=λb o hb e=>by rw[←T8];exact ahj _ (s1.extBut b o hb e)
 show wpAny _ _ (Builtin.Dict_items.ownedTupleIsFree (.ref it) >>=_) _ _ ⟨g2,gn,dr,tk,os⟩;rw[z1];clear T8 e1 s1 T7 z1 g1;refine ahb ?_;unfold Builtin.Dict_items.ownedTupleIsFree;refine ahb (aiD e2 rfl (x:=.none) rfl (ahk ?_));simp only[ajT];refine ahb (aiD e2 rfl (x:=ok) rfl (ahb (aiD e2 rfl (x:=ov) rfl ?_)));refine ahb (ain e2 (by simp) λg3 e3 s3=>?_);replace s3:Heap.SameBut it g2 g3:=s3;replace e3:IsItemIter g3 it d (i+ 1) es.size ep en.key ov:=e3;refine ahb (ain e3 (by simp) λg4 e4 s4=>?_);replace s4:Heap.SameBut it g3 g4:=s4;replace e4:IsItemIter g4 it d (i+ 1) es.size ep en.key en.val:=e4;refine ahb (ain e4 (by simp) λg5 e5 s5=>?_);replace s5:Heap.SameBut it g4 g5:=s5;replace e5:IsItemIterOut g5 it d (i+ 1) es.size ep en.key en.val hp.objs.size:=e5;refine ahb (ain e5 (by simp) λg6 e6 s6=>?_);replace s6:Heap.SameBut it g5 g6:=s6;replace e6:IsItemIterOut g6 it d (i+ 1) es.size ep en.key en.val hp.objs.size:=e6;have k6:∀b o,b≠it->g2.get? b=some o->g6.get? b=some o:=λb o hb e=>s6.extBut b o hb (s5.extBut b o hb (s4.extBut b o hb (s3.extBut b o hb e)))
 exact ahb (wpAny_letGo (ahk (ahk ⟨_,rfl,ahk (hQ g6 e6 (k6 _ _ (aiM il) t2) λb o hb e=>k6 b o hb (k2 b o hb e))⟩)))
theorem fin {it:Addr}{i:Nat}{ok ov:Value}{Q:Option Value->Shared->Prop}(hh:A.handled=none)(hit:IsItemIter s.heap it d i es.size ep ok ov)(hm:eU s.heap d es ep)(hx:es[i]?=none)
 (hQ:∀g,Heap.ExtBut it s.heap g->Q none { s with heap:=g }):wpAny (model prog w) A (pyNext (.ref it)) Q E s:=by
 obtain⟨od,vz,qh,vA⟩:=id hm;have hT:s.TypeIs (.ref it) "dict_itemiterator":=⟨_,hit,rfl⟩;unfold pyNext;refine ahb (wpAny_attempt (ah7 (name:=Str.ofString "__next__") hT aiB (aib aiB hT F.entry_dict_itemiterator_next ?_ (F.args_dict_itemiterator_next_1 _))));refine ahb (ahk (ahb (ahb ?_)))
 first|(refine ahb (aiX hT (ahk ?_));skip)|(refine ahb (ajh hT (ahk ?_));skip)
 refine ahb (wpAny_fieldsOf hit rfl ?_);have own:Builtin.Dict_items.ownsTuple "dict_itemiterator"=true:=by decide
 simp only[own,ajT];show wpAny _ _ (if (Value.ref d==Value.none)=true then _ else _) _ _ s
 rw[ahq (show ¬((Value.ref d==Value.none)=true) by intro z;cases z)];refine ahb (ahk (ahb (aiQ vz vA ?_)));rw[ahq (by simp)];refine ahb (ahk (ahb (ajI vz vA ?_)));rw[ahq (by simp)];refine ahk ?_;simp only[show ¬((i:Int)<0) by omega,ajs,ahZ,hx];refine ahb ?_
 first|(refine ahb (aiX hT (ahk ?_));skip)|(refine ahb (ajh hT (ahk ?_));skip)
 show wpAny _ _ (setField (.ref it) 2 .none >>=_) _ _ s;refine ahb (akc hit rfl (by simp) ?_);show wpAny _ _ (newExc (.type "StopIteration") [] >>=_) _ _ _;refine ahb ?_;simp only[newExc,newTuple];refine ahb (ah8 ?_ (by size_fits));refine ahb (m:=firstArgMember _ _) (wpAny_of_eq (a:=Value.none) (by first|rfl|(simp only[firstArgMember];rfl)) ?_);refine ah8 ?_ (by size_fits);simp only[raiseNew];refine ahb (wpAny_handled ?_);rw[show A.in1.handled=none from hh];refine ahb (ahk (wpAny_throw ?_));refine ahb (wpAny_isInstance (T:="StopIteration") (b:=true) ⟨_,ahz _ rfl,rfl⟩ isSubtype_stop ?_);exact ahk (hQ _ (((aiE ..).extBut.push _).push _))
end
end Di
theorem BJ {α β:Type}{R:α->β->Prop}:∀{xs:List α} {ys:List β},Paired R xs ys->∀{i:Nat} {x:α} {y:β},xs[i]?=some x->ys[i]?=some y->R x y
 |[],_,h,i,x,y,h1,_=>by simp at h1
 |k::kvs,_,h,i,x,y,h1,h2=>by
  cases h with
  |cons h0 ht=>
   cases i with
   |zero=>rw[←Za0 h1,←Za0 h2];exact h0
   |succ i=>exact BJ ht h1 h2
def DW (d:Addr)(o:Obj)(kvs:List (List Key×V)):It:=
 ⟨λi H=>i<kvs.length/\H d=some (.dC o (.dT kvs)),λi H x H'=>∃p kp kv,kvs[i]?=some kv/\H p=none/\H kp=some (.tup (kv.1.map kV))/\x=.ref p/\H'=upd H p (.tup [.ref kp,kv.2]),λi H=>kvs.length<=i/\H d=some (.dC o (.dT kvs))⟩
theorem QQ {P:Program}{w:World}{K:Za1}{elts:List Expr}{x1:Nat}{tp:Pos}(d it:Addr)(o:Obj)(es:Array DictEntry)(ep:Nat)(kvs:List (List Key×V))(ho:o.data=.dict es ep):
 Turn P w K (.Tuple elts x1 tp) (DW d o kvs) [it] it (λi h=>∃ok ov,IsItemIter h it d i es.size ep ok ov) where
 mem:=by simp
 obj:=λi h st b hb=>by
  have e:b=it:=by simpa using hb
  subst e;obtain⟨ok,ov,e⟩:=st;exact⟨_,e,λv z=>by cases z⟩
 keep:=λi h h' ⟨ok,ov,e⟩ k=>⟨ok,ov,k it (by simp) _ e⟩
 item:=by
  intro X hP hw hK hc i pins s σ H E I hf st hg;subst hP hw hK;obtain⟨ok,ov,hit⟩:=st;obtain⟨hi,hd⟩:=hg;obtain⟨jT,-,vC,ys,kt,o2,Tx,Tz,h1,h2,h3,h4,h5⟩:=I.bu d _ hd;rw[jT]at h1;obtain rfl:=Za0 h1;rw[ho]at h3;injection h3 with e1 e2
  subst e1 e2;have jm:kvs.length=ys.length:=Paired.length kt;have hy:ys[i]?=some (ys[i]'(by omega)):=ahc (by omega)
  generalize ys[i]'(by omega)=y at hy;have TB:es[i]?=some (entryOfKey (tupleKind (b9 X.prog X.w)) y):=by rw[entry_at h4,hy];rfl
  have dP:kvs[i]?=some (kvs[i]'hi):=ahc hi
  generalize kvs[i]'hi=kv at dP;have hk:kv.1=y.1/\H y.2.1=some (.tup (kv.1.map kV))/\RelV kv.2 y.2.2:=BJ kt dP hy;have il:it<s.heap.objs.size:=ahA hit;refine Di.item hit ⟨_,jT,h2,ho⟩ TB λg vf hT DB=>⟨_,rfl,wpAny_letOwnedTupleGo_items vf λg2 dh sb=>?_⟩
  have Dz:g2.get? s.heap.objs.size=some { cls:=.type "tuple",data:=.seq #[.ref y.2.1,y.2.2] }:=(sb.2 _ (aiM il)).trans hT
  have Bw:∀b ob,b∉[it]->s.heap.get? b=some ob->g2.get? b=some ob:=λb ob hb q=>by
   have h1:b≠it:=λz=>hb (by simp[z])
   exact(sb.2 b h1).trans (DB b ob h1 q)
  have qD:=I.bu.fresh (ahi s.heap.objs.size);refine⟨.ref s.heap.objs.size,_,I.ud (fp:=[it]) (a:=s.heap.objs.size) (o:=.tup [.ref y.2.1,kv.2]) (h':=g2) (t':=s.toks) Bw hf (ahi _) ?_,rfl,⟨_,y.2.1,kv,dP,qD,hk.2.1,rfl,rfl⟩,⟨_,_,dh⟩,λb hb=>?_⟩
  ·exact⟨by show 2<=sizeLine;decide,[.ref y.2.1,y.2.2],.cons rfl (.cons hk.2.2 .nil),_,Dz,rfl,_,rfl⟩
  ·rw[ahg.mp hb,av (ahS il)];exact(hf it (by simp)).1
 done:=by
  intro X hP hw hK hc i pins s σ H E I hf st hg;subst hP hw hK;obtain⟨ok,ov,hit⟩:=st;obtain⟨hi,hd⟩:=hg;obtain⟨jT,-,vC,ys,kt,o2,Tx,Tz,h1,h2,h3,h4,h5⟩:=I.bu d _ hd;rw[jT]at h1;obtain rfl:=Za0 h1;rw[ho]at h3;injection h3 with e1 e2
  subst e1 e2;have jm:kvs.length=ys.length:=Paired.length kt;have hsz:es.size=ys.length:=size_of_entries h4;exact Di.fin (I.ok.hd hc) hit ⟨_,jT,h2,ho⟩ (aj7 (by omega)) λg eb=>⟨rfl,I.wJ (fp:=[it]) (t':=s.toks) (λb ob hb q=>eb b ob (λz=>hb (by simp[z])) q) hf⟩
 self:=λA i s Q E ⟨ok,ov,hit⟩ h=>PySem.W.kcp_self hit h
section
variable {X:Cx}
def iDI (tl:TE):TI:=λ σ H R=>tl σ H λx H1=>∃d kvs,x=.ref d/\H1 d=some (.dT kvs)/\∀o,R (DW d o kvs) (upd H1 d (.dC o (.dT kvs)))
theorem Xp {l:Expr}{tl:TE}{elts:List Expr}{x1:Nat}{tp apos cR:Pos}(hl:PE X l tl)(yV:attributeBase l "items" X.env (eval l X.env)=eval l X.env:=by rfl)(hline:(apos.endLine==cR.line)=true:=by rfl):
 PI X (.Tuple elts x1 tp) (.Call (.Attribute l "items" apos) [] [] cR) (iDI tl):=by
 intro pins s σ H R I h;refine wpAny_Call_method0_late yV hline (bK (hl pins s σ H _ I h) λu s1 ⟨x,H1,I1,rx,d,kvs,ex,hd,q⟩=>?_);subst ex;cases rx;obtain⟨-,vC,ys,kt,o,es,ep,h1,h2,h3,h4,h5⟩:=I1.bu d _ hd;have abM:eU s1.heap d es ep:=⟨o,h1,h2,h3⟩;have isd:xA H1 d:=.inr ⟨kvs,.inl hd⟩;obtain⟨t1,t2,_⟩:=qy I1 isd;refine⟨"dict","dict.items",ait,PySem.F.slot_dict_items,PySem.F.type_dict_items,t1,t2,aic rfl (PySem.evalArgs_none ?_)⟩;refine ajb PySem.F.slot_dict_items t1 PySem.F.entry_dict_items (PySem.F.args_dict_items_1 _) (Di.meets d vC) ⟨⟨es,ep,abM⟩,?_⟩;have hv:(s1.heap.push { cls:=.type "dict_items",data:=.fields #[.ref d] }).IsItemsView s1.heap.objs.size d:=⟨_,ahz _ rfl,rfl,rfl⟩;have Xq:eU (s1.heap.push { cls:=.type "dict_items",data:=.fields #[.ref d] }) d es ep:=⟨o,ahj _ h1,h2,h3⟩;refine Di.iter (s:={ s1 with heap:=s1.heap.push { cls:=.type "dict_items",data:=.fields #[.ref d] } }) hv Xq ?_;have I2:=(I1.freeze hd True.intro h1).kept (h':=(s1.heap.push { cls:=.type "dict_items",data:=.fields #[.ref d] }).push { cls:=.type "dict_itemiterator",data:=.fields #[.none,.bool false,.ref d,.int 0 0,.int es.size 0,.int ep 0,.none,.none] }) (t':=s1.toks) λb o e=>ahj _ (ahj _ e)
 have vK:s1.heap.objs.size<=(s1.heap.push { cls:=.type "dict_items",data:=.fields #[.ref d] }).objs.size:=by rw[ajz];omega
 have T:=QQ (P:=X.prog) (w:=X.w) (K:=X.K) (elts:=elts) (x1:=x1) (tp:=tp) d (s1.heap.push { cls:=.type "dict_items",data:=.fields #[.ref d] }).objs.size o es ep kvs h3;refine⟨_,_,_,_,_,rfl,I2,T,⟨_,_,ahz _ rfl⟩,λb hb=>?_,q o⟩;rw[ahg.mp hb];have qD:=I1.bu.fresh vK;exact I1.qj vK (by rw[av (λz=>by rw[z,hd]at qD;cases qD)];exact qD)
end
theorem T9 {d:Addr}{o:Obj}{kvs:List (List Key×V)}{g:TG}{tb:TS}{D:Ends}{σ:St}{H:Hp}(Pv:Nat->St->Hp->Prop)(h0:Pv 0 σ H)(hl:∀i σ H,i<=kvs.length->Pv i σ H->H d=some (.dC o (.dT kvs)))
 (hs:∀i kv σ H p kp,kvs[i]?=some kv->H p=none->H kp=some (.tup (kv.1.map kV))->Pv i σ H->g (.ref p) σ (upd H p (.tup [.ref kp,kv.2])) λ fB H2=>tb { D with nx:=Pv (i+ 1),ct:=Pv (i+ 1),bk:=D.nx } fB H2) (hd:∀ σ H,Pv kvs.length σ H->D.nx σ H):
 ∃W:Nat->Nat->St->Hp->Prop,(∃m,W 0 m σ H)/\∀i m σ H,W i m σ H->
  ((DW d o kvs).stop i H/\D.nx σ H)\/((DW d o kvs).go i H/\∃N:St->Hp->Prop,(∀ aX H',N aX H'->∃m',m'<m/\W (i+ 1) m' aX H')/\∀x H',(DW d o kvs).pI i H x H'->g x σ H' λ fB H2=>tb { D with nx:=N,ct:=N,bk:=D.nx } fB H2):=by
 refine⟨λi m σ H=>m=kvs.length - i/\i<=kvs.length/\Pv i σ H,⟨kvs.length,by simp,ahT _,h0⟩,?_⟩;rintro i m σ H ⟨rfl,hi,p⟩;have q:=hl i σ H hi p;by_cases bU:i<kvs.length
 ·refine .inr ⟨⟨bU,q⟩,Pv (i+ 1),λ aX H' p'=>⟨kvs.length - (i+ 1),by omega,rfl,bU,p'⟩,λx H' y=>?_⟩;obtain⟨p2,kp,kv,h1,h2,h3,rfl,rfl⟩:=y;exact hs i kv σ _ p2 kp h1 h2 h3 p
 ·have e:i=kvs.length:=by omega
  subst e;exact .inl ⟨⟨ahi _,q⟩,hd σ H p⟩
theorem yh:∀(n:Nat) (l:List Int) (lo:Int),l.Nodup->(∀x∈l,lo<=x/\x<lo+ n)->l.length<=n
 |0,[],_,_,_=>ahi _
 |0,x::l,lo,_,h=>by have:=h x (ahv ..);omega
 |n+ 1,l,lo,hn,h=>by
  by_cases hm:lo+ n∈l
  ·have h1:=yh n (l.erase (lo+ n)) lo (hn.erase _) λx hx=>by
    have h2:=(hn.mem_erase_iff.mp hx);have h3:=h x h2.2;have h4:x≠lo+ n:=h2.1;omega
   rw[ajr hm]at h1;omega
  ·have h1:=yh n l lo hn λx hx=>by
    have h3:=h x hx;have h4:x≠lo+ n:=λz=>hm (by rw[←z];exact hx)
    omega
   omega
section
variable {κ:Type} [DecidableEq κ]
theorem Kg (kvs:List (κ×V))(k j:κ):bM (fI kvs k) j=if j=k then none else bM kvs j:=by
 unfold fI
 induction kvs with
 |nil=>rw[aj2];split <;> rfl
 |cons p r ih=>
  by_cases hp:p.1=k
  ·rw[aju (by simp[hp]),ih];by_cases hj:j=k
   ·rw[ahu hj,ahu hj]
   ·rw[ahq hj,ahq hj,da (λz=>hj (z.symm.trans hp))]
  ·rw[ajv (by simp[hp])];by_cases hj:p.1=j
   ·rw[di hj,ahq (λz=>hp (hj.trans z)),di hj]
   ·rw[da hj,ih];by_cases hk:j=k
    ·rw[ahu hk,ahu hk]
    ·rw[ahq hk,ahq hk,da hj]
theorem ui (kvs:List (κ×V))(k:κ)(v:V):(putK kvs k v).map (·.1)=if k∈kvs.map (·.1) then kvs.map (·.1) else kvs.map (·.1)++[k]:=by
 unfold putK;by_cases h:(kvs.any λkv=>decide (kv.1=k))=true
 ·have hm:k∈kvs.map (·.1):=by
   obtain⟨kv,h1,h2⟩:=akg.mp h;exact ah0.mpr ⟨kv,h1,ahB h2⟩
  rw[ahu h,ahu hm,aiv];refine ajU λkv _=>?_
  show (if kv.1=k then (kv.1,v) else kv).1=kv.1;split <;> rfl
 ·have hm:k∉kvs.map (·.1):=λz=>by
   obtain⟨kv,h1,h2⟩:=ah0.mp z;exact h (akg.mpr ⟨kv,h1,ahy h2⟩)
  rw[ahq h,ahq hm,ahO];rfl
theorem Ua {kvs:List (κ×V)}(k:κ)(v:V)(h:(kvs.map (·.1)).Nodup):((putK kvs k v).map (·.1)).Nodup:=by
 rw[ui];split
 ·exact h
 ·rename_i hk;refine ah9.mpr ⟨h,by simp,λx hx y hy z=>?_⟩;rw[ahg.mp hy]at z;exact hk (by rw[←z];exact hx)
theorem QR {kvs:List (κ×V)}(k:κ)(h:(kvs.map (·.1)).Nodup):((fI kvs k).map (·.1)).Nodup:=by
 unfold fI;exact List.Nodup.sublist ((List.filter_sublist).map _) h
theorem DX {kvs:List (κ×V)}(h:(kvs.map (·.1)).Nodup){kv:κ×V}(hm:kv∈kvs):bM kvs kv.1=some kv.2:=by
 induction kvs with
 |nil=>cases hm
 |cons p r ih=>
  rw[ahY,ahX]at h;rcases ahp.mp hm with e|hm
  ·rw[e];exact di rfl
  ·rw[da (λz=>h.1 (by rw[z];exact aiR hm))];exact ih h.2 hm
theorem Mt {kvs:List (κ×V)}{k:κ}{v:V}(h:bM kvs k=some v):(k,v)∈kvs:=by
 unfold bM at h
 cases e:kvs.find? λkv=>decide (kv.1=k) with
 |none=>rw[e]at h;cases h
 |some kv=>
  rw[e]at h;have h1:=List.find?_some e;have h2:=ajg e;have h3:kv.1=k:=ahB h1;have h4:kv.2=v:=Za0 h;rw[←h3,←h4];exact h2
end
def DI (H:Hp)(d:Addr)(f:Int->Option V):Prop:=∃kvs:List (Key×V),H d=some (.dK kvs)/\(kvs.map (·.1)).Nodup/\(∀kv∈kvs,∃i:Int,kv.1=Sum.inl i)/\∀i:Int,bM kvs (Sum.inl i)=f i
theorem DI.at {H H':Hp}{d:Addr}{f:Int->Option V}(h:DI H d f)(k:∀o,H d=some o->H' d=some o):DI H' d f:=by
 obtain⟨kvs,h1,h2⟩:=h;exact⟨kvs,k _ h1,h2⟩
theorem DI.congr {H:Hp}{d:Addr}{f g:Int->Option V}(h:DI H d f)(e:∀i,f i=g i):DI H d g:=by
 obtain⟨kvs,h1,h2,h3,h4⟩:=h;exact⟨kvs,h1,h2,h3,λi=>(h4 i).trans (e i)⟩
theorem DY {H:Hp}{d:Addr}{kvs:List (Key×V)}{f:Int->Option V}(h2:(kvs.map (·.1)).Nodup)(h3:∀kv∈kvs,∃i:Int,kv.1=Sum.inl i)(h4:∀i:Int,bM kvs (Sum.inl i)=f i)(i:Int)(v:V):DI (upd H d (.dK (putK kvs (Sum.inl i) v))) d (λj=>if j=i then some v else f j):=by
 refine⟨_,aj,Ua _ _ h2,λkv dP=>?_,λj=>?_⟩
 ·have:kv.1∈(putK kvs (Sum.inl i) v).map (·.1):=aiR dP;rw[ui]at this;split at this
  ·obtain⟨q,hq,e⟩:=ah0.mp this;rw[←e];exact h3 q hq
  ·rcases ahx.mp this with z|z
   ·obtain⟨q,hq,e⟩:=ah0.mp z;rw[←e];exact h3 q hq
   ·exact⟨i,ahg.mp z⟩
 ·rw[qv];dsimp only;by_cases e:j=i
  ·rw[ahu e,ahu (by rw[e])]
  ·rw[ahq e,ahq (λz=>e (Sum.inl.inj z)),h4]
theorem QS {H:Hp}{d:Addr}{kvs:List (Key×V)}{f:Int->Option V}(h2:(kvs.map (·.1)).Nodup)(h3:∀kv∈kvs,∃i:Int,kv.1=Sum.inl i)(h4:∀i:Int,bM kvs (Sum.inl i)=f i)(i:Int):DI (upd H d (.dK (fI kvs (Sum.inl i)))) d (λj=>if j=i then none else f j):=by
 refine⟨_,aj,QR _ h2,λkv dP=>h3 kv ((ajj.mp dP).1),λj=>?_⟩;rw[Kg];dsimp only;by_cases e:j=i
 ·rw[ahu e,ahu (by rw[e])]
 ·rw[ahq e,ahq (λz=>e (Sum.inl.inj z)),h4]
theorem zo {kvs:List (Key×V)}{f:Int->Option V}(h2:(kvs.map (·.1)).Nodup)(h3:∀kv∈kvs,∃i:Int,kv.1=Sum.inl i)(h4:∀i:Int,bM kvs (Sum.inl i)=f i){n:Nat}{lo:Int}(hb:∀i v,f i=some v->lo<=i/\i<lo+ n):kvs.length<=n:=by
 have h:=yh n (kvs.map λkv=>match kv.1 with|Sum.inl i=>i|Sum.inr _=>0) lo ?_ λx hx=>?_
 ·rw[ahl]at h;exact h
 ·have e:kvs.map (·.1)=(kvs.map λkv=>match kv.1 with|Sum.inl i=>i|Sum.inr _=>(0:Int)).map Sum.inl:=by
   rw[aiv];refine ajU λkv dP=>?_
   obtain⟨i,hi⟩:=h3 kv dP;show kv.1=Sum.inl (match kv.1 with|Sum.inl i=>i|Sum.inr _=>(0:Int));rw[hi]
  rw[e]at h2;exact List.Pairwise.imp (λ{a b} q z=>q (ah6 Sum.inl z)) (ajP.mp h2)
 ·obtain⟨kv,dP,rfl⟩:=ah0.mp hx;obtain⟨i,hi⟩:=h3 kv dP;have h5:=DX h2 dP;rw[hi,h4]at h5;show lo<=(match kv.1 with|Sum.inl i=>i|Sum.inr _=>(0:Int))/\(match kv.1 with|Sum.inl i=>i|Sum.inr _=>(0:Int))<lo+ n;rw[hi];exact hb i _ h5
abbrev bW:=Int->Int->Int->Bool
structure eZ (H:Hp) (k:Addr) (D:Int->Option Addr) (E:Int->Int->Option Addr) (S:bW):Prop where
 top:DI H k λc=>(D c).map V.ref
 row:∀c d,D c=some d->DI H d λs=>(E c s).map V.ref
 BK:∀c s e,E c s=some e->DI H e λo=>if S c s o=true then some (.bl true) else none
 ed:∀c s e,E c s=some e->∃d,D c=some d
 se:∀c s o,S c s o=true->∃e,E c s=some e
 nd:∀c d,D c=some d->d≠k
 ne:∀c s e,E c s=some e->e≠k
 dd:∀c c' d,D c=some d->D c'=some d->c=c'
 de:∀c c' s d,D c=some d->E c' s=some d->False
 ee:∀c s c' s' e,E c s=some e->E c' s'=some e->c=c'/\s=s'
def yi (k:Addr)(D:Int->Option Addr)(E:Int->Int->Option Addr)(b:Addr):Prop:=b=k\/(∃c,D c=some b)\/∃c s,E c s=some b
section
variable {H H':Hp}{k:Addr}{D:Int->Option Addr}{E:Int->Int->Option Addr}{S:bW}
theorem eZ.keep (h:eZ H k D E S)(f:∀b o,yi k D E b->H b=some o->H' b=some o):eZ H' k D E S:=
 ⟨h.top.at λo e=>f _ _ (.inl rfl) e,λc d e=>(h.row c d e).at λo q=>f _ _ (.inr (.inl ⟨c,e⟩)) q,λc s e q=>(h.BK c s e q).at λo r=>f _ _ (.inr (.inr ⟨c,s,q⟩)) r,h.ed,h.se,h.nd,h.ne,h.dd,h.de,h.ee⟩
theorem eZ.same (h:eZ H k D E S)(s:au H H'):eZ H' k D E S:=h.keep λb o _ e=>s b o e
theorem eZ.there (h:eZ H k D E S){b:Addr}(hb:yi k D E b):∃kvs,H b=some (.dK kvs):=by
 rcases hb with rfl|⟨c,e⟩|⟨c,s,e⟩
 ·obtain⟨kvs,q,_⟩:=h.top;exact⟨kvs,q⟩
 ·obtain⟨kvs,q,_⟩:=h.row c b e;exact⟨kvs,q⟩
 ·obtain⟨kvs,q,_⟩:=h.BK c s b e;exact⟨kvs,q⟩
theorem eZ.congr (h:eZ H k D E S){D':Int->Option Addr}{E':Int->Int->Option Addr}{S':bW}(e1:∀c,D c=D' c)(e2:∀c s,E c s=E' c s)(e3:∀c s o,S c s o=S' c s o):eZ H k D' E' S':=by
 obtain rfl:D=D':=funext e1;obtain rfl:E=E':=funext λc=>funext (e2 c)
 obtain rfl:S=S':=funext λc=>funext λs=>funext (e3 c s)
 exact h
theorem eZ.Ub (h:eZ H k D E S):∃kvs:List (Key×V),H k=some (.dK kvs)/\(kvs.map (·.1)).Nodup/\(∀kv∈kvs,∃i:Int,kv.1=Sum.inl i)/\∀i:Int,bM kvs (Sum.inl i)=(D i).map V.ref:=h.top
theorem eZ.Mu (h:eZ H k D E S){c:Int}{d:Addr}(hd:D c=some d):∃kvs:List (Key×V),H d=some (.dK kvs)/\(kvs.map (·.1)).Nodup/\(∀kv∈kvs,∃i:Int,kv.1=Sum.inl i)/\∀i:Int,bM kvs (Sum.inl i)=(E c i).map V.ref:=h.row c d hd
theorem eZ.Uc (h:eZ H k D E S){c s:Int}{e:Addr}(he:E c s=some e):∃kvs:List (Key×V),H e=some (.dK kvs)/\(kvs.map (·.1)).Nodup/\(∀kv∈kvs,∃i:Int,kv.1=Sum.inl i)/\∀i:Int,bM kvs (Sum.inl i)=if S c s i=true then some (.bl true) else none:=h.BK c s e he
theorem eZ.QT (h:eZ H k D E S){c s:Int}{d e:Addr}(hd:D c=some d)(he:E c s=none){kvs:List (Key×V)}(hk:H d=some (.dK kvs))(hn:H e=some (.dK []))(nw:¬yi k D E e):
 eZ (upd H d (.dK (putK kvs (Sum.inl s) (.ref e)))) k D (λc' s'=>if c'=c/\s'=s then some e else E c' s') S:=by
 have uR:e≠d:=λz=>nw (.inr (.inl ⟨c,by rw[z];exact hd⟩))
 obtain⟨cN,q1,q2,q3,q4⟩:=h.row c d hd;rw[hk]at q1;obtain rfl:kvs=cN:=by injection q1 with q1;injection q1
 refine⟨h.top.at λo q=>?_,λc' d' fx=>?_,λc' s' e' dh=>?_,λc' s' e' dh=>?_,λc' s' o ho=>?_,h.nd,λc' s' e' dh=>?_,h.dd,λc' c2 s' d' fx dh=>?_,λc' s' c2 s2 e' h1 h2=>?_⟩
 ·rw[av (h.nd c d hd).symm];exact q
 ·by_cases ec:c'=c
  ·subst ec;have:d'=d:=by rw[hd]at fx;exact(Za0 fx).symm
   subst this;refine(DY q2 q3 q4 s (.ref e)).congr λs'=>?_
   by_cases es:s'=s
   ·rw[ahu es,ahu ⟨rfl,es⟩];rfl
   ·rw[ahq es,ahq (λz=>es z.2)]
  ·have nd':d'≠d:=λz=>ec (h.dd _ _ _ fx (by rw[z];exact hd))
   refine((h.row c' d' fx).at λo q=>by rw[av nd'];exact q).congr λs'=>?_
   rw[ahq (λz=>ec z.1)]
 ·by_cases ec:c'=c/\s'=s
  ·rw[ahu ec]at dh;obtain rfl:=Za0 dh;obtain⟨rfl,rfl⟩:=ec;refine⟨[],by rw[av uR];exact hn,by simp,(λkv dP=>by cases dP),λo=>?_⟩
   cases q:S c' s' o with
   |true=>obtain⟨e',z⟩:=h.se _ _ _ q;rw[he]at z;cases z
   |false=>dsimp only;rw[q];rfl
  ·rw[ahq ec]at dh;exact(h.BK c' s' e' dh).at λo q=>by rw[av (λz=>h.de c c' s' d hd (by rw[←z];exact dh))];exact q
 ·by_cases ec:c'=c/\s'=s
  ·exact⟨d,by rw[ec.1];exact hd⟩
  ·rw[ahq ec]at dh;exact h.ed _ _ _ dh
 ·by_cases ec:c'=c/\s'=s
  ·exact⟨e,ahu ec⟩
  ·obtain⟨e',z⟩:=h.se _ _ _ ho;exact⟨e',by rw[ahq ec];exact z⟩
 ·by_cases ec:c'=c/\s'=s
  ·rw[ahu ec]at dh;obtain rfl:=Za0 dh;exact λz=>nw (.inl z)
  ·rw[ahq ec]at dh;exact h.ne _ _ _ dh
 ·by_cases ec:c2=c/\s'=s
  ·rw[ahu ec]at dh;obtain rfl:=Za0 dh;exact nw (.inr (.inl ⟨c',fx⟩))
  ·rw[ahq ec]at dh;exact h.de _ _ _ _ fx dh
 ·by_cases e1:c'=c/\s'=s
  ·rw[ahu e1]at h1;obtain rfl:=Za0 h1;by_cases e2:c2=c/\s2=s
   ·exact⟨e1.1.trans e2.1.symm,e1.2.trans e2.2.symm⟩
   ·rw[ahq e2]at h2;exact(nw (.inr (.inr ⟨c2,s2,h2⟩))).elim
  ·rw[ahq e1]at h1;by_cases e2:c2=c/\s2=s
   ·rw[ahu e2]at h2;obtain rfl:=Za0 h2;exact(nw (.inr (.inr ⟨c',s',h1⟩))).elim
   ·rw[ahq e2]at h2;exact h.ee _ _ _ _ _ h1 h2
theorem eZ.setCell (h:eZ H k D E S){c s:Int}{e:Addr}(he:E c s=some e){u:HO}{g:Int->Bool}(hg:DI (upd H e u) e λo=>if g o=true then some (.bl true) else none):
 eZ (upd H e u) k D E (λc' s' o=>if c'=c/\s'=s then g o else S c' s' o):=by
 refine⟨h.top.at λo q=>?_,λc' d' fx=>(h.row c' d' fx).at λo q=>?_,λc' s' e' dh=>?_,h.ed,λc' s' o ho=>?_,h.nd,h.ne,h.dd,h.de,h.ee⟩
 ·rw[av (h.ne _ _ _ he).symm];exact q
 ·rw[av (λz=>h.de _ _ _ _ fx (by rw[z];exact he))];exact q
 ·by_cases ec:c'=c/\s'=s
  ·obtain⟨rfl,rfl⟩:=ec;rw[he]at dh;obtain rfl:=Za0 dh;refine hg.congr λo=>?_
   simp
  ·refine((h.BK c' s' e' dh).at λo q=>?_).congr λo=>by rw[ahq ec]
   rw[av (λz=>ec (h.ee _ _ _ _ _ dh (by rw[z];exact he)))];exact q
 ·by_cases ec:c'=c/\s'=s
  ·exact⟨e,by rw[ec.1,ec.2];exact he⟩
  ·rw[ahq ec]at ho;exact h.se _ _ _ ho
theorem eZ.Ud (h:eZ H k D E S){c s:Int}{e:Addr}(he:E c s=some e){kvs:List (Key×V)}(hk:H e=some (.dK kvs))(o:Int):
 eZ (upd H e (.dK (putK kvs (Sum.inl o) (.bl true)))) k D E (λc' s' o'=>S c' s' o' || (decide (c'=c) && decide (s'=s) && decide (o'=o))):=by
 obtain⟨cN,q1,q2,q3,q4⟩:=h.BK c s e he;rw[hk]at q1;obtain rfl:kvs=cN:=by injection q1 with q1;injection q1
 refine(h.setCell (g:=λo'=>S c s o' || decide (o'=o)) he ((DY q2 q3 q4 o (.bl true)).congr λo'=>?_)).congr (λ_=>rfl) (λ_ _=>rfl) λc' s' o'=>?_
 ·by_cases e1:o'=o
  ·rw[ahu e1];simp[e1]
  ·rw[ahq e1];simp[e1]
 ·by_cases ec:c'=c/\s'=s
  ·obtain⟨rfl,rfl⟩:=ec;simp
  ·rw[ahq ec]
   have:(decide (c'=c) && decide (s'=s))=false:=by
    rw[Bool.and_eq_false_iff,aj3,aj3];by_cases e1:c'=c
    ·exact .inr λz=>ec ⟨e1,z⟩
    ·exact .inl e1
   rw[this];simp
theorem eZ.QV (h:eZ H k D E S){n:Int}{d:Addr}(hd:D n=none){kvs:List (Key×V)}(hk:H k=some (.dK kvs))(hn:H d=some (.dK []))(nw:¬yi k D E d):
 eZ (upd H k (.dK (putK kvs (Sum.inl n) (.ref d)))) k (λc=>if c=n then some d else D c) E S:=by
 obtain⟨cN,q1,q2,q3,q4⟩:=h.top;rw[hk]at q1;obtain rfl:kvs=cN:=by injection q1 with q1;injection q1
 have X7:d≠k:=λz=>nw (.inl z)
 have en:∀s,E n s=none:=λs=>by
  cases q:E n s with
  |none=>rfl
  |some e=>obtain⟨d',z⟩:=h.ed _ _ _ q;rw[hd]at z;cases z
 refine⟨(DY q2 q3 q4 n (.ref d)).congr λc=>?_,λc d' fx=>?_,λc s e he=>(h.BK c s e he).at λo q=>?_,λc s e he=>?_,h.se,λc d' fx=>?_,h.ne,λc c' d' h1 h2=>?_,λc c' s d' h1 h2=>?_,h.ee⟩
 ·by_cases e:c=n
  ·rw[ahu e,ahu e];rfl
  ·rw[ahq e,ahq e]
 ·by_cases e:c=n
  ·rw[ahu e]at fx;obtain rfl:=Za0 fx;subst e;refine⟨[],by rw[av X7];exact hn,by simp,(λkv dP=>by cases dP),λs=>?_⟩;dsimp only;rw[en s];rfl
  ·rw[ahq e]at fx;exact(h.row c d' fx).at λo q=>by rw[av (h.nd _ _ fx)];exact q
 ·rw[av (h.ne _ _ _ he)];exact q
 ·obtain⟨d',z⟩:=h.ed _ _ _ he;by_cases e:c=n
  ·exact⟨d,ahu e⟩
  ·exact⟨d',by rw[ahq e];exact z⟩
 ·by_cases e:c=n
  ·rw[ahu e]at fx;obtain rfl:=Za0 fx;exact X7
  ·rw[ahq e]at fx;exact h.nd _ _ fx
 ·by_cases e1:c=n
  ·rw[ahu e1]at h1;obtain rfl:=Za0 h1;by_cases e2:c'=n
   ·rw[e1,e2]
   ·rw[ahq e2]at h2;exact(nw (.inr (.inl ⟨_,h2⟩))).elim
  ·rw[ahq e1]at h1;by_cases e2:c'=n
   ·rw[ahu e2]at h2;obtain rfl:=Za0 h2;exact(nw (.inr (.inl ⟨_,h1⟩))).elim
   ·rw[ahq e2]at h2;exact h.dd _ _ _ h1 h2
 ·by_cases e1:c=n
  ·rw[ahu e1]at h1;obtain rfl:=Za0 h1;exact nw (.inr (.inr ⟨_,_,h2⟩))
  ·rw[ahq e1]at h1;exact h.de _ _ _ _ h1 h2
end
namespace Et
section
variable {prog:Program}{w:World}{A:Around}{E:Value->Shared->Prop}{s:Shared}
theorem item {it t:Addr}{i:Nat}{items:Array Value}{x:Value}{Q:Value->Shared->Prop}(hit:s.heap.IsTupleIter it t i)(ht:s.heap.IsTuple t items)(hx:items[i]?=some x)
 (hQ:∀g,g.IsTupleIter it t (i+ 1)->Heap.SameBut it s.heap g->Q x { s with heap:=g }):wpAny (model prog w) A (Builtin.SmallTypes.nextOf (.ref it)) Q E s:=by
 obtain⟨o,ho,hc,hd⟩:=id hit;obtain⟨ol,Kh,_,nl,JR⟩:=ht;unfold Builtin.SmallTypes.nextOf;refine ahb (ah7 (name:=Str.ofString "__next__") hit.typeIs ai9 (aib ai9 hit.typeIs F.entry_tuple_iterator_next ?_ (F.args_tuple_iterator_next_1 _)));show wpAny _ _ (field (.ref it) 0 >>=_) _ _ s;refine ahb (aiD ho hd (x:=.ref t) rfl ?_);show wpAny _ _ (if (Value.ref t==Value.none)=true then _ else _) _ _ s;rw[ahq (show ¬((Value.ref t==Value.none)=true) by intro z;cases z)];show wpAny _ _ (field (.ref it) 1 >>=_) _ _ s;refine ahb (aiD ho hd (x:=.int i 0) rfl ?_);show wpAny _ _ (seqItems? (.ref t) >>=_) _ _ s;refine ahb (akd Kh JR ?_);simp only[ahZ,hx];exact ahb (akc ho hd (by simp) (ahk ⟨x,rfl,ahk (hQ _ ⟨_,aip _ ho (Obj.isFreed_of_fields (aj1 hd _)),(Obj.cls_mapFields ..).trans hc,by rw[aj1 hd];simp[rawInt]⟩ (aiE ..))⟩))
theorem fin {it t:Addr}{i:Nat}{items:Array Value}{Q:Value->Shared->Prop}(hh:A.handled=none)(hit:s.heap.IsTupleIter it t i)(ht:s.heap.IsTuple t items)(hx:items[i]?=none)
 (hE:∀g e,Heap.ExtBut it s.heap g->(∃o,g.get? e=some o/\o.cls=.type "StopIteration")->E (.ref e) { s with heap:=g }):wpAny (model prog w) A (Builtin.SmallTypes.nextOf (.ref it)) Q E s:=by
 obtain⟨o,ho,hc,hd⟩:=id hit;obtain⟨ol,Kh,_,nl,JR⟩:=ht;unfold Builtin.SmallTypes.nextOf;refine ahb (ah7 (name:=Str.ofString "__next__") hit.typeIs ai9 (aib ai9 hit.typeIs F.entry_tuple_iterator_next ?_ (F.args_tuple_iterator_next_1 _)));show wpAny _ _ (field (.ref it) 0 >>=_) _ _ s;refine ahb (aiD ho hd (x:=.ref t) rfl ?_);show wpAny _ _ (if (Value.ref t==Value.none)=true then _ else _) _ _ s;rw[ahq (show ¬((Value.ref t==Value.none)=true) by intro z;cases z)];show wpAny _ _ (field (.ref it) 1 >>=_) _ _ s;refine ahb (aiD ho hd (x:=.int i 0) rfl ?_);show wpAny _ _ (seqItems? (.ref t) >>=_) _ _ s;refine ahb (akd Kh JR ?_);simp only[ahZ,hx];refine ahb (wpAny_rule (ahb (akc ho hd (by simp) ?_)));show wpAny _ _ (newExc (.type "StopIteration") [] >>=_) _ _ _
 refine ahb ?_;simp only[newExc,newTuple];refine ahb (ah8 ?_ (by size_fits));refine ahb (m:=firstArgMember _ _) (wpAny_of_eq (a:=Value.none) (by first|rfl|(simp only[firstArgMember];rfl)) ?_);refine ah8 ?_ (by size_fits);simp only[raiseNew];refine ahb (wpAny_handled ?_);first|rw[show A.in1.handled=none from hh]|rw[hh]
 refine ahb (ahk (wpAny_throw ?_));exact hE _ _ (((aiE ..).extBut.push _).push _) ⟨_,ahz _ rfl,rfl⟩
theorem draws (hh:A.handled=none)(it l:Addr)(cF:l≠it)(items:Array Value):Draws prog w A it [it,l] items.size (λi v=>items[i]?=some v) (λi h=>h.IsTupleIter it l i/\h.IsTuple l items) where
 live:=λ_ _ st=>let ⟨o,ho,_⟩:=st.1;⟨o,ho⟩
 frame:=λ_ _ _ st hk=>⟨st.1.at λo e=>hk it (by simp) o e,by obtain⟨o,ho,r⟩:=st.2;exact⟨o,hk l (by simp) o ho,r⟩⟩
 item:=λi s Q E hi st hQ=>by
  refine item st.1 st.2 (x:=items[i]) (by simp[hi]) λg hg sb=>?_
  exact hQ _ g s.toks (by simp[hi]) ⟨hg,st.2.extBut sb.extBut cF⟩ sb
 done:=λs Q E st hE=>fin hh st.1 st.2 (by simp) hE
end
theorem meets (l:Addr)(items:Array Value)(n:Nat)(dct:Option Addr)(sl:Array (Option Value)):
 Meets (Builtin.«enumerate.__new__» ⟨[.type "enumerate",.ref l],[]⟩) (λ_ R s=>s.heap.get? l=some { cls:=.type "tuple",dict:=dct,data:=.seq items n,slots:=sl }/\
  R (.ok (.ret (.ref (s.heap.push { cls:=.type "tuple_iterator",data:=.fields #[.ref l,.int 0 0] }).objs.size)))
    { s with heap:=(s.heap.push { cls:=.type "tuple_iterator",data:=.fields #[.ref l,.int 0 0] }).push { cls:=.type "enumerate",data:=.fields #[.none,.bool false,.ref s.heap.objs.size,rawInt 0,.none,.none] } }):=
 .of_wp λprog w A R s h=>by
  obtain⟨hp,g,d,tk,os⟩:=s;obtain⟨hl,h⟩:=h;have To:=sub_enumerate;have hL:Heap.IsTuple (Shared.heap ⟨hp,g,d,tk,os⟩) l items:=⟨_,hl,rfl,n,rfl⟩
  wp_walk using ajo hl;refine wpAny_stack_any λst=>ahk ?_
  split
  ·rename_i c _ _ _ _ _;cases (c==Value.type "enumerate") <;> (wp_walk using ajo hl,wpAny_pyIter_tuple hL;exact⟨_,rfl,h⟩)
  ·wp_walk using ajo hl,wpAny_pyIter_tuple hL;exact⟨_,rfl,h⟩
theorem call {prog:Program}{w:World}{A:Around}{E:Value->Shared->Prop}{s:Shared}{l:Addr}{items:Array Value}{Q:Value->Shared->Prop}(hL:s.heap.IsTuple l items)
 (h:∀g,IsEnum g (s.heap.objs.size+ 1) s.heap.objs.size 0 .none->g.IsTupleIter s.heap.objs.size l 0->g.objs.size=s.heap.objs.size+ 2->(∀b o,s.heap.get? b=some o->g.get? b=some o)->Q (.ref (s.heap.objs.size+ 1)) { s with heap:=g }):
 wpAny (model prog w) A (call (.type "enumerate") [.ref l]) Q E s:=by
 obtain⟨⟨c,dct,dt,sl⟩,hl,hc,n,hd⟩:=hL;replace hc:c=.type "tuple":=hc;replace hd:dt=.seq items n:=hd;subst hc hd;refine callType_new F.called_enumerate (by decide) (F.typeCall_enumerate_1 _) (F.newCall_enumerate_1 _) (λobj=>F.args_object_init_2 obj _) F.entry_enumerate_new (meets l items n dct sl) ⟨hl,?_⟩;have hz:(s.heap.push { cls:=.type "tuple_iterator",data:=.fields #[.ref l,.int 0 0] }).objs.size=s.heap.objs.size+ 1:=ajz ..;show _/\_;rw[hz]
 have he:IsEnum ((s.heap.push { cls:=.type "tuple_iterator",data:=.fields #[.ref l,.int 0 0] }).push { cls:=.type "enumerate",data:=.fields #[.none,.bool false,.ref s.heap.objs.size,rawInt 0,.none,.none] }) (s.heap.objs.size+ 1) s.heap.objs.size 0 .none:=by
  have:=ahz (s.heap.push { cls:=.type "tuple_iterator",data:=.fields #[.ref l,.int 0 0] }) (o:={ cls:=.type "enumerate",data:=.fields #[.none,.bool false,.ref s.heap.objs.size,rawInt 0,.none,.none] }) rfl;rw[hz]at this;exact this
 exact⟨⟨_,he,rfl⟩,h _ he ⟨_,ahj _ (ahz _ rfl),rfl,rfl⟩ (by rw[ajz,hz]) λb o x=>ahj _ (ahj _ x)⟩
end Et
def DZ (K:Za1)(a:Addr):It:=
 ⟨λi H=>∃xs x,bL K H a xs/\xs[i]?=some x,λi H x H'=>∃p v,H p=none/\(∀ys,bL K H a ys->ys[i]?=some v)/\x=.ref p/\H'=upd H p (.tup [.int (i:Int),v]),λi H=>∃xs,bL K H a xs/\xs.length=i⟩
theorem Ir {P:Program}{w:World}{K:Za1}{elts:List Expr}{x1:Nat}{tp:Pos}(e it a:Addr)(lM:e≠it):
 Turn P w K (.Tuple elts x1 tp) (DZ K a) [e,it] e (λi h=>(∃old,IsEnum h e it (i:Int) old)/\h.IsTupleIter it a i) where
 mem:=by simp
 obj:=λi h st b hb=>by
  obtain⟨⟨old,he⟩,o,ho,hc,hd⟩:=st;rcases ahp.mp hb with rfl|hb
  ·exact⟨_,he,λv z=>by cases z⟩
  ·rw[ahg.mp hb];exact⟨o,ho,λv z=>by rw[hd]at z;cases z⟩
 keep:=λi h h' st k=>by
  obtain⟨⟨old,he⟩,hl⟩:=st;exact⟨⟨old,k e (by simp) _ he⟩,hl.at λo e=>k it (by simp) o e⟩
 item:=by
  intro X hP hw hK hc i pins s σ H E I hf st hg;subst hP hw hK;obtain⟨⟨old,he⟩,cI⟩:=st;obtain⟨xs,x,hq,hx⟩:=hg;obtain⟨its,rv,p,hz⟩:=I.tuple hq;obtain⟨u,hu,ru⟩:=rv.get hx;have hit:s.heap.IsTuple a its.toArray:=p;obtain⟨o1,rM,oH,jZ⟩:=id hit;obtain⟨o2,iU,lH,hd2⟩:=id cI;have vy:a≠it:=lL rM iU (by rw[oH,lH];decide);have Bv:e≠a:=lL he rM (by rw[oH];show Value.type "enumerate"≠Value.type "tuple";decide);have D:=Et.draws (prog:=X.prog) (w:=X.w) (A:=X.A.in1) (I.ok.hd hc) it a vy its.toArray;have ie:e<s.heap.objs.size:=ahA he;have tm:i<its.length:=(ahd.mp hu).1;refine En.vw D he ⟨cI,hit⟩ (by simpa using tm) lM (by simp[lM,Bv]) λy h' tk Dx ho Gz hT hk=>?_
  have ey:u=y:=by
   have h2:its[i]?=some y:=by simpa using Dx
   exact Za0 (hu.symm.trans h2)
  subst ey;refine⟨_,rfl,?_⟩;refine ajQ ho λjb dh qC=>?_
  have Dz:jb.get? s.heap.objs.size=some { cls:=.type "tuple",data:=.seq #[.int (i:Int) tk,u] }:=(qC.2 _ (aiM ie)).trans hT
  have DB:∀b ob,b∉[e,it]->s.heap.get? b=some ob->jb.get? b=some ob:=λb ob hb q=>by
   have h1:b≠e:=λz=>hb (by simp[z])
   have h2:b≠it:=λz=>hb (by simp[z])
   exact(qC.2 b h1).trans (hk b ob h1 h2 q)
  have qD:=I.bu.fresh (ahi s.heap.objs.size);refine⟨.ref s.heap.objs.size,_,I.ud (fp:=[e,it]) (a:=s.heap.objs.size) (o:=.tup [.int (i:Int),x]) (h':=jb) (t':=tk+ 1) DB hf (ahi _) ?_,rfl,⟨_,x,qD,λys hy=>by rw[I.Bb hy hq];exact hx,rfl,rfl⟩,⟨⟨u,?_⟩,?_⟩,λb hb=>?_⟩
  ·exact⟨by show 2<=sizeLine;decide,[.int (i:Int) tk,u],.cons ⟨_,rfl⟩ (.cons ru .nil),_,Dz,rfl,_,rfl⟩
  ·rw[show ((i+ 1:Nat):Int)=(i:Int)+ 1 by omega];exact dh
  ·exact(D.frame _ _ _ Gz λb hb o q=>(qC.2 b (by
    rcases ahp.mp hb with z|hb
    ·rw[z];exact ail lM
    ·rw[ahg.mp hb];exact ail Bv)).trans q).1
  ·rw[av]
   ·exact(hf b hb).1
   ·intro z;subst z;rcases ahp.mp hb with z|hb
    ·exact absurd ie (by rw[←z];exact aie _)
    ·exact absurd (ahA iU) (by rw[←ahg.mp hb];exact aie _)
 done:=by
  intro X hP hw hK hc i pins s σ H E I hf st hg;subst hP hw hK;obtain⟨⟨old,he⟩,cI⟩:=st;obtain⟨xs,hq,hx⟩:=hg;obtain⟨its,rv,p,hz⟩:=I.tuple hq;have hit:s.heap.IsTuple a its.toArray:=p;obtain⟨o1,rM,oH,jZ⟩:=id hit;obtain⟨o2,iU,lH,hd2⟩:=id cI;have vy:a≠it:=lL rM iU (by rw[oH,lH];decide);have D:=Et.draws (prog:=X.prog) (w:=X.w) (A:=X.A.in1) (I.ok.hd hc) it a vy its.toArray;have hsz:its.toArray.size=i:=by rw[ahm,←rv.length];exact hx
  refine wpAny_pyNext_enum_endD D he (by rw[hsz];exact⟨cI,hit⟩) λh' eb=>⟨rfl,I.wJ (fp:=[e,it]) (t':=s.toks) (λb o hb q=>eb b o (λz=>hb (by simp[z])) q) hf⟩
 self:=λA i s Q E st h=>by
  obtain⟨⟨old,he⟩,_⟩:=st;have hT:s.TypeIs (.ref e) "enumerate":=⟨_,he,rfl⟩;refine ajN hT aiV (aib aiV hT F.entry_enumerate_iter ?_ (F.args_enumerate_iter_1 _));show wpAny _ _ (ret (.ref e)) _ _ s;exact ahk ⟨_,rfl,"enumerate",_,hT,ajc.lookup,h⟩
section
variable {X:Cx}
def Ue (K:Za1)(ta:TA):TI:=λ σ H R=>ta σ H λvs H1=>∃a,vs=[.ref a]/\(∃xs,bL K H1 a xs)/\R (DZ K a) H1
theorem Mv {a:Expr}{te:TE}{elts:List Expr}{x1:Nat}{tp p pos:Pos}(hg:Gl X "enumerate")(hm:X.mg "enumerate"=none)(he:PE X a te)(hs:starEach [a] X.env=[(false,eval a X.env)]:=by rfl):
 PI X (.Tuple elts x1 tp) (.Call (.Name "enumerate" p) [a] [] pos) (Ue X.K (gL te lG)):=by
 intro pins s σ H R I h;refine Call_ (oq I hg hm boot_enumerate (aiJ (bK ((ae he ah hs) pos pins s σ H _ I h) λus s1 ⟨vs,H1,I1,r1,q1⟩=>?_) hs rfl));obtain⟨l,rfl,⟨xs,hq⟩,q⟩:=q1;obtain⟨u,rfl,ru⟩:=vals1 r1;cases ru;obtain⟨its,rv,pl,hz⟩:=I1.tuple hq;refine Et.call (show s1.heap.IsTuple l its.toArray from pl) λh' dh hit hsz hk=>?_
 have I3:Inv X pins σ H1 { s1 with heap:=h' }:=I1.kept (t':=s1.toks) hk;have T:=Ir (P:=X.prog) (w:=X.w) (K:=X.K) (elts:=elts) (x1:=x1) (tp:=tp) (s1.heap.objs.size+ 1) s1.heap.objs.size l (Nat.succ_ne_self _);refine T.self _ 0 { s1 with heap:=h' } _ _ ⟨⟨_,dh⟩,hit⟩ ⟨_,_,_,_,H1,rfl,I3,T,⟨⟨_,dh⟩,hit⟩,λb hb=>?_,q⟩;rcases ahp.mp hb with e|hb
 ·subst e;exact I1.qj (ajS _) (I1.bu.fresh (ajS _))
 ·rw[ahg.mp hb];exact I1.qj (ahi _) (I1.bu.fresh (ahi _))
end
theorem Ki {K:Za1}{a:Addr}{xs:List V}{g:TG}{tb:TS}{D:Ends}{σ:St}{H:Hp}(Pv:Nat->St->Hp->Prop)(h0:Pv 0 σ H)(hl:∀i σ H,i<=xs.length->Pv i σ H->bL K H a xs)
 (hs:∀i v σ H p,xs[i]?=some v->H p=none->Pv i σ H->g (.ref p) σ (upd H p (.tup [.int (i:Int),v])) λ fB H2=>tb { D with nx:=Pv (i+ 1),ct:=Pv (i+ 1),bk:=D.nx } fB H2) (hd:∀ σ H,Pv xs.length σ H->D.nx σ H):
 ∃W:Nat->Nat->St->Hp->Prop,(∃m,W 0 m σ H)/\∀i m σ H,W i m σ H->
  ((DZ K a).stop i H/\D.nx σ H)\/((DZ K a).go i H/\∃N:St->Hp->Prop,(∀ aX H',N aX H'->∃m',m'<m/\W (i+ 1) m' aX H')/\∀x H',(DZ K a).pI i H x H'->g x σ H' λ fB H2=>tb { D with nx:=N,ct:=N,bk:=D.nx } fB H2):=by
 refine⟨λi m σ H=>m=xs.length - i/\i<=xs.length/\Pv i σ H,⟨xs.length,by simp,ahT _,h0⟩,?_⟩;rintro i m σ H ⟨rfl,hi,p⟩;have q:=hl i σ H hi p;by_cases bU:i<xs.length
 ·refine .inr ⟨⟨xs,_,q,ahc bU⟩,Pv (i+ 1),λ aX H' p'=>⟨xs.length - (i+ 1),by omega,rfl,bU,p'⟩,λx H' y=>?_⟩;obtain⟨r,v,hr,hv,rfl,rfl⟩:=y;exact hs i v σ H r (hv xs q) hr p
 ·have e:i=xs.length:=by omega
  subst e;exact .inl ⟨⟨xs,q,rfl⟩,hd σ H p⟩
section
variable {K:Za1}{mg:Str->Option Value}{h:Heap}{C f:Addr}{x q:Str}{st:Stmt}{ps:List Str}{oc kV doc pm bR ct:Value}{od an:Option Addr}{uN:Array (Option Value)}
theorem Def.of (X:K.In h)(G:h.Ns mainGlobals mg)(a:PySem.W.nsIn K mainGlobals x=some (some (.ref f)))(l:K.lookup f=some ⟨oc,od,.func (PySem.W.fnOf x x (gR st) (gg st) (aT st) .none kV doc pm an bR ct),uN⟩)(c:PySem.W.codeIn K bR x=true)(k:PySem.W.keepIn K (.ref f)=true)
 (b:∀(kV doc pm:Value) (an:Option Addr) (bR ct:Value) (us:List Value),us.length=ps.length->bindArgs (PySem.W.fnOf x x (gR st) (gg st) (aT st) .none kV doc pm an bR ct) ⟨us,[]⟩=pure (ps.zip us)):Def K mg x st ps f (PySem.W.fnOf x x (gR st) (gg st) (aT st) .none kV doc pm an bR ct):=
 have F:=JA (st:=st) l c k
 ⟨F,PySem.W.mg_of X G a,F.binds (ps:=ps) b⟩
theorem MDef.of (a:PySem.W.findIn K (.ref C) x=some (some (.ref f)))(i:PySem.W.isFn K (.ref f)=true)(l:K.lookup f=some ⟨oc,od,.func (PySem.W.fnOf x q (gR st) (gg st) (aT st) .none kV doc pm an bR ct),uN⟩)(c:PySem.W.codeIn K bR q=true)(k:PySem.W.keepIn K (.ref f)=true)
 (b:∀(kV doc pm:Value) (an:Option Addr) (bR ct:Value) (us:List Value),us.length=ps.length->bindArgs (PySem.W.fnOf x q (gR st) (gg st) (aT st) .none kV doc pm an bR ct) ⟨us,[]⟩=pure (ps.zip us)):MDef K C x q st ps f (PySem.W.fnOf x q (gR st) (gg st) (aT st) .none kV doc pm an bR ct):=
 have F:=JA (st:=st) l c k
 ⟨F,⟨a,i,k⟩,F.binds (ps:=ps) b⟩
theorem Def.fd {fd:FuncData}(D:Def K mg x st ps f fd):∃(kV doc pm:Value) (an:Option Addr) (bR ct:Value),fd=PySem.W.fnOf x x (gR st) (gg st) (aT st) .none kV doc pm an bR ct:=by
 obtain⟨oc,od,kV,doc,pm,an,bR,ct,uN,e,_⟩:=D.F.ex;exact⟨kV,doc,pm,an,bR,ct,e⟩
end
end L2
namespace L2
def wk (b:Nat->Int->Option Nat):Nat->List Int->Option Nat
 |c,[]=>some c
 |c,z::w=>match b c z with
  |none=>none
  |some d=>wk b d w
section
variable {b:Nat->Int->Option Nat}
theorem lg {c d:Nat}{z:Int}{w:List Int}(h:b c z=some d):wk b c (z::w)=wk b d w:=by
 show (match b c z with|none=>none|some d=>wk b d w)=_;rw[h]
theorem qM {c e:Nat}{z:Int}{w:List Int}(h:wk b c (z::w)=some e):∃d,b c z=some d/\wk b d w=some e:=by
 cases q:b c z with
 |none=>
  have h':(match b c z with|none=>none|some d=>wk b d w)=some e:=h;rw[q]at h';cases h'
 |some d=>rw[lg q]at h;exact⟨d,rfl,h⟩
theorem vL:∀{u v:List Int} {c d:Nat},wk b c u=some d->wk b c (u++v)=wk b d v
 |[],v,c,d,h=>by rw[Za0 h];rfl
 |z::u,v,c,d,h=>by
  obtain⟨e,h1,h2⟩:=qM h;rw[List.cons_append,lg h1];exact vL h2
theorem Ea:∀{u v:List Int} {c e:Nat},wk b c (u++v)=some e->∃d,wk b c u=some d/\wk b d v=some e
 |[],v,c,e,h=>⟨c,rfl,h⟩
 |z::u,v,c,e,h=>by
  obtain⟨d,h1,h2⟩:=qM h;obtain⟨f,h3,h4⟩:=Ea h2;exact⟨f,by rw[lg h1];exact h3,h4⟩
theorem Kj {c d:Nat}{z:Int}(h:b c z=some d):wk b c [z]=some d:=by rw[lg h];rfl
theorem take_snoc {w:List Int}{i:Nat}{z:Int}(h:w[i]?=some z):w.take (i+ 1)=w.take i++[z]:=by rw[aje,h];rfl
theorem drop_cons {w:List Int}{i:Nat}{z:Int}(h:w[i]?=some z):w.drop i=z::w.drop (i+ 1):=by
 have hi:=(ahd.mp h).1;rw[aiS hi,(ahd.mp h).2]
end
structure Later (S S':RS):Prop where
 el:∀c,c<S.made->S'.ay (S.ay c)=S'.ay c
 by_:∀c z d,S.by c z=some d->S'.by (S'.ay c) z=some (S'.ay d)
theorem Later.of {S S':RS}{R R':Za2}(h:Good S [] R)(h':Good S' [] R')(hr:∀a z b,R a z b->R' a z b)(hm:S.made<=S'.made):Later S S':=by
 have el:∀c,c<S.made->S'.ay (S.ay c)=S'.ay c:=λc hc=>(h'.fin (ahP (h.lt hc) hm) (ahP hc hm)).mpr ((h.cg c hc).mono hr).symm
 refine⟨el,λc z d e=>?_⟩;obtain⟨c',d',r,e1,e2⟩:=h.so _ _ _ e;obtain⟨l1,l2,_⟩:=h.rl _ _ _ r;rw[←e1,←e2,el c' l1,el d' l2];exact h'.zl.mpr ⟨c',d',hr _ _ _ r,rfl,rfl⟩
theorem Later.wk {S S':RS}(h:Later S S'):∀{w:List Int} {c d:Nat},wk S.by c w=some d->wk S'.by (S'.ay c) w=some (S'.ay d)
 |[],c,d,e=>by rw[Za0 e];rfl
 |z::w,c,d,e=>by
  obtain⟨f,h1,h2⟩:=qM e;rw[lg (h.by_ _ _ _ h1)];exact Later.wk h h2
structure Gg where
 which:Nat
 word:List Int
 start:Nat
 front:Nat
 first:Nat
 bF:Nat
 last:Nat
def Gg.z1 (g:Gg):Int:=g.word.getD g.first 0
def Gg.z2 (g:Gg):Int:=-(g.word.getD g.last 0)
structure GI (S:RS) (g:Gg):Prop where
 fl:g.first<=g.last
 ll:g.last<g.word.length
 s:g.start<S.made
 f:g.front<S.made
 r:g.bF<S.made
 wf:wk S.by (S.ay g.start) (g.word.take g.first)=some (S.ay g.front)
 wr:wk S.by (S.ay g.bF) (g.word.drop (g.last+ 1))=some (S.ay g.start)
theorem GI.later {S S':RS}{g:Gg}(h:GI S g)(l:Later S S')(hm:S.made<=S'.made):GI S' g:=by
 have h1:=l.wk h.wf;have h2:=l.wk h.wr;rw[l.el _ h.s,l.el _ h.f]at h1;rw[l.el _ h.r,l.el _ h.s]at h2;exact⟨h.fl,h.ll,ahP h.s hm,ahP h.f hm,ahP h.r hm,h1,h2⟩
theorem Gg.zp {g:Gg}(h:g.first<g.word.length):g.word[g.first]?=some g.z1:=by
 unfold Gg.z1;rw[ahh,ahc h];rfl
theorem Gg.at2 {g:Gg}(h:g.last<g.word.length):g.word[g.last]?=some (-g.z2):=by
 unfold Gg.z2;rw[ahh,ahc h,aiK];rfl
structure X8 (S:RS) (g g':Gg):Prop where
 wh:g'.which=g.which
 wo:g'.word=g.word
 st:g'.start=g.start
 gi:GI S g'
 ef:S.ay g'.front=g'.front
 er:S.ay g'.bF=g'.bF
 n1:g'.first<g'.last->S.by g'.front g'.z1=none
 n2:g'.first<g'.last->S.by g'.bF g'.z2=none
 k1:S.ay g.front=g.front->S.by g.front g.z1=none->g'.front=g.front/\g'.first=g.first
 k2:S.ay g.bF=g.bF->S.by g.bF g.z2=none->g'.bF=g.bF/\g'.last=g.last
theorem GI.whole {S:RS}{g:Gg}(h:GI S g)(e:g.first=g.last)(es:S.ay g.start=g.start)(ef:S.ay g.front=g.front)(er:S.ay g.bF=g.bF)(hb:S.by g.front g.z1=some g.bF):wk S.by g.start g.word=some g.start:=by
 have h1:=h.wf;have h2:=h.wr;rw[es,ef]at h1;rw[es,er,←e]at h2;have hz:=Gg.zp (g:=g) (by rw[e];exact h.ll);have:g.word=g.word.take g.first++(g.z1::g.word.drop (g.first+ 1)):=by rw[←drop_cons hz,List.take_append_drop]
 rw[this,vL h1,lg hb];exact h2
def eN (m:Nat)(W:bW)(n:Int):Nat:=(List.range (m* 2001)).countP λc=>W ((c / 2001:Nat):Int) (((c % 2001:Nat):Int) - 1000) n
def zq (m G:Nat)(W:bW):Nat:=((List.range G).map λn:Nat=>eN m W n).sum
def i9 (W:bW)(r s:Int):bW:=λr' s' n=>W r' s' n && !(decide (r'=r) && decide (s'=s))
theorem Ug {m r:Nat}{s:Int}(hr:r<m)(hs: -1000<=s/\s<=1000):r* 2001+ (s+ 1000).toNat<m* 2001:=by
 have:(r+ 1)* 2001<=m* 2001:=aji _ hr;omega
theorem Kk {c r:Nat}{s:Int}(hs: -1000<=s/\s<=1000):(((c / 2001:Nat):Int)=(r:Int)/\((c % 2001:Nat):Int) - 1000=s)↔c=r* 2001+ (s+ 1000).toNat:=by
 constructor
 ·rintro ⟨h1,h2⟩;have:=Nat.div_add_mod c 2001;omega
 ·intro h;subst h
  have e1:(r* 2001+ (s+ 1000).toNat) / 2001=r:=by
   rw[Nat.mul_comm,Nat.mul_add_div (by decide),Nat.div_eq_of_lt (by omega)];omega
  have e2:(r* 2001+ (s+ 1000).toNat) % 2001=(s+ 1000).toNat:=by
   rw[Nat.mul_comm,Nat.mul_add_mod,Nat.mod_eq_of_lt (by omega)]
  rw[e1,e2];omega
theorem Uh {m r:Nat}{s:Int}{W:bW}(n:Int)(hr:r<m)(hs: -1000<=s/\s<=1000):eN m (i9 W r s) n+ (if W r s n=true then 1 else 0)=eN m W n:=by
 have hv:=Ug hr hs
 have dec:∀c:Nat,(decide (((c / 2001:Nat):Int)=(r:Int)) && decide (((c % 2001:Nat):Int) - 1000=s))=decide (c=r* 2001+ (s+ 1000).toNat):=λc=>by
  rw[←Bool.decide_and,decide_eq_decide];exact Kk hs
 have at_:=(Kk (c:=r* 2001+ (s+ 1000).toNat) (r:=r) hs).mpr rfl;unfold eN i9;by_cases hw:W r s n=true
 ·rw[ahu hw]
  have:=pO (p:=λc:Nat=>W ((c / 2001:Nat):Int) (((c % 2001:Nat):Int) - 1000) n) (p':=λc:Nat=>W ((c / 2001:Nat):Int) (((c % 2001:Nat):Int) - 1000) n && !(decide (((c / 2001:Nat):Int)=(r:Int)) && decide (((c % 2001:Nat):Int) - 1000=s))) (v:=r* 2001+ (s+ 1000).toNat) (λc=>by
   rw[dec c,←decide_not]) (by rw[at_.1,at_.2];exact hw) (m* 2001)
  rw[ahu hv]at this;exact this
 ·rw[ahq hw,Nat.add_zero];refine List.countP_congr λc _=>?_
  rw[aiN];refine⟨λh=>h.1,λh=>⟨h,?_⟩⟩;rw[dec c]
  cases e:decide (c=r* 2001+ (s+ 1000).toNat) with
  |false=>rfl
  |true=>
   rw[ahB e,at_.1,at_.2]at h;exact absurd h hw
theorem BL:∀(l:List Nat) (f g h:Nat->Nat),(∀n∈l,f n+ g n=h n)->(l.map f).sum+ (l.map g).sum=(l.map h).sum
 |[],_,_,_,_=>rfl
 |a::l,f,g,h,e=>by
  have ih:=BL l f g h λn hn=>e n (ahL _ hn)
  have:=e a (ahv ..);simp only[ahY,List.sum_cons];omega
theorem GO (p:Nat->Bool):∀l:List Nat,(l.map λn=>if p n=true then 1 else 0).sum=l.countP p
 |[]=>rfl
 |a::l=>by
  rw[ahY,List.sum_cons,GO p l,List.countP_cons];omega
theorem QW {m G r:Nat}{s:Int}{W:bW}(hr:r<m)(hs: -1000<=s/\s<=1000):zq m G (i9 W r s)+ (List.range G).countP (λn:Nat=>W r s n)=zq m G W:=by
 unfold zq;rw[←GO (λn:Nat=>W r s n)];exact BL _ _ _ _ λn _=>Uh n hr hs
theorem QX:∀{l:List Nat} {a b:Nat},l.Nodup->(∀x∈l,x=a\/x=b)->l.length<=2
 |[],_,_,_,_=>by decide
 |[_],_,_,_,_=>ajS 1
 |[_,_],_,_,_,_=>ahi 2
 |x::y::z::r,a,b,hn,h=>by
  have hx:=h x (by simp);have hy:=h y (by simp);have hz:=h z (by simp);simp only[ahX,ahp,not_or]at hn;omega
theorem Ui {m:Nat}{W:bW}{n:Int}{p q:Int×Int}(h:∀r s,W r s n=true->(r,s)=p\/(r,s)=q):eN m W n<=2:=by
 unfold eN;rw[List.countP_eq_length_filter];refine QX (a:=(p.1* 2001+ (p.2+ 1000)).toNat) (b:=(q.1* 2001+ (q.2+ 1000)).toNat) (akh.filter _) λc hc=>?_
 have hd:=Nat.div_add_mod c 2001;rcases h _ _ (ajj.mp hc).2 with e|e
 ·left;rw[←e];dsimp only;omega
 ·right;rw[←e];dsimp only;omega
theorem Kl:∀(l:List Nat) (f:Nat->Nat) (k:Nat),(∀n∈l,f n<=k)->(l.map f).sum<=l.length* k
 |[],_,_,_=>by simp
 |a::l,f,k,h=>by
  have ih:=Kl l f k λn hn=>h n (ahL _ hn)
  have:=h a (ahv ..);rw[ahY,List.sum_cons,ahE,aki];omega
theorem QY {m G:Nat}{W:bW}(h:∀n:Nat,∃p q:Int×Int,∀r s,W r s n=true->(r,s)=p\/(r,s)=q):zq m G W<=2* G:=by
 have:=Kl (List.range G) (λn:Nat=>eN m W n) 2 λn _=>by
  obtain⟨p,q,e⟩:=h n;exact Ui e
 rw[aiH]at this;unfold zq;omega
structure CI (S:RS) (bs:List (Nat×List Int×Nat)) (gs:List (Option Gg)) (ag:List Nat) (W:bW) (Ex:Nat->Int->Prop) (x:Option Nat):Prop where
 len:gs.length=bs.length
 al:∀(n:Nat) (g:Gg),gs[n]?=some (some g)->bs[n]?=some (g.which,g.word,g.start)/\GI S g/\(n∈ag\/some n=x\/(g.first<g.last/\W g.front g.z1 n=true/\W g.bF g.z2 n=true))
 de:∀(n:Nat) (b:Nat×List Int×Nat),gs[n]?=some none->some n≠x->bs[n]?=some b->S.ay b.2.2≠b.2.2\/wk S.by b.2.2 b.2.1=some b.2.2
 ab:∀n∈ag,n<gs.length
 en:∀r s n,W r s n=true->∃r' n':Nat,r=r'/\n=n'/\r'<S.made/\n'<gs.length/\(-1000<=s/\s<=1000)/\(S.ay r'=r'/\S.by r' s=none\/Ex r' s)
 sl:∀n:Nat,∃p q:Int×Int,(∀r s,W r s n=true->(r,s)=p\/(r,s)=q)/\∀g,gs[n]?=some (some g)->p=((g.front:Int),g.z1)/\q=((g.bF:Int),g.z2)
 bd:∀b∈bs,∀z∈b.2.1,-1000<=z/\z<=1000
def fL:Nat->Int->Prop:=λ_ _=>False
section
variable {S:RS}{bs:List (Nat×List Int×Nat)}{gs:List (Option Gg)}{ag:List Nat}{W:bW}{Ex:Nat->Int->Prop}{x:Option Nat}{n:Nat}
theorem CI.pop (h:CI S bs gs (ag++[n]) W Ex none):CI S bs gs ag W Ex (some n):=by
 refine⟨h.len,λk g e=>?_,λk b e _=>h.de k b e (λz=>by cases z),λk hk=>h.ab k (ahF _ hk),h.en,h.sl,h.bd⟩;obtain⟨h1,h2,h3⟩:=h.al k g e;refine⟨h1,h2,?_⟩;rcases h3 with h3|h3|h3
 ·rcases ahx.mp h3 with q|q
  ·exact .inl q
  ·exact .inr (.inl (by rw[ahg.mp q]))
 ·cases h3
 ·exact .inr (.inr h3)
theorem CI.done (h:CI S bs gs ag W Ex (some n))(e:gs[n]?=some none)(k:∀b,bs[n]?=some b->S.ay b.2.2≠b.2.2\/wk S.by b.2.2 b.2.1=some b.2.2):CI S bs gs ag W Ex none:=by
 refine⟨h.len,λm g e'=>?_,λm b e' _ eb=>?_,h.ab,h.en,h.sl,h.bd⟩
 ·obtain⟨h1,h2,h3⟩:=h.al m g e';refine⟨h1,h2,?_⟩;rcases h3 with h3|h3|h3
  ·exact .inl h3
  ·rw[Za0 h3,e]at e';cases Za0 e'
  ·exact .inr (.inr h3)
 ·by_cases q:m=n
  ·rw[q]at eb;exact k b eb
  ·exact h.de m b e' (λz=>q (Za0 z)) eb
theorem fS {α:Type}{l:List α}{i j:Nat}{a b:α}(h:(l.set i a)[j]?=some b):(j=i/\b=a)\/(j≠i/\l[j]?=some b):=by
 by_cases e:i=j
 ·subst e;have hi:=(ahd.mp h).1;rw[ahG]at hi;rw[ahW hi]at h;exact .inl ⟨rfl,(Za0 h).symm⟩
 ·rw[aif e]at h;exact .inr ⟨λz=>e z.symm,h⟩
theorem CI.kill (h:CI S bs gs ag W Ex (some n)):CI S bs (gs.set n none) ag W Ex (some n):=by
 refine⟨by rw[ahG];exact h.len,λm g e=>?_,λm b e q eb=>?_,λk hk=>by rw[ahG];exact h.ab k hk,λr s k e=>?_,λm=>?_,h.bd⟩
 ·rcases fS e with ⟨_,z⟩|⟨z,e⟩
  ·cases z
  ·exact h.al m g e
 ·rcases fS e with ⟨z,_⟩|⟨z,e⟩
  ·exact absurd (by rw[z]) q
  ·exact h.de m b e q eb
 ·rw[ahG];exact h.en r s k e
 ·obtain⟨p,q,h1,h2⟩:=h.sl m;refine⟨p,q,h1,λg e=>?_⟩;rcases fS e with ⟨_,z⟩|⟨_,e⟩
  ·cases z
  ·exact h2 g e
def addW (W:bW)(r s n:Int):bW:=λr' s' n'=>W r' s' n' || (decide (r'=r) && decide (s'=s) && decide (n'=n))
theorem eA {W:bW}{r s n r' s' n':Int}:addW W r s n r' s' n'=true↔W r' s' n'=true\/(r'=r/\s'=s/\n'=n):=by
 unfold addW;simp only[Bool.or_eq_true,aiN,decide_eq_true_eq,and_assoc]
theorem eB {W:bW}{r s r' s' n':Int}:i9 W r s r' s' n'=true↔W r' s' n'=true/\¬(r'=r/\s'=s):=by
 unfold i9;simp only[aiN,Bool.not_eq_true',Bool.and_eq_false_iff,aj3];refine⟨λ⟨a,b⟩=>⟨a,λz=>b.elim (λq=>q z.1) (λq=>q z.2)⟩,λ⟨a,b⟩=>⟨a,?_⟩⟩;by_cases e:r'=r
 ·exact .inr λz=>b ⟨e,z⟩
 ·exact .inl e
theorem CI.waits (h:CI S bs gs ag W fL (some n)){g g':Gg}(e:gs[n]?=some (some g))(a:X8 S g g')(bU:g'.first<g'.last):CI S bs (gs.set n (some g')) ag (addW (addW W g'.front g'.z1 n) g'.bF g'.z2 n) fL none:=by
 obtain⟨hb,hg,_⟩:=h.al n g e;have hn:=(ahd.mp e).1;have gi:=a.gi;have bw:∀z∈g'.word,-1000<=z/\z<=1000:=λz hz=>h.bd _ (ahf hb) z (by rw[←a.wo];exact hz)
 have b1:=bw _ (ahf (Gg.zp (g:=g') (by have:=gi.ll;omega)));have b2:=bw _ (ahf (Gg.at2 (g:=g') gi.ll));refine⟨by rw[ahG];exact h.len,λm u q=>?_,λm b q _ eb=>?_,λk hk=>by rw[ahG];exact h.ab k hk,λr s k q=>?_,λm=>?_,h.bd⟩
 ·rcases fS q with ⟨rfl,z⟩|⟨z,q⟩
  ·cases z;refine⟨by rw[hb,a.wh,a.wo,a.st],gi,.inr (.inr ⟨bU,eA.mpr (.inl (eA.mpr (.inr ⟨rfl,rfl,rfl⟩))),eA.mpr (.inr ⟨rfl,rfl,rfl⟩)⟩)⟩
  ·obtain⟨h1,h2,h3⟩:=h.al m u q;refine⟨h1,h2,?_⟩;rcases h3 with h3|h3|⟨h3,h4,h5⟩
   ·exact .inl h3
   ·exact absurd (Za0 h3) z
   ·exact .inr (.inr ⟨h3,eA.mpr (.inl (eA.mpr (.inl h4))),eA.mpr (.inl (eA.mpr (.inl h5)))⟩)
 ·rcases fS q with ⟨_,z⟩|⟨z,q⟩
  ·cases z
  ·exact h.de m b q (λy=>z (Za0 y)) eb
 ·rw[ahG];rcases eA.mp q with q|⟨rfl,rfl,rfl⟩
  ·rcases eA.mp q with q|⟨rfl,rfl,rfl⟩
   ·exact h.en r s k q
   ·exact⟨_,n,rfl,rfl,gi.f,hn,b1,.inl ⟨a.ef,a.n1 bU⟩⟩
  ·exact⟨_,n,rfl,rfl,gi.r,hn,by omega,.inl ⟨a.er,a.n2 bU⟩⟩
 ·obtain⟨p,q,h1,h2⟩:=h.sl m;by_cases em:m=n
  ·subst em;obtain⟨ep,eq⟩:=h2 g e;refine⟨((g'.front:Int),g'.z1),((g'.bF:Int),g'.z2),λr s w=>?_,λu e'=>?_⟩
   ·rcases eA.mp w with w|⟨rfl,rfl,_⟩
    ·rcases eA.mp w with w|⟨rfl,rfl,_⟩
     ·obtain⟨r',n',er,_,_,_,_,hh⟩:=h.en r s m w;rcases hh with ⟨hs,Gk⟩|hh
      ·rcases h1 r s w with z|z
       ·rw[ep]at z;injection z with z1 z2
        have:r'=g.front:=by omega
        subst this;obtain⟨k1,k2⟩:=a.k1 hs (by rw[←z2];exact Gk)
        left
        rw[Prod.mk.injEq];refine⟨by rw[k1];exact er,?_⟩;rw[z2];unfold Gg.z1;rw[a.wo,k2]
       ·rw[eq]at z;injection z with z1 z2
        have:r'=g.bF:=by omega
        subst this;obtain⟨k1,k2⟩:=a.k2 hs (by rw[←z2];exact Gk)
        right
        rw[Prod.mk.injEq];refine⟨by rw[k1];exact er,?_⟩;rw[z2];unfold Gg.z2;rw[a.wo,k2]
      ·exact hh.elim
     ·exact .inl rfl
    ·exact .inr rfl
   ·rcases fS e' with ⟨_,z⟩|⟨z,_⟩
    ·cases z;exact⟨rfl,rfl⟩
    ·exact absurd rfl z
  ·refine⟨p,q,λr s w=>?_,λu e'=>?_⟩
   ·rcases eA.mp w with w|⟨_,_,z⟩
    ·rcases eA.mp w with w|⟨_,_,z⟩
     ·exact h1 r s w
     ·omega
    ·omega
   ·rcases fS e' with ⟨z,_⟩|⟨_,e'⟩
    ·exact absurd z em
    ·exact h2 u e'
theorem CI.wake (h:CI S bs gs ag W Ex x){r s:Int}{ns:List Nat}(hn:∀k:Nat,k∈ns↔W r s k=true):CI S bs gs (ag++ns) (i9 W r s) Ex x:=by
 refine⟨h.len,λm g e=>?_,h.de,λk hk=>?_,λr' s' k q=>h.en _ _ _ (eB.mp q).1,λm=>?_,h.bd⟩
 ·obtain⟨h1,h2,h3⟩:=h.al m g e;refine⟨h1,h2,?_⟩;rcases h3 with h3|h3|⟨h3,h4,h5⟩
  ·exact .inl (ahF _ h3)
  ·exact .inr (.inl h3)
  ·by_cases e1:(g.front:Int)=r/\g.z1=s
   ·exact .inl (ahn _ ((hn m).mpr (by rw[←e1.1,←e1.2];exact h4)))
   ·by_cases e2:(g.bF:Int)=r/\g.z2=s
    ·exact .inl (ahn _ ((hn m).mpr (by rw[←e2.1,←e2.2];exact h5)))
    ·exact .inr (.inr ⟨h3,eB.mpr ⟨h4,e1⟩,eB.mpr ⟨h5,e2⟩⟩)
 ·rcases ahx.mp hk with q|q
  ·exact h.ab k q
  ·obtain⟨_,n',_,en,_,hl,_⟩:=h.en _ _ _ ((hn k).mp q);omega
 ·obtain⟨p,q,h1,h2⟩:=h.sl m;exact⟨p,q,λr' s' w=>h1 _ _ (eB.mp w).1,h2⟩
theorem CI.ex {X9:Nat->Int->Prop}(h:CI S bs gs ag W Ex x)(k:∀(r:Nat) s n,W r s n=true->r<S.made->Ex r s->(S.ay r=r/\S.by r s=none)\/X9 r s):CI S bs gs ag W X9 x:=by
 refine⟨h.len,h.al,h.de,h.ab,λr s n q=>?_,h.sl,h.bd⟩;obtain⟨r',n',rfl,rfl,a,b,c,d⟩:=h.en r s n q;exact⟨r',n',rfl,rfl,a,b,c,d.elim .inl (k r' s n' q a)⟩
end
structure jK (S:RS):Prop where
 a:∀c,c<S.made->S.ay c≠c->c∈S.bE
 b:∀c∈S.bE,S.ay c≠c
 c:∀c∈S.bE,c<S.made
section
variable {S S':RS}{pend:List Way}{w:Way}{R:Za2}{ks:List Int}
theorem Km {c x y:Nat}{z:Int}:(S.meet c z x y pend).1.bE=S.bE++[max x y]:=by
 have:=(k8 (max x y) (S.joined c z (min x y) (max x y)) pend ((S.joined c z (min x y) (max x y)).way (max x y))).2;have:=ah6 RS.bE this;exact this
theorem xE (h:(S.takeIn pend w).1.bE=S.bE):(S.takeIn pend w).1.aB=S.aB:=by
 have no:∀{c x y:Nat} {z:Int},(S.meet c z x y pend).1.bE=S.bE->False:=λ{c x y z} e=>by
  rw[Km]at e;have:=ah6 List.length e;rw[ahe]at this;simp at this
 unfold RS.takeIn at h ⊢;split
 ·rename_i q;rw[ahu q]at h;exact(no h).elim
 ·rename_i q;rw[ahq q]at h;split
  ·rename_i q2;rw[ahu q2]at h;exact(no h).elim
  ·rfl
theorem jK.take (hi:jK S)(h:Good S (pend++[w]) R)(hk:∀c z d,R c z d->z∈ks):jK (S.takeIn pend w).1/\∃l,(S.takeIn pend w).1.bE=S.bE++l:=by
 obtain⟨_,_,hm,_,q⟩:=h.take hk;rcases q with ⟨_,_,e⟩|⟨_,c,z,x,y,hx,_,hy,ey,gI,_,e,el⟩
 ·have ee:=xE e;have el:∀a,(S.takeIn pend w).1.ay a=S.ay a:=λa=>by unfold RS.ay;rw[ee]
  refine⟨⟨λc hc=>?_,λc hc=>?_,λc hc=>by rw[hm];rw[e]at hc;exact hi.c c hc⟩,[],by rw[e,ahU]⟩
  ·rw[hm]at hc;rw[el,e];exact hi.a c hc
  ·rw[e]at hc;rw[el];exact hi.b c hc
 ·obtain⟨_,Oj,_,ex⟩:=h.st _ _ _ hx;have Eb:min x y<max x y:=by rcases Nat.lt_or_gt_of_ne gI with q|q <;> omega
  refine⟨⟨λa ha=>?_,λa ha=>?_,λa ha=>?_⟩,[max x y],e⟩
  ·rw[hm]at ha;rw[el,e];intro cF;by_cases q:S.ay a=a
   ·by_cases q2:S.ay a=max x y
    ·exact ahn _ (by rw[←q2,q];exact ahg.mpr rfl)
    ·rw[ahq q2]at cF;exact absurd q cF
   ·exact ahF _ (hi.a a ha q)
  ·rw[el];rw[e]at ha;rcases ahx.mp ha with q|q
   ·have cF:=hi.b a q;by_cases q2:S.ay a=max x y
    ·rw[ahu q2];intro z;have:a=min x y:=z.symm;rcases ajL x y with q3|q3
     ·rw[aiq q3]at this;rw[this]at cF;exact cF ex
     ·rw[ai0 q3]at this;rw[this]at cF;exact cF ey
    ·rw[ahq q2];exact cF
   ·have ea:a=max x y:=ahg.mp q
    have:S.ay a=max x y:=by
     rw[ea];rcases ajL x y with q3|q3
     ·rw[ajx q3];exact ey
     ·rw[ajK q3];exact ex
    rw[ahu this];omega
  ·rw[hm];rw[e]at ha;rcases ahx.mp ha with q|q
   ·exact hi.c a q
   ·rw[ahg.mp q];rcases ajL x y with q3|q3 <;> omega
inductive si:RS->List Way->RS->Prop where
 |nil (S:RS):si S [] S
 |take {S S':RS} {pend:List Way} {w:Way}:si (S.takeIn pend w).1 (S.takeIn pend w).2 S'->si S (pend++[w]) S'
theorem si.all (l:si S pend S'):Good S pend R->(∀c z d,R c z d->z∈ks)->jK S->Good S' [] R/\jK S'/\S'.made=S.made/\S'.L=S.L/\∃l,S'.bE=S.bE++l:=by
 induction l with
 |nil S=>exact λg _ w=>⟨g,w,rfl,rfl,[],(ahU _).symm⟩
 |take _ ih=>
  intro g hk w;obtain⟨g1,_,m1,l1,_⟩:=g.take hk;obtain⟨w1,l2,e2⟩:=w.take g hk;obtain⟨a,b,c,d,l3,e3⟩:=ih g1 hk w1;exact⟨a,b,c.trans m1,d.trans l1,l2++l3,by rw[e3,e2,aia]⟩
end
section
variable {S S':RS}{R:Za2}{bs:List (Nat×List Int×Nat)}{gs:List (Option Gg)}{ag:List Nat}{W:bW}{n c d:Nat}{z:Int}
theorem CI.lay (h:CI S bs gs ag W fL (some n))(e:gs[n]?=some none)(g:Good S [] R)(g':Good S' [] (et R c z d))(hm:S'.made=S.made)(wi:jK S)(wi':jK S'){l:List Nat}(hl:S'.bE=S.bE++l)(hc:c<S.made)(ec:S.ay c=c)(hd:d<S.made)(ed:S.ay d=d)
 (k:∀b,bs[n]?=some b->S'.ay b.2.2≠b.2.2\/wk S'.by b.2.2 b.2.1=some b.2.2):CI S' bs gs ag W (λr s=>(r=c/\s=z)\/(r=d/\s= -z)\/∃m∈l,r=m\/r=S'.ay m) none:=by
 have lt:=Later.of g g' qJ (ajV hm.symm)
 have Oo:∀e,e<S.made->S.ay e=e->S'.ay e≠e->e∈l:=λe h1 h2 h3=>by
  have:=wi'.a e (by rw[hm];exact h1) h3;rw[hl]at this;rcases ahx.mp this with q|q
  ·exact absurd h2 (wi.b e q)
  ·exact q
 have h0:CI S' bs gs ag W (λr s=>(r=c/\s=z)\/(r=d/\s= -z)\/∃m∈l,r=m\/r=S'.ay m) (some n):=by
  refine⟨h.len,λm u q=>?_,λm b q1 q2 q3=>?_,h.ab,λr s m q=>?_,h.sl,h.bd⟩
  ·obtain⟨h1,h2,h3⟩:=h.al m u q;exact⟨h1,h2.later lt (ajV hm.symm),h3⟩
  ·by_cases e1:S'.ay b.2.2=b.2.2
   ·right
    rcases h.de m b q1 q2 q3 with q|q
    ·by_cases hb:b.2.2<S.made
     ·have h1:=(g.el _ hb).1;have h2:=(g'.el _ (by rw[hm];exact g.lt hb)).1;rw[lt.el _ hb,e1]at h2;exact absurd (Nat.le_antisymm h1 h2) q
     ·exfalso
      have hs:S.aB.length=S.made:=g.wf.e;have Gz:S'.aB.length=S'.made:=g'.wf.e;have e0:S.ay b.2.2=0:=by unfold RS.ay;rw[ahh,ahR (by omega)];rfl
      have e0':S'.ay b.2.2=0:=by unfold RS.ay;rw[ahh,ahR (by omega)];rfl
      exact q (by rw[e0,←e0',e1])
    ·have:=lt.wk q;rw[e1]at this;exact this
   ·exact .inl e1
  ·obtain⟨r',n',e1,e2,hr,hn,hs,q⟩:=h.en r s m q;refine⟨r',n',e1,e2,by rw[hm];exact hr,hn,hs,?_⟩;rcases q with ⟨q1,q2⟩|q
   ·by_cases h1:S'.ay r'=r'
    ·cases h2:S'.by r' s with
     |none=>exact .inl ⟨h1,rfl⟩
     |some o=>
      right
      obtain⟨c',d',rr,f1,f2⟩:=g'.so _ _ _ h2
      have stand:∀e,e<S.made->S.ay e=e->S'.ay e=r'->e=r'\/∃m∈l,r'=m\/r'=S'.ay m:=λe a1 a2 a3=>by
       by_cases a4:e=r'
       ·exact .inl a4
       ·exact .inr ⟨e,Oo e a1 a2 (by rw[a3];exact λz=>a4 z.symm),.inr a3.symm⟩
      rcases rr with rr|⟨rfl,rfl,rfl⟩|⟨rfl,rfl,rfl⟩
      ·obtain⟨l1,l2,_⟩:=g.rl _ _ _ rr;rcases stand (S.ay c') (g.lt l1) (g.el _ l1).2 (by rw[lt.el _ l1];exact f1) with a|a
       ·exfalso
        have:=g.zl.mpr ⟨c',d',rr,a,rfl⟩;rw[q2]at this;cases this
       ·exact .inr (.inr a)
      ·rcases stand c' hc ec f1 with a|a
       ·exact .inl ⟨a.symm,rfl⟩
       ·exact .inr (.inr a)
      ·rcases stand c' hd ed f1 with a|a
       ·exact .inr (.inl ⟨a.symm,rfl⟩)
       ·exact .inr (.inr a)
    ·exact .inr (.inr (.inr ⟨r',Oo r' hr q1 h1,.inl rfl⟩))
   ·exact q.elim
 exact h0.done e k
end
def cH (by_:Nat->Int->Option Nat):Nat->List Int->List Nat
 |_,[]=>[]
 |r,z::ws=>match by_ r z with
  |none=>[]
  |some b=>b::cH by_ b ws
theorem BM {by_:Nat->Int->Option Nat}{r:Nat}{z:Int}{ws:List Int}(h:by_ r z=none):cH by_ r (z::ws)=[]:=by
 show (match by_ r z with|none=>[]|some b=>b::cH by_ b ws)=[];rw[h]
theorem rS {by_:Nat->Int->Option Nat}{r b:Nat}{z:Int}{ws:List Int}(h:by_ r z=some b):cH by_ r (z::ws)=b::cH by_ b ws:=by
 show (match by_ r z with|none=>[]|some b=>b::cH by_ b ws)=_;rw[h]
def mW (w:Nat)(p:List Nat)(k:Nat):Dt:=.t [.s [114,117,108,101],.i w,.t (p.map λc:Nat=>Dt.i (c:Int)),.i k]
structure Ec (ws:Za3) (nr:Nat) (S:RS) (which:Nat) (word:List Int) (start m c d:Nat) (z:Int):Prop where
 w:ws[which]?=some word
 n:which<nr\/start=0
 s:start<S.made/\S.ay start=start
 hz:word[m]?=some z
 f:wk S.by start (word.take m)=some c
 r:wk S.by d (word.drop (m+ 1))=some start
 hc:c<S.made/\S.ay c=c
 hd:d<S.made/\S.ay d=d
 o:S.by c z≠some d
def wV (S:RS)(which:Nat)(word:List Int)(start m d:Nat):RS:={ S with rows:=S.rows++[mW which ((start::cH S.by start (word.take m))++(d::cH S.by d (word.drop (m+ 1)))) m] }
inductive Tr (ws:Za3) (nr:Nat):RS->RS->Prop where
 |refl (S:RS):Tr ws nr S S
 |step {S S1 S2:RS} {which:Nat} {word:List Int} {start m c d:Nat} {z:Int}:Tr ws nr S S1->Ec ws nr S1 which word start m c d z->si (wV S1 which word start m d) [(c,z,d)] S2->Tr ws nr S S2
def GP (S:RS)(c:Nat)(word:List Int):Prop:=wk S.by c word=some c\/∃(i j f r:Nat) (y z:Int),i<j/\word[i]?=some y/\word[j]?=some z/\wk S.by c (word.take i)=some f/\S.by f y=none/\wk S.by r (word.drop (j+ 1))=some c/\S.by r (-z)=none
structure Mw (rs ps:Za3) (S:RS):Prop where
 r:∀w∈rs,∀c,c<S.made->S.ay c=c->GP S c w
 p:∀w∈ps,GP S 0 w
def UW (U:Za2):Nat->List Int->Nat->Prop
 |p,[],q=>p=q
 |p,z::w,q=>∃r,U p z r/\UW U r w q
structure Mdl (ws:Za3) (nr M:Nat) (φ:Nat->Nat) (U:Za2):Prop where
 sy:∀p z q,U p z q->U q (-z) p
 fn:∀p z q q',U p z q->U p z q'->q=q'
 cl:∀(which:Nat) (word:List Int) (start m c d:Nat) (z:Int),ws[which]?=some word->which<nr\/start=0->start<M->word[m]?=some z->UW U (φ start) (word.take m) (φ c)->UW U (φ d) (word.drop (m+ 1)) (φ start)->U (φ c) z (φ d)
end L2
namespace L2
open PySem PySem.Spec PyProof.Rows
section
variable {X:Cx}
def QZ (K:Za1)(ta:TA)(ts:TE):TI:=λ σ H R=>ta σ H λvs H1=>ts σ H1 λz H2=>∃a n,vs=[.ref a]/\z=.int n/\0<=n/\n<1000/\(∃xs,aM K H2 a xs)/\R (wO K a n) H2
def Uj (Q:V->Hp->Prop):List V->Hp->Prop
 |[z],H=>Q z H
 |_,_=>False
theorem Q0 {Q:V->Hp->Prop}:∀{zs:List V} {H:Hp},Uj Q zs H->∃z,zs=[z]/\Q z H
 |[z],_,h=>⟨z,rfl,h⟩
 |[],_,h=>h.elim
 |_::_::_,_,h=>h.elim
theorem Kn {a b:Expr}{te tb:TE}{elts:List Expr}{x1:Nat}{tp p pos kp:Pos}(hg:Gl X "enumerate")(hm:X.mg "enumerate"=none)(he:PE X a te)(hb:PE X b tb)
 (hs:starEach [a] X.env=(false,eval a X.env)::starEach [] X.env:=by rfl)
 (dR:((backTo pos (starEach [a] X.env)).any (·.1) || (backToKw pos (keywordEach [⟨some "start",b,kp⟩] X.env)).any (·.1.isNone))=false:=by rfl):
 PI X (.Tuple elts x1 tp) (.Call (.Name "enumerate" p) [a] [⟨some "start",b,kp⟩] pos) (QZ X.K (gL te lG) tb):=by
 intro pins s σ H R I h;refine ajB (oq I hg hm boot_enumerate ?_);refine PySem.W.callWith_of (P:=λ_=>True) dR (λ_ _=>⟨.machine,.inr (.inl rfl),λ_ _ _ _ _ q=>ahk q⟩) (evalArgs_kw2 rfl (bK ((ae he ah hs) pos pins s σ H _ I h) λus s1 ⟨vs,H1,I1,r,q⟩=>?_) hs);refine bK ((Qs hb Sr:PK X [⟨some "start",b,kp⟩] _) pos pins s1 σ H1 (Uj λz H2=>∃a n,vs=[.ref a]/\z=.int n/\0<=n/\n<1000/\(∃xs,aM X.K H2 a xs)/\R (wO X.K a n) H2) I1 q) λws s2 ⟨zs,H2,I2,rz,qz⟩=>⟨True.intro,?_⟩
 obtain⟨z,rfl,l,n,e2,rfl,hn1,Bi,hq,qf⟩:=Q0 qz;subst e2;obtain⟨xs,hq⟩:=hq;obtain⟨u,rfl,ru⟩:=vals1 r;cases ru;obtain⟨u2,rfl,t2,rfl⟩:=vals1 rz;obtain⟨its,rv,pl,hz⟩:=I2.list hq;show wpAny _ _ (call (.type "enumerate") [.ref l] [("start",.int n t2)]) _ _ s2;refine En.FT pl.isList hn1 Bi λh' dh hit hk=>?_
 have I3:Inv X pins σ H2 { s2 with heap:=h' }:=I2.kept (t':=s2.toks) hk;have cI:(∃old,IsEnum h' (s2.heap.objs.size+ 1) s2.heap.objs.size (n+ ((0:Nat):Int)) old)/\h'.IsListIter s2.heap.objs.size l 0:=⟨⟨_,by rw[show n+ ((0:Nat):Int)=n by omega];exact dh⟩,hit⟩;have T:=FU (P:=X.prog) (w:=X.w) (K:=X.K) (elts:=elts) (x1:=x1) (tp:=tp) (s2.heap.objs.size+ 1) s2.heap.objs.size l n (Nat.succ_ne_self _);refine T.self _ 0 { s2 with heap:=h' } _ _ cI ⟨_,_,_,_,H2,rfl,I3,T,cI,λb hb=>?_,qf⟩;rcases ahp.mp hb with e|hb
 ·subst e;exact I2.qj (ajS _) (I2.bu.fresh (ajS _))
 ·rw[ahg.mp hb];exact I2.qj (ahi _) (I2.bu.fresh (ahi _))
end
section
variable {prog:Program} {w:World} {K:Type} [DecidableEq K] {knd:HeapKind prog w K} {A:Around} {E:Value->Shared->Prop} {s:Shared} {d a:Addr} {k:K} {xs:List (K×Addr×Value)}
theorem FW {dflt:Value}{Q:Value->Shared->Prop}(hu:knd.room A)(t9:knd.is s.heap k a)(hm:s.heap.DictOfH knd d xs)
 (h1:∀v,(atKey xs k).map (·.2)=some v->Q v { s with toks:=s.toks+ knd.draws k })
 (h2:atKey xs k=none->∀h',h'.DictOfH knd d (storedH xs k a dflt)->Heap.SameBut d s.heap h'->Q dflt { s with heap:=h',toks:=s.toks+ knd.draws k })
 (hsz:xs.length<=sizeLine):wpAny (model prog w) A (dictSetDefault d (.ref a) dflt) Q E s:=by
 obtain⟨ob,en,ec,g1,g2,g3,g4,g5,g6⟩:=hm;unfold dictSetDefault
 first|(with_reducible refine aiz ?_)|skip
 refine ahb (knd.pyHash hu t9 (ahb (wpAny_dictFind_heap (s:={ s with toks:=s.toks+ knd.draws k }) hu t9 g1 g3 g4 g5 g6 (λno=>?_) (λj p hj=>?_))))
 ·have nk:k∉xs.map (·.1):=not_mem_keys_of_get no;have na:=atKey_none_of_get no;refine ahb (wpAny_rule (ahb (wpAny_updateDictKeys (hz:=by have e:=size_of_entries g4;omega) (s:={ s with toks:=s.toks+ knd.draws k }) g1 g3 (ahk (h2 na _ ?_ (aiE ..))))));refine⟨_,_,ec+ 1,aip _ g1 (Obj.isFreed_of_dict (Obj.data_mapDictKeys g3 _)),g2.mapDictKeys _,Obj.data_mapDictKeys g3 _,?_,?_,?_⟩
  ·rw[storedH_new na];simp[g4,entryOfKey]
  ·rw[storedH_new na];intro y hy;rcases ahx.mp hy with q|q
   ·exact knd.keeps (g5 y q) g1 g3 (aiE ..)
   ·rw[ahg.mp q];exact knd.keeps t9 g1 g3 (aiE ..)
  ·rw[storedH_new na,ahO,ah9];exact⟨g6,by simp,λy hy z hz e=>nk (by have Uk:z=k:=ahg.mp hz;rw[←Uk,←e];exact hy)⟩
 ·have ha:=atKey_of_get g6 hj;refine ahb (aiQ (s:={ s with toks:=s.toks+ knd.draws k }) g1 g3 ?_)
  have he:en[j]?=some (entryOfKey knd (k,p)):=by
   rw[entry_at g4 j,hj];rfl
  rw[he];exact ahb (wpAny_rule (ahk (h1 _ (by rw[ha];rfl))))
theorem Cv (knd:HeapKind prog w K)(d a:Addr)(hd:(d==sysModules)=false)(dflt:Value):MeetsIn prog w (Builtin.«dict.setdefault» ⟨[.ref d,.ref a,dflt],[]⟩) (λA R s=>knd.room A.in1/\∃k xs,knd.is s.heap k a/\s.heap.DictOfH knd d xs/\xs.length<=sizeLine/\
 (∀v,(atKey xs k).map (·.2)=some v->R (.ok (.ret v)) { s with toks:=s.toks+ knd.draws k })/\(atKey xs k=none->∀h',h'.DictOfH knd d (storedH xs k a dflt)->Heap.SameBut d s.heap h'->R (.ok (.ret dflt)) { s with heap:=h',toks:=s.toks+ knd.draws k })):=
 .of_wp λA R s ⟨hu,k,xs,t9,hm,hz,h1,h2⟩=>by
  unfold Builtin.«dict.setdefault» Builtin.Dict.keyAndDefault;refine ahb (ahb (ajH hm.typeIs ?_));show wpAny _ _ (pure (d,Value.ref a,some dflt)) _ _ s;refine ahk ?_;show wpAny _ _ (if (d==sysModules)=true then _ else (dictSetDefault d (.ref a) dflt >>=_)) _ _ s;rw[hd];exact ahb (FW hu t9 hm (λv hv=>ahk ⟨v,rfl,h1 v hv⟩) (λhn h' m' s'=>ahk ⟨dflt,rfl,h2 hn h' m' s'⟩) hz)
end
def Ul (td ty tx:TE):TE:=λ σ H Q=>td σ H λx H1=>∃a,x=.ref a/\xA H1 a/\ty σ H1 λy H2=>tx σ H2 λz H3=>∃(kvs:List (List Key×V)) (k:List Key) (b:Addr),H3 a=some (.dT kvs)/\y=.ref b/\H3 b=some (.tup (k.map kV))/\kvs.length<sizeLine/\
 (∀v,bM kvs k=some v->Q v H3)/\(bM kvs k=none->Q z (upd H3 a (.dT (putK kvs k z))))
section
variable {X:Cx}{o e f:Expr}{apos cR:Pos}{td ty tx:TE}
theorem Mx (hu:X.A.units+ 1<cLine)(ho:PE X o td)(he:PE X e ty)(hf:PE X f tx)(m:M2 X o "setdefault" apos e f cR):PE X (.Call (.Attribute o "setdefault" apos) [e,f] [] cR) (Ul td ty tx):=by
 intro pins s σ H Q I h;refine ajn m.base m.few m.line ait ai3 PySem.F.type_dict_setdefault (bK (ho pins s σ H _ I h) λu s1 ⟨x,H1,I1,rx,a,ex,d,q1⟩=>?_);subst ex;obtain rfl:u=Value.ref a:=rx;obtain⟨t1,t2,_⟩:=qy I1 d;refine⟨t1,t2,?_⟩;rw[m.trees]
 refine aic rfl (aiL (aij (bK (he pins s1 σ H1 _ I1 q1) λiv s2 ⟨y,H2,I2,ry,q2⟩=>
  aij (bK (hf pins s2 σ H2 _ I2 q2) λfv s3 ⟨z,H3,I3,rz,kvs,k,b,ea,ey,eb,bU,q3,q4⟩=>ai6 ?_))))
 subst ey;cases (show iv=Value.ref b from ry);obtain⟨hz,hd,xs,rel,dd⟩:=HW I3.bu ea;have ju:=rel.val k;have Kf:xs.length<=sizeLine:=by rw[←Paired.length rel];exact hz
 refine ajb ai3 dd.typeIs PySem.F.entry_dict_setdefault (PySem.F.args_dict_setdefault_3 _ _ _) (Cv _ a b hd fv) ⟨aiY hu,k,xs,oE I3.bu eb,dd,Kf,λv hv=>?_,λhn g1 uO sb=>?_⟩
 ·rw[hv]at ju
  cases l:bM kvs k with
  |none=>rw[l]at ju;exact ju.elim
  |some y0=>
   rw[l]at ju;exact⟨y0,H3,I3.tok _,ju,q3 y0 l⟩
 ·rw[hn]at ju
  cases l:bM kvs k with
  |some y0=>rw[l]at ju;exact ju.elim
  |none=>
   have hl:(putK kvs k z).length<=sizeLine:=by have:=dH kvs k z;omega
   obtain⟨q,es,ep,hq,h2,h3,h4,_,h5⟩:=uO;refine⟨z,upd H3 a (.dT (putK kvs k z)),p8 I3 (by rw[ea];exact True.intro) sb ⟨q,hq⟩ ⟨hl,hd,_,(rel.put k eb rz).keeps λc ys ec=>?_,q,es,ep,hq,h2,h3,h4,h5⟩,rz,q4 l⟩;rw[av (cX ec ea (λz=>nomatch z))];exact ec
end
section
variable {H:Hp}{k:Addr}{D:Int->Option Addr}{E:Int->Int->Option Addr}{S:bW}
theorem eZ.My (h:eZ H k D E S){c s:Int}{d:Addr}(hd:D c=some d){kvs:List (Key×V)}(hk:H d=some (.dK kvs)):
 eZ (upd H d (.dK (fI kvs (Sum.inl s)))) k D (λc' s'=>if c'=c/\s'=s then none else E c' s') (i9 S c s):=by
 obtain⟨cN,q1,q2,q3,q4⟩:=h.row c d hd;rw[hk]at q1;obtain rfl:kvs=cN:=by injection q1 with q1;injection q1
 have un:∀{c' s':Int} {z:Addr},(if c'=c/\s'=s then none else E c' s')=some z->¬(c'=c/\s'=s)/\E c' s'=some z:=λ{c' s' z} q=>by
  by_cases e:c'=c/\s'=s
  ·rw[ahu e]at q;cases q
  ·rw[ahq e]at q;exact⟨e,q⟩
 refine⟨h.top.at λo q=>?_,λc' d' fx=>?_,λc' s' e' dh=>?_,λc' s' e' dh=>h.ed _ _ _ (un dh).2,λc' s' o ho=>?_,h.nd,λc' s' e' dh=>h.ne _ _ _ (un dh).2,h.dd,λc' c2 s' d' fx dh=>h.de _ _ _ _ fx (un dh).2,λc' s' c2 s2 e' h1 h2=>h.ee _ _ _ _ _ (un h1).2 (un h2).2⟩
 ·rw[av (h.nd c d hd).symm];exact q
 ·by_cases ec:c'=c
  ·subst ec;obtain rfl:d'=d:=by rw[hd]at fx;exact(Za0 fx).symm
   refine(QS q2 q3 q4 s).congr λs'=>?_
   by_cases es:s'=s
   ·rw[ahu es,ahu ⟨rfl,es⟩];rfl
   ·rw[ahq es,ahq (λz=>es z.2)]
  ·refine((h.row c' d' fx).at λo q=>by rw[av λz=>ec (h.dd _ _ _ fx (by rw[z];exact hd))];exact q).congr λs'=>?_
   rw[ahq (λz=>ec z.1)]
 ·obtain⟨ne,he⟩:=un dh;refine((h.BK c' s' e' he).at λo q=>by rw[av (λz=>h.de c c' s' d hd (by rw[←z];exact he))];exact q).congr λo=>?_
  have:i9 S c s c' s' o=S c' s' o:=by
   rw[ah4,eB];exact⟨λz=>z.1,λz=>⟨z,ne⟩⟩
  rw[this]
 ·obtain⟨a,b⟩:=eB.mp ho;obtain⟨e,he⟩:=h.se _ _ _ a;exact⟨e,by rw[ahq b];exact he⟩
end
structure Um (k:Addr) (D:Int->Option Addr) (E:Int->Int->Option Addr) (W:bW) (O:Addr->Prop):Prop where
 o:∀b,yi k D E b->O b
 d:∀c x,D c=some x->0<=c/\c<100000
 e:∀c s x,E c s=some x-> -1000<=s/\s<=1000
 w:∀c s n,W c s n=true->0<=n/\n<100000
def tH (H:Hp)(k:Addr)(W:bW)(O:Addr->Prop):Prop:=∃D E,eZ H k D E W/\Um k D E W O
def gx (H:Hp)(k:Addr)(W:bW)(O:Addr->Prop)(c:Int)(d:Addr):Prop:=∃D E,eZ H k D E W/\Um k D E W O/\D c=some d
def uj (H:Hp)(k:Addr)(W:bW)(O:Addr->Prop)(c s:Int)(e:Addr):Prop:=∃D E,eZ H k D E W/\Um k D E W O/\E c s=some e
def Ko (O:Addr->Prop)(p:Addr):Addr->Prop:=λb=>O b\/b=p
section
variable {H H':Hp}{k:Addr}{W:bW}{O:Addr->Prop}{c s:Int}{d e p:Addr}
theorem tH.keep (h:tH H k W O)(f:∀b o,O b->H b=some o->H' b=some o):tH H' k W O:=by
 obtain⟨D,E,h1,h2⟩:=h;exact⟨D,E,h1.keep λb o hb q=>f b o (h2.o b hb) q,h2⟩
theorem tH.vE (h:tH H k W O):xA H k:=by
 obtain⟨D,E,h1,_⟩:=h;obtain⟨kv,q,_⟩:=h1.top;exact .inl ⟨kv,.inl q⟩
theorem tH.room (h:tH H k W O)(np:H p=none)(hc:0<=c/\c<100000):∃kvs,upd H p (.dK []) k=some (.dK kvs)/\kvs.length<sizeLine/\(∀v,bM kvs (Sum.inl c)=some v->∃d,v=.ref d/\gx (upd H p (.dK [])) k W O c d)/\
 (bM kvs (Sum.inl c)=none->gx (upd (upd H p (.dK [])) k (.dK (putK kvs (Sum.inl c) (.ref p)))) k W (Ko O p) c p):=by
 obtain⟨D,E,h1,h2⟩:=h;have s1:=au.upd (o:=.dK []) np;have k1:=h1.same s1;obtain⟨kvs,q1,q2,q3,q4⟩:=k1.Ub;have nw:¬yi k D E p:=λz=>by obtain⟨kv,q⟩:=h1.there z;rw[np]at q;cases q
 refine⟨kvs,q1,?_,λv hv=>?_,λhv=>?_⟩
 ·refine ahr (zo (n:=100000) (lo:=0) q2 q3 q4 λi v hv=>?_) (by decide)
  cases e:D i with
  |none=>rw[e]at hv;cases hv
  |some x=>have:=h2.d i x e;omega
 ·rw[q4]at hv;obtain⟨d,hd,rfl⟩:=aim.mp hv;exact⟨d,rfl,D,E,k1,h2,hd⟩
 ·rw[q4]at hv;have hd:D c=none:=aj9.mp hv;refine⟨_,E,k1.QV hd q1 aj nw,⟨λb hb=>?_,λc' x q=>?_,h2.e,h2.w⟩,ahu rfl⟩
  ·rcases hb with z|⟨c',z⟩|z
   ·exact .inl (h2.o b (.inl z))
   ·dsimp only at z;by_cases e:c'=c
    ·rw[ahu e]at z;exact .inr (Za0 z).symm
    ·rw[ahq e]at z;exact .inl (h2.o b (.inr (.inl ⟨c',z⟩)))
   ·exact .inl (h2.o b (.inr (.inr z)))
  ·by_cases e:c'=c
   ·rw[e];exact hc
   ·rw[ahq e]at q;exact h2.d c' x q
theorem gx.vE (h:gx H k W O c d):xA H d:=by
 obtain⟨D,E,h1,h2,h3⟩:=h;obtain⟨kv,q,_⟩:=h1.row c d h3;exact .inl ⟨kv,.inl q⟩
theorem gx.own (h:gx H k W O c d):O d:=by
 obtain⟨D,E,h1,h2,h3⟩:=h;exact h2.o d (.inr (.inl ⟨c,h3⟩))
theorem gx.same (h:gx H k W O c d)(s:au H H'):gx H' k W O c d:=by
 obtain⟨D,E,h1,h2,h3⟩:=h;exact⟨D,E,h1.same s,h2,h3⟩
theorem gx.cell (h:gx H k W O c d)(np:H p=none)(hs: -1000<=s/\s<=1000):∃kvs,upd H p (.dK []) d=some (.dK kvs)/\kvs.length<sizeLine/\(∀v,bM kvs (Sum.inl s)=some v->∃e,v=.ref e/\uj (upd H p (.dK [])) k W O c s e)/\
 (bM kvs (Sum.inl s)=none->uj (upd (upd H p (.dK [])) d (.dK (putK kvs (Sum.inl s) (.ref p)))) k W (Ko O p) c s p):=by
 obtain⟨D,E,h1,h2,hd⟩:=h;have s1:=au.upd (o:=.dK []) np;have k1:=h1.same s1;obtain⟨kvs,q1,q2,q3,q4⟩:=k1.Mu hd;have nw:¬yi k D E p:=λz=>by obtain⟨kv,q⟩:=h1.there z;rw[np]at q;cases q
 refine⟨kvs,q1,?_,λv hv=>?_,λhv=>?_⟩
 ·refine ahr (zo (n:=2001) (lo:=-1000) q2 q3 q4 λi v hv=>?_) (by decide)
  cases e:E c i with
  |none=>rw[e]at hv;cases hv
  |some x=>have:=h2.e c i x e;omega
 ·rw[q4]at hv;obtain⟨e,he,rfl⟩:=aim.mp hv;exact⟨e,rfl,D,E,k1,h2,he⟩
 ·rw[q4]at hv;have he:E c s=none:=aj9.mp hv;refine⟨D,_,k1.QT hd he q1 aj nw,⟨λb hb=>?_,h2.d,λc' s' x q=>?_,h2.w⟩,ahu ⟨rfl,rfl⟩⟩
  ·rcases hb with z|z|⟨c',s',z⟩
   ·exact .inl (h2.o b (.inl z))
   ·exact .inl (h2.o b (.inr (.inl z)))
   ·dsimp only at z;by_cases e:c'=c/\s'=s
    ·rw[ahu e]at z;exact .inr (Za0 z).symm
    ·rw[ahq e]at z;exact .inl (h2.o b (.inr (.inr ⟨c',s',z⟩)))
  ·by_cases e:c'=c/\s'=s
   ·rw[e.2];exact hs
   ·rw[ahq e]at q;exact h2.e c' s' x q
theorem uj.own (h:uj H k W O c s e):O e:=by
 obtain⟨D,E,h1,h2,h3⟩:=h;exact h2.o e (.inr (.inr ⟨c,s,h3⟩))
theorem uj.put (h:uj H k W O c s e){n:Int}(hn:0<=n/\n<100000):∃kvs,H e=some (.dK kvs)/\kvs.length<sizeLine/\tH (upd H e (.dK (putK kvs (Sum.inl n) (.bl true)))) k (addW W c s n) O:=by
 obtain⟨D,E,h1,h2,he⟩:=h;obtain⟨kvs,q1,q2,q3,q4⟩:=h1.Uc he;refine⟨kvs,q1,?_,D,E,h1.Ud he q1 n,h2.o,h2.d,h2.e,λc' s' n' q=>?_⟩
 ·refine ahr (zo (n:=100000) (lo:=0) q2 q3 q4 λi v hv=>?_) (by decide);by_cases w:W c s i=true
  ·have:=h2.w _ _ _ w;omega
  ·rw[ahq w]at hv;cases hv
 ·rcases eA.mp q with q|⟨_,_,q⟩
  ·exact h2.w _ _ _ q
  ·rw[q];exact hn
theorem tH.get (h:tH H k W O):∃o,dB H k (.int c) o/\((o=none/\∀s n,W c s n=false)\/∃d,o=some (.ref d)/\gx H k W O c d):=by
 obtain⟨D,E,h1,h2⟩:=h;obtain⟨kvs,q1,q2,q3,q4⟩:=h1.Ub;have g:=dB.k (k:=Sum.inl c) q1;rw[q4]at g;refine⟨_,g,?_⟩
 cases e:D c with
 |none=>
  refine .inl ⟨rfl,λs n=>?_⟩
  cases w:W c s n with
  |false=>rfl
  |true=>
   obtain⟨x,hx⟩:=h1.se _ _ _ w;obtain⟨y,hy⟩:=h1.ed _ _ _ hx;rw[e]at hy;cases hy
 |some d=>exact .inr ⟨d,rfl,D,E,h1,h2,e⟩
theorem Ed:∀{kvs:List (Key×V)},(kvs.map (·.1)).Nodup->(∀kv∈kvs,∃n:Nat,kv.1=Sum.inl (n:Int))->∃ns:List Nat,kvs.map (λkv=>kV kv.1)=ao (nI ns)/\ns.Nodup/\∀n:Nat,n∈ns↔Sum.inl (n:Int)∈kvs.map (·.1)
 |[],_,_=>⟨[],rfl,ais,λn=>⟨(λz=>by cases z),(λz=>by cases z)⟩⟩
 |kv::r,hn,h=>by
  rw[ahY,ahX]at hn;obtain⟨ns,e1,e2,e3⟩:=Ed hn.2 λx hx=>h x (ahL _ hx)
  obtain⟨m,hm⟩:=h kv (ahv ..);refine⟨m::ns,?_,ahX.mpr ⟨λz=>hn.1 (by rw[hm];exact(e3 m).mp z),e2⟩,λn=>?_⟩
  ·rw[ahY,e1,hm];rfl
  ·rw[ahp,e3 n,ahY,ahp,hm];refine or_congr ⟨λz=>by rw[z],λz=>by have:=Sum.inl.inj z;omega⟩ Iff.rfl
theorem GQ {kvs:List (Key×V)}{i:Int}{v:V}(h:bM kvs (Sum.inl i)=some v):Sum.inl i∈kvs.map (·.1):=ah0.mpr ⟨_,Mt h,rfl⟩
theorem gx.pop (h:gx H k W O c d)(s:Int):∃kvs,H d=some (.dK kvs)/\(bM kvs (Sum.inl s)=none->∀n,W c s n=false)/\
 ∀v,bM kvs (Sum.inl s)=some v->∃(e:Addr) (uQ:List (Key×V)) (ns:List Nat),v=.ref e/\e≠d/\H e=some (.dK uQ)/\uQ.map (λkv=>kV kv.1)=ao (nI ns)/\ns.Nodup/\(∀n:Nat,n∈ns↔W c s n=true)/\tH (upd H d (.dK (fI kvs (Sum.inl s)))) k (i9 W c s) O:=by
 obtain⟨D,E,h1,h2,hd⟩:=h;obtain⟨kvs,q1,q2,q3,q4⟩:=h1.Mu hd;refine⟨kvs,q1,λhv n=>?_,λv hv=>?_⟩
 ·rw[q4]at hv
  cases w:W c s n with
  |false=>rfl
  |true=>
   obtain⟨x,hx⟩:=h1.se _ _ _ w;rw[hx]at hv;cases hv
 ·rw[q4]at hv;obtain⟨e,he,rfl⟩:=aim.mp hv;obtain⟨uQ,p1,p2,p3,p4⟩:=h1.Uc he
  have BO:∀i:Int,Sum.inl i∈uQ.map (·.1)↔W c s i=true:=λi=>by
   constructor
   ·intro z;obtain⟨kv,dP,e⟩:=ah0.mp z;have:=DX p2 dP;rw[e,p4]at this;by_cases w:W c s i=true
    ·exact w
    ·rw[ahq w]at this;cases this
   ·intro w;exact GQ (v:=.bl true) (by rw[p4,ahu w])
  obtain⟨ns,e1,e2,e3⟩:=Ed p2 λkv dP=>by
   obtain⟨i,hi⟩:=p3 kv dP;have:=h2.w _ _ _ ((BO i).mp (by rw[←hi];exact aiR dP));exact⟨i.toNat,by rw[hi];congr 1;omega⟩
  refine⟨e,uQ,ns,rfl,λz=>h1.de _ _ _ _ hd (by rw[←z];exact he),p1,e1,e2,λn=>(e3 n).trans (BO n),_,_,h1.My hd q1,⟨λb hb=>h2.o b ?_,h2.d,λc' s' x q=>?_,λc' s' n q=>h2.w _ _ _ (eB.mp q).1⟩⟩
  ·rcases hb with z|z|⟨c',s',z⟩
   ·exact .inl z
   ·exact .inr (.inl z)
   ·dsimp only at z;by_cases e:c'=c/\s'=s
    ·rw[ahu e]at z;cases z
    ·rw[ahq e]at z;exact .inr (.inr ⟨c',s',z⟩)
  ·by_cases e:c'=c/\s'=s
   ·rw[ahu e]at q;cases q
   ·rw[ahq e]at q;exact h2.e _ _ _ q
theorem Kp {P:Nat->Bool}{G:Nat}:∀{ns:List Nat},ns.Nodup->(∀n∈ns,n<G/\P n=true)->ns.length<=(List.range G).countP P:=by
 intro ns
 induction ns generalizing P with
 |nil=>exact λ_ _=>ahT _
 |cons m r ih=>
  intro hn h;rw[ahX]at hn;obtain⟨hm,hp⟩:=h m (ahv ..);have:=pO (p:=P) (p':=λa=>P a && decide (a≠m)) (v:=m) (λa=>rfl) hp G;rw[ahu hm]at this
  have:=ih (P:=λa=>P a && decide (a≠m)) hn.2 λn hr=>⟨(h n (ahL _ hr)).1,by
   rw[(h n (ahL _ hr)).2,ahy (show n≠m from λz=>hn.1 (by rw[←z];exact hr))];rfl⟩
  rw[ahE];omega
theorem Az {W:bW}{c s:Int}(h:∀n,W c s n=false):i9 W c s=W:=by
 funext c' s' n
 rw[ah4,eB];refine⟨λz=>z.1,λz=>⟨z,λq=>?_⟩⟩;rw[q.1,q.2,h]at z;cases z
end
end L2
namespace L2
section
variable {S:RS}{R:Za2}
theorem Kq (g:Good S [] R):∀{w:List Int} {c d e:Nat},wk S.by c w=some e->wk S.by d w=some e->c=d
 |[],c,d,e,h1,h2=>by rw[Za0 h1,Za0 h2]
 |z::w,c,d,e,h1,h2=>by
  obtain⟨c1,a1,b1⟩:=qM h1;obtain⟨d1,a2,b2⟩:=qM h2;have:=Kq g b1 b2;subst this;have q1:=g.sy _ _ _ a1;have q2:=g.sy _ _ _ a2;rw[q1]at q2;exact Za0 q2
end
end L2
namespace L2
open PySem PySem.Spec PyProof.Rows
def Mz (Pt:Addr)(pos:Pos)(qual:Str)(H:Hp):Prop:=
 H Pt=some (.vd #[])\/∃(c:Addr) (oc:Obj) (vs:Array Value) (t:Tok),H Pt=some (.vd #[rawInt pos.line,rawInt pos.col,.ref c])/\H c=some (.dC oc (.own c))/\oc.data=.fields vs/\vs[1]?=some (.str qual t)
theorem Mz.keep {Pt:Addr}{pos:Pos}{qual:Str}{H H':Hp}(h:Mz Pt pos qual H)(k:∀b u,H b=some u->(∃ps,u=.vd ps)\/(∃o v,u=.dC o v)->H' b=some u):Mz Pt pos qual H':=by
 rcases h with h|⟨c,oc,vs,t,h1,h2,h3,h4⟩
 ·exact .inl (k _ _ h (.inl ⟨_,rfl⟩))
 ·exact .inr ⟨c,oc,vs,t,k _ _ h1 (.inl ⟨_,rfl⟩),k _ _ h2 (.inr ⟨_,_,rfl⟩),h3,h4⟩
section
variable {X:Cx}{H:Hp}
structure Fp (X:Cx) (pq:List (Addr×Obj)) (H:Hp) (b:Addr):Prop where
 none:H b=none
 loc:b≠X.env.locals
 fs:b∉X.fs
 new:X.dA.heap.objs.size<=b
 cell:∀x c,X.env.cells.lookup x=some c->c≠b
 pin:∀p∈X.pn++pq,p.1≠b
theorem aM.dW {K:Za1}{H H2:Hp}{l Pt:Addr}{ys:List V}{ps:Array Value}(h:aM K H l ys)(hP:H Pt=some (.vd ps))(k:∀b u,b≠Pt->H b=some u->H2 b=some u):aM K H2 l ys:=by
 rcases h with h|h
 ·rcases h with e|⟨o,e⟩
  ·exact .inl (.inl (k _ _ (λz=>by rw[z,hP]at e;cases e) e))
  ·exact .inl (.inr ⟨o,k _ _ (λz=>by rw[z,hP]at e;cases e) e⟩)
 ·exact .inr h
end
structure afP (K:Za1) (fd:FuncData) (c Pt:Addr):Prop where
 code:fd.code=.ref c
 hd:PySem.W.codeHdIn K c Pt=true
 no:K.lookup Pt=none
namespace Lr
theorem Uo:typeLookup (.type "list_reverseiterator") "__len__"=pure none:=by rw[typeLookup_type,ajE];kernel_rfl
theorem Q5:typeLookup (.type "list_reverseiterator") "__length_hint__"=pure (some (.builtin "list_reverseiterator.__length_hint__")):=by rw[typeLookup_type,ajE];kernel_rfl
section
variable {prog:Program}{w:World}{A:Around}{E:Value->Shared->Prop}{s:Shared}{it l:Addr}{items:Array Value}
theorem hint {i:Int}{Q:Bool->Shared->Prop}(hm:s.heap.IsRevIter it l i)(h:Q false s):wpAny (model prog w) A (Builtin.List.listLengthHint (.ref it)) Q E s:=by
 unfold Builtin.List.listLengthHint;refine ahb (wpAny_specialOf hm.typeIs Uo ?_)
 wp_delta
 refine aiW (λjn=>absurd jn (by decide)) (λ_=>?_);refine aiW (λjn=>absurd jn (by decide)) (λ_=>?_);refine ahb (wpAny_specialOf hm.typeIs Q5 ?_);generalize JP:("list_reverseiterator.__length_hint__":String)=Tp
 wp_delta
 rw[show splitId Tp=some ("list_reverseiterator","__length_hint__") from by subst JP;decide +kernel];subst JP;refine ahb (wpAny_isInstance (T:="list_reverseiterator") (b:=true) hm.typeIs (by rw[isSubtype_type];kernel_rfl) ?_);refine aiW (λjn=>absurd jn (by decide)) (λ_=>?_);refine aiW (λ_=>?_) (λjn=>absurd (by decide +kernel) jn);refine aiW (λjn=>absurd jn (by decide +kernel)) (λ_=>?_);exact ahk h
theorem extend {R:Result->Shared->Prop}(hh:A.handled=none)(hit:s.heap.IsRevIter it l ((items.size:Int) - 1))(hl:s.heap.IsList l items)(cF:l≠it)(hlen:items.size<=sizeLine)(S:Addr)(zf:S≠it)(zg:S≠l)(res:Value)(c₀:Nat)(hS:s.heap.get? S=some { cls:=.type "list",data:=.seq #[] c₀ })
 (hR:∀g1 tk dk c',(∀b o,b≠S->b≠it->s.heap.get? b=some o->g1.get? b=some o)->g1.get? S=some { cls:=.type "list",dict:=none,data:=.seq dk c',slots:=#[] }->
  ItemsOf (λi v=>items[items.size - 1 - i]?=some v) dk items.size->R (.ok (.ret res)) { s with heap:=g1,toks:=tk }):
 wpAny (model prog w) A.in1 (Builtin.List.listExtendWith (.ref S) (.ref it) res)
  (λfin s'=>match fin with|.done f=>R (.ok f) s'|.again c'=>c'.quiet=true/\codeAny (model prog w) A c' R s') (λe s'=>R (.error e) s') s:=by
 unfold Builtin.List.listExtendWith;refine ahb (ajD (T:="list_reverseiterator") hit.typeIs ?_);have h1:Builtin.List.listSameRef (.ref S) (.ref it)=false:=by simp[Builtin.List.listSameRef,zf]
 have h2:(Value.type "list_reverseiterator"==Value.type "list")=false:=by decide
 have h3:(Value.type "list_reverseiterator"==Value.type "tuple")=false:=by decide
 simp only[h1,h2,h3,Bool.or_false,aj0,ajs];refine ahb (wpAny_pyIter_revIter hit ?_);refine ahb (aiz (hint hit ?_));refine aiW (λjn=>absurd jn (by decide +kernel)) (λ_=>?_);have W:=(Walks.listRev (prog:=prog) (w:=w) (A:=A.in1) hh it l cF items).toS
 have Tq:S∉[it,l]:=λhm=>by
  rcases ahp.mp hm with e|hm
  ·exact zf e
  ·exact zg (ahg.mp hm)
 refine ahk ⟨plainId_quiet F.plain_extend_loop _,?_⟩;refine codeAny_extend_loopS W hlen S Tq res items.size 0 _ #[] _ rfl (ahT _) ⟨ahT _,by simpa using hit,hl⟩ hS (ItemsOf.nil _) λs' dk c' JT rN lS=>?_
 rw[Moved.eq_with JT];refine hR s'.heap s'.toks dk c' (λb o hb qB e=>JT.heap b o (λlQ=>?_) e) rN lS;rcases ahp.mp lQ with e'|lQ
 ·exact hb e'
 ·exact qB (ahg.mp lQ)
theorem init {R:Result->Shared->Prop}(hh:A.handled=none)(hit:s.heap.IsRevIter it l ((items.size:Int) - 1))(hl:s.heap.IsList l items)(cF:l≠it)(hlen:items.size<=sizeLine)(S:Addr)(zf:S≠it)(zg:S≠l)(hS:s.heap.get? S=some { cls:=.type "list",data:=.seq #[] })
 (hR:∀g1 tk dk c',(∀b o,b≠S->b≠it->s.heap.get? b=some o->g1.get? b=some o)->g1.get? S=some { cls:=.type "list",dict:=none,data:=.seq dk c',slots:=#[] }->
  ItemsOf (λi v=>items[items.size - 1 - i]?=some v) dk items.size->R (.ok (.ret .none)) { s with heap:=g1,toks:=tk }):
 wpAny (model prog w) A.in1 (Builtin.«list.__init__» ⟨[.ref S,.ref it],[]⟩)
  (λfin s'=>match fin with|.done f=>R (.ok f) s'|.again c'=>c'.quiet=true/\codeAny (model prog w) A c' R s') (λe s'=>R (.error e) s') s:=by
 show wpAny _ _ (do let old ←Builtin.List.listItems (.ref S);Builtin.List.listUpdate (.ref S) (λ_=>#[]);letGo old.toList.reverse;Builtin.List.listExtendWith (.ref S) (.ref it) .none) _ _ s;refine ahb ?_;unfold Builtin.List.listItems;refine ahb (akd hS rfl (ahk ?_));show wpAny _ _ (updateSeq S (λ_=>#[]) >>=λ_=>letGo (#[]:Array Value).toList.reverse >>=λ_=>Builtin.List.listExtendWith (.ref S) (.ref it) .none) _ _ s;refine ahb (wpAny_updateSeq hS rfl ?_);have g2:=aip (Obj.mapSeq (λ_=>(#[]:Array Value))) hS rfl;have xB:∀b o,b≠S->s.heap.get? b=some o->(s.heap.update S (Obj.mapSeq (λ_=>(#[]:Array Value)))).get? b=some o:=λb o hb e=>(aiO _ _ (ail hb)).trans e
 refine ahb (wpAny_letGo ?_);refine extend (s:={ s with heap:=s.heap.update S (Obj.mapSeq (λ_=>(#[]:Array Value))) }) hh (hit.at λo e=>xB _ o zf.symm e) (hl.at λo e=>xB _ o zg.symm e) cF hlen S zf zg .none _ g2 λg1 tk dk c' hk rN lS=>?_
 exact hR g1 tk dk c' (λb o hb qB e=>hk b o hb qB (xB b o hb e)) rN lS
theorem call {Q:Value->Shared->Prop}(hh:A.handled=none)(hit:s.heap.IsRevIter it l ((items.size:Int) - 1))(hl:s.heap.IsList l items)(cF:l≠it)(hlen:items.size<=sizeLine)
 (hQ:∀g1 tk dk c',(∀b o,b≠it->s.heap.get? b=some o->g1.get? b=some o)->g1.get? s.heap.objs.size=some { cls:=.type "list",dict:=none,data:=.seq dk c',slots:=#[] }->ItemsOf (λi v=>items[items.size - 1 - i]?=some v) dk items.size->Q (.ref s.heap.objs.size) { s with heap:=g1,toks:=tk }):
 wpAny (model prog w) A (PySem.call (.type "list") [.ref it]) Q E s:=by
 refine callType_codes (Q₁:=λobj bO=>obj=.ref s.heap.objs.size/\bO={ s with heap:=s.heap.push { cls:=.type "list",data:=.seq #[] } }) F.called_list (F.typeCall_list_1 _) F.entry_list_init (code_list_new _ ⟨rfl,rfl⟩) λobj bO fH=>?_
 obtain⟨rfl,rfl⟩:=fH;have hS:(s.heap.push { cls:=.type "list",data:=.seq #[] }).get? s.heap.objs.size=some { cls:=.type "list",data:=.seq #[] }:=ahz _ rfl;have lt1:it<s.heap.objs.size:=let ⟨o,ho,_⟩:=hit;ahA ho
 have lt2:l<s.heap.objs.size:=let ⟨o,ho,_⟩:=hl;ahA ho
 refine⟨⟨_,hS,rfl⟩,F.args_list_init_2 _ _,init (A:=A.in1) (s:={ s with heap:=s.heap.push { cls:=.type "list",data:=.seq #[] } }) hh (hit.at λo e=>ahj _ e) (hl.at λo e=>ahj _ e) cF hlen _ (aiM lt1) (aiM lt2) hS λg1 tk dk c' hk rN lS=>?_⟩;exact⟨rfl,hQ g1 tk dk c' (λb o hb e=>hk b o (ahS (ahA e)) hb (ahj _ e)) rN lS⟩
end
end Lr
end L2
namespace L2
def nm (E:List Nat)(c:Nat):Nat:=E.getD c 0
def qN (R:Za2)(E:List Nat)(a:Nat)(z:Int)(b:Nat):Prop:=∃a' b',R a' z b'/\nm E a'=a/\nm E b'=b
def fN (x y a:Nat):Nat:=if a=y then x else a
theorem zr {u v:Nat}(h:u<v)(E:List Nat)(c:Nat):nm (E.map (fN u v)) c=fN u v (nm E c):=by
 unfold nm;rw[ahh,ahh,ahw]
 cases E[c]? with
 |some x=>rfl
 |none=>show 0=fN u v 0;unfold fN;rw[ahq (by omega)]
def MA (u v:Nat)(W:Za2)(a:Nat)(z:Int)(b:Nat):Prop:=∃a' b',W a' z b'/\fN u v a'=a/\fN u v b'=b
inductive One (ws:Za3) (nr:Nat):List Nat->(Za2)->Dt->List Nat->(Za2)->Prop
 |meet {E:List Nat} {W:Za2} {c u v:Nat} {z:Int}:u<v->E[u]?=some u->E[v]?=some v->W c z u->W c z v->One ws nr E W (gU c z u v) (E.map (fN u v)) (MA u v W)
 |rule {E:List Nat} {W:Za2} {which k c d:Nat} {word:List Int} {p:List Nat} {z:Int}:ws[which]?=some word->p.length=word.length+ 1->p[0]?=p[word.length]?->(which<nr\/p[0]?=some 0)->(∀x∈p,E[x]?=some x)->word[k]?=some z->p[k]?=some c->p[k+ 1]?=some d->
  (∀(i a b:Nat) (y:Int),i≠k->word[i]?=some y->p[i]?=some a->p[i+ 1]?=some b->W a y b)->One ws nr E W (mW which p k) E (et W c z d)
inductive Go (ws:Za3) (nr:Nat):List Nat->(Za2)->List Dt->List Nat->(Za2)->Prop
 |nil {E:List Nat} {W W':Za2}:(∀a z b,W a z b↔W' a z b)->Go ws nr E W [] E W'
 |cons {E E1 E2:List Nat} {W W1 W2:Za2} {row:Dt} {ms:List Dt}:One ws nr E W row E1 W1->Go ws nr E1 W1 ms E2 W2->Go ws nr E W (row::ms) E2 W2
section
variable {ws:Za3}{nr:Nat}{E E1 E2:List Nat}{W W' W1 W2:Za2}{ms ns:List Dt}
theorem Go.congr (h:Go ws nr E W ms E1 W1):∀{W':Za2},(∀a z b,W' a z b↔W a z b)->Go ws nr E W' ms E1 W1:=by
 induction h with
 |nil e=>exact λh=>.nil λa z b=>(h a z b).trans (e a z b)
 |cons o _ ih=>
  intro W' h
  cases o with
  |meet h1 h2 h3 h4 h5=>exact .cons (.meet h1 h2 h3 ((h _ _ _).mpr h4) ((h _ _ _).mpr h5)) (ih λa z b=>by
   constructor
   ·rintro ⟨a',b',q,r⟩;exact⟨a',b',(h _ _ _).mp q,r⟩
   ·rintro ⟨a',b',q,r⟩;exact⟨a',b',(h _ _ _).mpr q,r⟩)
  |rule h1 h2 h3 h4 h5 h6 h7 h8 h9=>exact .cons (.rule h1 h2 h3 h4 h5 h6 h7 h8 λi a b y q1 q2 q3 q4=>(h _ _ _).mpr (h9 i a b y q1 q2 q3 q4)) (ih λa z b=>by
   unfold et;rw[h])
theorem Go.app (h:Go ws nr E W ms E1 W1):∀{E2:List Nat} {W2:Za2} {ns:List Dt},Go ws nr E1 W1 ns E2 W2->Go ws nr E W (ms++ns) E2 W2:=by
 induction h with
 |nil e=>exact λg=>g.congr e
 |cons o _ ih=>exact λg=>.cons o (ih g)
end
theorem Q6 {R:Za2}{E:List Nat}{u v:Nat}(h:u<v)(a:Nat)(z:Int)(b:Nat):MA u v (qN R E) a z b↔qN R (E.map (fN u v)) a z b:=by
 constructor
 ·rintro ⟨a',b',⟨a1,b1,r,rfl,rfl⟩,e1,e2⟩;exact⟨a1,b1,r,by rw[zr h,e1],by rw[zr h,e2]⟩
 ·rintro ⟨a1,b1,r,e1,e2⟩;exact⟨_,_,⟨a1,b1,r,rfl,rfl⟩,by rw[←zr h,e1],by rw[←zr h,e2]⟩
section
variable {ws:Za3}{nr:Nat}{S S':RS}{pend:List Way}{R:Za2}{ks:List Int}
theorem uk {S:RS}(wf:S.Wf){c:Nat}(hc:c<S.made):S.aB[c]?=some (S.ay c):=by
 unfold RS.ay;rw[ahh,ahc (by rw[wf.e];exact hc)];rfl
theorem Kr (l:si S pend S'):Good S pend R->(∀c z d,R c z d->z∈ks)->∃ms,S'.rows=S.rows++ms/\Go ws nr S.aB (qN R S.aB) ms S'.aB (qN R S'.aB):=by
 induction l with
 |nil S=>exact λ_ _=>⟨[],(ahU _).symm,.nil λ_ _ _=>Iff.rfl⟩
 | @take S S' pend w _ ih=>
   intro g hk;obtain⟨g1,_,m1,_,q⟩:=g.take hk;obtain⟨ms,e1,go⟩:=ih g1 hk;rcases q with ⟨_,er,ew⟩|⟨_,c,z,x,y,hx,iy,hy,ey,gI,er,_,el⟩
   ·rw[xE ew]at go;exact⟨ms,by rw[e1,er],go⟩
   ·obtain⟨_,Oj,_,ex⟩:=g.st _ _ _ hx;have Eb:min x y<max x y:=by rcases Nat.lt_or_gt_of_ne gI with q|q <;> omega
    have eE:(S.takeIn pend w).1.aB=S.aB.map (fN (min x y) (max x y)):=by
     refine ajm λi=>?_
     rw[ahw];by_cases hi:i<S.made
     ·rw[uk g1.wf (by rw[m1];exact hi),uk g.wf hi,el];rfl
     ·rw[ahR (by rw[g1.wf.e,m1];omega),ahR (by rw[g.wf.e];omega)];rfl
    have ix:qN R S.aB c z x:=g.so _ _ _ hx;have iy:qN R S.aB c z y:=iy;have sx:=uk g.wf Oj;have sy:=uk g.wf hy;rw[ex]at sx;rw[ey]at sy;refine⟨gU c z (min x y) (max x y)::ms,by rw[e1,er,aia];rfl,.cons (.meet Eb ?_ ?_ ?_ ?_) ((eE ▸ go).congr λa s b=>Q6 Eb a s b)⟩
    ·rcases ajL x y with q|q
     ·rw[aiq q];exact sx
     ·rw[ai0 q];exact sy
    ·rcases ajL x y with q|q
     ·rw[ajx q];exact sy
     ·rw[ajK q];exact sx
    ·rcases ajL x y with q|q
     ·rw[aiq q];exact ix
     ·rw[ai0 q];exact iy
    ·rcases ajL x y with q|q
     ·rw[ajx q];exact iy
     ·rw[ajK q];exact ix
theorem vM {by_:Nat->Int->Option Nat}:∀{w:List Int} {r e:Nat},wk by_ r w=some e->(r::cH by_ r w).length=w.length+ 1/\(r::cH by_ r w)[w.length]?=some e/\∀(i:Nat) (y:Int),w[i]?=some y->∃a b,(r::cH by_ r w)[i]?=some a/\(r::cH by_ r w)[i+ 1]?=some b/\by_ a y=some b
 |[],r,e,h=>by
  refine⟨rfl,by rw[←Za0 h];rfl,λi y q=>by simp at q⟩
 |z::w,r,e,h=>by
  obtain⟨d,h1,h2⟩:=qM h;obtain⟨a1,a2,a3⟩:=vM h2;rw[rS h1];refine⟨by rw[ahE,a1];rfl,a2,λi y q=>?_⟩
  cases i with
  |zero=>exact⟨r,d,rfl,rfl,by rw[←Za0 q];exact h1⟩
  |succ i=>exact a3 i y q
theorem yj (g:Good S [] R):∀{w:List Int} {r e:Nat},wk S.by r w=some e->S.aB[r]?=some r->∀x∈r::cH S.by r w,S.aB[x]?=some x
 |[],r,e,h,hr,x,hx=>by rw[ahg.mp hx];exact hr
 |z::w,r,e,h,hr,x,hx=>by
  obtain⟨d,h1,h2⟩:=qM h;rcases ahp.mp hx with rfl|hx
  ·exact hr
  ·rw[rS h1]at hx;obtain⟨_,hd,_,ed⟩:=g.st _ _ _ h1;have:=uk g.wf hd;rw[ed]at this;exact yj g h2 this x hx
theorem Ee {E:List Nat}{c d:Nat}{z:Int}(hc:nm E c=c)(hd:nm E d=d)(a:Nat)(y:Int)(b:Nat):et (qN R E) c z d a y b↔qN (et R c z d) E a y b:=by
 constructor
 ·rintro (⟨a',b',r,e1,e2⟩|⟨rfl,rfl,rfl⟩|⟨rfl,rfl,rfl⟩)
  ·exact⟨a',b',.inl r,e1,e2⟩
  ·exact⟨_,_,.inr (.inl ⟨rfl,rfl,rfl⟩),hc,hd⟩
  ·exact⟨_,_,.inr (.inr ⟨rfl,rfl,rfl⟩),hd,hc⟩
 ·rintro ⟨a',b',r|⟨rfl,rfl,rfl⟩|⟨rfl,rfl,rfl⟩,e1,e2⟩
  ·exact .inl ⟨a',b',r,e1,e2⟩
  ·exact .inr (.inl ⟨e1.symm.trans hc,rfl,e2.symm.trans hd⟩)
  ·exact .inr (.inr ⟨e1.symm.trans hd,rfl,e2.symm.trans hc⟩)
theorem MB {which start m c d:Nat}{word:List Int}{z:Int}(g:Good S [] R)(ra:Ec ws nr S which word start m c d z):One ws nr S.aB (qN R S.aB) (mW which ((start::cH S.by start (word.take m))++(d::cH S.by d (word.drop (m+ 1)))) m) S.aB (et (qN R S.aB) c z d):=by
 have hm:m<word.length:=(ahd.mp ra.hz).1;obtain⟨f1,f2,f3⟩:=vM ra.f;obtain⟨r1,r2,r3⟩:=vM ra.r;have lt:(word.take m).length=m:=by rw[ah2];omega
 have ld:(word.drop (m+ 1)).length=word.length - (m+ 1):=aiA ..;rw[lt]at f1 f2;rw[ld]at r1 r2;have ss:=uk g.wf ra.s.1;rw[ra.s.2]at ss;have sd:=uk g.wf ra.hd.1;rw[ra.hd.2]at sd;have left:∀i,i<=m->((start::cH S.by start (word.take m))++(d::cH S.by d (word.drop (m+ 1))))[i]?=(start::cH S.by start (word.take m))[i]?:=λi hi=>aht (by rw[f1];omega)
 have right:∀i,((start::cH S.by start (word.take m))++(d::cH S.by d (word.drop (m+ 1))))[m+ 1+ i]?=(d::cH S.by d (word.drop (m+ 1)))[i]?:=λi=>by
  rw[ahs (by rw[f1];omega),f1]
  congr 1
  omega
 refine .rule ra.w (by rw[ahe,f1,r1];omega) ?_ ?_ (λx hx=>?_) ra.hz ?_ ?_ λi a b y hi hy ha hb=>?_
 ·rw[left 0 (by omega),show word.length=m+ 1+ (word.length - (m+ 1)) by omega,right];rw[r2];rfl
 ·rw[left 0 (by omega)];exact ra.n.imp id λe=>by rw[e];rfl
 ·rcases ahx.mp hx with hx|hx
  ·exact yj g ra.f ss x hx
  ·exact yj g ra.r sd x hx
 ·rw[left m (ahi _)];exact f2
 ·rw[right 0];rfl
 ·rcases Nat.lt_or_gt_of_ne hi with q|q
  ·obtain⟨a',b',q1,q2,q3⟩:=f3 i y (by rw[ajl q];exact hy);rw[left i (by omega),q1]at ha;rw[left (i+ 1) (by omega),q2]at hb;obtain rfl:=Za0 ha;obtain rfl:=Za0 hb;exact g.so _ _ _ q3
  ·obtain⟨j,rfl⟩:∃j,i=m+ 1+ j:=⟨i - (m+ 1),by omega⟩;obtain⟨a',b',q1,q2,q3⟩:=r3 j y (by rw[List.getElem?_drop];exact hy);rw[right,q1]at ha;rw[show m+ 1+ j+ 1=m+ 1+ (j+ 1) by omega,right,q2]at hb;obtain rfl:=Za0 ha;obtain rfl:=Za0 hb;exact g.so _ _ _ q3
theorem Xr (t:Tr ws nr S S')(hw:∀w∈ws,∀z∈w,z∈ks/\-z∈ks):Good S [] R->jK S->(∀a z b,R a z b->z∈ks)->∃R',Good S' [] R'/\jK S'/\(∀a z b,R' a z b->z∈ks)/\∃ms,S'.rows=S.rows++ms/\Go ws nr S.aB (qN R S.aB) ms S'.aB (qN R' S'.aB):=by
 induction t with
 |refl=>exact λg w k=>⟨R,g,w,k,[],(ahU _).symm,.nil λ_ _ _=>Iff.rfl⟩
 |step _ ra la ih=>
  rename_i S1 S2 which word start m c d z _;intro g wi k;obtain⟨R1,g1,w1,k1,ms,e1,go1⟩:=ih g wi k;have hz:=hw word (ahf ra.w) z (ahf ra.hz)
  have pK:∀a y b,et R1 c z d a y b->y∈ks:=by
   rintro a y b (r|⟨_,e,_⟩|⟨_,e,_⟩)
   ·exact k1 _ _ _ r
   ·rw[e];exact hz.1
   ·rw[e];exact hz.2
  have gl:=g1.lay z ra.hc.1 ra.hd.1 (S1.rows++[mW which ((start::cH S1.by start (word.take m))++(d::cH S1.by d (word.drop (m+ 1)))) m]);obtain⟨g2,w2,_⟩:=la.all gl pK ⟨w1.a,w1.b,w1.c⟩;obtain⟨ns,e2,go2⟩:=Kr (ws:=ws) (nr:=nr) la gl pK;refine⟨_,g2,w2,pK,ms++(_::ns),?_,go1.app (.cons (MB g1 ra) (go2.congr λa y b=>Ee ra.hc.2 ra.hd.2 a y b))⟩;rw[e2];show (S1.rows++[_])++ns=_;rw[e1,aia,aia];rfl
end
end L2
namespace L2
open PySem PySem.Spec PyProof.Rows
def Ya (prog:Program)(w:World)(A:Around)(env:Env):List Expr->(Bool->Shared->Prop)->Shared->Prop
 |[],K,s=>K true s
 |c::_,K,s=>wpAny (model prog w) A (isTrue c env (eval c env)) K (λ_ _=>False) s
theorem Ef {prog:Program}{w:World}{A:Around}{R:Result->Shared->Prop}{s:Shared}{elt target iter:Expr}{cs:List Expr}{scope:Scope}{pos:Pos}{it acc:Value}{env:Env}(hl:cs.length<=1)(I:Nat->Shared->Prop)
 (turn:∀n s,I n s->wpAny (model prog w) A (pyNext it) (λr bO=>match r with
  |none=>R (.ok .next) bO
  |some v=>wpAny (model prog w) A (letOwnedTupleGo target it v) (λ_ dA=>wpAny (model prog w) A (assign target env v) (λ_ iq=>Ya prog w A env cs (λb Av=>
   match b with
   |true=>wpAny (model prog w) A (eval elt env) (λx sh=>wpAny (model prog w) A (call (.builtin "list.append") [acc,x]) (λ_ x8=>∃m,m<n/\I m x8) (λ_ _=>False) sh) (λ_ _=>False) Av
   |false=>∃m,m<n/\I m Av) iq) (λ_ _=>False) dA) (λ_ _=>False) bO) (λ_ _=>False) s)
 (n:Nat) (h:I n s):codeAny (model prog w) A (.compLoop (.ListComp elt [⟨target,iter,cs,0⟩] scope pos) 0 it acc env) R s:=
 match cs,hl,turn with
 |[],_,turn=>FP I turn n h
 |[_],_,turn=>Ct I turn n h
def Oq (X:Cx):List Expr->TT->Prop
 |[],tt=>tt=λ_ H Q=>Q true H
 |c::_,tt=>PT X c tt
theorem Q7 {X:Cx}{cs:List Expr}{tt:TT}{pins:List (Addr×Obj)}{σ:St}{H:Hp}{s:Shared}{Q:Bool->Hp->Prop}{K:Bool->Shared->Prop}(h:Oq X cs tt)(hx:X.xe=λ_ _=>False)(I:Inv X pins σ H s)(q:tt σ H Q)(k:∀b s' H',Inv X pins σ H' s'->Q b H'->K b s'):Ya X.prog X.w X.A X.env cs K s:=
 match cs,h with
 |[],h=>by
  have h:tt=λ_ H Q=>Q true H:=h
  rw[h]at q;exact k true s H I q
 |c::_,h=>by
  have:=h pins s σ H Q I q;rw[hx]at this;exact bK this λb s' ⟨H',I',q'⟩=>k b s' H' I' q'
section
variable {X:Cx}{elt iter zb:Expr}{x:Str}{px pos:Pos}{scope:Scope}{cl:List (Str×Addr)}{fns:List Str}{ixs:List Nat}{wi:TI}{tt:TT}{te:TE}
theorem BP {cs:List Expr}{use:Option (Value->Sem Unit)}{RQ:Value->Shared->Prop}{pins:List (Addr×Obj)}{s:Shared}{σ:St}{H:Hp}{Q:VK}{cR:Pos}(hl:cs.length<=1)(hc:X.calm=true)(hi:PI X (.Name x px) iter wi)(S:fi X x fns ixs scope cl)
 (ht:∀(C:Addr) (s:Shared) (H:Hp) (ex:List Addr),Oq (dY X (x::fns) scope cl C s H ex) cs tt) (he:∀(C:Addr) (s:Shared) (H:Hp) (ex:List Addr),PE (dY X (x::fns) scope cl C s H ex) elt te)
 (hs:∀x,foldedSetIterable iter X.env x=pure x) (I:Inv X pins σ H s) (h:tf wi (jl ixs) tt te σ H Q)
 (fin:∀(C D:Addr) (H3:Hp) (ys:List V) (s4:Shared) (m:Str->Option Value),s4.heap.Ns C m->(∀jb,Heap.SameBut C s4.heap jb->Inv X pins σ (upd H3 D (.lst ys)) { s4 with heap:=jb })->upd H3 D (.lst ys) C=none->X.env.locals≠C->(∀z c,X.env.cells.lookup z=some c->c≠C)->X.dA.heap.objs.size<=C->(∀p∈X.pn++pins,p.1≠C)->Q (.ref D) (upd H3 D (.lst ys))->compPost (model X.prog X.w) X.A X.xe use RQ (.ref D) C (.ok .next) s4):
 wpAny (model X.prog X.w) X.A (comprehension (.ListComp elt [⟨.Name x px,iter,cs,0⟩] scope pos) scope X.env cR (newList []) false (eval iter X.env) use) RQ X.xe s:=by
 refine wpAny_comprehension_free rfl hs S.Dq S.kind S.names (bK (hi pins s σ H _ I h) λv s1 h1=>bK h1 λSb s2 h2=>?_);obtain⟨it,fp,tn,J,H2,e,I2,T,vi,f2,W,⟨m0,w0⟩,turn⟩:=h2;subst e
 have zt:∀b∈fp,b<s2.heap.objs.size:=λb hb=>by
  obtain⟨o,ho,_⟩:=T.obj _ _ vi b hb;exact ahA ho
 refine ah8 (wpAny_newFunctionEnv S.cell (by intro y hy;simp at hy) (λfH zu zv=>?_) S.kind);dsimp only at zu zv ⊢;generalize Uq:s2.heap.push { cls:=.type "list",dict:=none,data:=.seq ([]:List Value).toArray }=tI at zu zv ⊢;generalize hD:s2.heap.objs.size=D at zt ⊢;have hC:tI.objs.size=D+ 1:=by rw[←Uq,ajz,hD]
 generalize hCe:tI.objs.size=C at hC zu zv ⊢;have um:D<C:=by omega
 have Eg:D≠C:=ahS um;have xF:∀b u,s2.heap.get? b=some u->tI.get? b=some u:=λb u q=>by rw[←Uq];exact ahj _ q
 have Ot:∀{b u},s2.heap.get? b=some u->b<D:=λq=>by rw[←hD];exact ahA q
 have Eh:∀b u,tI.get? b=some u->fH.get? b=some u:=λb u q=>
  zv.extBut b u (ahS (ahP (ahA q) (ajV hCe))) (ahj _ q)
 have hDo:tI.get? D=some { cls:=.type "list",dict:=none,data:=.seq ([]:List Value).toArray }:=by rw[←Uq,←hD];exact ahz _ rfl
 have I3:Inv X pins σ H2 { s2 with heap:=tI }:=I2.kept (t':=s2.toks) xF;have Ou:H2 D=none:=I2.bu.fresh (by omega);have hnC:H2 C=none:=I2.bu.fresh (by omega)
 have Ei:∀b∈D::fp,b∉lA X.stack:=λb hb z=>by
  rcases ahp.mp (I2.C0 b z) with e|z
  ·rcases ahp.mp hb with e2|hb
   ·exact absurd I2.lt (by rw[←e,e2,←hD];exact aie _)
   ·exact(f2 b hb).2.1 e
  ·rcases ahp.mp hb with e2|hb
   ·exact I2.RN (by rw[e2,←hD];exact ahi _) z
   ·exact(f2 b hb).2.2.1 z
 have ve:∀y c,cl.lookup y=some c->∀b∈D::fp,c≠b:=λy c q b hb z=>by
  obtain⟨v,hv⟩:=I2.cell y c (S.sub y c q);rcases ahp.mp hb with e2|hb
  ·exact absurd hv.lt (by rw[z,e2,←hD];exact aie _)
  ·exact(f2 b hb).2.2.2.2.1 y c (S.sub y c q) z
 -- the block's context
 let Xc:Cx:=dY X (x::fns) scope cl C { s2 with heap:=tI } H2 (D::fp)
 have ok:Xc.Ok:={
  mod:=I2.ok.mod
  kind:=S.kind
  glob:=I2.ok.glob
  blt:=I2.ok.blt
  above:=by show tI.objs.size<=C;omega
  inj:=λy z c q1 q2=>I2.ok.inj y z c (S.sub _ _ q1) (S.sub _ _ q2)
  has:=S.has
  F6:=λy c q=>nomatch q
  hd:=I2.ok.hd
  frames:=I2.ok.frames
  Jf:=.inl rfl
  RM:=λb hb=>⟨by
   rcases ahp.mp hb with e2|hb
   ·rw[e2];exact Eg
   ·exact ahS (ajX (zt b hb) um),λy c q=>ve y c q b hb⟩
  bs:=I3.bs
  yM:=ahC I3.ok.yM I3.sz
  Am:=λb o q hb=>by
   rcases ahp.mp hb with e2|hb
   ·exact absurd (Ot (I2.bs b o q).1) (by rw[e2];exact aie _)
   ·rcases (f2 b hb).2.2.2.1 with z|z
    ·exact I2.ok.Am b o q z
    ·exact absurd (ahA (I2.ok.bs b o q).1) (Nat.not_lt.mpr z)
  CZ:=Ei
  mP:=I3.stack
  A9:=I3.F7 }
 have start:∀(v0:Option V),v0=none->Inv Xc [(D,{ cls:=.type "list",dict:=none,data:=.seq ([]:List Value).toArray })] (v0::jl ixs σ) H2 { s2 with heap:=fH,toks:=s2.toks+ ([]:List (Str×Value)).length }:=λv0 hv0=>{
  ok:=ok
  os:=rfl
  bare:=I2.bare
  base:=Un.kept Eh
  loc:=⟨_,zu,λi y v e1 e2 e3=>by
   cases i with
   |zero=>rw[hv0]at e2;cases e2
   |succ j=>
    have DP:fns[j]?=some y:=e1
    have BD:(jl ixs σ)[j]?=some (some v):=e2
    obtain⟨i,hi1,hi2,hk,c,oH,lH⟩:=S.at_ j y DP;unfold jl at BD;rw[ahw,hi1]at BD
    have e3':σ[i]?=some (some v):=by
     have z:(σ[i]?).join=some v:=Za0 BD
     cases q:σ[i]? with
     |none=>rw[q]at z;cases z
     |some o=>rw[q]at z;rw[show o=some v from z]
    obtain⟨m,_,hl⟩:=I2.loc;obtain⟨u,r,l⟩:=hl i y v hi2 e3' (hk.elim (λz=>.inr (.inl z)) λz=>.inr (.inr z));refine⟨u,r,.inr ⟨lH,c,oH,?_⟩⟩;rcases l with ⟨z,_⟩|⟨_,c',NW,CH⟩
    ·rcases hk with hk|hk <;> (rw[hk]at z;cases z)
    ·have:c'=c:=Za0 (NW.symm.trans (S.sub _ _ oH));subst this;obtain⟨o,ho,hd⟩:=CH;exact⟨o,Eh _ _ (xF _ _ ho),hd⟩⟩
  cell:=λy c q=>by
   obtain⟨v,o,ho,hd⟩:=I2.cell y c (S.sub y c q);exact⟨v,o,Eh _ _ (xF _ _ ho),hd⟩
  free:=hnC
  ke:=λy c q=>I2.ke y c (S.sub y c q)
  pin:=λp hp=>by
   have qO:p=(D,{ cls:=.type "list",dict:=none,data:=.seq ([]:List Value).toArray }):=by simpa [Xc,dY] using hp
   subst qO;exact⟨Eh _ _ hDo,Ou,Eg,Ei D (ahv ..),λv z=>nomatch z⟩
  bu:=(I2.bu.kept xF).kept Eh
  len:=by show (v0::jl ixs σ).length=(x::fns).length;simp[jl,S.len] }
 -- what stays true of the iterator's objects
 have Ur:∀{H':Hp} {t5:List (Addr×Obj)},(∀b∈fp,H' b=none)->(∀p∈t5,p.1=D)->∀b∈fp,t7 Xc t5 H' b:=λ{H' t5} hn hp b hb=>
  ⟨hn b hb,ahS (ajX (zt b hb) um),Ei b (ahL _ hb),.inl (ahL _ hb),λy c q=>ve y c q b (ahL _ hb),λp q=>by
   have q':p∈t5:=by simpa [Xc,dY] using q
   rw[hp p q'];exact aiM (zt b hb)⟩
 have loop:codeAny (model X.prog X.w) X.A (.compLoop (.ListComp elt [⟨.Name x px,iter,cs,0⟩] scope pos) 0 (.ref it) (.ref D) (compEnvC scope cl C X.env))
  (compPost (model X.prog X.w) X.A X.xe use RQ (.ref D) C) { s2 with heap:=fH,toks:=s2.toks+ ([]:List (Str×Value)).length }:=by
  refine Ef hl (λn s'=>∃(i:Nat) (ys:List V) (its:List Value) (nn:Nat) (v0:Option V) (H':Hp),Inv Xc [(D,{ cls:=.type "list",dict:=none,data:=.seq its.toArray nn })] (v0::jl ixs σ) H' s'/\tn i s'.heap/\(∀b∈fp,H' b=none)/\Vals ys its/\W i n ys H') ?_ m0
   ⟨0,[],[],0,none,H2,start none rfl,T.keep _ _ _ vi λb _ o q=>Eh _ _ (xF _ _ q),λb hb=>(f2 b hb).1,.nil,w0⟩
  rintro n s3 ⟨i,ys,its,nn,v0,H3,J3,Yb,Jl,vv,w3⟩
  have MC:∀p∈([(D,({ cls:=.type "list",dict:=none,data:=.seq its.toArray nn }:Obj))]:List (Addr×Obj)),p.1=D:=λp hp=>by
   have:p=(D,{ cls:=.type "list",dict:=none,data:=.seq its.toArray nn }):=by simpa using hp
   rw[this]
  rcases turn i n ys H3 w3 with ⟨stop,hlen,q⟩|⟨go,hlen,step⟩
  ·-- the end
   refine bK (T.done Xc rfl rfl rfl hc i _ s3 _ H3 _ J3 (Ur Jl MC) Yb stop) λr s4 ⟨hr,J4⟩=>?_
   subst hr;obtain⟨m,hn,_⟩:=J4.loc;obtain⟨gD,nD,_,_,_⟩:=J4.pin (D,{ cls:=.type "list",dict:=none,data:=.seq its.toArray nn }) (by simp[Xc,dY]);have B:=J4.base
   have inv:∀jb,Heap.SameBut C s4.heap jb->Inv X pins σ (upd H3 D (.lst ys)) { s4 with heap:=jb }:=λjb Us=>by
    have kC:∀b u,b≠C->s4.heap.get? b=some u->jb.get? b=some u:=λb u hb q=>(Us.2 b hb).trans q
    have ne:∀{b o},s2.heap.get? b=some o->b≠C/\b≠D:=λq=>⟨ahS (ajX (Ot q) um),ahS (Ot q)⟩
    have zx:∀{b o},s2.heap.get? b=some o->b∉fp->b∉D::fp:=λq hx z=>(ahp.mp z).elim (ne q).2 hx
    have uu:Un (lA X.stack) fp H2 (upd H3 D (.lst ys)) s2.heap jb:={
     keep:=λb o q n hb hx=>kC b o (ne q).1 (B.keep b o (xF b o q) n hb (zx q hx))
     slot:=λb o q n hb hx=>by
      obtain⟨sl,e⟩:=B.slot b o (xF b o q) n hb (zx q hx);exact⟨sl,kC b _ (ne q).1 e⟩
     free:=λb o q n hx=>by rw[av (ne q).2];exact B.free b o (xF b o q) n (zx q hx)
     there:=λb o q hx=>by
      obtain⟨o',e⟩:=B.there b o (xF b o q) (zx q hx);exact⟨o',kC b _ (ne q).1 e⟩
     qc:=λb xs q=>by rw[av (aI q Ou)];exact B.qc b xs q
     mO:=λb o xs q=>by rw[av (aI q Ou)];exact B.mO b o xs q
     qe:=λb ps q=>by
      obtain⟨more,e⟩:=B.qe b ps q;exact⟨more,by rw[av (aI q Ou)];exact e⟩ }
    have bu:fw X.prog X.w (upd H3 D (.lst ys)) jb:=λb u e=>by
     by_cases hb:b=D
     ·subst hb;rw[aj]at e;cases e;exact⟨hlen,its,nn,vv,kC _ _ Eg gD⟩
     ·rw[av hb]at e;refine(J4.bu b u e).sg (λc v hc q=>kC c v ?_ q) (λc q=>by rw[av (aI q nD)];exact q) λc xs q=>by rw[av (aI q nD)];exact q
      have fC:H3 C=none:=J4.free;rcases hc with rfl|hc
      ·exact aI e fC
      ·exact aI hc fC
    exact I2.WC (s':={ s4 with heap:=jb }) J4.os uu bu J4.bare (λb hb=>⟨(f2 b hb).2.2.2.1,(f2 b hb).2.1,(f2 b hb).2.2.2.2.1,(f2 b hb).2.2.2.2.2⟩)
   have ab:∀{b o},s2.heap.get? b=some o->b≠C:=λq z=>absurd (Ot q) (by rw[z];exact Nat.not_lt.mpr (Nat.le_of_lt um))
   refine fin C D H3 ys s4 m hn inv (by rw[av (ail Eg)];exact J4.free) (λz=>?_) (λz c hz=>?_) (ahC (by have:=I2.sz;rw[hD]at this;exact this) (Nat.le_of_lt um)) (λp hp=>ab (I2.pin p hp).1) (q D nD)
   ·have h1:=I2.lt;rw[hD,z]at h1;exact absurd (ajX h1 um) (aie _)
   ·obtain⟨v,o,ho,_⟩:=I2.cell z c hz;exact ab ho
  ·-- a turn
   refine bK (T.item Xc rfl rfl rfl hc i _ s3 _ H3 _ J3 (Ur Jl MC) Yb go) λr s4 ⟨u,hr,h4⟩=>?_
   subst hr;refine bK h4 λ_ s5 ⟨xv,H5,J5,r5,y5,Ks,Se⟩=>?_
   have J5':=J5.pinned (Ur Se MC) (T.obj _ _ Ks);have hg:PG Xc (.Name x px) (eM 0):=bQ (X:=Xc) (i:=0) S.nd rfl (.inl (xx S.own)) (.inr (xx S.own));refine bK (hg _ s5 _ H5 xv u (λ aX H'=>aX=some xv::jl ixs σ/\H'=H5) J5' r5 ⟨rfl,rfl⟩) λ_ s6 ⟨XJ,H6,J6,e6,e6'⟩=>?_
   subst e6 e6';refine Q7 (ht C { s2 with heap:=tI } H2 (D::fp)) rfl J6 (step xv H6 y5) λbt Yc Ut Kt q6=>?_
   cases bt with
   |true=>
    refine bK (he C { s2 with heap:=tI } H2 (D::fp) _ Yc _ Ut _ Kt q6) λyv s7 ⟨y,H7,J7,r7,m',zy,w7⟩=>?_
    obtain⟨gD,nD,_,_,_⟩:=J7.pin (D,{ cls:=.type "list",dict:=none,data:=.seq its.toArray nn }) (by simp[Xc,dY]);have Uu:tn (i+ 1) s7.heap:=T.keep _ _ _ Ks λb hb o e=>(J7.pin (b,o) (ahn _ (ahn _ (jD hb e)))).1
    have Uv:∀b∈fp,H7 b=none:=λb hb=>by
     obtain⟨o,e,d⟩:=T.obj _ _ Ks b hb;exact(J7.pin (b,o) (ahn _ (ahn _ (jD hb e)))).2.1
    have J7':Inv Xc [] (some xv::jl ixs σ) H7 s7:=J7.sU λp hp=>nomatch hp
    refine wpAny_list_append_plain (hsz:=by rw[ahm,←vv.length];omega) ⟨nn,gD⟩ λh8 pl8 Yd=>?_
    obtain⟨n8,g8⟩:=pl8
    have J8:Inv Xc [] (some xv::jl ixs σ) H7 { s7 with heap:=h8 }:=J7'.turned (t':=s7.toks) (it:=D) (λb o hb e=>(Yd.2 b hb).trans e) nD (Eg) (.inl (ahv ..))
     (λy c q=>ve y c q D (ahv ..)) (λp hp=>by simp[Xc,dY]at hp)
    refine⟨m',zy,i+ 1,ys++[y],its++[yv],n8,some xv,H7,J8.sU λp hp=>?_,?_,Uv,vv.append (.cons r7 .nil),w7⟩
    ·have:p=(D,{ cls:=.type "list",dict:=none,data:=.seq (its++[yv]).toArray n8 }):=by simpa using hp
     subst this;refine⟨?_,nD,Eg,Ei D (ahv ..),λv z=>nomatch z⟩;have:its.toArray.push yv=(its++[yv]).toArray:=by simp
     rw[this]at g8;exact g8
    ·exact T.keep _ _ _ Uu λb hb o e=>(Yd.2 b (ahS (zt b hb))).trans e
   |false=>
    obtain⟨m',zy,w7⟩:=q6;obtain⟨gD,nD,_,_,_⟩:=Kt.pin (D,{ cls:=.type "list",dict:=none,data:=.seq its.toArray nn }) (by simp[Xc,dY]);have Uu:tn (i+ 1) Yc.heap:=T.keep _ _ _ Ks λb hb o e=>(Kt.pin (b,o) (ahn _ (ahn _ (jD hb e)))).1
    have Uv:∀b∈fp,Ut b=none:=λb hb=>by
     obtain⟨o,e,d⟩:=T.obj _ _ Ks b hb;exact(Kt.pin (b,o) (ahn _ (ahn _ (jD hb e)))).2.1
    refine⟨m',zy,i+ 1,ys,its,nn,some xv,Ut,Kt.sU λp hp=>?_,Uu,Uv,vv,w7⟩;have:p=(D,{ cls:=.type "list",dict:=none,data:=.seq its.toArray nn }):=by simpa using hp
    subst this;exact⟨gD,nD,Eg,Ei D (ahv ..),λv z=>nomatch z⟩
 exact codeAny_compStart_list loop (T.self _ 0 _ _ _ (T.keep _ _ _ vi λb _ o q=>Eh _ _ (xF _ _ q)) loop)
theorem Ej {cs:List Expr}(hl:cs.length<=1)(hc:X.calm=true)(hi:PI X (.Name x px) iter wi)(S:fi X x fns ixs scope cl)(ht:∀(C:Addr) (s:Shared) (H:Hp) (ex:List Addr),Oq (dY X (x::fns) scope cl C s H ex) cs tt)
 (he:∀(C:Addr) (s:Shared) (H:Hp) (ex:List Addr),PE (dY X (x::fns) scope cl C s H ex) elt te) (hs:∀x,foldedSetIterable iter X.env x=pure x):PE X (.ListComp elt [⟨.Name x px,iter,cs,0⟩] scope pos) (tf wi (jl ixs) tt te):=by
 intro pins s σ H Q I h;rw[eval_ListComp];exact BP hl hc hi S ht he hs I h λC D H3 ys s4 m hn inv _ _ _ _ _ q=>⟨m,hn,λjb Us=>⟨.ref D,_,inv jb Us,rfl,q⟩⟩
theorem xG {cs:List Expr}{iy:Nat}{y:Str}{py vN:Pos}(hl:cs.length<=1)(hN:X.N.Nodup)(Ku:X.N[iy]?=some y)(hy:Loc X.env.scope y)(hc:X.calm=true)(hi:PI X (.Name x px) iter wi)(S:fi X x fns ixs scope cl)(ht:∀(C:Addr) (s:Shared) (H:Hp) (ex:List Addr),Oq (dY X (x::fns) scope cl C s H ex) cs tt)
 (he:∀(C:Addr) (s:Shared) (H:Hp) (ex:List Addr),PE (dY X (x::fns) scope cl C s H ex) elt te) (hs:∀x,foldedSetIterable iter X.env x=pure x) (Kv:swapsWith (.ListComp elt [⟨.Name x px,iter,cs,0⟩] scope pos) (some (.Name y py)) vN.line X.env=pure true)
 (Kw:X.fn y=true\/X.env.scope.names.lookup y=some .local):PS X (.Assign [.Name y py] (.ListComp elt [⟨.Name x px,iter,cs,0⟩] scope pos) vN) (C6 (tf wi (jl ixs) tt te) (eM iy)):=by
 intro pins s σ H DD I h;rw[exec_Assign_Name_used _ _ _ _ Kv];refine ahb (wpAny_standAt (ahb ?_));show wpAny _ X.A (do let _ ←comprehension (.ListComp elt [⟨.Name x px,iter,cs,0⟩] scope pos) scope X.env _ (newList []) false (eval iter X.env) (some (assign (.Name y py) X.env))) _ _ s;refine ahb (aiF (BP (RQ:=λ_ s'=>SP X pins DD .next s') hl hc hi S ht he hs I h λC D H3 ys s4 m hn inv hCn cL cC sz pn q=>?_) (λ_ s' hq=>ahk (ahk hq)) λ_ _ e=>e);show wpAny _ X.A (assign (.Name y py) X.env (.ref D)) _ _ _;refine wpAny_assign_Name (Ba (inv _ ⟨rfl,λ_ _=>rfl⟩) hN Ku hy (v:=.ref D) rfl (λs5 I6 Xs=>?_) Kw);obtain⟨a5,sb5,ha5⟩:=Xs
 have F8:C≠a5:=by
  rcases ha5 with e|e
  ·rw[e];exact ail cL
  ·exact ail (cC y a5 e)
 refine⟨m,hn.sameBut sb5 F8,λh6 sb6=>?_⟩;exact⟨_,_,I6.turned (t':=s5.toks) (it:=C) (λb o hb e=>(sb6.2 b hb).trans e) hCn (ail cL) (.inr sz) cC pn,q⟩
theorem dQ (hc:X.calm=true)(hi:PI X (.Name x px) iter wi)(S:fi X x fns ixs scope cl)
 (he:∀(C:Addr) (s:Shared) (H:Hp) (ex:List Addr),PE (dY X (x::fns) scope cl C s H ex) elt te)
 (hs:∀x,foldedSetIterable iter X.env x=pure x:=by intro _;rfl):
 PE X (.ListComp elt [⟨.Name x px,iter,[],0⟩] scope pos) (HV wi (jl ixs) te):=Ej (cs:=[]) (by decide) hc hi S (λ_ _ _ _=>rfl) he hs
theorem pQ (hc:X.calm=true)(hi:PI X (.Name x px) iter wi)(S:fi X x fns ixs scope cl)
 (ht:∀(C:Addr) (s:Shared) (H:Hp) (ex:List Addr),PT (dY X (x::fns) scope cl C s H ex) zb tt) (he:∀(C:Addr) (s:Shared) (H:Hp) (ex:List Addr),PE (dY X (x::fns) scope cl C s H ex) elt te)
 (hs:∀x,foldedSetIterable iter X.env x=pure x:=by intro _;rfl):
 PE X (.ListComp elt [⟨.Name x px,iter,[zb],0⟩] scope pos) (tf wi (jl ixs) tt te):=Ej (cs:=[zb]) (ahi _) hc hi S ht he hs
theorem xH {iy:Nat}{y:Str}{py vN:Pos}(hN:X.N.Nodup)(Ku:X.N[iy]?=some y)(hy:Loc X.env.scope y)(hc:X.calm=true)(hi:PI X (.Name x px) iter wi)(S:fi X x fns ixs scope cl)
 (he:∀(C:Addr) (s:Shared) (H:Hp) (ex:List Addr),PE (dY X (x::fns) scope cl C s H ex) elt te)
 (hs:∀x,foldedSetIterable iter X.env x=pure x:=by intro _;rfl) (Kv:swapsWith (.ListComp elt [⟨.Name x px,iter,[],0⟩] scope pos) (some (.Name y py)) vN.line X.env=pure true:=by rfl)
 (Kw:X.fn y=true\/X.env.scope.names.lookup y=some .local:=by first|exact .inl rfl|exact .inr rfl|assumption):
 PS X (.Assign [.Name y py] (.ListComp elt [⟨.Name x px,iter,[],0⟩] scope pos) vN) (C6 (HV wi (jl ixs) te) (eM iy)):=xG (cs:=[]) (by decide) hN Ku hy hc hi S (λ_ _ _ _=>rfl) he hs Kv Kw
theorem Cw {iy:Nat}{y:Str}{py vN:Pos}(hN:X.N.Nodup)(Ku:X.N[iy]?=some y)(hy:Loc X.env.scope y)(hc:X.calm=true)(hi:PI X (.Name x px) iter wi)(S:fi X x fns ixs scope cl)
 (ht:∀(C:Addr) (s:Shared) (H:Hp) (ex:List Addr),PT (dY X (x::fns) scope cl C s H ex) zb tt) (he:∀(C:Addr) (s:Shared) (H:Hp) (ex:List Addr),PE (dY X (x::fns) scope cl C s H ex) elt te)
 (hs:∀x,foldedSetIterable iter X.env x=pure x:=by intro _;rfl) (Kv:swapsWith (.ListComp elt [⟨.Name x px,iter,[zb],0⟩] scope pos) (some (.Name y py)) vN.line X.env=pure true:=by rfl)
 (Kw:X.fn y=true\/X.env.scope.names.lookup y=some .local:=by first|exact .inl rfl|exact .inr rfl|assumption):
 PS X (.Assign [.Name y py] (.ListComp elt [⟨.Name x px,iter,[zb],0⟩] scope pos) vN) (C6 (tf wi (jl ixs) tt te) (eM iy)):=xG (cs:=[zb]) (ahi _) hN Ku hy hc hi S ht he hs Kv Kw
end
theorem Kx {a1 a2 a3 a4 a5 a6 a7 a8 a9 qL z:TS}{D:Ends}{σ:St}{H:Hp}(h:let D0:Ends:=D;let BI:TS:=z;let u9:TS:=aH qL BI;let u8:TS:=aH a9 u9;let u7:TS:=aH a8 u8;let u6:TS:=aH a7 u7;let u5:TS:=aH a6 u6;let u4:TS:=aH a5 u5;let u3:TS:=aH a4 u4;let u2:TS:=aH a3 u3;let u1:TS:=aH a2 u2;aH a1 u1 D0 σ H):(aH a1 (aH a2 (aH a3 (aH a4 (aH a5 (aH a6 (aH a7 (aH a8 (aH a9 (aH qL z)))))))))) D σ H:=h
end L2
namespace M11
def flip (k:Nat):Nat:=if k % 2=0 then k+ 1 else k - 1
def nx (T:Za3)(k i:Nat):Nat:=((T.getD i []).getD k 0).toNat
structure Tab (L:Nat) (T:Za3):Prop where
 pos:1<=T.length
 top:T.length<=300
 let1:1<=L
 af4:L<=40
 row:∀(i:Nat) (r:List Int),T[i]?=some r->r.length=2* L
 val:∀i k,i<T.length->k<2* L->∃r:List Int,T[i]?=some r/\r[k]?=some ((nx T k i:Nat):Int)
 lt:∀i k,i<T.length->k<2* L->nx T k i<T.length
 back:∀i k,i<T.length->k<2* L->nx T (flip k) (nx T k i)=i
def pl (s:Int):Nat:=if 0<s then 2* s.natAbs - 2 else 2* s.natAbs - 1
def walk (T:Za3)(w:List Int)(i:Nat):Nat:=w.foldl (λi s=>nx T (pl s) i) i
def back (w:List Int):List Int:=w.reverse.map λz=>-z
structure Pm (p:Nat) (r:List Int):Prop where
 len:r.length=p
 nd:r.Nodup
 rg:∀z∈r,0<=z/\z<(p:Int)
def afQ (L:Nat)(f:Nat->Int->Int)(come:List Int)(x:Int)(r:List Int)(m:Nat):Prop:=r.length=m/\∀k,k<m->∃j:Nat,r[k]?=some (j:Int)/\come[j]?=some (f k x)
def afR (p:Nat)(r t:List Int):Prop:=t.length=p/\∀k j:Nat,r[k]?=some (j:Int)->t[j]?=some (k:Int)
def afS (p:Nat)(r t:List Int)(n:Nat):Prop:=t.length=p/\∀k j:Nat,k<n->r[k]?=some (j:Int)->t[j]?=some (k:Int)
end M11
namespace M12
open M11
def Fc (W:Nat)(E:List Int)(N:Nat):Prop:=(∀z∈E,0<=z/\z<(N:Int))/\∀j:Nat,0<j->j<N->∃p:Nat,p<j* W/\E[p]?=some (j:Int)/\∀(q:Nat) (z:Int),q<p->E[q]?=some z->z<(j:Int)
def st (k:Nat):Int:=if k % 2=0 then ((k / 2+ 1:Nat):Int) else -((k / 2+ 1:Nat):Int)
theorem Ov (k:Nat):pl (st k)=k:=by
 unfold pl st;by_cases h:k % 2=0
 ·rw[ahu h,ahu (by omega)];omega
 ·rw[ahq h,ahq (by omega)];omega
theorem Xt {k L:Nat}(h:k<2* L):st k≠0/\(st k).natAbs<=L:=by
 unfold st;split <;> omega
def Uw:List Nat->List Nat->Prop
 |a::u,b::v=>a<b\/(a=b/\Uw u v)
 |_,_=>False
def adx (u v:List Nat):Prop:=u.length<v.length\/(u.length=v.length/\Uw u v)
def Lw (L:Nat)(T:Za3)(ws:List (List Nat)):Prop:=ws.length=T.length/\ws[0]?=some []/\
 ∀(j p:Nat),0<j->j<T.length->T.flatten[p]?=some (j:Int)->(∀(q:Nat) (z:Int),q<p->T.flatten[q]?=some z->z<(j:Int))->∃u,ws[p / (2* L)]?=some u/\ws[j]?=some (u++[p % (2* L)])
end M12
namespace K21
open PySem L2
def top (i:Nat):Stmt:=PySem.Challenge.pw_cosetyard_k21_nothing_more_follows.main.body.getD i (.Pass ⟨0,0,0,0⟩)
abbrev AB:Stmt:=top 2
abbrev yk:Stmt:=top 3
abbrev mX:Stmt:=top 4
abbrev uo:Stmt:=top 8
abbrev uq:Stmt:=top 11
abbrev Iu:Stmt:=top 12
abbrev mY:Stmt:=top 14
abbrev qP:Stmt:=top 15
abbrev sj:Stmt:=top 16
abbrev mZ:Stmt:=top 17
abbrev oX:Stmt:=top 18
abbrev zz:Stmt:=top 19
abbrev sk:Stmt:=top 20
abbrev sr:Stmt:=top 21
abbrev vO:Stmt:=top 22
abbrev su:Stmt:=top 23
abbrev m4:Stmt:=top 24
abbrev qQ:Stmt:=top 25
abbrev oY:Stmt:=top 26
abbrev sv:Stmt:=top 27
abbrev oZ:Stmt:=top 28
abbrev Iv:Stmt:=top 29
abbrev kB:Stmt:=inClass (top 5) 0
abbrev lU:Stmt:=inClass (top 5) 1
abbrev sA:Stmt:=inClass (top 5) 2
abbrev jv:Stmt:=inClass (top 6) 0
abbrev gW:Stmt:=inClass (top 6) 1
abbrev lV:Stmt:=inClass (top 6) 2
abbrev kD:Stmt:=inClass (top 6) 3
abbrev lW:Stmt:=inClass (top 6) 5
abbrev m5:Stmt:=inClass (top 6) 6
abbrev pe:Stmt:=inClass (top 6) 7
abbrev m6:Stmt:=inClass (top 6) 8
abbrev m7:Stmt:=inClass (top 6) 9
abbrev jw:Stmt:=inClass (top 6) 10
abbrev kF:Stmt:=inClass (top 10) 0
abbrev qR:Stmt:=inClass (top 10) 1
abbrev sC:Stmt:=inClass (top 10) 2
abbrev ur:Stmt:=inClass (top 10) 3
abbrev pf:Stmt:=inClass (top 10) 4
abbrev kH:Stmt:=inClass (top 10) 5
abbrev ph:Stmt:=inClass (top 10) 6
abbrev qS:Stmt:=inClass (top 10) 8
abbrev lX:Stmt:=inClass (top 10) 9
abbrev iC:Stmt:=inClass (top 10) 10
abbrev lY:Stmt:=inClass (top 10) 11
set_option genInjectivity false in
structure BQ where
 AF:Addr
 AG:FuncData
 yl:Addr
 ym:FuncData
 m8:Addr
 m9:FuncData
 uv:Addr
 uw:FuncData
 pS:Addr
 pT:FuncData
 oh:Addr
 oj:FuncData
 nh:Addr
 ni:FuncData
 gX:Addr
 gY:FuncData
 j2:Addr
 j3:FuncData
 nj:Addr
 ny:FuncData
 ki:Addr
 kj:FuncData
 ux:Addr
 uy:FuncData
 sE:Addr
 sF:FuncData
 sG:Addr
 sH:FuncData
 vP:Addr
 vQ:FuncData
 sI:Addr
 sJ:FuncData
 nB:Addr
 nF:FuncData
 qT:Addr
 qU:FuncData
 pj:Addr
 pw:FuncData
 sL:Addr
 sM:FuncData
 pz:Addr
 pA:FuncData
 Ow:Addr
 Ox:FuncData
 iD:Addr
 kI:FuncData
 lZ:Addr
 l0:FuncData
 sN:Addr
 sO:FuncData
 gy:Addr
 jx:FuncData
 gZ:Addr
 g9:FuncData
 je:Addr
 jf:FuncData
 kJ:Addr
 kK:FuncData
 mh:Addr
 mj:FuncData
 nH:Addr
 nJ:FuncData
 km:Addr
 ko:FuncData
 jL:Addr
 jM:FuncData
 nK:Addr
 nL:FuncData
 jy:Addr
 jz:FuncData
 iE:Addr
 kL:FuncData
 qV:Addr
 qW:FuncData
 j4:Addr
 j5:FuncData
 iF:Addr
 iG:FuncData
 gj:Addr
 gk:FuncData
 iH:Addr
 iI:FuncData
 pB:Addr
 pC:FuncData
 ml:Addr
 mq:FuncData
 mr:Addr
 mv:FuncData
 iJ:Addr
 iK:FuncData
 mw:Addr
 mx:FuncData
 ak:Addr
 aF:Addr
 az:Addr
set_option genInjectivity false in
structure Txt (K:Za1) (mg:Str->Option Value) (A:BQ):Prop where
 close:Def K mg "close" AB ["rooms","rules","part"] A.AF A.AG
 walked:Def K mg "walked" yk ["rooms","room","word"] A.yl A.ym
 my:Def K mg "first_places" mX ["rules"] A.m8 A.m9
 uz:Def K mg "steps_of" uo ["letters"] A.uv A.uw
 kM:Def K mg "all_gaps" uq ["letters"] A.pS A.pT
 own:Def K mg "own" Iu ["value"] A.oh A.oj
 _law_cell_at:Def K mg "_law_cell_at" mY ["_law_script","_law_k"] A.nh A.ni
 _law_whole:Def K mg "_law_whole" qP ["_law_found"] A.gX A.gY
 _law_step:Def K mg "_law_step" sj ["_law_number","_law_letters"] A.j2 A.j3
 _law_renamed:Def K mg "_law_renamed" mZ ["_law_room","_law_less","_law_more"] A.nj A.ny
 _law_stands:Def K mg "_law_stands" oX ["_law_elders","_law_room"] A.ki A.kj
 _law_new:Def K mg "_law_new" zz ["_law_letters","_law_ways","_law_elders","_law_row"] A.ux A.uy
 _law_rule:Def K mg "_law_rule" sk ["_law_words","_law_many","_law_ways","_law_elders","_law_row"] A.sE A.sF
 _law_meet:Def K mg "_law_meet" sr ["_law_ways","_law_elders","_law_row"] A.sG A.sH
 _law_on:Def K mg "_law_on" vO ["_law_letters","_law_rules","_law_part","_law_state","_law_row"] A.vP A.vQ
 _law_word:Def K mg "_law_word" su ["_law_number","_law_letters"] A.sI A.sJ
 _law_as_told:Def K mg "_law_as_told" m4 ["_law_rooms","_law_letters","_law_state"] A.nB A.nF
 _law_round:Def K mg "_law_round" qQ ["_law_known","_law_word_here","_law_room"] A.qT A.qU
 _law_closed:Def K mg "_law_closed" oY ["_law_ways","_law_elders","_law_rules","_law_part"] A.pj A.pw
 _law_deed:Def K mg "_law_deed" sv ["_law_rooms","_law_letters","_law_state","_law_number","_law_at"] A.sL A.sM
 _law_walked:Def K mg "_law_walked" oZ ["_law_letters","_law_rules","_law_part","_law_state","_law_rows"] A.pz A.pA
 law:Def K mg "law" Iv ["_law_script"] A.Ow A.Ox
 jN:MDef K A.aF "__init__" "Going.__init__" kB ["self","which","word","start"] A.iD A.kI
 pD:MDef K A.aF "advance" "Going.advance" lU ["self","rooms"] A.lZ A.l0
 vR:MDef K A.aF "row" "Going.row" sA ["self","rooms"] A.sN A.sO
 iL:MDef K A.az "__init__" "Closing.__init__" jv ["self","rooms","rules","part"] A.gy A.jx
 ja:MDef K A.az "begin_rules" "Closing.begin_rules" gW ["self","room"] A.gZ A.g9
 iV:MDef K A.az "begin" "Closing.begin" lV ["self","which","word","room"] A.je A.jf
 nM:MDef K A.az "settle" "Closing.settle" kD ["self"] A.kJ A.kK
 pE:MDef K A.az "go_on" "Closing.go_on" lW ["self","number"] A.mh A.mj
 jA:MDef K A.az "wait" "Closing.wait" m5 ["self","number","room","step"] A.nH A.nJ
 sP:MDef K A.az "lay" "Closing.lay" pe ["self","going"] A.km A.ko
 eD:MDef K A.az "wake" "Closing.wake" m6 ["self","room","step"] A.jL A.jM
 qX:MDef K A.az "hear" "Closing.hear" m7 ["self"] A.nK A.nL
 kO:MDef K A.az "wake_all" "Closing.wake_all" jw ["self","room"] A.jy A.jz
 jO:MDef K A.ak "__init__" "Rooms.__init__" kF ["self","letters"] A.iE A.kL
 uA:MDef K A.ak "make" "Rooms.make" qR ["self","room","step"] A.qV A.qW
 oK:MDef K A.ak "lay" "Rooms.lay" sC ["self","room","step","other","row"] A.j4 A.j5
 eV:MDef K A.ak "by" "Rooms.by" ur ["self","room","step"] A.iF A.iG
 dI:MDef K A.ak "elder" "Rooms.elder" pf ["self","room"] A.gj A.gk
 eX:MDef K A.ak "standing" "Rooms.standing" kH ["self"] A.iH A.iI
 cY:MDef K A.ak "paper" "Rooms.paper" ph ["self"] A.pB A.pC
 mz:MDef K A.ak "keep" "Rooms.keep" qS ["self","room","step","other"] A.ml A.mq
 pF:MDef K A.ak "take_in" "Rooms.take_in" lX ["self","way","pending"] A.mr A.mv
 fk:MDef K A.ak "put_together" "Rooms.put_together" iC ["self","room","step","one","other","pending"] A.iJ A.iK
 pG:MDef K A.ak "put_off" "Rooms.put_off" lY ["self","room","pending"] A.mw A.mx
 sQ:mg "enumerate"=none
 Oy:mg "min"=none
 Oz:mg "max"=none
 hJ:mg "range"=none
 cQ:mg "len"=none
 hU:mg "tuple"=none
 mB:mg "list"=none
 cO:mg "isinstance"=none
 Ux:mg "bool"=none
 Xu:mg "int"=none
 qY:mg "dict"=none
 afT:mg "str"=none
 Q8:mg "Rooms"=some (.ref A.ak)
 Q9:mg "Going"=some (.ref A.aF)
 Ky:mg "Closing"=some (.ref A.az)
 MD:PySem.W.plainGet K A.ak Str.empty=true
 MF:PySem.W.hasDictIn K A.ak=true
 MG:PySem.W.plainOver K A.ak=true
 MH:PySem.W.findIn K (.ref A.ak) "__setattr__"=some (some (.builtin "object.__setattr__"))
 yn:PySem.W.makesIn K A.ak=true
 MJ:PySem.W.keepIn K (.ref A.ak)=true
 BR:PySem.W.findIn K (.ref A.ak) "letters"=some none
 zA:PySem.W.findIn K (.ref A.ak) "made"=some none
 vS:PySem.W.findIn K (.ref A.ak) "rows"=some none
 j6:PySem.W.findIn K (.ref A.ak) "ways"=some none
 zB:PySem.W.findIn K (.ref A.ak) "gaps"=some none
 kP:PySem.W.findIn K (.ref A.ak) "elders"=some none
 qZ:PySem.W.findIn K (.ref A.ak) "called"=some none
 vT:PySem.W.findIn K (.ref A.ak) "went"=some none
 MK:PySem.W.plainGet K A.aF Str.empty=true
 ML:PySem.W.hasDictIn K A.aF=true
 MN:PySem.W.plainOver K A.aF=true
 MP:PySem.W.findIn K (.ref A.aF) "__setattr__"=some (some (.builtin "object.__setattr__"))
 yo:PySem.W.makesIn K A.aF=true
 MQ:PySem.W.keepIn K (.ref A.aF)=true
 Ek:PySem.W.findIn K (.ref A.aF) "which"=some none
 lh:PySem.W.findIn K (.ref A.aF) "word"=some none
 uB:PySem.W.findIn K (.ref A.aF) "start"=some none
 iM:PySem.W.findIn K (.ref A.aF) "front"=some none
 fT:PySem.W.findIn K (.ref A.aF) "first"=some none
 i5:PySem.W.findIn K (.ref A.aF) "rear"=some none
 jP:PySem.W.findIn K (.ref A.aF) "last"=some none
 Iw:PySem.W.plainGet K A.az Str.empty=true
 Iy:PySem.W.hasDictIn K A.az=true
 Iz:PySem.W.plainOver K A.az=true
 IA:PySem.W.findIn K (.ref A.az) "__setattr__"=some (some (.builtin "object.__setattr__"))
 uC:PySem.W.makesIn K A.az=true
 IB:PySem.W.keepIn K (.ref A.az)=true
 gF:PySem.W.findIn K (.ref A.az) "rooms"=some none
 El:PySem.W.findIn K (.ref A.az) "rules"=some none
 lj:PySem.W.findIn K (.ref A.az) "goings"=some none
 oM:PySem.W.findIn K (.ref A.az) "agenda"=some none
 mC:PySem.W.findIn K (.ref A.az) "waiting"=some none
 q8:PySem.W.findIn K (.ref A.az) "heard"=some none
theorem aK {K:Za1}{mg:Str->Option Value}{A:BQ}(T:Txt K mg A):sW K A.ak:=⟨T.MD,T.MF,T.MG,T.MH⟩
theorem yn {K:Za1}{mg:Str->Option Value}{A:BQ}(T:Txt K mg A):Mk K A.ak A.iE:=⟨T.yn,T.jO.m.at_,T.jO.m.fn,T.MJ⟩
theorem aV {K:Za1}{mg:Str->Option Value}{A:BQ}(T:Txt K mg A):sW K A.aF:=⟨T.MK,T.ML,T.MN,T.MP⟩
theorem yo {K:Za1}{mg:Str->Option Value}{A:BQ}(T:Txt K mg A):Mk K A.aF A.iD:=⟨T.yo,T.jN.m.at_,T.jN.m.fn,T.MQ⟩
theorem aU {K:Za1}{mg:Str->Option Value}{A:BQ}(T:Txt K mg A):sW K A.az:=⟨T.Iw,T.Iy,T.Iz,T.IA⟩
theorem uC {K:Za1}{mg:Str->Option Value}{A:BQ}(T:Txt K mg A):Mk K A.az A.gy:=⟨T.uC,T.iL.m.at_,T.iL.m.fn,T.IB⟩
theorem MR:bG ["rooms","rules","part"] ["rooms","rules","part"] (aT AB):=⟨rfl,rfl,rfl,by decide +kernel,rfl,by decide +kernel,by decide +kernel⟩
theorem rT:bG ["rooms","room","word","path","step"] ["rooms","room","word"] (aT yk):=⟨rfl,rfl,rfl,by decide +kernel,rfl,by decide +kernel,by decide +kernel⟩
theorem jg:bG ["rules","places","which","rule"] ["rules"] (aT mX):=⟨rfl,rfl,rfl,by decide +kernel,rfl,by decide +kernel,by decide +kernel⟩
theorem sR:bG ["letters","steps","letter"] ["letters"] (aT uo):=⟨rfl,rfl,rfl,by decide +kernel,rfl,by decide +kernel,by decide +kernel⟩
theorem FX:bG ["letters"] ["letters"] (aT uq):=⟨rfl,rfl,rfl,by decide +kernel,rfl,by decide +kernel,by decide +kernel⟩
theorem Em:bG ["value"] ["value"] (aT Iu):=⟨rfl,rfl,rfl,by decide +kernel,rfl,by decide +kernel,by decide +kernel⟩
theorem zC:bG ["_law_script","_law_k"] ["_law_script","_law_k"] (aT mY):=⟨rfl,rfl,rfl,by decide +kernel,rfl,by decide +kernel,by decide +kernel⟩
theorem Cy:bG ["_law_found"] ["_law_found"] (aT qP):=⟨rfl,rfl,rfl,by decide +kernel,rfl,by decide +kernel,by decide +kernel⟩
theorem Eo:bG ["_law_number","_law_letters"] ["_law_number","_law_letters"] (aT sj):=⟨rfl,rfl,rfl,by decide +kernel,rfl,by decide +kernel,by decide +kernel⟩
theorem zD:bG ["_law_room","_law_less","_law_more"] ["_law_room","_law_less","_law_more"] (aT mZ):=⟨rfl,rfl,rfl,by decide +kernel,rfl,by decide +kernel,by decide +kernel⟩
theorem AH:bG ["_law_elders","_law_room"] ["_law_elders","_law_room"] (aT oX):=⟨rfl,rfl,rfl,by decide +kernel,rfl,by decide +kernel,by decide +kernel⟩
theorem hV:bG ["_law_words","_law_many","_law_ways","_law_elders","_law_row","_law_which","_law_path","_law_room","_law_at","_law_step_here"] ["_law_words","_law_many","_law_ways","_law_elders","_law_row"] (aT sk):=⟨rfl,rfl,rfl,by decide +kernel,rfl,by decide +kernel,by decide +kernel⟩
theorem Ep:bG ["_law_ways","_law_elders","_law_row"] ["_law_ways","_law_elders","_law_row"] (aT sr):=⟨rfl,rfl,rfl,by decide +kernel,rfl,by decide +kernel,by decide +kernel⟩
theorem eF:bG ["_law_letters","_law_rules","_law_part","_law_state","_law_row","_law_ways","_law_elders","_law_turned","_law_room","_law_step_here","_law_other","_law_way"] ["_law_letters","_law_rules","_law_part","_law_state","_law_row"] (aT vO):=⟨rfl,rfl,rfl,by decide +kernel,rfl,by decide +kernel,by decide +kernel⟩
theorem jB:bG ["_law_number","_law_letters","_law_word_here","_law_k"] ["_law_number","_law_letters"] (aT su):=⟨rfl,rfl,rfl,by decide +kernel,rfl,by decide +kernel,by decide +kernel⟩
theorem df:bG ["_law_rooms","_law_letters","_law_state","_law_ways","_law_elders","_law_many","_law_room","_law_step_here","_law_found"] ["_law_rooms","_law_letters","_law_state"] (aT m4):=⟨rfl,rfl,rfl,by decide +kernel,rfl,by decide +kernel,by decide +kernel⟩
theorem dO:bG ["_law_known","_law_word_here","_law_room","_law_ahead","_law_there","_law_behind"] ["_law_known","_law_word_here","_law_room"] (aT qQ):=⟨rfl,rfl,rfl,by decide +kernel,rfl,by decide +kernel,by decide +kernel⟩
theorem dS:bG ["_law_ways","_law_elders","_law_rules","_law_part","_law_known","_law_room","_law_step_here","_law_other","_law_word_here"] ["_law_ways","_law_elders","_law_rules","_law_part"] (aT oY):=⟨rfl,rfl,rfl,by decide +kernel,rfl,by decide +kernel,by decide +kernel⟩
theorem cP:bG ["_law_rooms","_law_letters","_law_state","_law_number","_law_at","_law_ways","_law_elders","_law_standing","_law_room","_law_step_here","_law_other","_law_free","_law_back_free","_law_row"] ["_law_rooms","_law_letters","_law_state","_law_number","_law_at"] (aT sv):=⟨rfl,rfl,rfl,by decide +kernel,rfl,by decide +kernel,by decide +kernel⟩
theorem nO:bG ["_law_letters","_law_rules","_law_part","_law_state","_law_rows","_law_row"] ["_law_letters","_law_rules","_law_part","_law_state","_law_rows"] (aT oZ):=⟨rfl,rfl,rfl,by decide +kernel,rfl,by decide +kernel,by decide +kernel⟩
theorem eQ:bG ["_law_script","_law_letters","_law_many","_law_rules","_law_part","_law_handed","_law_rooms","_law_state","_law_rows","_law_size","_law_at","_law_number","_law_row"] ["_law_script"] (aT Iv):=⟨rfl,rfl,rfl,by decide +kernel,rfl,by decide +kernel,by decide +kernel⟩
theorem xg:bG ["self","which","word","start"] ["self","which","word","start"] (aT kB):=⟨rfl,rfl,rfl,by decide +kernel,rfl,by decide +kernel,by decide +kernel⟩
theorem kQ:bG ["self","rooms","room"] ["self","rooms"] (aT lU):=⟨rfl,rfl,rfl,by decide +kernel,rfl,by decide +kernel,by decide +kernel⟩
theorem q9:bG ["self","rooms","ahead","behind"] ["self","rooms"] (aT sA):=⟨rfl,rfl,rfl,by decide +kernel,rfl,by decide +kernel,by decide +kernel⟩
theorem fX:bG ["self","rooms","rules","part","room","which","word"] ["self","rooms","rules","part"] (aT jv):=⟨rfl,rfl,rfl,by decide +kernel,rfl,by decide +kernel,by decide +kernel⟩
theorem gG:bG ["self","room","rule","which"] ["self","room"] (aT gW):=⟨rfl,rfl,rfl,by decide +kernel,rfl,by decide +kernel,by decide +kernel⟩
theorem yp:bG ["self","which","word","room"] ["self","which","word","room"] (aT lV):=⟨rfl,rfl,rfl,by decide +kernel,rfl,by decide +kernel,by decide +kernel⟩
theorem xh:bG ["self"] ["self"] (aT kD):=⟨rfl,rfl,rfl,by decide +kernel,rfl,by decide +kernel,by decide +kernel⟩
theorem rh:bG ["self","number","going"] ["self","number"] (aT lW):=⟨rfl,rfl,rfl,by decide +kernel,rfl,by decide +kernel,by decide +kernel⟩
theorem mD:bG ["self","number","room","step","steps","numbers"] ["self","number","room","step"] (aT m5):=⟨rfl,rfl,rfl,by decide +kernel,rfl,by decide +kernel,by decide +kernel⟩
theorem tJ:bG ["self","going","step"] ["self","going"] (aT pe):=⟨rfl,rfl,rfl,by decide +kernel,rfl,by decide +kernel,by decide +kernel⟩
theorem zE:bG ["self","room","step"] ["self","room","step"] (aT m6):=⟨rfl,rfl,rfl,by decide +kernel,rfl,by decide +kernel,by decide +kernel⟩
theorem zF:bG ["self"] ["self"] (aT m7):=⟨rfl,rfl,rfl,by decide +kernel,rfl,by decide +kernel,by decide +kernel⟩
theorem fY:bG ["self","room","step","elder"] ["self","room"] (aT jw):=⟨rfl,rfl,rfl,by decide +kernel,rfl,by decide +kernel,by decide +kernel⟩
theorem xi:bG ["self","letters"] ["self","letters"] (aT kF):=⟨rfl,rfl,rfl,by decide +kernel,rfl,by decide +kernel,by decide +kernel⟩
theorem uS:bG ["self","room","step","number"] ["self","room","step"] (aT qR):=⟨rfl,rfl,rfl,by decide +kernel,rfl,by decide +kernel,by decide +kernel⟩
theorem vU:bG ["self","room","step","other","row","pending"] ["self","room","step","other","row"] (aT sC):=⟨rfl,rfl,rfl,by decide +kernel,rfl,by decide +kernel,by decide +kernel⟩
theorem FY:bG ["self","room","step"] ["self","room","step"] (aT ur):=⟨rfl,rfl,rfl,by decide +kernel,rfl,by decide +kernel,by decide +kernel⟩
theorem AI:bG ["self","room"] ["self","room"] (aT pf):=⟨rfl,rfl,rfl,by decide +kernel,rfl,by decide +kernel,by decide +kernel⟩
theorem xj:bG ["self"] ["self"] (aT kH):=⟨rfl,rfl,rfl,by decide +kernel,rfl,by decide +kernel,by decide +kernel⟩
theorem AJ:bG ["self"] ["self"] (aT ph):=⟨rfl,rfl,rfl,by decide +kernel,rfl,by decide +kernel,by decide +kernel⟩
theorem Cz:bG ["self","room","step","other"] ["self","room","step","other"] (aT qS):=⟨rfl,rfl,rfl,by decide +kernel,rfl,by decide +kernel,by decide +kernel⟩
theorem eY:bG ["self","way","pending","room","step","other","led_to","come_from"] ["self","way","pending"] (aT lX):=⟨rfl,rfl,rfl,by decide +kernel,rfl,by decide +kernel,by decide +kernel⟩
theorem fy:bG ["self","room","step","one","other","pending","less","more","number"] ["self","room","step","one","other","pending"] (aT iC):=⟨rfl,rfl,rfl,by decide +kernel,rfl,by decide +kernel,by decide +kernel⟩
theorem iN:bG ["self","room","pending","ways","step","other"] ["self","room","pending"] (aT lY):=⟨rfl,rfl,rfl,by decide +kernel,rfl,by decide +kernel,by decide +kernel⟩
section
variable {P:Program}{w:World}{K:Za1}{mg:Str->Option Value}{base:Heap}{A:BQ}
theorem get_some {α:Type}{xs:List α}{i:Nat}(h:i<xs.length):∃x,xs[i]?=some x:=⟨_,ahc h⟩
def CW (K:Za1):Sp:=λvs H Q _=>∃(a:Addr) (ns:List Int),vs=[.ref a]/\aM K H a (ns.map V.int)/\ns.length<=63/\∀H',Q (.bl true) H'
def cV (n:Nat):List Int:=(List.range n).map M12.st
theorem nS (n:Nat):(cV n).length=n:=by unfold cV;rw[ahl,aiH]
theorem Kz {n i:Nat}(h:i<n):(cV n)[i]?=some (M12.st i):=by
 unfold cV;rw[ahw,List.getElem?_range h];rfl
theorem Rb (i:Nat):cV (2* i)++[1+ (i:Int)]++[-(1+ (i:Int))]=cV (2* (i+ 1)):=by
 have e:2* (i+ 1)=2* i+ 1+ 1:=by omega
 rw[e];unfold cV;rw[aiy,aiy,ahO,ahO];have e1:M12.st (2* i)=1+ (i:Int):=by unfold M12.st;rw[ahu (by omega)];omega
 have e2:M12.st (2* i+ 1)= -(1+ (i:Int)):=by unfold M12.st;rw[ahq (by omega)];omega
 show _=(List.range (2* i)).map M12.st++[M12.st (2* i)]++[M12.st (2* i+ 1)];rw[e1,e2]
theorem Uy (n:Nat):(cV n).Nodup:=by
 unfold cV;refine ajP.mpr (List.Pairwise.imp ?_ akh);intro a b jn z;have h1:=M12.Ov a;rw[z,M12.Ov]at h1;exact jn h1.symm
theorem gA {rs:List Addr}{i:Nat}{r:Addr}(h:rs[i]?=some r):kT (rs.map V.ref) (i:Int)=some (V.ref r):=cf (by rw[ahw,h];rfl)
def Er:Sp:=λvs H Q _=>∃L:Nat,vs=[.int L]/\1<=L/\L<=200/\∀l H',au H H'->H' l=some (.lst (ao ((List.range (2* L)).map M12.st)))->Q (.ref l) H'
def Es:Sp:=λvs H Q _=>∃L:Nat,vs=[.int L]/\1<=L/\L<=200/\∀d H',au H H'->H d=none->H' d=some (.dK (gK (cV (2* L))))->Q (.ref d) H'
inductive IC (C:Addr) (vs:List V) (H:Hp) (Q:VK) (E_:XK):Prop
 |mk (x dx:Addr) (L:Nat) (e9:vs=[.ref x,.int L]) (fb:H x=some (.ins C dx [])) (fm:1<=L) (fq:L<=200) (fZ:∀a H',(∀b o,H b=some o->b≠x->H' b=some o)->ax C H' x (RS.new L (cV (2* L))) a->(∀b,a.own x b->b=x\/H b=none)->Q .non H'):IC C vs H Q E_
def dq (a:RA)(r:Addr)(H H':Hp):Prop:=∀b o,¬a.own r b->H b=some o->H' b=some o
inductive zG (C:Addr) (vs:List V) (H:Hp) (Q:VK) (E_:XK):Prop
 |mk (r:Addr) (S:RS) (a:RA) (c d:Nat) (z:Int) (e9:vs=[.ref r,.int c,.int z,.int d]) (fb:ax C H r S a) (fm:S.Wf) (fq:c<S.made) (fZ:d<S.made) (hX:(∀l∈S.ways,l.length<=100000)) (iW:∀H',dq a r H H'->ax C H' r (S.keep c z d) a->Q .non H'):zG C vs H Q E_
inductive Eu (C:Addr) (vs:List V) (H:Hp) (Q:VK) (E_:XK):Prop
 |mk (r:Addr) (S:RS) (a:RA) (c:Nat) (z:Int) (e9:vs=[.ref r,.int c,.int z]) (fb:ax C H r S a) (fm:S.Wf) (fq:1<=S.L) (fZ:S.L<=200) (hX:c<S.made) (iW:S.made<=100000) (jC:S.rows.length<=1000000) (lu:(∀l∈S.ways,l.length<=100000)) (rV:∀a' H',dq a r H H'->ax C H' r (S.make c z (cV (2* S.L))) a'->(∀b,a'.own r b->a.own r b\/H b=none)->Q (.int S.made) H'):Eu C vs H Q E_
inductive uD (C:Addr) (vs:List V) (H:Hp) (Q:VK) (E_:XK):Prop
 |mk (r:Addr) (S:RS) (a:RA) (c:Nat) (z:Int) (e9:vs=[.ref r,.int c,.int z]) (fb:ax C H r S a) (fm:c<S.ways.length) (fq:Q (((S.by c z).map λn:Nat=>V.int (n:Int)).getD .non) H):uD C vs H Q E_
inductive p9 (C:Addr) (vs:List V) (H:Hp) (Q:VK) (E_:XK):Prop
 |mk (r:Addr) (S:RS) (a:RA) (c e:Nat) (e9:vs=[.ref r,.int c]) (fb:ax C H r S a) (fm:S.aB[c]?=some e) (fq:Q (.int e) H):p9 C vs H Q E_
inductive pU (C:Addr) (vs:List V) (H:Hp) (Q:VK) (E_:XK):Prop
 |mk (r:Addr) (S:RS) (a:RA) (e9:vs=[.ref r]) (fb:ax C H r S a) (fm:S.Wf) (fq:S.made<=100000) (fZ:∀l,H l=none->Q (.ref l) (upd H l (.lst (ao (nI ((List.range S.made).filter λc=>decide (S.aB[c]?=some c))))))):pU C vs H Q E_
def uE (k:Nat):Sp:=λvs H Q _=>∃(v:V) (d:Dt),vs=[v]/\bN H k v d/\ig d/\∀v' H',au H H'->bN H' k v' d->Q v' H'
inductive tK (k:Nat) (C:Addr) (vs:List V) (H:Hp) (Q:VK) (E_:XK):Prop
 |mk (r:Addr) (S:RS) (a:RA) (e9:vs=[.ref r]) (fb:ax C H r S a) (fm:S.rows.length<=1000000) (fq:(∀p d,d∈S.rows->bN H 4 (.ref p) d->bN H k (.ref p) d)) (fZ:∀l ps H',au H H'->H l=none->H' l=some (.lst (ps.map V.ref))->Each (λp d=>bN H' 4 (.ref p) d) ps S.rows->Q (.ref l) H'):tK k C vs H Q E_
theorem KC (T:Txt K mg A):aL P w K mg base bB 1 A.oh A.oj ["value"] (λ_ _ _ _=>False):=⟨λ_ _ _ _ h=>h.elim,λ_ _ _ _ _ _ _ _ _ _ _ _ _ h=>h.elim⟩
theorem KD (T:Txt K mg A):aL P w K mg base bB 2 A.oh A.oj ["value"] (uE 0):=by
 have iO:aL P w K mg base bB 1 A.oh A.oj ["value"] (λ_ _ _ _=>False):=KC T;refine T.own.F.ok Em (λvs H Q E h=>?_) (λbR AA outer s H vs Q E hr h=>?_)
 ·obtain⟨v,d,rfl,_⟩:=h;rfl
 ·obtain⟨v,d,rfl,hv,hd,k⟩:=h
  refine⟨_,(ai (bP (cD (bq eT rfl T.cO ahN (ae (pv 0) (ae (fO (v:=.ty "tuple") rfl T.hU ah3 rfl) ah))))
   (aq (bz (cZ gf rfl T.hU ah3 (ae (dQ (fns:=[]) (ixs:=[]) (cl:=[]) rfl (jj (pv 0)) (gw (by decide +kernel) (by decide +kernel) rfl (by decide +kernel) rfl) (λC s H ex=>(bx (iO) hr.Za5 rfl T.own.m T.own.F.kp T.own.b .nil aO (ae (pv 0) ah)))) ah))))
   bC)
   (ai (bP (cD (bq eT rfl T.cO ahN (ae (pv 0) (ae (fO (v:=.ty "list") rfl T.mB aid rfl) ah))))
    (aq (bz (dQ (fns:=[]) (ixs:=[]) (cl:=[]) rfl (jj (pv 0)) (gw (by decide +kernel) (by decide +kernel) rfl (by decide +kernel) rfl) (λC s H ex=>(bx (iO) hr.Za5 rfl T.own.m T.own.F.kp T.own.b .nil aO (ae (pv 0) ah))))))
    bC)
   (ai (bP (cD (bq eT rfl T.cO ahN (ae (pv 0) (ae (fO (v:=.ty "dict") rfl T.qY aiw rfl) ah))))
    (aq (bz (cZ (jc rfl) rfl T.qY aiw (ae (dQ (fns:=["value"]) (ixs:=[0]) (cl:=_) rfl (jj (pv 0)) (fe rfl rfl (by decide +kernel) rfl (by decide +kernel) rfl (by decide +kernel) (by decide +kernel) rfl rfl rfl rfl) (λC s H ex=>(bS (ae (pv 0) (ae (bx (iO) hr.Za5 rfl T.own.m T.own.F.kp T.own.b .nil aO (ae (aS (tj (K:=K) rfl) (pv 1) (pv 0) (λ_ _=>rfl)) ah)) ah))))) ah))))
    bC)
   (aq (bz (pv 0)))))),?_⟩
  try dsimp only[bJ,cx]
  refine qK ?_;intro mE gB fD
  have atom:(∃n,v=.int n)\/(∃l,v=.str (tx l))\/∃(a:Addr) (vs:List V) (ds:List Dt),v=.ref a/\d=.t ds/\False:=by
   cases hv with
   |i=>exact .inl ⟨_,rfl⟩
   |s=>exact .inr (.inl ⟨_,rfl⟩)
   |n=>cases hd
   |b=>cases hd
  rcases atom with ⟨n,rfl⟩|⟨l,rfl⟩|⟨a,vs,ds,rfl,rfl,hx⟩
  ·refine⟨_,rfl,_,_,_,_,rfl,.int n,oV K,_,rfl,b8 ?_⟩;refine⟨_,rfl,_,_,_,_,rfl,.int n,qF K,_,rfl,b8 ?_⟩;refine⟨_,rfl,_,_,_,_,rfl,.int n,qG K,_,rfl,b8 ?_⟩;exact⟨_,rfl,k _ H (λ_ _ e=>e) hv⟩
  ·refine⟨_,rfl,_,_,_,_,rfl,.str (tx l),oW K,_,rfl,b8 ?_⟩;refine⟨_,rfl,_,_,_,_,rfl,.str (tx l),qH K,_,rfl,b8 ?_⟩;refine⟨_,rfl,_,_,_,_,rfl,.str (tx l),qI K,_,rfl,b8 ?_⟩;exact⟨_,rfl,k _ H (λ_ _ e=>e) hv⟩
  ·exact hx.elim
theorem KG (T:Txt K mg A):aL P w K mg base bB 3 A.oh A.oj ["value"] (uE 1):=by
 have iO:aL P w K mg base bB 2 A.oh A.oj ["value"] (uE 0):=KD T;refine T.own.F.ok Em (λvs H Q E h=>?_) (λbR AA outer s H vs Q E hr h=>?_)
 ·obtain⟨v,d,rfl,_⟩:=h;rfl
 ·obtain⟨v,d,rfl,hv,hd,k⟩:=h
  refine⟨_,(ai (bP (cD (bq eT rfl T.cO ahN (ae (pv 0) (ae (fO (v:=.ty "tuple") rfl T.hU ah3 rfl) ah))))
   (aq (bz (cZ gf rfl T.hU ah3 (ae (dQ (fns:=[]) (ixs:=[]) (cl:=[]) rfl (jj (pv 0)) (gw (by decide +kernel) (by decide +kernel) rfl (by decide +kernel) rfl) (λC s H ex=>(bx (iO) hr.Za5 rfl T.own.m T.own.F.kp T.own.b .nil aO (ae (pv 0) ah)))) ah))))
   bC)
   (ai (bP (cD (bq eT rfl T.cO ahN (ae (pv 0) (ae (fO (v:=.ty "list") rfl T.mB aid rfl) ah))))
    (aq (bz (dQ (fns:=[]) (ixs:=[]) (cl:=[]) rfl (jj (pv 0)) (gw (by decide +kernel) (by decide +kernel) rfl (by decide +kernel) rfl) (λC s H ex=>(bx (iO) hr.Za5 rfl T.own.m T.own.F.kp T.own.b .nil aO (ae (pv 0) ah))))))
    bC)
   (ai (bP (cD (bq eT rfl T.cO ahN (ae (pv 0) (ae (fO (v:=.ty "dict") rfl T.qY aiw rfl) ah))))
    (aq (bz (cZ (jc rfl) rfl T.qY aiw (ae (dQ (fns:=["value"]) (ixs:=[0]) (cl:=_) rfl (jj (pv 0)) (fe rfl rfl (by decide +kernel) rfl (by decide +kernel) rfl (by decide +kernel) (by decide +kernel) rfl rfl rfl rfl) (λC s H ex=>(bS (ae (pv 0) (ae (bx (iO) hr.Za5 rfl T.own.m T.own.F.kp T.own.b .nil aO (ae (aS (tj (K:=K) rfl) (pv 1) (pv 0) (λ_ _=>rfl)) ah)) ah))))) ah))))
    bC)
   (aq (bz (pv 0)))))),?_⟩
  try dsimp only[bJ,cx]
  refine qK ?_;intro mE gB fD
  have atom:(∃n,v=.int n)\/(∃l,v=.str (tx l))\/∃(a:Addr) (vs:List V) (ds:List Dt),v=.ref a/\d=.t ds/\(H a=some (.tup vs)/\vs.length=ds.length/\∀(j:Nat) (v:V) (x:Dt),vs[j]?=some v->ds[j]?=some x->bN H 0 v x):=by
   cases hv with
   |i=>exact .inl ⟨_,rfl⟩
   |s=>exact .inr (.inl ⟨_,rfl⟩)
   |n=>cases hd
   |b=>cases hd
   |t h1 h2 h3=>exact .inr (.inr ⟨_,_,_,rfl,rfl,h1,h2,h3⟩)
   |l=>cases hd
  rcases atom with ⟨n,rfl⟩|⟨l,rfl⟩|⟨a,vs,ds,rfl,rfl,hx⟩
  ·refine⟨_,rfl,_,_,_,_,rfl,.int n,oV K,_,rfl,b8 ?_⟩;refine⟨_,rfl,_,_,_,_,rfl,.int n,qF K,_,rfl,b8 ?_⟩;refine⟨_,rfl,_,_,_,_,rfl,.int n,qG K,_,rfl,b8 ?_⟩;exact⟨_,rfl,k _ H (λ_ _ e=>e) hv⟩
  ·refine⟨_,rfl,_,_,_,_,rfl,.str (tx l),oW K,_,rfl,b8 ?_⟩;refine⟨_,rfl,_,_,_,_,rfl,.str (tx l),qH K,_,rfl,b8 ?_⟩;refine⟨_,rfl,_,_,_,_,rfl,.str (tx l),qI K,_,rfl,b8 ?_⟩;exact⟨_,rfl,k _ H (λ_ _ e=>e) hv⟩
  ·obtain⟨h1,h2,h3⟩:=hx;obtain⟨hz,vo⟩:ds.length<=100000/\∀x∈ds,ig x:=by cases hd with|t a b=>exact⟨a,b⟩
   refine⟨_,rfl,_,_,_,_,rfl,.tup h1,mU K "tuple",_,rfl,fQ ?_⟩;refine⟨_,rfl,a,rfl,⟨_,bL.of h1⟩,?_⟩;refine jq (α:=Unit) vs.length (λi=>vs.getD i .non) (λH2 v i=>∃x,ds[i]?=some x/\ig x/\bN H2 0 v x) (λH1 H2 v i s ⟨x,e,hn,q⟩=>⟨x,e,hn,q.same s⟩) ?_ (λi H2 s2 hi=>JC (bL.of (s2 _ _ h1)) i hi) (λi x H2 H3 s2 hi y=>?_) (λH2 s2=>Dr (bL.of (s2 _ _ h1))) (λi H2 Rr hi s2 kk=>?_) (λD H2 ys s2 hD hl hr=>?_)
   ·exact ahC (by omega) (show 100000<=sizeLine by decide)
   ·obtain⟨e,hx⟩:=Gs (bL.of (s2 _ _ h1)) i x H3 hi y;refine⟨e,?_⟩;rw[ahh,hx];rfl
   ·have hx:vs[i]?=some (vs.getD i .non):=by rw[ahh,ahc hi];rfl
    have hy:ds[i]?=some (ds[i]'(by omega)):=ahc (by omega)
    refine⟨_,rfl,_,_,rfl,(h3 i _ _ hx hy).same s2,vo _ (ahf hy),λv' H' s' q'=>kk v' H' s' ⟨_,hy,vo _ (ahf hy),q'⟩⟩
   ·refine⟨D,ys,rfl,.inl ⟨aM.of aj,λl fM=>?_⟩⟩;have sD:au H2 (upd H2 D (.lst ys)):=au.upd hD;have sl:au (upd H2 D (.lst ys)) (upd (upd H2 D (.lst ys)) l (.tup ys)):=au.upd fM;refine k _ _ (s2.trans (sD.trans sl)) (.t aj (by omega) λj v x e1 e2=>?_);obtain⟨y,e3,-,q⟩:=hr j v e1;obtain rfl:y=x:=Za0 (e3.symm.trans e2);exact q.same (sD.trans sl)
theorem BU (T:Txt K mg A):aL P w K mg base bB 4 A.oh A.oj ["value"] (uE 2):=by
 have iO:aL P w K mg base bB 3 A.oh A.oj ["value"] (uE 1):=KG T;refine T.own.F.ok Em (λvs H Q E h=>?_) (λbR AA outer s H vs Q E hr h=>?_)
 ·obtain⟨v,d,rfl,_⟩:=h;rfl
 ·obtain⟨v,d,rfl,hv,hd,k⟩:=h
  refine⟨_,(ai (bP (cD (bq eT rfl T.cO ahN (ae (pv 0) (ae (fO (v:=.ty "tuple") rfl T.hU ah3 rfl) ah))))
   (aq (bz (cZ gf rfl T.hU ah3 (ae (dQ (fns:=[]) (ixs:=[]) (cl:=[]) rfl (jj (pv 0)) (gw (by decide +kernel) (by decide +kernel) rfl (by decide +kernel) rfl) (λC s H ex=>(bx (iO) hr.Za5 rfl T.own.m T.own.F.kp T.own.b .nil aO (ae (pv 0) ah)))) ah))))
   bC)
   (ai (bP (cD (bq eT rfl T.cO ahN (ae (pv 0) (ae (fO (v:=.ty "list") rfl T.mB aid rfl) ah))))
    (aq (bz (dQ (fns:=[]) (ixs:=[]) (cl:=[]) rfl (jj (pv 0)) (gw (by decide +kernel) (by decide +kernel) rfl (by decide +kernel) rfl) (λC s H ex=>(bx (iO) hr.Za5 rfl T.own.m T.own.F.kp T.own.b .nil aO (ae (pv 0) ah))))))
    bC)
   (ai (bP (cD (bq eT rfl T.cO ahN (ae (pv 0) (ae (fO (v:=.ty "dict") rfl T.qY aiw rfl) ah))))
    (aq (bz (cZ (jc rfl) rfl T.qY aiw (ae (dQ (fns:=["value"]) (ixs:=[0]) (cl:=_) rfl (jj (pv 0)) (fe rfl rfl (by decide +kernel) rfl (by decide +kernel) rfl (by decide +kernel) (by decide +kernel) rfl rfl rfl rfl) (λC s H ex=>(bS (ae (pv 0) (ae (bx (iO) hr.Za5 rfl T.own.m T.own.F.kp T.own.b .nil aO (ae (aS (tj (K:=K) rfl) (pv 1) (pv 0) (λ_ _=>rfl)) ah)) ah))))) ah))))
    bC)
   (aq (bz (pv 0)))))),?_⟩
  try dsimp only[bJ,cx]
  refine qK ?_;intro mE gB fD
  have atom:(∃n,v=.int n)\/(∃l,v=.str (tx l))\/∃(a:Addr) (vs:List V) (ds:List Dt),v=.ref a/\d=.t ds/\(H a=some (.tup vs)/\vs.length=ds.length/\∀(j:Nat) (v:V) (x:Dt),vs[j]?=some v->ds[j]?=some x->bN H 1 v x):=by
   cases hv with
   |i=>exact .inl ⟨_,rfl⟩
   |s=>exact .inr (.inl ⟨_,rfl⟩)
   |n=>cases hd
   |b=>cases hd
   |t h1 h2 h3=>exact .inr (.inr ⟨_,_,_,rfl,rfl,h1,h2,h3⟩)
   |l=>cases hd
  rcases atom with ⟨n,rfl⟩|⟨l,rfl⟩|⟨a,vs,ds,rfl,rfl,hx⟩
  ·refine⟨_,rfl,_,_,_,_,rfl,.int n,oV K,_,rfl,b8 ?_⟩;refine⟨_,rfl,_,_,_,_,rfl,.int n,qF K,_,rfl,b8 ?_⟩;refine⟨_,rfl,_,_,_,_,rfl,.int n,qG K,_,rfl,b8 ?_⟩;exact⟨_,rfl,k _ H (λ_ _ e=>e) hv⟩
  ·refine⟨_,rfl,_,_,_,_,rfl,.str (tx l),oW K,_,rfl,b8 ?_⟩;refine⟨_,rfl,_,_,_,_,rfl,.str (tx l),qH K,_,rfl,b8 ?_⟩;refine⟨_,rfl,_,_,_,_,rfl,.str (tx l),qI K,_,rfl,b8 ?_⟩;exact⟨_,rfl,k _ H (λ_ _ e=>e) hv⟩
  ·obtain⟨h1,h2,h3⟩:=hx;obtain⟨hz,vo⟩:ds.length<=100000/\∀x∈ds,ig x:=by cases hd with|t a b=>exact⟨a,b⟩
   refine⟨_,rfl,_,_,_,_,rfl,.tup h1,mU K "tuple",_,rfl,fQ ?_⟩;refine⟨_,rfl,a,rfl,⟨_,bL.of h1⟩,?_⟩;refine jq (α:=Unit) vs.length (λi=>vs.getD i .non) (λH2 v i=>∃x,ds[i]?=some x/\ig x/\bN H2 1 v x) (λH1 H2 v i s ⟨x,e,hn,q⟩=>⟨x,e,hn,q.same s⟩) ?_ (λi H2 s2 hi=>JC (bL.of (s2 _ _ h1)) i hi) (λi x H2 H3 s2 hi y=>?_) (λH2 s2=>Dr (bL.of (s2 _ _ h1))) (λi H2 Rr hi s2 kk=>?_) (λD H2 ys s2 hD hl hr=>?_)
   ·exact ahC (by omega) (show 100000<=sizeLine by decide)
   ·obtain⟨e,hx⟩:=Gs (bL.of (s2 _ _ h1)) i x H3 hi y;refine⟨e,?_⟩;rw[ahh,hx];rfl
   ·have hx:vs[i]?=some (vs.getD i .non):=by rw[ahh,ahc hi];rfl
    have hy:ds[i]?=some (ds[i]'(by omega)):=ahc (by omega)
    refine⟨_,rfl,_,_,rfl,(h3 i _ _ hx hy).same s2,vo _ (ahf hy),λv' H' s' q'=>kk v' H' s' ⟨_,hy,vo _ (ahf hy),q'⟩⟩
   ·refine⟨D,ys,rfl,.inl ⟨aM.of aj,λl fM=>?_⟩⟩;have sD:au H2 (upd H2 D (.lst ys)):=au.upd hD;have sl:au (upd H2 D (.lst ys)) (upd (upd H2 D (.lst ys)) l (.tup ys)):=au.upd fM;refine k _ _ (s2.trans (sD.trans sl)) (.t aj (by omega) λj v x e1 e2=>?_);obtain⟨y,e3,-,q⟩:=hr j v e1;obtain rfl:y=x:=Za0 (e3.symm.trans e2);exact q.same (sD.trans sl)
theorem FZ (T:Txt K mg A):aL P w K mg base bB 1 A.uv A.uw ["letters"] Er:=by
 refine T.uz.F.ok sR (λvs H Q E h=>?_) (λbR AA outer s H vs Q E hr h=>?_)
 ·obtain⟨L,rfl,_⟩:=h;rfl
 ·obtain⟨L,rfl,j7,zH,k⟩:=h
  refine⟨_,(ai (aY (i:=1) sR.nd rfl (Or.inl rfl) (dX ah))
   (ai (dw ahK rfl (Be rfl T.hJ (ae aw (ae (bD dG (pv 0) aw) ah))) (bQ (i:=2) sR.nd rfl (Or.inl rfl))
    (ai (bH (fG ahD ahH ahI cT (pv 1) (ae (pv 2) ah)))
    (aq (bH (fG ahD ahH ahI cT (pv 1) (ae (fW eP (pv 2)) ah))))))
   (aq (bz (pv 1))))),?_⟩
  try dsimp only[bJ,cx]
  refine gE ?_;intro gB fD;refine⟨ahT _,λl hl=>?_⟩;have s0:au H (upd H l (.lst [])):=au.upd hl;have h0:upd H l (.lst []) l=some (.lst (ao (cV (2* 0)))):=aj;generalize upd H l (.lst [])=H0 at s0 h0 ⊢;refine⟨_,rfl,_,_,rfl,rfl,1,(L:Int)+ 1,rfl,⟨by omega,by omega,by omega,by omega⟩,?_⟩
  let fU:Nat->St->Hp->Prop:=λi σ H2=>∃v:Option V,σ=[some (.int L),some (.ref l),v]/\au H H2/\H2 l=some (.lst (ao (cV (2* i))))
  refine oz (lo:=1) (n:=((L:Int)+ 1 - 1).toNat) fU ⟨none,rfl,s0,h0⟩ ?_ ?_
  ·rintro i σ H2 hi ⟨v,rfl,s2,h2⟩;dsimp only[eM];refine ye ?_;intro ik GR;have hi':i<L:=by omega
   refine⟨_,rfl,.inl ⟨rfl,_,aM.of h2⟩,_,rfl,l,_,_,rfl,rfl,h2,?_,?_⟩
   ·rw[bh,nS];exact ahr (show 2* i<=400 by omega) (by decide)
   refine⟨_,rfl,.inl ⟨rfl,_,aM.of aj⟩,_,rfl,_,rfl,l,_,_,rfl,rfl,aj,?_,?_⟩
   ·rw[ahe,bh,nS];exact ahr (show 2* i+ 1<=400 by omega) (by decide)
   refine⟨_,rfl,λb o e=>?_,?_⟩
   ·rw[av (aI e hl),av (aI e hl)];exact s2 _ _ e
   ·rw[aj,←Rb,ints_app,ints_app];rfl
  ·rintro σ H2 ⟨v,rfl,s2,h2⟩;rw[show ((L:Int)+ 1 - 1).toNat=L by omega]at h2;exact⟨_,rfl,k l H2 s2 h2⟩
theorem xI (T:Txt K mg A):aL P w K mg base bB 2 A.pS A.pT ["letters"] Es:=by
 have IE:aL P w K mg base bB 1 A.uv A.uw ["letters"] Er:=FZ T;refine T.kM.F.ok FX (λvs H Q E h=>?_) (λbR AA outer s H vs Q E hr h=>?_)
 ·obtain⟨L,rfl,_⟩:=h;rfl
 ·obtain⟨L,rfl,j7,zH,k⟩:=h;refine⟨_,(aq (bz (cZ (jc rfl) rfl T.qY aiw (ae (dQ (fns:=[]) (ixs:=[]) (cl:=[]) rfl (eJ (bx (IE) hr.Za5 rfl T.uz.m T.uz.F.kp T.uz.b .nil aO (ae (pv 0) ah))) (gw (by decide +kernel) (by decide +kernel) rfl (by decide +kernel) rfl) (λC s H ex=>(bS (ae (pv 0) (ae dD ah))))) ah)))),?_⟩
  try dsimp only[bJ,cx]
  refine⟨_,rfl,L,rfl,j7,zH,λl H1 s1 h1=>⟨l,rfl,⟨_,aM.of h1⟩,?_⟩⟩;have hn:(ao ((List.range (2* L)).map M12.st)).length=2* L:=by rw[bh,ahl,aiH]
  refine jq (α:=Unit) (2* L) (λi=>.int (M12.st i)) (λH2 v i=>∃p,v=.ref p/\H2 p=some (.tup [.int (M12.st i),.bl true])) (λH1 H2 v i s ⟨p,e,q⟩=>⟨p,e,s _ _ q⟩) ?_ (λi H2 s2 hi=>vt (aM.of (s2 _ _ h1)) i (by omega)) (λi x H2 H3 s2 hi y=>?_) (λH2 s2=>?_) (λi H2 Rr hi s2 kk=>?_) (λD H2 ys s2 hD hl hr=>?_)
  ·exact ahC (show 2* L<=400 by omega) (by decide)
  ·obtain⟨e,hx⟩:=sZ (aM.of (s2 _ _ h1)) i x H3 (by omega) y;refine⟨e,?_⟩;rw[show (ao ((List.range (2* L)).map M12.st))[i]?=some (.int (M12.st i)) from bZ (Kz hi)]at hx;exact(Za0 hx).symm
  ·have:=qt (aM.of (K:=K) (s2 _ _ h1));rw[hn]at this;exact this
  ·refine⟨_,rfl,(Za4 2),λt ht=>kk _ _ (au.upd ht) ⟨t,rfl,aj⟩⟩
  ·obtain⟨ps,rfl,jr⟩:=tE (P:=λi p=>H2 p=some (.tup [.int (M12.st i),.bl true])) ys 0 (λi v hv=>by rw[akf];exact hr i v hv);have sD:au H2 (upd H2 D (.lst (ps.map V.ref))):=au.upd hD;rw[ahl]at hl;refine⟨D,ps,gK (cV (2* L)),rfl,aj,by rw[TF,nS,hl],λi p kv e1 e2=>?_,λd hd=>?_⟩
   ·have hi:i<2* L:=by rw[←hl];exact(ahd.mp e1).1
    have:=jr i p e1;rw[akf]at this;unfold gK at e2;rw[ahw,Kz hi]at e2;rw[←Za0 e2];exact sD _ _ this
   ·have e:oF [] (gK (cV (2* L)))=gK (cV (2* L)):=by
     rw[Bx _ _ ?_,List.nil_append];rw[List.nil_append];unfold gK;rw[aiv];exact ajP.mpr (List.Pairwise.imp (λ{a b} jn z=>jn (Sum.inl.inj z)) (Uy _))
    rw[e];have sd:au (upd H2 D (.lst (ps.map V.ref))) (upd (upd H2 D (.lst (ps.map V.ref))) d (.dK (gK (cV (2* L))))):=au.upd hd;have sa:=s1.trans (s2.trans sD);exact k d _ (sa.trans sd) (sa.free hd) aj
theorem j8 (T:Txt K mg A):aL P w K mg base bB 1 A.iF A.iG ["self","room","step"] (uD A.ak):=by
 refine T.eV.F.ok FY (λvs H Q E h=>?_) (λbR AA outer s H vs Q E hr h=>?_)
 ·obtain⟨r,S,a,c,z,rfl,_⟩:=h;rfl
 ·obtain⟨r,S,a,c,z,rfl,h,hc,k⟩:=h;have dE:=gM hr;refine⟨_,(aq (bz (Md dE (aS ck (aJ (pv 0) rfl) (pv 1) (λ_ _=>rfl)) (pv 2) ⟨rfl,rfl,rfl,rfl⟩))),?_⟩
  try dsimp only[bJ,cx]
  have hl:S.ways[c]?=some (S.way c):=by unfold RS.way;rw[ahh,ahc hc];rfl
  obtain⟨p,hp,hd⟩:=h.rW.at hl;refine⟨_,rfl,r,_,a.dx,_,_,rfl,h.ins,aK T,T.j6,jI _ _ _,_,rfl,a.aW,_,_,_,rfl,rfl,aM.of h.hW,gA hp,p,rfl,.inl ⟨_,.inl hd⟩,_,rfl,_,dB.k (k:=Sum.inl z) hd,?_⟩;rw[oI];exact k
theorem jQ (T:Txt K mg A):aL P w K mg base bB 1 A.gj A.gk ["self","room"] (p9 A.ak):=by
 refine T.dI.F.ok AI (λvs H Q E h=>?_) (λbR AA outer s H vs Q E hr h=>?_)
 ·obtain⟨r,S,a,c,e,rfl,_⟩:=h;rfl
 ·obtain⟨r,S,a,c,e,rfl,h,he,k⟩:=h;refine⟨_,(aq (bz (aS ck (aJ (pv 0) rfl) (pv 1) (λ_ _=>rfl)))),?_⟩
  try dsimp only[bJ,cx]
  exact⟨_,rfl,r,_,a.dx,_,_,rfl,h.ins,aK T,T.kP,kU _ _ _,_,rfl,a.aE,_,_,_,rfl,rfl,aM.of h.hE,cf (bZ (fj he)),k⟩
theorem tL {S:RS}{c:Nat}(h:c<S.ways.length):S.ways[c]?=some (S.way c):=by unfold RS.way;rw[ahh,ahc h];rfl
theorem Ew {S:RS}{c:Nat}(h:c<S.gaps.length):S.gaps[c]?=some (S.gap c):=by unfold RS.gap;rw[ahh,ahc h];rfl
theorem Ey {S:RS}{c n:Nat}(h:∀l∈S.ways,l.length<=n):(S.way c).length<=n:=by
 unfold RS.way;rw[ahh]
 cases e:S.ways[c]? with
 |none=>exact ahT _
 |some l=>exact h l (ahf e)
theorem OB {a:RA}{r p:Addr}{i:Nat}(h:a.ws[i]?=some p):a.own r p:=.inr (.inr (eh (ahf h)))
theorem Xv {a:RA}{r p:Addr}{i:Nat}(h:a.gs[i]?=some p):a.own r p:=.inr (.inr (gT (ahf h)))
theorem dq.upd {a:RA}{r p:Addr}{H:Hp}{o:HO}(h:a.own r p):dq a r H (upd H p o):=λb u hb e=>by rw[av (λz=>hb (by rw[z];exact h))];exact e
theorem dq.trans {a:RA}{r:Addr}{H H1 H2:Hp}(h:dq a r H H1)(h':dq a r H1 H2):dq a r H H2:=λb u hb e=>h' b u hb (h b u hb e)
theorem uT (T:Txt K mg A):aL P w K mg base bB 1 A.ml A.mq ["self","room","step","other"] (zG A.ak):=by
 refine T.mz.F.ok Cz (λvs H Q E h=>?_) (λbR AA outer s H vs Q E hr h=>?_)
 ·obtain⟨r,S,a,c,d,z,rfl,_⟩:=h;rfl
 ·obtain⟨r,S,a,c,d,z,rfl,h,hw,hc,hd,hz,k⟩:=h;have dE:=gM hr
  refine⟨_,(ai (jG dE (aS ck (aJ (pv 0) rfl) (pv 1) (λ_ _=>rfl)) (pv 2) (pv 3) rfl)
   (ai (jG dE (aS ck (aJ (pv 0) rfl) (pv 3) (λ_ _=>rfl)) (fW eP (pv 2)) (pv 1) rfl)
   (ai (bH (ya (aS ck (aJ (pv 0) rfl) (pv 1) (λ_ _=>rfl)) (pv 2) dv ⟨rfl,rfl,rfl,rfl⟩))
   (aq (bH (ya (aS ck (aJ (pv 0) rfl) (pv 3) (λ_ _=>rfl)) (fW eP (pv 2)) dv ⟨rfl,rfl,rfl,rfl⟩)))))),?_⟩
  try dsimp only[bJ,cx]
  refine qK ?_;intro mE gB fD;obtain⟨p,hp,hP⟩:=h.rW.at (tL (S:=S) (c:=c) (by rw[hw.w];exact hc));have b1:(S.way c).length<=100000:=Ey hz;refine⟨_,rfl,_,rfl,r,_,a.dx,_,_,rfl,h.ins,aK T,T.j6,jI _ _ _,_,rfl,a.aW,_,_,_,rfl,rfl,aM.of h.hW,gA hp,_,rfl,p,_,rfl,kz.k (k:=Sum.inl z) hP (by rw[DK];exact ahr b1 (by decide)),?_⟩;rw[DL];have h1:ax A.ak _ r (S.dz c z d) a:=h.DN hp (jW (S.way c) z d);have u1:dq a r H (upd H p (.dK (wK (jW (S.way c) z d)))):=dq.upd (OB hp);generalize upd H p (.dK (wK (jW (S.way c) z d)))=H1 at h1 u1 ⊢;have w1:(S.dz c z d).ways.length=S.made:=by show (S.ways.set c _).length=_;rw[ahG,hw.w]
  obtain⟨q,hq,hQ⟩:=h1.rW.at (tL (S:=S.dz c z d) (c:=d) (by rw[w1];exact hd))
  have b2:((S.dz c z d).way d).length<=100001:=Ey λl hl=>by
   rcases ajf hl with hl|rfl
   ·exact Nat.le_succ_of_le (hz l hl)
   ·exact ahC (Mq _ _ _) (by omega)
  refine⟨_,rfl,_,rfl,r,_,a.dx,_,_,rfl,h1.ins,aK T,T.j6,jI _ _ _,_,rfl,a.aW,_,_,_,rfl,rfl,aM.of h1.hW,gA hq,_,rfl,_,rfl,q,_,rfl,kz.k (k:=Sum.inl (-z)) hQ (by rw[DK];exact ahr b2 (by decide)),?_⟩;rw[DL];have h2:ax A.ak _ r ((S.dz c z d).dz d (-z) c) a:=h1.DN hq (jW ((S.dz c z d).way d) (-z) c);have u2:dq a r H1 (upd H1 q (.dK (wK (jW ((S.dz c z d).way d) (-z) c)))):=dq.upd (OB hq);generalize upd H1 q (.dK (wK (jW ((S.dz c z d).way d) (-z) c)))=H2 at h2 u2 ⊢;generalize e2:(S.dz c z d).dz d (-z) c=S2 at h2 ⊢;have g2:S2.gaps.length=S.made:=by rw[←e2];exact hw.g
  obtain⟨p3,tI,Ye⟩:=h2.rG.at (Ew (S:=S2) (c:=c) (by rw[g2];exact hc))
  have pop:∀{H:Hp} {S:RS} {c:Nat} {z:Int} {p:Addr},ax A.ak H r S a->a.gs[c]?=some p->H p=some (.dK (gK (S.gap c)))->∀{Q:V->Hp->Prop},(∀v H',dq a r H H'->ax A.ak H' r (S.wU c z) a->Q v H')->
   ∃(kvs:List (Key×V)) (k:Key),H p=some (.dK kvs)/\V.int z=kV k/\(∀v,bM kvs k=some v->Q v (upd H p (.dK (fI kvs k))))/\(bM kvs k=none->Q .non H):=by
   intro H S c z p h hp hP Q hQ;refine⟨_,Sum.inl z,hP,rfl,?_⟩;rw[J1,QI];by_cases hm:z∈S.gap c
   ·rw[ahu hm];exact⟨λv _=>hQ _ _ (dq.upd (Xv hp)) (h.TQ hp _),λz=>by cases z⟩
   ·rw[ahq hm];refine⟨λv z=>(by cases z),λ_=>hQ _ _ (λ_ _ _ e=>e) ?_⟩;have e:(S.gap c).filter (λx=>decide (x≠z))=S.gap c:=List.filter_eq_self.mpr λx hx=>ahy λz=>hm (z ▸ hx)
    have hl:c<S.gaps.length:=by rw[←h.rG.1];exact(ahd.mp hp).1
    have:S.wU c z=S:=by
     unfold RS.wU RS.setG;rw[e]
     have es:S.gaps.set c (S.gap c)=S.gaps:=ajm λi=>by
      by_cases hi:c=i
      ·subst hi;rw[ahW hl,Ew hl]
      ·rw[aif hi]
     rw[es]
    rw[this];exact h
  refine⟨_,rfl,r,_,a.dx,_,_,rfl,h2.ins,aK T,T.zB,Ay _ _ _,_,rfl,a.aG,_,_,_,rfl,rfl,aM.of h2.hG,gA tI,p3,rfl,.inl ⟨_,.inl Ye⟩,_,rfl,pop h2 tI Ye λv H3 u3 h3=>?_⟩;generalize e3:S2.wU c z=S3 at h3;have g3:S3.gaps.length=S.made:=by rw[←e3];show (S2.gaps.set c _).length=_;rw[ahG,g2]
  obtain⟨p4,KH,BV⟩:=h3.rG.at (Ew (S:=S3) (c:=d) (by rw[g3];exact hd));refine⟨_,rfl,r,_,a.dx,_,_,rfl,h3.ins,aK T,T.zB,Ay _ _ _,_,rfl,a.aG,_,_,_,rfl,rfl,aM.of h3.hG,gA KH,p4,rfl,.inl ⟨_,.inl BV⟩,_,rfl,_,rfl,pop h3 KH BV λv H4 u4 h4=>?_⟩;refine k H4 (u1.trans (u2.trans (u3.trans u4))) ?_;rw[←e3,←e2]at h4;exact h4
theorem xk (T:Txt K mg A):aL P w K mg base bB 3 A.iE A.kL ["self","letters"] (IC A.ak):=by
 have uF:aL P w K mg base bB 2 A.pS A.pT ["letters"] Es:=xI T;refine T.jO.F.ok xi (λvs H Q E h=>?_) (λbR AA outer s H vs Q E hr h=>?_)
 ·obtain⟨x,dx,L,rfl,_⟩:=h;rfl
 ·obtain⟨x,dx,L,rfl,hx,j7,zH,k⟩:=h
  refine⟨_,(ai (cE (pv 0) (pv 1) rfl)
   (ai (cE (pv 0) aw rfl)
   (ai (cE (pv 0) (dX ah) rfl)
   (ai (cE (pv 0) (dX (ae gC ah)) rfl)
   (ai (cE (pv 0) (dX (ae (bx (uF) hr.Za5 rfl T.kM.m T.kM.F.kp T.kM.b .nil aO (ae (pv 1) ah)) ah)) rfl)
   (ai (cE (pv 0) (dX (ae aw ah)) rfl)
   (ai (cE (pv 0) (dX (ae (dX (ae aw ah)) ah)) rfl)
   (aq (cE (pv 0) (dX ah) rfl))))))))),?_⟩
  try dsimp only[bJ,cx]
  refine uh ?_;intro Ez zI uU rX mE gB fD
  have st:∀{H0:Hp} {fs:List (Str×V)} {f:Str} {v:V},H0 x=some (.ins A.ak dx fs)->(∀b o,H b=some o->b≠x->H0 b=some o)->upd H0 x (.ins A.ak dx (b6 f v fs)) x=some (.ins A.ak dx (b6 f v fs))/\(∀b o,H b=some o->b≠x->upd H0 x (.ins A.ak dx (b6 f v fs)) b=some o)/\∀b o,b≠x->H0 b=some o->upd H0 x (.ins A.ak dx (b6 f v fs)) b=some o:=
   λ_ h=>⟨aj,λb o e n=>by rw[av n];exact h b o e n,λb o n e=>by rw[av n];exact e⟩
  refine⟨_,rfl,_,rfl,x,_,dx,_,rfl,hx,aK T,T.BR,(by show 0<1000;decide),?_⟩;obtain⟨x1,o1,-⟩:=st (f:="letters") (v:=.int L) hx (λb o e _=>e);generalize upd H x (.ins A.ak dx (b6 "letters" (.int L) []))=H1 at x1 o1 ⊢;have f1:(b6 "letters" (.int L) ([]:List (Str×V))).length<=1:=kY (n:=0) (ahi _);refine⟨_,rfl,x,_,dx,_,rfl,x1,aK T,T.zA,ahr f1 (by decide),?_⟩;obtain⟨x2,o2,-⟩:=st (f:="made") (v:=.int 1) x1 o1;have f2:=kY (f:="made") (v:=.int 1) f1;generalize e2:b6 "made" (.int 1) (b6 "letters" (.int L) [])=Yf at x2 o2 f2 ⊢;generalize upd H1 x (.ins A.ak dx Yf)=H2 at x2 o2 ⊢;refine⟨ahT _,λaR nR=>⟨_,rfl,x,_,dx,_,rfl,au.upd nR _ _ x2,aK T,T.vS,ahr f2 (by decide),?_⟩⟩;have Yg:upd H2 aR (.lst []) aR=some (.lst []):=aj;have EA:aR≠x:=(aI x2 nR).symm;have s3:=au.upd (o:=.lst []) nR
  have n0:∀{b:Addr} {H0:Hp},(∀c o,H c=some o->c≠x->H0 c=some o)->H0 b=none->b≠x->H b=none:=λ{b H0} h n nx=>by
   cases e:H b with
   |none=>rfl
   |some o=>rw[h b o e nx]at n;cases n
  have kR:=n0 o2 nR EA;generalize upd H2 aR (.lst [])=H3 at Yg s3 ⊢;obtain⟨x4,o4,k4⟩:=st (f:="rows") (v:=.ref aR) (s3 _ _ x2) (λb o e n=>s3 _ _ (o2 b o e n));have f4:=kY (f:="rows") (v:=.ref aR) f2;generalize e4:b6 "rows" (.ref aR) Yf=Yh at x4 o4 f4 k4 ⊢;have GU:=k4 _ _ EA Yg;generalize upd H3 x (.ins A.ak dx Yh)=H4 at x4 o4 GU ⊢;intro wd BW;have AK:wd≠x:=(aI x4 BW).symm;have OD:=n0 o4 BW AK;have s5:=au.upd (o:=.dK []) BW;have Uz:upd H4 wd (.dK []) wd=some (.dK []):=aj;generalize upd H4 wd (.dK [])=H5 at s5 Uz ⊢;refine⟨(Za4 1),λaW nW=>⟨_,rfl,x,_,dx,_,rfl,au.upd nW _ _ (s5 _ _ x4),aK T,T.j6,ahr f4 (by decide),?_⟩⟩;have GV:aW≠x:=(aI (s5 _ _ x4) nW).symm;have kW:=n0 (λb o e n=>s5 _ _ (o4 b o e n)) nW GV;have nWR:aW≠aR:=(aI (s5 _ _ GU) nW).symm;have s6:=au.upd (o:=.lst [.ref wd]) nW;have Yi:upd H5 aW (.lst [.ref wd]) aW=some (.lst [.ref wd]):=aj;generalize upd H5 aW (.lst [.ref wd])=H6 at s6 Yi ⊢;obtain⟨x7,o7,k7⟩:=st (f:="ways") (v:=.ref aW) (s6 _ _ (s5 _ _ x4)) (λb o e n=>s6 _ _ (s5 _ _ (o4 b o e n)));have f7:=kY (f:="ways") (v:=.ref aW) f4;generalize e7:b6 "ways" (.ref aW) Yh=Yj at x7 o7 f7 k7 ⊢;have UA:=k7 _ _ EA (s6 _ _ (s5 _ _ GU));have UB:=k7 _ _ GV Yi;have MS:=k7 _ _ AK (s6 _ _ Uz);generalize upd H6 x (.ins A.ak dx Yj)=H7 at x7 o7 UA UB MS ⊢;refine⟨_,rfl,L,rfl,j7,zH,λgd H8 s8 EB abN=>?_⟩;have EC:gd≠x:=(aI x7 EB).symm;have UC:=n0 o7 EB EC;have ngw:gd≠wd:=(aI MS EB).symm;refine⟨(Za4 1),λaG nG=>⟨_,rfl,x,_,dx,_,rfl,au.upd nG _ _ (s8 _ _ x7),aK T,T.zB,ahr f7 (by decide),?_⟩⟩;have KJ:aG≠x:=(aI (s8 _ _ x7) nG).symm;have kG:=n0 (λb o e n=>s8 _ _ (o7 b o e n)) nG KJ;have nGR:aG≠aR:=(aI (s8 _ _ UA) nG).symm;have nGW:aG≠aW:=(aI (s8 _ _ UB) nG).symm;have s9:=au.upd (o:=.lst [.ref gd]) nG;have Yk:upd H8 aG (.lst [.ref gd]) aG=some (.lst [.ref gd]):=aj;generalize upd H8 aG (.lst [.ref gd])=H9 at s9 Yk ⊢;obtain⟨x10,OG,zJ⟩:=st (f:="gaps") (v:=.ref aG) (s9 _ _ (s8 _ _ x7)) (λb o e n=>s9 _ _ (s8 _ _ (o7 b o e n)));have zK:=kY (f:="gaps") (v:=.ref aG) f7;generalize e10:b6 "gaps" (.ref aG) Yj=UD at x10 OG zK zJ ⊢;have MT:=zJ _ _ EA (s9 _ _ (s8 _ _ UA));have AO:=zJ _ _ GV (s9 _ _ (s8 _ _ UB));have OI:=zJ _ _ AK (s9 _ _ (s8 _ _ MS));have MV:=zJ _ _ KJ Yk;have OJ:=zJ _ _ EC (s9 _ _ abN);generalize upd H9 x (.ins A.ak dx UD)=uV at x10 OG MT AO OI MV OJ ⊢;refine⟨by decide,λaE nE=>⟨_,rfl,x,_,dx,_,rfl,au.upd nE _ _ x10,aK T,T.kP,ahr zK (by decide),?_⟩⟩;have OL:aE≠x:=(aI x10 nE).symm;have kE:=n0 OG nE OL;have nER:aE≠aR:=(aI MT nE).symm;have nEW:aE≠aW:=(aI AO nE).symm;have nEG:aE≠aG:=(aI MV nE).symm;have rY:=au.upd (o:=.lst [.int 0]) nE;have UE:upd uV aE (.lst [.int 0]) aE=some (.lst [.int 0]):=aj;generalize upd uV aE (.lst [.int 0])=BX at rY UE ⊢;obtain⟨GW,KL,xJ⟩:=st (f:="elders") (v:=.ref aE) (rY _ _ x10) (λb o e n=>rY _ _ (OG b o e n));have GX:=kY (f:="elders") (v:=.ref aE) zK;generalize e12:b6 "elders" (.ref aE) UD=UG at GW KL GX xJ ⊢;have IG:=xJ _ _ EA (rY _ _ MT);have yq:=xJ _ _ GV (rY _ _ AO);have OO:=xJ _ _ AK (rY _ _ OI);have IH:=xJ _ _ KJ (rY _ _ MV);have OQ:=xJ _ _ EC (rY _ _ OJ);have II:=xJ _ _ OL UE;generalize upd BX x (.ins A.ak dx UG)=GY at GW KL IG yq OO IH OQ II ⊢;refine⟨by decide,λcl rZ=>⟨(Za4 1),λaC nC=>⟨_,rfl,x,_,dx,_,rfl,au.upd nC _ _ (au.upd rZ _ _ GW),aK T,T.qZ,ahr GX (by decide),?_⟩⟩⟩;have MX:cl≠x:=(aI GW rZ).symm;have UH:=n0 KL rZ MX;have ncR:cl≠aR:=(aI IG rZ).symm;have ncW:cl≠aW:=(aI yq rZ).symm;have ncG:cl≠aG:=(aI IH rZ).symm;have ncE:cl≠aE:=(aI II rZ).symm;have j9:=au.upd (o:=.lst [.int 0]) rZ;have IJ:upd GY cl (.lst [.int 0]) cl=some (.lst [.int 0]):=aj;generalize upd GY cl (.lst [.int 0])=GZ at j9 IJ nC ⊢;have UI:aC≠x:=(aI (j9 _ _ GW) nC).symm;have kC:=n0 (λb o e n=>j9 _ _ (KL b o e n)) nC UI;have nCR:aC≠aR:=(aI (j9 _ _ IG) nC).symm;have nCW:aC≠aW:=(aI (j9 _ _ yq) nC).symm;have nCG:aC≠aG:=(aI (j9 _ _ IH) nC).symm;have nCE:aC≠aE:=(aI (j9 _ _ II) nC).symm;have nCc:aC≠cl:=(aI IJ nC).symm;have oN:=au.upd (o:=.lst [.ref cl]) nC;have UJ:upd GZ aC (.lst [.ref cl]) aC=some (.lst [.ref cl]):=aj;generalize upd GZ aC (.lst [.ref cl])=G0 at oN UJ ⊢;obtain⟨KP,OS,zL⟩:=st (f:="called") (v:=.ref aC) (oN _ _ (j9 _ _ GW)) (λb o e n=>oN _ _ (j9 _ _ (KL b o e n)));have KQ:=kY (f:="called") (v:=.ref aC) GX;generalize e15:b6 "called" (.ref aC) UG=UK at KP OS KQ zL ⊢;have MY:=zL _ _ EA (oN _ _ (j9 _ _ IG));have MZ:=zL _ _ GV (oN _ _ (j9 _ _ yq));have OU:=zL _ _ AK (oN _ _ (j9 _ _ OO));have M0:=zL _ _ KJ (oN _ _ (j9 _ _ IH));have OV:=zL _ _ EC (oN _ _ (j9 _ _ OQ));have M3:=zL _ _ OL (oN _ _ (j9 _ _ II));have IK:=zL _ _ MX (oN _ _ IJ);have M4:=zL _ _ UI UJ;generalize upd G0 x (.ins A.ak dx UK)=UL at KP OS MY MZ OU M0 OV M3 IK M4 ⊢;refine⟨ahT _,λaN nN=>⟨_,rfl,x,_,dx,_,rfl,au.upd nN _ _ KP,aK T,T.vT,ahr KQ (by decide),?_⟩⟩;have Yl:aN≠x:=(aI KP nN).symm;have kN:=n0 OS nN Yl;have nNR:aN≠aR:=(aI MY nN).symm;have nNW:aN≠aW:=(aI MZ nN).symm;have nNG:aN≠aG:=(aI M0 nN).symm;have nNE:aN≠aE:=(aI M3 nN).symm;have nNC:aN≠aC:=(aI M4 nN).symm;have nNc:aN≠cl:=(aI IK nN).symm;have vV:=au.upd (o:=.lst []) nN;have UM:upd UL aN (.lst []) aN=some (.lst []):=aj;generalize upd UL aN (.lst [])=H16 at vV UM ⊢;obtain⟨Ym,Yn,xK⟩:=st (f:="went") (v:=.ref aN) (vV _ _ KP) (λb o e n=>vV _ _ (OS b o e n))
  have ef:b6 "went" (.ref aN) UK=gb (L:Int) 1 ⟨dx,aR,aW,aG,aE,aC,aN,[],[wd],[gd],[cl]⟩:=by
   rw[←e15,←e12,←e10,←e7,←e4,←e2]
   kernel_rfl
  rw[ef]at Ym Yn xK ⊢;refine k ⟨dx,aR,aW,aG,aE,aC,aN,[],[wd],[gd],[cl]⟩ _ Yn ⟨Ym,xK _ _ EA (vV _ _ MY),xK _ _ GV (vV _ _ MZ),xK _ _ KJ (vV _ _ M0),xK _ _ OL (vV _ _ M3),xK _ _ UI (vV _ _ M4),xK _ _ Yl UM,⟨rfl,(λi p d h=>by simp at h)⟩,?_,?_,?_,(λd hd=>by cases hd),?_,?_⟩ ?_
  ·exact Each.snoc (ps:=[]) (xs:=[]) ⟨rfl,λi p d h=>by simp at h⟩ (xK _ _ AK (vV _ _ OU))
  ·exact Each.snoc (ps:=[]) (xs:=[]) ⟨rfl,λi p d h=>by simp at h⟩ (xK _ _ EC (vV _ _ OV))
  ·exact Each.snoc (ps:=[]) (xs:=[]) ⟨rfl,λi p d h=>by simp at h⟩ (xK _ _ MX (vV _ _ IK))
  ·show [aR,aW,aG,aE,aC,aN,cl].Nodup;simp only[ahX,ahp,ah5,ajt,not_or,ais,and_true,ajq];exact⟨⟨nWR.symm,nGR.symm,nER.symm,nCR.symm,nNR.symm,ncR.symm⟩,⟨nGW.symm,nEW.symm,nCW.symm,nNW.symm,ncW.symm⟩,⟨nEG.symm,nCG.symm,nNG.symm,ncG.symm⟩,⟨nCE.symm,nNE.symm,ncE.symm⟩,⟨nNC.symm,nCc⟩,nNc⟩
  ·show [wd,gd].Nodup;simp only[ahX,ahp,ah5,ajt,ais,and_true,ajq];exact ngw.symm
  ·intro b hb;rcases hb with rfl|hb|hb
   ·exact .inl rfl
   ·simp only[RA.lists,ahp,ah5,ajt]at hb;rcases hb with rfl|rfl|rfl|rfl|rfl|rfl|rfl <;> exact .inr (by assumption)
   ·simp only[RA.fK,ahx,ahp,ah5,ajt]at hb;rcases hb with rfl|rfl <;> exact .inr (by assumption)
theorem _root_.L2.ax.ED {C:Addr}{H:Hp}{r:Addr}{S:RS}{a:RA}(h:ax C H r S a){p:Addr}(hp:H p=none):¬a.own r p:=λz=>by
 obtain⟨o,e⟩:=h.there z;rw[hp]at e;cases e
theorem CB (T:Txt K mg A):aL P w K mg base bB 3 A.qV A.qW ["self","room","step"] (Eu A.ak):=by
 have rj:aL P w K mg base bB 1 A.ml A.mq ["self","room","step","other"] (zG A.ak):=uT T;have uF:aL P w K mg base bB 2 A.pS A.pT ["letters"] Es:=xI T;refine T.uA.F.ok uS (λvs H Q E h=>?_) (λbR AA outer s H vs Q E hr h=>?_)
 ·obtain⟨r,S,a,c,z,rfl,_⟩:=h;rfl
 ·obtain⟨r,S,a,c,z,rfl,h,hw,j7,zH,hc,hm,jV,hz,k⟩:=h
  refine⟨_,(ai (aY (i:=3) uS.nd rfl (Or.inl rfl) (aJ (pv 0) rfl))
   (ai (cE (pv 0) (bD dG (pv 3) aw) rfl)
   (ai (bH (fG ahD ahH ahI cT (aJ (pv 0) rfl) (ae (bS (ae (jF (l:=[110,101,119]) rfl) (ae (pv 1) (ae (pv 2) (ae (pv 3) ah))))) ah)))
   (ai (bH (fG ahD ahH ahI cT (aJ (pv 0) rfl) (ae gC ah)))
   (ai (bH (fG ahD ahH ahI cT (aJ (pv 0) rfl) (ae (bx (uF) hr.Za5 rfl T.kM.m T.kM.F.kp T.kM.b .nil aO (ae (aJ (pv 0) rfl) ah)) ah)))
   (ai (bH (fG ahD ahH ahI cT (aJ (pv 0) rfl) (ae (pv 3) ah)))
   (ai (bH (fG ahD ahH ahI cT (aJ (pv 0) rfl) (ae (dX (ae (pv 3) ah)) ah)))
   (ai (bH (bT (pv 0) (aK T) T.mz.m (rj) hr.Za5 T.mz.b .nil aO (ae (pv 1) (ae (pv 2) (ae (pv 3) ah)))))
   (aq (bz (pv 3))))))))))),?_⟩
  try dsimp only[bJ,cx]
  refine Mr ?_;intro UN Ez zI uU rX mE gB fD;refine⟨_,rfl,r,_,a.dx,_,_,rfl,h.ins,aK T,T.zA,GB _ _ _,?_⟩;refine⟨_,rfl,_,_,rfl,rfl,_,rfl,r,_,a.dx,_,rfl,h.ins,aK T,T.zA,(by show 8<1000;decide),?_⟩;rw[J2,show (S.made:Int)+ 1=((S.made+ 1:Nat):Int) by omega];have h1:=h.QJ (S.made+ 1);have u1:dq a r H (upd H r (.ins A.ak a.dx (gb S.L ((S.made+ 1:Nat):Int) a))):=dq.upd (.inl rfl);generalize upd H r (.ins A.ak a.dx (gb S.L ((S.made+ 1:Nat):Int) a))=H1 at h1 u1 ⊢;have lR:(a.rs.map V.ref).length<sizeLine:=by rw[ahl,h.rR.1];exact ahr jV (by decide)
  refine⟨_,rfl,r,_,a.dx,_,_,rfl,h1.ins,aK T,T.vS,wQ _ _ _,.inl ⟨rfl,_,aM.of h1.hR⟩,_,rfl,_,rfl,_,rfl,(Za4 4),λt ht=>⟨a.aR,_,_,rfl,rfl,au.upd ht _ _ h1.hR,lR,?_⟩⟩;have s2:=au.upd (o:=.tup [.str (tx [110,101,119]),.int c,.int z,.int S.made]) ht;have Yo:upd H1 t (.tup [.str (tx [110,101,119]),.int c,.int z,.int S.made]) t=some (.tup [.str (tx [110,101,119]),.int c,.int z,.int S.made]):=aj;generalize upd H1 t (.tup [.str (tx [110,101,119]),.int c,.int z,.int S.made])=H2 at s2 Yo ⊢
  have hd2:bN H2 4 (.ref t) (oJ c z S.made):=by
   refine .t Yo rfl λj v d e1 e2=>?_
   rcases j with _|_|_|_|j
   ·simp at e1 e2;subst e1 e2;exact .s
   ·simp at e1 e2;subst e1 e2;exact .i
   ·simp at e1 e2;subst e1 e2;exact .i
   ·simp at e1 e2;subst e1 e2;exact .i
   ·simp at e1
  have nl:ig (oJ c z S.made):=.t (by show 4<=100000;decide) λd hd=>by
   simp only[ahp,ah5,ajt]at hd;rcases hd with rfl|rfl|rfl|rfl
   ·exact .s
   ·exact .i
   ·exact .i
   ·exact .i
  have h3:=(h1.same s2).DM hd2 nl;have u3:dq a r H2 (upd H2 a.aR (.lst (a.rs.map V.ref++[.ref t]))):=dq.upd (.inr (.inl gN));generalize upd H2 a.aR (.lst (a.rs.map V.ref++[.ref t]))=H3 at h3 u3 ⊢;generalize UO:({ a with rs:=a.rs++[t] }:RA)=a3 at h3;have M5:∀b,a3.own r b->a.own r b:=λb hb=>by rw[←UO]at hb;exact hb
  have afU:∀b,a.own r b->a3.own r b:=λb hb=>by rw[←UO];exact hb
  have ewG:a3.dx=a.dx:=by rw[←UO]
  have U3:dq a r H H3:=u1.trans (λb o hb e=>u3 b o hb (s2 _ _ e));refine⟨_,rfl,r,_,a3.dx,_,_,rfl,h3.ins,aK T,T.j6,jI _ _ _,.inl ⟨rfl,_,aM.of h3.hW⟩,?_⟩;intro wd BW;have hdW:(a3.ws.map V.ref).length<sizeLine:=by rw[ahl,h3.rW.1];show S.ways.length<sizeLine;rw[hw.w];exact ahr hm (by decide)
  have s4:=au.upd (o:=.dK []) BW;have IL:upd H3 wd (.dK []) wd=some (.dK (wK [])):=aj;have abO:=h3.ED BW;refine⟨a3.aW,_,_,rfl,rfl,s4 _ _ h3.hW,hdW,?_⟩;generalize upd H3 wd (.dK [])=H4 at s4 IL ⊢;have h5:=(h3.same s4).TL IL (λz=>abO (.inr (.inr z)));have u5:dq a3 r H4 (upd H4 a3.aW (.lst (a3.ws.map V.ref++[.ref wd]))):=dq.upd (.inr (.inl gO));generalize upd H4 a3.aW (.lst (a3.ws.map V.ref++[.ref wd]))=H5 at h5 u5 ⊢;generalize ea5:({ a3 with ws:=a3.ws++[wd] }:RA)=a5 at h5
  have UQ:∀b,a5.own r b->a3.own r b\/b=wd:=λb hb=>by
   rw[←ea5]at hb;rcases hb with hb|hb|hb
   ·exact .inl (.inl hb)
   ·exact .inl (.inr (.inl hb))
   ·simp only[RA.fK,ahx,ahg]at hb;rcases hb with (hb|hb)|hb
    ·exact .inl (.inr (.inr (ahF _ hb)))
    ·exact .inr hb
    ·exact .inl (.inr (.inr (ahn _ hb)))
  have OD:H wd=none\/a.own r wd:=by
   by_cases ho:a.own r wd
   ·exact .inr ho
   ·refine .inl ?_
    cases e:H wd with
    |none=>rfl
    |some o=>rw[U3 wd o ho e]at BW;cases BW
  have U5:dq a r H H5:=U3.trans λb o hb e=>u5 b o (λz=>hb (M5 b z)) (s4 _ _ e)
  refine⟨_,rfl,r,_,a5.dx,_,_,rfl,h5.ins,aK T,T.zB,Ay _ _ _,.inl ⟨rfl,_,aM.of h5.hG⟩,_,rfl,r,_,a5.dx,_,_,rfl,h5.ins,aK T,T.BR,Ik _ _ _,S.L,rfl,j7,zH,λgd H6 s6 EB abP=>?_⟩;have hdG:(a5.gs.map V.ref).length<sizeLine:=by rw[ahl,h5.rG.1];show S.gaps.length<sizeLine;rw[hw.g];exact ahr hm (by decide)
  have h6:=h5.same s6;have abQ:=h5.ED EB;refine⟨a5.aG,_,_,rfl,rfl,h6.hG,hdG,?_⟩;have h7:=h6.TN abP (λz=>abQ (.inr (.inr z)));have u7:dq a5 r H6 (upd H6 a5.aG (.lst (a5.gs.map V.ref++[.ref gd]))):=dq.upd (.inr (.inl kh));generalize upd H6 a5.aG (.lst (a5.gs.map V.ref++[.ref gd]))=H7 at h7 u7 ⊢;generalize ea7:({ a5 with gs:=a5.gs++[gd] }:RA)=a7 at h7
  have UR:∀b,a7.own r b->a5.own r b\/b=gd:=λb hb=>by
   rw[←ea7]at hb;rcases hb with hb|hb|hb
   ·exact .inl (.inl hb)
   ·exact .inl (.inr (.inl hb))
   ·simp only[RA.fK,ahx,ahg]at hb;rcases hb with hb|hb|hb
    ·exact .inl (.inr (.inr (ahF _ hb)))
    ·exact .inl (.inr (.inr (ahn _ hb)))
    ·exact .inr hb
  have w5:H wd=none\/a.own r wd:=OD
  have UT:∀b o,¬a.own r b->H b=some o->¬a5.own r b:=λb o hb e z=>by
   rcases UQ b z with z|rfl
   ·exact hb (M5 b z)
   ·rcases OD with q|q
    ·rw[q]at e;cases e
    ·exact hb q
  have U7:dq a r H H7:=λb o hb e=>u7 b o (UT b o hb e) (s6 _ _ (U5 b o hb e))
  have UC:H gd=none\/a.own r gd:=by
   by_cases ho:a.own r gd
   ·exact .inr ho
   ·refine .inl ?_
    cases e:H gd with
    |none=>rfl
    |some o=>rw[U5 gd o ho e]at EB;cases EB
  refine⟨_,rfl,r,_,a7.dx,_,_,rfl,h7.ins,aK T,T.kP,kU _ _ _,.inl ⟨rfl,_,aM.of h7.hE⟩,_,rfl,a7.aE,_,_,rfl,rfl,h7.hE,?_,?_⟩
  ·rw[bh,cy];show S.aB.length<sizeLine;rw[hw.e];exact ahr hm (by decide)
  have eE:ao (nI S.aB)++[V.int (S.made:Int)]=ao (nI (S.aB++[S.made])):=by rw[jo,ints_app];rfl
  show _;have h8:=h7.By (S.aB++[S.made]);rw[←eE]at h8;have u8:dq a7 r H7 (upd H7 a7.aE (.lst (ao (nI S.aB)++[V.int (S.made:Int)]))):=dq.upd (.inr (.inl iB));generalize upd H7 a7.aE (.lst (ao (nI S.aB)++[V.int (S.made:Int)]))=H8 at h8 u8 ⊢
  have M6:∀b o,¬a.own r b->H b=some o->¬a7.own r b:=λb o hb e z=>by
   rcases UR b z with z|rfl
   ·exact UT b o hb e z
   ·rcases UC with q|q
    ·rw[q]at e;cases e
    ·exact hb q
  have U8:dq a r H H8:=λb o hb e=>u8 b o (M6 b o hb e) (U7 b o hb e)
  refine⟨_,rfl,r,_,a7.dx,_,_,rfl,h8.ins,aK T,T.qZ,rO _ _ _,.inl ⟨rfl,_,aM.of h8.hC⟩,_,rfl,(Za4 1),λcl rZ=>⟨a7.aC,_,_,rfl,rfl,au.upd rZ _ _ h8.hC,?_,?_⟩⟩
  ·rw[ahl,h8.rC.1];show S.called.length<sizeLine;rw[hw.c];exact ahr hm (by decide)
  have s9:=au.upd (o:=.lst [.int (S.made:Int)]) rZ;have UU:upd H8 cl (.lst [.int (S.made:Int)]) cl=some (.lst (ao (nI [S.made]))):=aj;have abR:=h8.ED rZ;generalize upd H8 cl (.lst [.int (S.made:Int)])=H9 at s9 UU ⊢;have xM:=(h8.same s9).Ka UU (λz=>abR (.inr (.inl z)));have BI:dq a7 r H9 (upd H9 a7.aC (.lst (a7.cs.map V.ref++[.ref cl]))):=dq.upd (.inr (.inl jJ));generalize upd H9 a7.aC (.lst (a7.cs.map V.ref++[.ref cl]))=uV at xM BI ⊢;generalize abS:({ a7 with cs:=a7.cs++[cl] }:RA)=qL at xM
  have OW:∀b,qL.own r b->a7.own r b\/b=cl:=λb hb=>by
   rw[←abS]at hb;rcases hb with hb|hb|hb
   ·exact .inl (.inl hb)
   ·have G3:b∈a7.lists++[cl]:=hb;rcases ahx.mp G3 with hb|hb
    ·exact .inl (.inr (.inl hb))
    ·exact .inr (ahg.mp hb)
   ·exact .inl (.inr (.inr hb))
  have UH:H cl=none\/a.own r cl:=by
   by_cases ho:a.own r cl
   ·exact .inr ho
   ·refine .inl ?_
    cases e:H cl with
    |none=>rfl
    |some o=>rw[U8 cl o ho e]at rZ;cases rZ
  have Xw:∀b o,¬a.own r b->H b=some o->¬qL.own r b:=λb o hb e z=>by
   rcases OW b z with z|rfl
   ·exact M6 b o hb e z
   ·rcases UH with q|q
    ·rw[q]at e;cases e
    ·exact hb q
  have U10:dq a r H uV:=λb o hb e=>BI b o (M6 b o hb e) (s9 _ _ (U8 b o hb e))
  have hS:ax A.ak uV r (S.grown c z (cV (2* S.L))) qL:=xM;refine⟨_,rfl,r,qL.dx,_,rfl,hS.ins,cq _ _ _ (by decide +kernel),_,rfl,_,rfl,_,rfl,r,S.grown c z (cV (2* S.L)),qL,c,S.made,z,rfl,hS,⟨?_,?_,?_,?_⟩,?_,?_,?_,λBX T6 UX=>?_⟩
  ·show (S.ways++[[]]).length=S.made+ 1;rw[ahe,hw.w];rfl
  ·show (S.gaps++[_]).length=S.made+ 1;rw[ahe,hw.g];rfl
  ·show (S.aB++[_]).length=S.made+ 1;rw[ahe,hw.e];rfl
  ·show (S.called++[_]).length=S.made+ 1;rw[ahe,hw.c];rfl
  ·show c<S.made+ 1;omega
  ·show S.made<S.made+ 1;omega
  ·intro l hl;rcases ahx.mp hl with hl|hl
   ·exact hz l hl
   ·rw[ahg.mp hl];exact ahT _
  ·refine⟨_,rfl,k qL BX (λb o hb e=>T6 b o (Xw b o hb e) (U10 b o hb e)) UX λb hb=>?_⟩;rcases OW b hb with hb|rfl
   ·rcases UR b hb with hb|rfl
    ·rcases UQ b hb with hb|rfl
     ·exact .inl (M5 b hb)
     ·exact OD.symm
    ·exact UC.symm
   ·exact UH.symm
theorem pL (T:Txt K mg A):aL P w K mg base bB 1 A.iH A.iI ["self"] (pU A.ak):=by
 refine T.eX.F.ok xj (λvs H Q E h=>?_) (λbR AA outer s H vs Q E hr h=>?_)
 ·obtain⟨r,S,a,rfl,_⟩:=h;rfl
 ·obtain⟨r,S,a,rfl,h,hw,hm,k⟩:=h;refine⟨_,(aq (bz (pQ (fns:=["self"]) (ixs:=[0]) (cl:=_) rfl (gu rfl T.hJ (ae (aJ (pv 0) rfl) ah)) (fe rfl rfl (by decide +kernel) rfl (by decide +kernel) rfl (by decide +kernel) (by decide +kernel) rfl rfl rfl rfl) (λC s H ex=>(aZ fF (aS (yc (K:=K) rfl) (QL (K:=K) rfl (pv 1) rfl) (pv 0) (λ_ _=>rfl)) (pv 0) (bj _))) (λC s H ex=>(pv 0))))),?_⟩
  try dsimp only[bJ,cx]
  refine⟨_,rfl,r,_,a.dx,_,_,rfl,h.ins,aK T,T.zA,GB _ _ _,(S.made:Int),rfl,by omega,by omega,?_⟩;rw[ahZ];refine⟨λi m ys H2=>m=S.made - i/\i<=S.made/\ys=ao (nI ((List.range i).filter λc=>decide (S.aB[c]?=some c)))/\H2=H,⟨S.made,by simp,ahT _,rfl,rfl⟩,?_⟩;rintro i m ys H2 ⟨rfl,hi,rfl,rfl⟩
  have hlen:(ao (nI ((List.range i).filter λc=>decide (S.aB[c]?=some c)))).length<=i:=by
   rw[bh,cy];exact ahC (aiT _ _) (by rw[aiH];exact ahi _)
  by_cases bU:i<S.made
  ·refine .inr ⟨bU,?_,λx H3 jm=>?_⟩
   ·exact ahr (ahC hlen (show i<=100000 by omega)) (by decide)
   obtain⟨rfl,rfl⟩:=jm;obtain⟨e,he⟩:=get_some (xs:=S.aB) (i:=i) (by rw[hw.e];exact bU);refine⟨_,rfl,r,_,a.dx,_,_,rfl,h.ins,aK T,T.kP,kU _ _ _,_,rfl,a.aE,_,_,_,rfl,rfl,aM.of h.hE,(by rw[ajd];exact cf (bZ (fj he))),?_⟩;refine⟨_,rfl,rfl,_,rfl,?_⟩;by_cases lM:e=i
   ·subst lM;rw[show decide (V.int (e:Int)=V.int (0+ (e:Int)))=true from ahy (by rw[ajd])];refine⟨_,rfl,S.made - (e+ 1),by omega,rfl,bU,?_,rfl⟩;rw[aiy,aj4,ajv (by rw[he];exact ahy rfl),aj2,jo,ints_app,ajd];rfl
   ·rw[show decide (V.int (e:Int)=V.int (0+ (i:Int)))=false from ah1 (λz=>lM (by injection z with z;omega))];refine⟨S.made - (i+ 1),by omega,rfl,bU,?_,rfl⟩;rw[aiy,aj4,aju (by rw[he];intro z;exact lM (Za0 (ahB z))),aj2,ahU]
  ·have e:i=S.made:=by omega
   subst e;exact .inl ⟨ahi _,ahC hlen (ahC hm (by decide)),λD hD=>k D hD⟩
theorem AQ (T:Txt K mg A):aL P w K mg base bB 5 A.pB A.pC ["self"] (tK 2 A.ak):=by
 have iO:aL P w K mg base bB 4 A.oh A.oj ["value"] (uE 2):=BU T;refine T.cY.F.ok AJ (λvs H Q E h=>?_) (λbR AA outer s H vs Q E hr h=>?_)
 ·obtain⟨r,S,a,rfl,_⟩:=h;rfl
 ·obtain⟨r,S,a,rfl,h,jV,Yp,k⟩:=h;refine⟨_,(aq (bz (dQ (fns:=[]) (ixs:=[]) (cl:=[]) rfl (eJ (aJ (pv 0) rfl)) (gw (by decide +kernel) (by decide +kernel) rfl (by decide +kernel) rfl) (λC s H ex=>(bx (iO) hr.Za5 rfl T.own.m T.own.F.kp T.own.b .nil aO (ae (pv 0) ah)))))),?_⟩
  try dsimp only[bJ,cx]
  refine⟨_,rfl,r,_,a.dx,_,_,rfl,h.ins,aK T,T.vS,wQ _ _ _,a.aR,rfl,⟨_,aM.of h.hR⟩,?_⟩;have Yq:(a.rs.map V.ref).length=S.rows.length:=by rw[ahl,h.rR.1]
  have hri:∀i,i<S.rows.length->∃p d,a.rs[i]?=some p/\S.rows[i]?=some d/\d∈S.rows/\bN H 4 (.ref p) d:=λi hi=>by
   have hd:=ahc hi;obtain⟨p,hp,q⟩:=h.rR.at hd;exact⟨p,_,hp,hd,ahf hd,q⟩
  refine jq (α:=Unit) S.rows.length (λi=>(a.rs.map V.ref).getD i .non) (λH2 v i=>∃p d,v=.ref p/\S.rows[i]?=some d/\ig d/\bN H2 4 (.ref p) d) (λH1 H2 v i s ⟨p,x,e,e2,hn,q⟩=>⟨p,x,e,e2,hn,q.same s⟩) ?_ (λi H2 s2 hi=>vt (aM.of (s2 _ _ h.hR)) i (by omega)) (λi x H2 H3 s2 hi y=>?_) (λH2 s2=>?_) (λi H2 Rr hi s2 kk=>?_) (λD H2 ys s2 hD hl hr=>?_)
  ·exact ahC jV (by decide)
  ·obtain⟨e,hx⟩:=sZ (aM.of (s2 _ _ h.hR)) i x H3 (by omega) y;refine⟨e,?_⟩;rw[ahh,hx];rfl
  ·have:=qt (aM.of (K:=K) (s2 _ _ h.hR));rw[Yq]at this;exact this
  ·obtain⟨p,d,hp,hd,hm,q⟩:=hri i hi;have hx:(a.rs.map V.ref).getD i .non=.ref p:=by rw[ahh,ahw,hp];rfl
   have q1:=(Yp p d hm q).same s2;rw[hx];refine⟨_,rfl,.ref p,d,rfl,q1,h.flat d hm,λv' H' s' q'=>?_⟩
   have:∃p',v'=.ref p':=by
    have fx:∃ds,d=.t ds:=by
     cases q with
     |t=>exact⟨_,rfl⟩
     |l=>exact absurd (h.flat _ hm) (λz=>by cases z)
    obtain⟨ds,rfl⟩:=fx
    cases q' with
    |t=>exact⟨_,rfl⟩
   obtain⟨p',rfl⟩:=this;exact kk _ H' s' ⟨p',d,rfl,hd,h.flat d hm,q'.le (by decide)⟩
  ·obtain⟨ps,rfl,jr⟩:=tE (P:=λi p=>∃d,S.rows[i]?=some d/\bN H2 4 (.ref p) d) ys 0 (λi v hv=>by
    obtain⟨p,d,e,e2,-,q⟩:=hr i v hv;rw[akf];exact⟨p,e,d,e2,q⟩)
   have sD:au H2 (upd H2 D (.lst (ps.map V.ref))):=au.upd hD;rw[ahl]at hl;refine k D ps _ (s2.trans sD) (s2.free hD) aj ⟨hl,λi p d e1 e2=>?_⟩;obtain⟨d',e3,q⟩:=jr i p e1;rw[akf]at e3;obtain rfl:d'=d:=Za0 (e3.symm.trans e2);exact q.same sD
def dJ (H:Hp)(p:Addr)(pend:List Way):Prop:=∃qs:List Addr,H p=some (.lst (qs.map V.ref))/\Each (λq (w:Way)=>H q=some (.tup [.int (w.1:Int),.int w.2.1,.int (w.2.2:Int)])) qs pend
def uG (a:RA)(r p:Addr)(H H':Hp):Prop:=∀b o,¬a.own r b->b≠p->H b=some o->H' b=some o
theorem dJ.keep {H H':Hp}{p:Addr}{pend:List Way}(h:dJ H p pend)(k:∀o,H p=some o->H' p=some o)(kt:∀b xs,H b=some (.tup xs)->H' b=some (.tup xs)):dJ H' p pend:=by
 obtain⟨qs,h1,h2⟩:=h;exact⟨qs,k _ h1,h2.imp λq w _ _ e=>kt _ _ e⟩
structure Small (S:RS):Prop where
 m:S.made<=100000
 w:∀l∈S.ways,l.length<=100000
 r:S.rows.length<=1000000
 n:S.bE.length<=1000000
 c:∀l∈S.called,l.length<=1000000
inductive yr (C:Addr) (vs:List V) (H:Hp) (Q:VK) (E_:XK):Prop
 |mk (r p:Addr) (S:RS) (a:RA) (c:Nat) (pend:List Way) (e9:vs=[.ref r,.int c,.ref p]) (fb:ax C H r S a) (fm:S.Wf) (fq:c<S.made) (fZ:Il S c) (hX:(∀l∈S.ways,l.length<=100000)) (iW:dJ H p pend) (jC:¬a.own r p) (lu:pend.length<=1000000) (rV:∀a' H',uG a r p H H'->ax C H' r (S.tG c pend).1 a'->dJ H' p (S.tG c pend).2->(∀b,a'.own r b->a.own r b\/H b=none)->Q .non H'):yr C vs H Q E_
inductive AU (C:Addr) (vs:List V) (H:Hp) (Q:VK) (E_:XK):Prop
 |mk (r p:Addr) (S:RS) (a:RA) (c x y:Nat) (z:Int) (pend:List Way) (e9:vs=[.ref r,.int c,.int z,.int x,.int y,.ref p]) (fb:ax C H r S a) (fm:S.Wf) (fq:x<S.made) (fZ:y<S.made) (hX:x≠y) (iW:Il S (max x y)) (jC:(∀n∈S.cG (max x y),n<S.made)) (lu:Small S) (rV:dJ H p pend) (sS:¬a.own r p) (yt:pend.length<=1000000) (AV:∀a' H',uG a r p H H'->ax C H' r (S.meet c z x y pend).1 a'->dJ H' p (S.meet c z x y pend).2->(∀b,a'.own r b->a.own r b\/H b=none)->Q .non H'):AU C vs H Q E_
structure vW (S:RS):Prop where
 wf:S.Wf
 el:∀c,c<S.made->S.ay c<S.made
 bl:∀c z d,S.by c z=some d->d<S.made
 cl:∀c,∀n∈S.cG c,n<S.made
 off:∀c,c<S.made->Il S c
 sm:Small S
inductive yu (C:Addr) (vs:List V) (H:Hp) (Q:VK) (E_:XK):Prop
 |mk (r t p:Addr) (S:RS) (a:RA) (w:Way) (pend:List Way) (e9:vs=[.ref r,.ref t,.ref p]) (fb:ax C H r S a) (fm:H t=some (.tup [.int (w.1:Int),.int w.2.1,.int (w.2.2:Int)])) (fq:vW S) (fZ:w.1<S.made) (hX:w.2.2<S.made) (iW:dJ H p pend) (jC:¬a.own r p) (lu:pend.length<=1000000) (rV:∀a' H',uG a r p H H'->ax C H' r (S.takeIn pend w).1 a'->dJ H' p (S.takeIn pend w).2->(∀b,a'.own r b->a.own r b\/H b=none)->Q .non H'):yu C vs H Q E_
inductive zM (C:Addr) (vs:List V) (H:Hp) (Q:VK) (E_:XK):Prop
 |mk (r q:Addr) (S:RS) (a:RA) (c d:Nat) (z:Int) (row:Dt) (I:RS->List Way->Prop) (μ:RS->List Way->Nat) (e9:vs=[.ref r,.int c,.int z,.int d,.ref q]) (fb:ax C H r S a) (fm:S.rows.length<=1000000) (fq:bN H 2 (.ref q) row) (fZ:ig row) (hX:I { S with rows:=S.rows++[row] } [(c,z,d)]) (iW:(∀S pend w,I S (pend++[w])->vW S/\w.1<S.made/\w.2.2<S.made/\pend.length<=1000000/\I (S.takeIn pend w).1 (S.takeIn pend w).2/\μ (S.takeIn pend w).1 (S.takeIn pend w).2 < μ S (pend++[w]))) (jC:∀S' a' H',dq a r H H'->ax C H' r S' a'->I S' []->(∀b,a'.own r b->a.own r b\/H b=none)->Q .non H'):zM C vs H Q E_
theorem wW {n i:Nat}(h:i<n):xu n (i:Int)=some i:=by
 unfold xu;rw[ahu (by omega),ahu (by omega),ahZ]
theorem M7 {l:List (Int×Nat)}(nd:(l.map (·.1)).Nodup){q:Int×Nat}(h:q∈l):fJ l q.1=some q.2:=by
 induction l with
 |nil=>cases h
 |cons p l ih=>
  unfold fJ;rw[ahY,ahX]at nd;by_cases e:p.1=q.1
  ·rw[ai7 (by exact ahy e)];rcases ahp.mp h with rfl|h
   ·rfl
   ·exact absurd (by rw[e];exact aiR h) nd.1
  ·rw[ai8 (by simpa using e)];rcases ahp.mp h with rfl|h
   ·exact absurd rfl e
   ·exact ih nd.2 h
theorem yw (T:Txt K mg A):aL P w K mg base bB 1 A.mw A.mx ["self","room","pending"] (yr A.ak):=by
 refine T.pG.F.ok iN (λvs H Q E h=>?_) (λbR AA outer s H vs Q E hr h=>?_)
 ·obtain⟨r,p,S,a,c,pend,rfl,_⟩:=h;rfl
 ·obtain⟨r,p,S,a,c,pend,rfl,h,hw,hc,ok,sm,hP,np,dR,k⟩:=h;have dE:=gM hr
  refine⟨_,(ai (aY (i:=3) iN.nd rfl (Or.inl rfl) (aS ck (aJ (pv 0) rfl) (pv 1) (λ_ _=>rfl)))
   (ai (oy gC (yO (aJ (pv 0) rfl) (pv 1) set_list))
   (aq (dw ahK rfl (eJ (cZ (lT rfl) rfl T.mB aid (ae (pv 3) ah))) (bQ (i:=4) iN.nd rfl (Or.inl rfl))
    (ai (aY (i:=5) iN.nd rfl (Or.inl rfl) (As dE (pv 3) (pv 4) (λ_ _=>rfl)))
    (ai (bX (bP (aZ lE (pv 5) (pv 1) (bj _))
     (aq (bH (Mf (aS ck (aJ (pv 0) rfl) (pv 5) (λ_ _=>rfl)) (fW eP (pv 4)) ⟨rfl,rfl,rfl,rfl⟩)))
     bC))
    (aq (bH (fG ahD ahH ahI cT (pv 2) (ae (bS (ae (pv 1) (ae (pv 4) (ae (pv 5) ah)))) ah)))))))))),?_⟩
  try dsimp only[bJ,cx]
  refine gE ?_;intro gB fD;have GJ:c<S.ways.length:=by rw[hw.w];exact hc
  obtain⟨wd,zN,Yr⟩:=h.rW.at (tL GJ);have Yq:(S.way c).length<=100000:=Ey sm;refine⟨_,rfl,r,_,a.dx,_,_,rfl,h.ins,aK T,T.j6,jI _ _ _,_,rfl,a.aW,_,_,_,rfl,rfl,aM.of h.hW,gA zN,?_⟩;intro nd G4;have s1:=au.upd (o:=.dK []) G4;have UY:upd H nd (.dK []) nd=some (.dK (wK [])):=aj;have nn:=h.ED G4;have nnp:nd≠p:=λz=>by obtain⟨qs,q1,_⟩:=hP;rw[←z,G4]at q1;cases q1
  generalize upd H nd (.dK [])=H1 at s1 UY ⊢;have h1:=h.same s1;have hi:c<a.ws.length:=by rw[h.rW.1];exact GJ
  refine⟨_,rfl,r,_,a.dx,_,_,rfl,h1.ins,aK T,T.j6,jI _ _ _,_,rfl,a.aW,_,_,c,rfl,rfl,h1.hW,wW (by rw[ahl];exact hi),?_⟩;have h2:=h1.TX hi UY (λz=>nn (.inr (.inr z)));have u2:∀b o,b≠a.aW->H1 b=some o->upd H1 a.aW (.lst ((a.ws.map V.ref).set c (.ref nd))) b=some o:=λb o nb e=>by rw[av nb];exact e
  generalize upd H1 a.aW (.lst ((a.ws.map V.ref).set c (.ref nd)))=H2 at h2 u2 ⊢;have npW:p≠a.aW:=λz=>np (.inr (.inl (by rw[z];exact gO)))
  have wdW:wd≠a.aW:=(h.ld gO (eh (ahf zN))).symm;have IQ:H2 wd=some (.dK (wK (S.way c))):=u2 _ _ wdW (s1 _ _ Yr);generalize G5:({ a with ws:=a.ws.set c nd }:RA)=a2 at h2;have OX:ax A.ak H2 r (dm c S pend []).1 a2:=h2
  have abT:¬a2.own r wd:=λz=>by
   rw[←G5]at z;rcases z with z|z|z
   ·exact(h.rd (eh (ahf zN))) z.symm
   ·exact h.ld z (eh (ahf zN)) rfl
   ·have Ys:=ah9.mp h.qE;have z':wd∈a.ws.set c nd++a.gs:=z;rcases ahx.mp z' with z|z
    ·obtain⟨j,hj⟩:=aih z;by_cases e:c=j
     ·subst e;rw[ahW hi]at hj;have:nd=wd:=Za0 hj;rw[this,Yr]at G4;cases G4
     ·rw[aif e]at hj;exact e ((akb hi Ys.1).mp (zN.trans hj.symm))
    ·exact Ys.2.2 wd (ahf zN) wd z rfl
  have M8:∀b,a2.own r b->a.own r b\/H b=none:=λb hb=>by
   rw[←G5]at hb;rcases hb with hb|hb|hb
   ·exact .inl (.inl hb)
   ·exact .inl (.inr (.inl hb))
   ·have G3:b∈a.ws.set c nd++a.gs:=hb;rcases ahx.mp G3 with hb|hb
    ·rcases ajf hb with hb|rfl
     ·exact .inl (.inr (.inr (ahF _ hb)))
     ·exact .inr G4
    ·exact .inl (.inr (.inr (ahn _ hb)))
  have tM:¬a2.own r p:=λz=>by
   rcases M8 p z with q|q
   ·exact np q
   ·obtain⟨qs,q1,_⟩:=hP;rw[q]at q1;cases q1
  have JX:dJ H2 p (dm c S pend []).2:=hP.keep (λo e=>u2 _ _ npW (s1 _ _ e)) (λb xs e=>u2 _ _ (h.tl e gO) (s1 _ _ e));have B2:uG a r p H H2:=λb o nb _ e=>u2 _ _ (λz=>nb (.inr (.inl (by rw[z];exact gO)))) (s1 _ _ e)
  refine⟨_,rfl,wd,_,rfl,IQ,λl nl=>?_⟩;have s3:=au.upd (o:=.lst ((wK (S.way c)).map λkv=>kV kv.1)) nl;have DG:upd H2 l (.lst ((wK (S.way c)).map λkv=>kV kv.1)) l=some (.lst ((wK (S.way c)).map λkv=>kV kv.1)):=aj;have uW:=OX.ED nl;have Yt:l≠p:=λz=>by obtain⟨qs,q1,_⟩:=JX;rw[←z,nl]at q1;cases q1
  have nlw:l≠wd:=λz=>by rw[z,IQ]at nl;cases nl
  have nlH:H l=none\/a.own r l:=by
   by_cases ho:a.own r l
   ·exact .inr ho
   ·refine .inl ?_
    cases e:H l with
    |none=>rfl
    |some o=>rw[B2 l o ho Yt e]at nl;cases nl
  generalize upd H2 l (.lst ((wK (S.way c)).map λkv=>kV kv.1))=H3 at s3 DG ⊢;refine⟨l,rfl,⟨_,aM.of DG⟩,?_⟩;have hlen:((wK (S.way c)).map λkv=>kV kv.1).length=(S.way c).length:=by rw[ahl,DK]
  let fU:Nat->St->Hp->Prop:=λi σ H4=>∃v4 v5,σ=[some (.ref r),some (.int (c:Int)),some (.ref p),some (.ref wd),v4,v5]/\ax A.ak H4 r (dm c S pend ((S.way c).take i)).1 a2/\dJ H4 p (dm c S pend ((S.way c).take i)).2/\(∀b o,¬a2.own r b->b≠p->H3 b=some o->H4 b=some o)
  refine iz (xs:=(wK (S.way c)).map λkv=>kV kv.1) fU ⟨none,none,rfl,OX.same s3,JX.keep (λo e=>s3 _ _ e) (λb xs e=>s3 _ _ e),λb o _ _ e=>e⟩ (λi σ H4 _ ⟨_,_,_,_,_,kk⟩=>aM.of (kk _ _ uW Yt DG)) ?_ ?_
  ·intro i x σ H4 hx bV;refine bI ?_;intro q_;obtain⟨v4,v5,rfl,h4,BV,kk⟩:=bV;dsimp only[q_];clear q_;dsimp only[eM];refine yf ?_;intro ik UZ GR;have Yu:i<(S.way c).length:=by rw[←hlen];exact(ahd.mp hx).1
   obtain⟨w,hg⟩:=get_some (xs:=(S.way c)) (i:=i) Yu
   have ex:x=.int w.1:=by
    unfold wK at hx;rw[ahw,ahw,hg]at hx;exact(Za0 hx).symm
   subst ex;have hm:=ahf hg;have DE:(S.way c).take (i+ 1)=(S.way c).take i++[w]:=by rw[aje,hg];rfl
   have IL:H4 wd=some (.dK (wK (S.way c))):=kk _ _ abT (λz=>by obtain⟨qs,q1,_⟩:=JX;rw[←z,IQ]at q1;cases q1) (s3 _ _ IQ);have hv:bM (wK (S.way c)) (Sum.inl w.1)=some (.int (w.2:Int)):=by rw[oI,M7 ok.nd hm];rfl
   have bU:=ok.lt w hm;have Kh:=(k8 c S pend ((S.way c).take i)).1;refine⟨_,rfl,_,rfl,wd,_,rfl,(by have:=dB.k (k:=Sum.inl w.1) IL;rw[hv]at this;exact this),?_⟩
   let uH:St->Hp->Prop:=λ aX H'=>aX=[some (.ref r),some (.int (c:Int)),some (.ref p),some (.ref wd),some (.int w.1),some (.int (w.2:Int))]/\ax A.ak H' r (dm c S pend ((S.way c).take (i+ 1))).1 a2/\dJ H' p (dm c S pend ((S.way c).take i)).2/\(∀b o,¬a2.own r b->b≠p->H3 b=some o->H' b=some o)
   refine⟨uH,?_,?_⟩
   ·refine cM ?_;intro ik;refine⟨_,rfl,_,rfl,rfl,_,rfl,cS (λcF=>?_) (λcF=>?_)⟩
    ·have EE:w.2≠c:=λz=>by rw[z]at cF;simp at cF
     have hd2:w.2<(dm c S pend ((S.way c).take i)).1.ways.length:=by rw[Kh,hw.w];exact bU
     obtain⟨pd,zO,KR⟩:=h4.rW.at (tL hd2)
     have zk:((dm c S pend ((S.way c).take i)).1.by w.2 (-w.1)).isSome=true:=by
      rw[GD GJ _ (λq hq=>by rw[hw.w];exact ok.lt q (List.mem_of_mem_take hq)),ahq]
      ·exact ok.bk w hm EE
      ·rintro (q|⟨q,hq,q1,q2⟩)
       ·exact EE q
       ·obtain⟨j,hj⟩:=aih hq
        have rn:j<i:=by
         have:=(ahd.mp hj).1;rw[ah2]at this;omega
        rw[ajl rn]at hj;have e1:((S.way c).map (·.1))[j]?=some q.1:=by rw[ahw,hj];rfl
        have e2:((S.way c).map (·.1))[i]?=some w.1:=by rw[ahw,hg];rfl
        have e3:q.1=w.1:=by omega
        rw[e3]at e1;have:=(akb (by rw[ahl];exact Yu) ok.nd).mp (e2.trans e1.symm);omega
     obtain⟨m,U0⟩:=aio.mp zk;refine⟨_,rfl,r,_,a2.dx,_,_,rfl,h4.ins,aK T,T.j6,jI _ _ _,_,rfl,a2.aW,_,_,_,rfl,rfl,aM.of h4.hW,gA zO,pd,rfl,.inl ⟨_,.inl KR⟩,_,rfl,_,rfl,_,Sum.inl (-w.1),.int (m:Int),KR,rfl,?_,?_⟩
     ·rw[oI];show ((dm c S pend ((S.way c).take i)).1.by w.2 (-w.1)).map _=_;rw[U0];rfl
     ·rw[QM];refine⟨rfl,?_,BV.keep (λo e=>?_) (λb xs e=>?_),λb o nb lz e=>?_⟩
      ·rw[DE,jt];unfold kZ;simp only[EE,ajT,ajq,ne_eq];exact h4.DN zO _
      ·rw[av (λz=>tM (.inr (.inr (eh (by rw[z];exact ahf zO)))))];exact e
      ·rw[av (h4.td e (eh (ahf zO)))];exact e
      ·rw[av (λz=>nb (.inr (.inr (eh (by rw[z];exact ahf zO)))))];exact kk b o nb lz e
    ·have EE:w.2=c:=by
      by_cases e:w.2=c
      ·exact e
      ·exact absurd (by simp;omega) cF
     refine⟨rfl,?_,BV,kk⟩;rw[DE,jt];unfold kZ;simp only[EE,ne_eq,not_true_eq_false,ajs];exact h4
   rintro aX H5 ⟨rfl,h5,OY,U1⟩;obtain⟨qs,U2,Yv⟩:=OY
   have KS:(qs.map V.ref).length<sizeLine:=by
    rw[ahl,Yv.1,BE,ahe,ahl,ah2];exact ahr (show _<=1100000 by omega) (by decide)
   refine⟨_,rfl,.inl ⟨rfl,_,aM.of U2⟩,_,rfl,_,rfl,_,rfl,(Za4 3),λt nt=>?_⟩;have s6:=au.upd (o:=.tup [.int (c:Int),.int w.1,.int (w.2:Int)]) nt;have KW:upd H5 t (.tup [.int (c:Int),.int w.1,.int (w.2:Int)]) t=some (.tup [.int (c:Int),.int w.1,.int (w.2:Int)]):=aj;generalize upd H5 t (.tup [.int (c:Int),.int w.1,.int (w.2:Int)])=H6 at s6 KW ⊢;refine⟨p,_,_,rfl,rfl,s6 _ _ U2,KS,?_⟩;have kp:∀b o,b≠p->H6 b=some o->upd H6 p (.lst (qs.map V.ref++[.ref t])) b=some o:=λb o nb e=>by rw[av nb];exact e
   have U4:∀b xs,H6 b=some (.tup xs)->upd H6 p (.lst (qs.map V.ref++[.ref t])) b=some (.tup xs):=λb xs e=>kp _ _ (cX e (s6 _ _ U2) (by intro z;cases z)) e
   refine⟨_,_,rfl,(h5.same s6).keep (λb o hb e=>kp b o (λz=>tM (z ▸ hb)) e) U4,⟨qs++[t],?_,?_⟩,λb o nb lz e=>kp b o lz (s6 _ _ (U1 b o nb lz e))⟩
   ·rw[aj,ahO];rfl
   ·rw[DE,jt];exact(Yv.imp λq w' _ _ e=>U4 _ _ (s6 _ _ e)).snoc (U4 _ _ KW)
  ·intro σ H4 bV;refine bI ?_;intro q_;obtain⟨v4,v5,rfl,h4,BV,kk⟩:=bV;dsimp only[q_];clear q_;rw[hlen,aik]at h4 BV;refine k a2 H4 (λb o nb lz e=>?_) h4 BV M8;have e2:=B2 b o nb lz e;exact kk b o (λz=>by rcases M8 b z with q|q;exact nb q;rw[q]at e;cases e) lz (s3 _ _ e2)
theorem zP {S:RS}{c:Nat}(h:c<S.called.length):S.called[c]?=some (S.cG c):=by unfold RS.cG;rw[ahh,ahc h];rfl
theorem oO {S:RS}{c:Nat}(h:c<S.aB.length):S.aB[c]?=some (S.ay c):=by unfold RS.ay;rw[ahh,ahc h];rfl
theorem KY {S:RS}{c n:Nat}(h:∀l∈S.called,l.length<=n):(S.cG c).length<=n:=by
 unfold RS.cG;rw[ahh]
 cases e:S.called[c]? with
 |none=>exact ahT _
 |some l=>exact h l (ahf e)
theorem yx (x:Nat):∀(l es:List Nat),(l.foldl (λes n=>es.set n x) es).length=es.length
 |[],_=>rfl
 |n::l,es=>by rw[List.foldl_cons,yx x l,ahG]
theorem ints_set (ns:List Int)(i:Nat)(z:Int):(ao ns).set i (.int z)=ao (ns.set i z):=by
 unfold ao;rw[List.map_set]
theorem tN (T:Txt K mg A):aL P w K mg base bB 2 A.iJ A.iK ["self","room","step","one","other","pending"] (AU A.ak):=by
 have zQ:aL P w K mg base bB 1 A.mw A.mx ["self","room","pending"] (yr A.ak):=yw T;refine T.fk.F.ok fy (λvs H Q E h=>?_) (λbR AA outer s H vs Q E hr h=>?_)
 ·obtain⟨r,p,S,a,c,x,y,z,pend,rfl,_⟩:=h;rfl
 ·obtain⟨r,p,S,a,c,x,y,z,pend,rfl,h,hw,hx,hy,gI,ok,U6,sm,hP,np,dR,k⟩:=h
  refine⟨_,(ai (aY (i:=6) fy.nd rfl (Or.inl rfl) (bq (Bh rfl) rfl T.Oy PyProof.Rows.boot_min (ae (pv 3) (ae (pv 4) ah))))
   (ai (aY (i:=7) fy.nd rfl (Or.inl rfl) (bq (Bg rfl) rfl T.Oz PyProof.Rows.boot_max (ae (pv 3) (ae (pv 4) ah))))
   (ai (bH (fG ahD ahH ahI cT (aJ (pv 0) rfl) (ae (bS (ae (jF (l:=[109,101,101,116]) rfl) (ae (pv 1) (ae (pv 2) (ae (pv 6) (ae (pv 7) ah)))))) ah)))
   (ai (bH (fG ahD ahH ahI cT (aJ (pv 0) rfl) (ae (pv 7) ah)))
   (ai (dw ahK rfl (eJ (aS ck (aJ (pv 0) rfl) (pv 7) (λ_ _=>rfl))) (bQ (i:=8) fy.nd rfl (Or.inl rfl))
    (aq (oy (pv 6) (yO (aJ (pv 0) rfl) (pv 8) set_list))))
   (ai (bH (fG ahD PySem.F.slot_list_extend PySem.F.type_list_extend Bn (aS ck (aJ (pv 0) rfl) (pv 6) (λ_ _=>rfl)) (ae (aS ck (aJ (pv 0) rfl) (pv 7) (λ_ _=>rfl)) ah)))
   (aq (bH (bT (pv 0) (aK T) T.pG.m (zQ) hr.Za5 T.pG.b .nil aO (ae (pv 7) (ae (pv 5) ah))))))))))),?_⟩
  try dsimp only[bJ,cx]
  refine DV ?_;intro zI uU rX mE gB fD;have e1:(if (y:Int)<(x:Int) then (y:Int) else (x:Int))=((min x y:Nat):Int):=by split <;> omega
  have e2:(if (y:Int) > (x:Int) then (y:Int) else (x:Int))=((max x y:Nat):Int):=by split <;> omega
  have Yw:min x y<max x y:=by omega
  have KZ:max x y<S.made:=by omega
  generalize ev:min x y=u at e1 Yw;have ek:∀a' H',uG a r p H H'->ax A.ak H' r ((S.joined c z u (max x y)).tG (max x y) pend).1 a'->dJ H' p ((S.joined c z u (max x y)).tG (max x y) pend).2->(∀b,a'.own r b->a.own r b\/H b=none)->Q .non H':=λa' H' h1 h2 h3 h4=>k a' H' h1 (by unfold RS.meet;rw[ev];exact h2) (by unfold RS.meet;rw[ev];exact h3) h4
  clear k;generalize max x y=v at e2 Yw KZ ok U6 ek;refine⟨_,rfl,_,rfl,_,_,rfl,?_⟩;rw[e1];refine⟨_,rfl,_,rfl,_,_,rfl,?_⟩;rw[e2];have lR:(a.rs.map V.ref).length<sizeLine:=by rw[ahl,h.rR.1];exact ahr sm.r (by decide)
  refine⟨_,rfl,r,_,a.dx,_,_,rfl,h.ins,aK T,T.vS,wQ _ _ _,.inl ⟨rfl,_,aM.of h.hR⟩,_,rfl,_,rfl,_,rfl,_,rfl,(Za4 5),λt nt=>⟨a.aR,_,_,rfl,rfl,au.upd nt _ _ h.hR,lR,?_⟩⟩;have s1:=au.upd (o:=.tup [.str (tx [109,101,101,116]),.int (c:Int),.int z,.int (u:Int),.int (v:Int)]) nt;have K0:upd H t (.tup [.str (tx [109,101,101,116]),.int (c:Int),.int z,.int (u:Int),.int (v:Int)]) t=some (.tup [.str (tx [109,101,101,116]),.int (c:Int),.int z,.int (u:Int),.int (v:Int)]):=aj;generalize upd H t (.tup [.str (tx [109,101,101,116]),.int (c:Int),.int z,.int (u:Int),.int (v:Int)])=H1 at s1 K0 ⊢
  have jZ:bN H1 4 (.ref t) (gU c z u v):=by
   refine .t K0 rfl λj w d e1 e2=>?_
   rcases j with _|_|_|_|_|j
   ·simp at e1 e2;subst e1 e2;exact .s
   ·simp at e1 e2;subst e1 e2;exact .i
   ·simp at e1 e2;subst e1 e2;exact .i
   ·simp at e1 e2;subst e1 e2;exact .i
   ·simp at e1 e2;subst e1 e2;exact .i
   ·simp at e1
  have nl:ig (gU c z u v):=.t (by show 5<=100000;decide) λd hd=>by
   simp only[ahp,ah5,ajt]at hd;rcases hd with rfl|rfl|rfl|rfl|rfl
   ·exact .s
   ·exact .i
   ·exact .i
   ·exact .i
   ·exact .i
  have h2:=(h.same s1).DM jZ nl;have B2:uG a r p H (upd H1 a.aR (.lst (a.rs.map V.ref++[.ref t]))):=λb o nb _ e=>by rw[av (λz=>nb (.inr (.inl (by rw[z];exact gN))))];exact s1 _ _ e
  have npl:∀{b},b∈a.lists->p≠b:=λhb z=>np (.inr (.inl (by rw[z];exact hb)))
  have P2:dJ (upd H1 a.aR (.lst (a.rs.map V.ref++[.ref t]))) p pend:=hP.keep (λo e=>by rw[av (npl gN)];exact s1 _ _ e) (λb xs e=>by rw[av (h.tl e gN)];exact s1 _ _ e);generalize upd H1 a.aR (.lst (a.rs.map V.ref++[.ref t]))=H2 at h2 B2 P2 ⊢;generalize G5:({ a with rs:=a.rs++[t] }:RA)=a2 at h2;have eo:∀b,a2.own r b↔a.own r b:=λb=>by rw[←G5];exact Iff.rfl
  have tM:¬a2.own r p:=λz=>np ((eo p).mp z)
  have M9:∀{b},b∈a2.lists->p≠b:=λhb z=>tM (.inr (.inl (by rw[z];exact hb)))
  have lN:(ao (nI S.bE)).length<sizeLine:=by rw[bh,cy];exact ahr sm.n (by decide)
  refine⟨_,rfl,r,_,a2.dx,_,_,rfl,h2.ins,aK T,T.vT,wR _ _ _,.inl ⟨rfl,_,aM.of h2.hN⟩,_,rfl,a2.aN,_,_,rfl,rfl,h2.hN,lN,?_⟩;have eN:ao (nI S.bE)++[V.int (v:Int)]=ao (nI (S.bE++[v])):=by rw[jo,ints_app];rfl
  have h3:=h2.QK (S.bE++[v]);rw[←eN]at h3;have B3:uG a r p H (upd H2 a2.aN (.lst (ao (nI S.bE)++[V.int (v:Int)]))):=λb o nb lz e=>by rw[av (λz=>nb ((eo b).mp (.inr (.inl (by rw[z];exact jd)))))];exact B2 b o nb lz e
  have P3:dJ (upd H2 a2.aN (.lst (ao (nI S.bE)++[V.int (v:Int)]))) p pend:=P2.keep (λo e=>by rw[av (M9 jd)];exact e) (λb xs e=>by rw[av (h2.tl e jd)];exact e);show _;generalize upd H2 a2.aN (.lst (ao (nI S.bE)++[V.int (v:Int)]))=H3 at h3 B3 P3 ⊢;obtain⟨pv,K1,hPV⟩:=h3.rC.at (show S.called[v]?=some (S.cG v) from zP (by rw[hw.c];exact KZ));have mpv:=ahf K1;refine⟨_,rfl,r,_,a2.dx,_,_,rfl,h3.ins,aK T,T.qZ,rO _ _ _,_,rfl,a2.aC,_,_,_,rfl,rfl,aM.of h3.hC,gA K1,pv,rfl,⟨_,aM.of hPV⟩,?_⟩;obtain⟨-,-,-,-,-,nc⟩:=zj h3.jU;have npE:pv≠a2.aE:=(nc pv mpv).2.2.2.1
  let fU:Nat->St->Hp->Prop:=λi σ H4=>∃v8,σ=[some (.ref r),some (.int (c:Int)),some (.int z),some (.int (x:Int)),some (.int (y:Int)),some (.ref p),some (.int (u:Int)),some (.int (v:Int)),v8]/\ax A.ak H4 r { S with rows:=S.rows++[gU c z u v],bE:=S.bE++[v],aB:=((S.cG v).take i).foldl (λes n=>es.set n u) S.aB } a2/\uG a r p H H4/\dJ H4 p pend
  refine iz (xs:=ao (nI (S.cG v))) fU ⟨none,rfl,h3,B3,P3⟩ (λi σ H4 _ ⟨_,_,h4,_,_⟩=>aM.of (h4.rC.2 v pv _ K1 (show S.called[v]?=some (S.cG v) from zP (by rw[hw.c];exact KZ)))) ?_ ?_
  ·rintro i w σ H4 hw4 ⟨v8,rfl,h4,B4,P4⟩;dsimp only[eM];refine cM ?_;intro ik;obtain⟨m,rfl,hm⟩:=dN hw4;unfold nI at hm;rw[ahw]at hm
   cases hn:(S.cG v)[i]? with
   |none=>rw[hn]at hm;cases hm
   |some n=>
    rw[hn]at hm;obtain rfl:(n:Int)=m:=Za0 hm;have G6:=U6 n (ahf hn);have ie:(((S.cG v).take i).foldl (λes n=>es.set n u) S.aB).length=S.made:=by rw[yx,hw.e]
    refine⟨_,rfl,_,rfl,r,_,a2.dx,_,_,rfl,h4.ins,aK T,T.kP,kU _ _ _,_,rfl,a2.aE,_,_,n,rfl,rfl,h4.hE,wW (by rw[bh,cy,ie];exact G6),?_⟩;rw[ints_set,TC];have h5:=h4.By ((((S.cG v).take i).foldl (λes n=>es.set n u) S.aB).set n u);refine⟨_,rfl,?_,λb o nb lz e=>?_,P4.keep (λo e=>?_) (λb xs e=>?_)⟩
    ·have DE:(S.cG v).take (i+ 1)=(S.cG v).take i++[n]:=by rw[aje,hn];rfl
     rw[DE,List.foldl_append];exact h5
    ·rw[av (λz=>nb ((eo b).mp (.inr (.inl (by rw[z];exact iB)))))];exact B4 b o nb lz e
    ·rw[av (M9 iB)];exact e
    ·rw[av (h4.tl e iB)];exact e
  ·rintro σ H4 ⟨v8,rfl,h4,B4,P4⟩;rw[bh,cy,aik]at h4;have hul:u<S.called.length:=by rw[hw.c];omega
   have Kf:v<S.called.length:=by rw[hw.c];exact KZ
   obtain⟨pu,U9,Yx⟩:=h4.rC.at (show S.called[u]?=some (S.cG u) from zP hul);have abU:=h4.rC.2 v pv _ K1 (show S.called[v]?=some (S.cG v) from zP Kf);have b1:(S.cG u).length<=1000000:=KY sm.c;have b2:(S.cG v).length<=1000000:=KY sm.c;refine⟨_,rfl,r,_,a2.dx,_,_,rfl,h4.ins,aK T,T.qZ,rO _ _ _,_,rfl,a2.aC,_,_,_,rfl,rfl,aM.of h4.hC,gA U9,.inl ⟨rfl,_,aM.of Yx⟩,?_⟩;refine⟨_,rfl,r,_,a2.dx,_,_,rfl,h4.ins,aK T,T.qZ,rO _ _ _,_,rfl,a2.aC,_,_,_,rfl,rfl,aM.of h4.hC,gA K1,pu,pv,_,_,rfl,rfl,Yx,abU,?_,?_⟩
   ·rw[bh,bh,cy,cy];exact ahC (show _<=2000000 by omega) (by decide)
   have eC:ao (nI (S.cG u))++ao (nI (S.cG v))=ao (nI (S.cG u++S.cG v)):=by rw[jo,ints_app]
   rw[eC];have h5:=h4.Kb U9 (S.cG u++S.cG v);have Va:=gS (ahf U9);have B5:uG a r p H (upd H4 pu (.lst (ao (nI (S.cG u++S.cG v))))):=λb o nb lz e=>by rw[av (λz=>nb ((eo b).mp (.inr (.inl (by rw[z];exact Va)))))];exact B4 b o nb lz e
   have P5:dJ (upd H4 pu (.lst (ao (nI (S.cG u++S.cG v))))) p pend:=P4.keep (λo e=>by rw[av (M9 Va)];exact e) (λb xs e=>by rw[av (h4.tl e Va)];exact e);generalize upd H4 pu (.lst (ao (nI (S.cG u++S.cG v))))=H5 at h5 B5 P5 ⊢;have Yy:ax A.ak H5 r (S.joined c z u v) a2:=h5;refine⟨_,rfl,r,a2.dx,_,rfl,Yy.ins,cq _ _ _ (by decide +kernel),_,rfl,_,rfl,r,p,S.joined c z u v,a2,v,pend,rfl,Yy,⟨hw.w,hw.g,?_,?_⟩,KZ,⟨ok.nd,ok.lt,ok.bk⟩,sm.w,P5,tM,dR,λa' H' b' r' p' o'=>ek a' H' (λb o nb lz e=>b' b o (λz=>nb ((eo b).mp z)) lz (B5 b o nb lz e)) r' p' (λb hb=>?_)⟩
   ·show ((S.cG v).foldl (λes n=>es.set n u) S.aB).length=S.made;rw[yx];exact hw.e
   ·show (S.called.set u (S.cG u++S.cG v)).length=S.made;rw[ahG];exact hw.c
   ·rcases o' b hb with q|q
    ·exact .inl ((eo b).mp q)
    ·by_cases ho:a.own r b
     ·exact .inl ho
     ·refine .inr ?_
      cases e:H b with
      |none=>rfl
      |some o=>
       by_cases G7:b=p
       ·obtain⟨qs,q1,_⟩:=P5;rw[G7,q1]at q;cases q
       ·rw[B5 b o ho G7 e]at q;cases q
theorem yy (T:Txt K mg A):aL P w K mg base bB 3 A.mr A.mv ["self","way","pending"] (yu A.ak):=by
 have mF:aL P w K mg base bB 2 A.iJ A.iK ["self","room","step","one","other","pending"] (AU A.ak):=tN T;have rj:aL P w K mg base bB 1 A.ml A.mq ["self","room","step","other"] (zG A.ak):=uT T;refine T.pF.F.ok eY (λvs H Q E h=>?_) (λbR AA outer s H vs Q E hr h=>?_)
 ·obtain⟨r,t,p,S,a,w,pend,rfl,_⟩:=h;rfl
 ·obtain⟨r,t,p,S,a,w,pend,rfl,h,ht,ok,OZ,O6,hP,np,dR,k⟩:=h;have dE:=gM hr
  refine⟨_,(ai (aY (i:=3) eY.nd rfl (Or.inl rfl) (aS ck (aJ (pv 0) rfl) (aS bp (pv 1) aw (λ_ _=>rfl)) (λ_ _=>rfl)))
   (ai (aY (i:=4) eY.nd rfl (Or.inl rfl) (aS bp (pv 1) aw (λ_ _=>rfl)))
   (ai (aY (i:=5) eY.nd rfl (Or.inl rfl) (aS ck (aJ (pv 0) rfl) (aS bp (pv 1) aw (λ_ _=>rfl)) (λ_ _=>rfl)))
   (ai (aY (i:=6) eY.nd rfl (Or.inl rfl) (qA dE (aS ck (aJ (pv 0) rfl) (pv 3) (λ_ _=>rfl)) (pv 4) (pv 5) ⟨rfl,rfl,rfl,rfl⟩))
   (ai (aY (i:=7) eY.nd rfl (Or.inl rfl) (qA dE (aS ck (aJ (pv 0) rfl) (pv 5) (λ_ _=>rfl)) (fW eP (pv 4)) (pv 3) ⟨rfl,rfl,rfl,rfl⟩))
   (aq (bX (bP (aZ lE (pv 6) (pv 5) (bj _))
    (aq (bH (bT (pv 0) (aK T) T.fk.m (mF) hr.Za5 T.fk.b .nil aO (ae (pv 3) (ae (pv 4) (ae (pv 6) (ae (pv 5) (ae (pv 2) ah))))))))
    (aq (bX (bP (aZ lE (pv 7) (pv 3) (bj _))
     (aq (bH (bT (pv 0) (aK T) T.fk.m (mF) hr.Za5 T.fk.b .nil aO (ae (pv 5) (ae (fW eP (pv 4)) (ae (pv 7) (ae (pv 3) (ae (pv 2) ah))))))))
     (aq (bH (bT (pv 0) (aK T) T.mz.m (rj) hr.Za5 T.mz.b .nil aO (ae (pv 3) (ae (pv 4) (ae (pv 5) ah))))))))))))))))),?_⟩
  try dsimp only[bJ,cx]
  refine yg ?_;intro uU rX mE gB fD;have sq:bL K H t [.int (w.1:Int),.int w.2.1,.int (w.2.2:Int)]:=bL.of ht;have ie:∀{c:Nat},c<S.made->S.aB[c]?=some (S.ay c):=λ{c} hc=>oO (by rw[ok.wf.e];exact hc)
  have hc:=ok.el _ OZ;have hd:=ok.el _ O6;refine⟨_,rfl,r,_,a.dx,_,_,rfl,h.ins,aK T,T.kP,kU _ _ _,_,rfl,t,_,_,_,rfl,rfl,sq,(rfl:kT _ (0:Int)=_),a.aE,_,_,_,rfl,rfl,aM.of h.hE,cf (bZ (fj (ie OZ))),?_⟩;refine⟨_,rfl,t,_,_,_,rfl,rfl,sq,(rfl:kT _ (1:Int)=_),?_⟩;refine⟨_,rfl,r,_,a.dx,_,_,rfl,h.ins,aK T,T.kP,kU _ _ _,_,rfl,t,_,_,_,rfl,rfl,sq,(rfl:kT _ (2:Int)=_),a.aE,_,_,_,rfl,rfl,aM.of h.hE,cf (bZ (fj (ie O6))),?_⟩;have k':=k;clear k;unfold RS.takeIn at k';generalize S.ay w.1=c at hc k' ⊢;generalize S.ay w.2.2=d at hd k' ⊢;generalize w.2.1=z at k' ⊢;obtain⟨pc,EF,Yz⟩:=h.rW.at (tL (S:=S) (c:=c) (by rw[ok.wf.w];exact hc));obtain⟨pd,zO,KR⟩:=h.rW.at (tL (S:=S) (c:=d) (by rw[ok.wf.w];exact hd));have gd:∀(o:Option Nat) (n:Nat),(o.map λr:Nat=>V.int (r:Int)).getD (.int (n:Int))=V.int ((o.getD n:Nat):Int):=λo n=>by cases o <;> rfl
  refine⟨_,rfl,r,_,a.dx,_,_,rfl,h.ins,aK T,T.j6,jI _ _ _,_,rfl,a.aW,_,_,_,rfl,rfl,aM.of h.hW,gA EF,pc,rfl,.inl ⟨_,.inl Yz⟩,_,rfl,_,rfl,_,dB.k (k:=Sum.inl z) Yz,?_⟩;rw[oI,gd];show _;refine⟨_,rfl,r,_,a.dx,_,_,rfl,h.ins,aK T,T.j6,jI _ _ _,_,rfl,a.aW,_,_,_,rfl,rfl,aM.of h.hW,gA zO,pd,rfl,.inl ⟨_,.inl KR⟩,_,rfl,_,rfl,_,rfl,_,dB.k (k:=Sum.inl (-z)) KR,?_⟩;rw[oI,gd];have e1:fJ (S.way c) z=S.by c z:=rfl;have e2:fJ (S.way d) (-z)=S.by d (-z):=rfl;rw[e1,e2]
  have hl:(S.by c z).getD d<S.made:=by
   cases e:S.by c z with
   |none=>exact hd
   |some m=>exact ok.bl _ _ _ e
  have hf:(S.by d (-z)).getD c<S.made:=by
   cases e:S.by d (-z) with
   |none=>exact hc
   |some m=>exact ok.bl _ _ _ e
  generalize (S.by c z).getD d=l at hl k' ⊢;generalize (S.by d (-z)).getD c=f at hf k' ⊢
  have ne:∀{m n:Nat},m≠n->(!decide (V.int (m:Int)=V.int (n:Int)))=true:=λ{m n} q=>by
   rw[ah1 (λz=>q (by injection z with z;omega))];rfl
  refine⟨λ_ H'=>Q .non H',?_,λ_ _ q=>q⟩;by_cases h1:l≠d
  ·rw[ahu h1]at k';refine⟨_,rfl,_,rfl,rfl,_,rfl,?_⟩;rw[ne h1];refine fQ ?_;exact⟨_,rfl,r,a.dx,_,rfl,h.ins,cq _ _ _ (by decide +kernel),_,rfl,_,rfl,_,rfl,_,rfl,_,rfl,r,p,S,a,c,l,d,z,pend,rfl,h,ok.wf,hl,hd,h1,ok.off _ (by omega),λn hn=>ok.cl _ n hn,ok.sm,hP,np,dR,k'⟩
  ·have Oe:l=d:=ajO.mp h1;rw[ahq h1]at k';refine⟨_,rfl,_,rfl,rfl,_,rfl,jE (by rw[Oe]) ?_⟩;refine⟨λ_ H'=>Q .non H',?_,λ_ _ q=>q⟩;by_cases h2:f≠c
   ·rw[ahu h2]at k';refine⟨_,rfl,_,rfl,rfl,_,rfl,?_⟩;rw[ne h2];refine fQ ?_;exact⟨_,rfl,r,a.dx,_,rfl,h.ins,cq _ _ _ (by decide +kernel),_,rfl,_,rfl,_,rfl,_,rfl,_,rfl,_,rfl,r,p,S,a,d,f,c,-z,pend,rfl,h,ok.wf,hf,hc,h2,ok.off _ (by omega),λn hn=>ok.cl _ n hn,ok.sm,hP,np,dR,k'⟩
   ·have OX:f=c:=ajO.mp h2;rw[ahq h2]at k';refine⟨_,rfl,_,rfl,rfl,_,rfl,jE (by rw[OX]) ?_⟩;refine⟨_,rfl,r,a.dx,_,rfl,h.ins,cq _ _ _ (by decide +kernel),_,rfl,_,rfl,_,rfl,r,S,a,c,d,z,rfl,h,ok.wf,hc,hd,ok.sm.w,λH' b' r'=>k' a H' (λb o nb _ e=>b' b o nb e) r' (hP.keep (λo e=>b' _ _ np e) (λb xs e=>b' _ _ (h.nZ e) e)) λb hb=>.inl hb⟩
theorem rq (T:Txt K mg A):aL P w K mg base bB 5 A.j4 A.j5 ["self","room","step","other","row"] (zM A.ak):=by
 have iO:aL P w K mg base bB 4 A.oh A.oj ["value"] (uE 2):=BU T;have zR:aL P w K mg base bB 3 A.mr A.mv ["self","way","pending"] (yu A.ak):=yy T;refine T.oK.F.ok vU (λvs H Q E h=>?_) (λbR AA outer s H vs Q E hr h=>?_)
 ·obtain⟨r,q,S,a,c,d,z,row,I,μ,rfl,_⟩:=h;rfl
 ·obtain⟨r,q,S,a,c,d,z,row,I,μ,rfl,h,jV,hq,AW,hI,step,k⟩:=h
  refine⟨_,(ai (bH (fG ahD ahH ahI cT (aJ (pv 0) rfl) (ae (bx (iO) hr.Za5 rfl T.own.m T.own.F.kp T.own.b .nil aO (ae (pv 4) ah)) ah)))
   (ai (aY (i:=5) vU.nd rfl (Or.inl rfl) (dX (ae (bS (ae (pv 1) (ae (pv 2) (ae (pv 3) ah)))) ah)))
   (aq (bX (ky ahK (C9 (pv 5) (λ_=>rfl))
    (aq (bH (bT (pv 0) (aK T) T.pF.m (zR) hr.Za5 T.pF.b .nil aO (ae (Jv ahD PySem.F.slot_list_pop PySem.F.type_list_pop Jw (pv 5)) (ae (pv 5) ah)))))))))),?_⟩
  try dsimp only[bJ,cx]
  refine gE ?_;intro gB fD;have lR:(a.rs.map V.ref).length<sizeLine:=by rw[ahl,h.rR.1];exact ahr jV (by decide)
  obtain⟨ds,rfl⟩:∃ds,row=.t ds:=by
   cases hq with
   |t=>exact⟨_,rfl⟩
   |l=>cases AW
  refine⟨_,rfl,r,_,a.dx,_,_,rfl,h.ins,aK T,T.vS,wQ _ _ _,.inl ⟨rfl,_,aM.of h.hR⟩,_,rfl,.ref q,.t ds,rfl,hq,AW,λv' H1 s1 N3=>?_⟩;obtain⟨q',rfl⟩:∃q',v'=.ref q':=by cases N3 with|t=>exact⟨_,rfl⟩
  refine⟨a.aR,_,_,rfl,rfl,s1 _ _ h.hR,lR,?_⟩;have h2:=(h.same s1).DM (N3.le (by decide)) AW;have B2:dq a r H (upd H1 a.aR (.lst (a.rs.map V.ref++[.ref q']))):=λb o nb e=>by rw[av (λz=>nb (.inr (.inl (by rw[z];exact gN))))];exact s1 _ _ e
  generalize upd H1 a.aR (.lst (a.rs.map V.ref++[.ref q']))=H2 at h2 B2 ⊢;generalize G5:({ a with rs:=a.rs++[q'] }:RA)=a2 at h2;have eo:∀b,a2.own r b↔a.own r b:=λb=>by rw[←G5];exact Iff.rfl
  refine⟨_,rfl,_,rfl,_,rfl,(Za4 3),λt nt=>?_⟩;have s3:=au.upd (o:=.tup [.int (c:Int),.int z,.int (d:Int)]) nt;have rA:upd H2 t (.tup [.int (c:Int),.int z,.int (d:Int)]) t=some (.tup [.int (c:Int),.int z,.int (d:Int)]):=aj;generalize upd H2 t (.tup [.int (c:Int),.int z,.int (d:Int)])=H3 at s3 rA ⊢;refine⟨(Za4 1),λp Vb=>?_⟩;have s4:=au.upd (o:=.lst [.ref t]) Vb;have KH:upd H3 p (.lst [.ref t]) p=some (.lst [.ref t]):=aj;have YB:¬a2.own r p:=(h2.same s3).ED Vb;generalize upd H3 p (.lst [.ref t])=H4 at s4 KH ⊢
  have YC:H p=none:=by
   cases e:H p with
   |none=>rfl
   |some o=>have:=s3 _ _ (B2 p o (λz=>YB ((eo p).mpr z)) e);rw[Vb]at this;cases this
  have B4:dq a r H H4:=λb o nb e=>s4 _ _ (s3 _ _ (B2 b o nb e))
  have P4:dJ H4 p [(c,z,d)]:=⟨[t],KH,Each.snoc (ps:=[]) (xs:=[]) ⟨rfl,λi p d h=>by simp at h⟩ (s4 _ _ rA)⟩;refine⟨λ_ H'=>Q .non H',?_,λ_ _ q=>q⟩;refine⟨λm σ H5=>∃S5 a5 pend,m=μ S5 pend/\σ=[some (.ref r),some (.int (c:Int)),some (.int z),some (.int (d:Int)),some (.ref q),some (.ref p)]/\ax A.ak H5 r S5 a5/\dJ H5 p pend/\I S5 pend/\¬a5.own r p/\(∀b o,¬a.own r b->b≠p->H b=some o->H5 b=some o)/\∀b,a5.own r b->a.own r b\/H b=none,⟨_,_,a2,[(c,z,d)],rfl,rfl,(h2.same s3).same s4,P4,hI,YB,λb o nb _ e=>B4 b o nb e,λb hb=>.inl ((eo b).mp hb)⟩,?_⟩;intro m σ H5 bV;refine bI ?_;intro q_;obtain⟨S5,a5,pend,rfl,rfl,h5,P5,I5,Vc,B5,O5⟩:=bV;dsimp only[q_];clear q_;obtain⟨qs,j0,O8⟩:=id P5;refine⟨_,rfl,!(qs.map V.ref).isEmpty,.inl ⟨_,aM.of j0,rfl⟩,?_⟩;by_cases cF:pend=[]
  ·subst cF;have eq0:qs=[]:=List.eq_nil_of_length_eq_zero O8.1;subst eq0;refine b8 ?_;exact k S5 a5 H5 (λb o nb e=>B5 b o nb (λz=>by rw[z,YC]at e;cases e) e) h5 I5 O5
  ·have pJ:=ai2 cF;generalize pend.getLast cF=w at pJ;generalize pend.dropLast=pre at pJ;subst pJ;have KS:qs.length=pre.length+ 1:=by rw[O8.1,ahe];rfl
   have YD:qs≠[]:=λz=>by rw[z]at KS;cases KS
   have Nb:=ai2 YD;generalize qs.getLast YD=tq at Nb;generalize qs.dropLast=rB at Nb;subst Nb;have dR:rB.length=pre.length:=by rw[ahe]at KS;have:([tq]:List Addr).length=1:=rfl;omega
   obtain⟨ok,OZ,O6,hb,hI2,K2⟩:=step S5 pre w I5;have htq:H5 tq=some (.tup [.int (w.1:Int),.int w.2.1,.int (w.2.2:Int)]):=O8.2 pre.length tq w (by rw[←dR,ahs (ahi _),ai4];rfl) (by rw[ahs (ahi _),ai4];rfl);have ht:(!((rB++[tq]).map V.ref).isEmpty)=true:=by simp
   rw[ht];refine fQ ?_;refine⟨λ aX H'=>∃S6 a6 zS,μ S6 zS < μ S5 (pre++[w])/\aX=[some (.ref r),some (.int (c:Int)),some (.int z),some (.int (d:Int)),some (.ref q),some (.ref p)]/\ax A.ak H' r S6 a6/\dJ H' p zS/\I S6 zS/\¬a6.own r p/\(∀b o,¬a.own r b->b≠p->H b=some o->H' b=some o)/\∀b,a6.own r b->a.own r b\/H b=none,λ aX H' ⟨S6,a6,zS,lt,e1,e2,e3,e4,e5,e6,e7⟩=>⟨_,lt,S6,a6,zS,rfl,e1,e2,e3,e4,e5,e6,e7⟩,?_⟩;refine⟨_,rfl,r,a5.dx,_,rfl,h5.ins,cq _ _ _ (by decide +kernel),_,rfl,.inl ⟨rfl,_,aM.of j0⟩,p,_,.ref tq,rfl,rfl,j0,?_,?_⟩
   ·rw[ahO,ahe];show ((rB.map V.ref)++[V.ref tq])[(rB.map V.ref).length+ 1 - 1]?=_
    rw[Nat.add_sub_cancel,ahs (ahi _),ai4];rfl
   have Vd:((rB++[tq]).map V.ref).dropLast=rB.map V.ref:=by rw[ahO];exact List.dropLast_concat
   rw[Vd];have kp:∀b o,b≠p->H5 b=some o->upd H5 p (.lst (rB.map V.ref)) b=some o:=λb o nb e=>by rw[av nb];exact e
   have kt:∀b xs,H5 b=some (.tup xs)->upd H5 p (.lst (rB.map V.ref)) b=some (.tup xs):=λb xs e=>kp b _ (cX e j0 (by intro z;cases z)) e
   have h6:=h5.keep (λb o hb e=>kp b o (λz=>Vc (z ▸ hb)) e) kt;have P6:dJ (upd H5 p (.lst (rB.map V.ref))) p pre:=⟨rB,aj,dR,λi t' w' e1 e2=>kt _ _ (O8.2 i t' w' (by rw[aht (ahd.mp e1).1];exact e1) (by rw[aht (ahd.mp e2).1];exact e2))⟩;generalize upd H5 p (.lst (rB.map V.ref))=H6 at kp kt h6 P6 ⊢;refine⟨_,rfl,r,tq,p,S5,a5,w,pre,rfl,h6,kt _ _ htq,ok,OZ,O6,P6,Vc,hb,λa7 H7 b7 h7 P7 o7=>?_⟩;refine⟨_,a7,_,K2,rfl,h7,P7,hI2,λz=>?_,λb o nb lz e=>b7 b o (λz=>?_) lz (kp b o lz (B5 b o nb lz e)),λb hb=>?_⟩
   ·rcases o7 p z with q1|q1
    ·exact Vc q1
    ·obtain⟨_,q2,_⟩:=P6;rw[q1]at q2;cases q2
   ·rcases O5 b z with q1|q1
    ·exact nb q1
    ·rw[q1]at e;cases e
   ·rcases o7 b hb with q1|q1
    ·exact O5 b q1
    ·by_cases ho:a.own r b
     ·exact .inl ho
     ·refine .inr ?_
      cases e:H b with
      |none=>rfl
      |some o=>
       by_cases G7:b=p
       ·rw[G7,YC]at e;cases e
       ·rw[kp b o G7 (B5 b o ho G7 e)]at q1;cases q1
theorem Rc {α:Type}{ws:List α}{i:Nat}{z:α}(h:ws[i]?=some z):ws.drop i=z::ws.drop (i+ 1):=by
 have hi:=(ahd.mp h).1;rw[aiS hi,(ahd.mp h).2]
inductive yz (C:Addr) (vs:List V) (H:Hp) (Q:VK) (E_:XK):Prop
 |mk (r:Addr) (S:RS) (a:RA) (c:Nat) (t:Addr) (ws:List Int) (e9:vs=[.ref r,.int c,.ref t]) (fb:ax C H r S a) (fm:S.Wf) (fq:c<S.made) (fZ:(∀c z d,S.by c z=some d->d<S.made)) (hX:H t=some (.tup (ao ws))) (iW:ws.length<=1000) (jC:∀l H',au H H'->H' l=some (.lst (ao (nI (c::cH S.by c ws))))->Q (.ref l) H'):yz C vs H Q E_
theorem K3 (T:Txt K mg A):aL P w K mg base bB 2 A.yl A.ym ["rooms","room","word"] (yz A.ak):=by
 have fh:aL P w K mg base bB 1 A.iF A.iG ["self","room","step"] (uD A.ak):=j8 T;refine T.walked.F.ok rT (λvs H Q E h=>?_) (λbR AA outer s H vs Q E hr h=>?_)
 ·obtain⟨r,S,a,c,t,ws,rfl,_⟩:=h;rfl
 ·obtain⟨r,S,a,c,t,ws,rfl,h,hw,hc,BZ,ht,jS,k⟩:=h
  refine⟨_,(ai (aY (i:=3) rT.nd rfl (Or.inl rfl) (dX (ae (pv 1) ah)))
   (ai (dw ahK rfl (jj (pv 2)) (bQ (i:=4) rT.nd rfl (Or.inl rfl))
    (ai (aY (i:=1) rT.nd rfl (Or.inl rfl) (bT (pv 0) (aK T) T.eV.m (fh) hr.Za5 T.eV.b .nil aO (ae (pv 1) (ae (pv 4) ah))))
    (ai (bP (aZ oB (pv 1) dv (bj _))
     (aq xW)
     bC)
    (aq (bH (fG ahD ahH ahI cT (pv 3) (ae (pv 1) ah)))))))
   (aq (bz (pv 3))))),?_⟩
  try dsimp only[bJ,cx]
  refine gE ?_;intro gB fD;refine⟨_,rfl,(Za4 1),λl nl=>?_⟩;have s1:=au.upd (o:=.lst [.int (c:Int)]) nl;have oQ:upd H l (.lst [.int (c:Int)]) l=some (.lst (ao (nI [c]))):=aj;have nlo:¬a.own r l:=h.ED nl;generalize upd H l (.lst [.int (c:Int)])=H1 at s1 oQ ⊢;have K0:=s1 _ _ ht;have ntl:t≠l:=aI ht nl;refine⟨_,rfl,t,rfl,⟨_,bL.of K0⟩,?_⟩
  have fin:∀{H2:Hp} {pre:List Nat},(∀b o,b≠l->H1 b=some o->H2 b=some o)->H2 l=some (.lst (ao (nI (c::pre))))->cH S.by c ws=pre->Q (.ref l) H2:=λ{H2 pre} kk fM e=>by
   subst e;exact k l H2 (λb o e=>kk b o (aI e nl) (s1 _ _ e)) fM
  let fU:Nat->St->Hp->Prop:=λi σ H2=>∃cur:Nat,∃pre v4,σ=[some (.ref r),some (.int (cur:Int)),some (.ref t),some (.ref l),v4]/\cur<S.made/\pre.length=i/\cH S.by c ws=pre++cH S.by cur (ws.drop i)/\(∀b o,b≠l->H1 b=some o->H2 b=some o)/\H2 l=some (.lst (ao (nI (c::pre))))
  refine Gb (xs:=ao ws) fU ⟨c,[],none,rfl,hc,rfl,rfl,λ_ _ _ e=>e,oQ⟩ (λi σ H2 _ ⟨_,_,_,_,_,_,_,kk,_⟩=>bL.of (kk _ _ ntl K0)) ?_ ?_
  ·intro i x σ H2 hx bV;refine bI ?_;intro q_;obtain⟨cur,pre,v4,rfl,Ve,dR,hg,kk,fM⟩:=bV;dsimp only[q_];clear q_;dsimp only[eM];refine yf ?_;intro ik UZ GR;obtain⟨z,rfl,hz⟩:=dN hx;have hi:i<ws.length:=(ahd.mp hz).1;have h2:ax A.ak H2 r S a:=(h.same s1).keep (λb o hb e=>kk b o (λq=>nlo (q ▸ hb)) e) (λb xs e=>kk b _ (cX e oQ (by intro q;cases q)) e);rw[Rc hz]at hg;refine⟨_,rfl,r,a.dx,_,rfl,h2.ins,cq _ _ _ (by decide +kernel),_,rfl,_,rfl,r,S,a,cur,z,rfl,h2,by rw[hw.w];exact Ve,?_⟩
   cases eb:S.by cur z with
   |none=>
    refine⟨_,rfl,rfl,_,rfl,fQ ?_⟩;rw[BM eb,ahU]at hg;exact⟨_,rfl,fin kk fM hg⟩
   |some b=>
    rw[show (Option.map (λn:Nat=>V.int (n:Int)) (some b)).getD V.non=V.int (b:Int) from rfl];refine⟨_,rfl,rfl,_,rfl,b8 ?_⟩;rw[rS eb]at hg;refine⟨_,rfl,.inl ⟨rfl,_,aM.of fM⟩,_,rfl,l,_,_,rfl,rfl,fM,?_,?_⟩
    ·rw[bh,cy,ahE,dR];exact ahr (show i+ 1<=1001 by omega) (by decide)
    refine⟨b,pre++[b],_,rfl,BZ _ _ _ eb,by rw[ahe,dR];rfl,by rw[hg,aia];rfl,λx o n e=>by rw[av n];exact kk x o n e,?_⟩;rw[aj,←List.cons_append,jo,ints_app];rfl
  ·intro σ H2 bV;refine bI ?_;intro q_;obtain⟨cur,pre,v4,rfl,Ve,dR,hg,kk,fM⟩:=bV;dsimp only[q_];clear q_;rw[bh,ajy]at hg;exact⟨_,rfl,fin kk fM (by rw[hg];exact ahU _)⟩
def hZ (g:Gg)(wa:Addr):List (Str×V):=[("which",.int g.which),("word",.ref wa),("start",.int g.start),("front",.int g.front),("first",.int g.first),("rear",.int g.bF),("last",.int g.last)]
theorem Nf (g:Gg)(wa:Addr):(hZ g wa).lookup ("which":Str)=some (.int g.which):=by kernel_rfl
theorem nT (g:Gg)(wa:Addr):(hZ g wa).lookup ("word":Str)=some (.ref wa):=by kernel_rfl
theorem yA (g:Gg)(wa:Addr):(hZ g wa).lookup ("start":Str)=some (.int g.start):=by kernel_rfl
theorem nU (g:Gg)(wa:Addr):(hZ g wa).lookup ("front":Str)=some (.int g.front):=by kernel_rfl
theorem iP (g:Gg)(wa:Addr):(hZ g wa).lookup ("first":Str)=some (.int g.first):=by kernel_rfl
theorem nV (g:Gg)(wa:Addr):(hZ g wa).lookup ("rear":Str)=some (.int g.bF):=by kernel_rfl
theorem nX (g:Gg)(wa:Addr):(hZ g wa).lookup ("last":Str)=some (.int g.last):=by kernel_rfl
theorem O9 {g:Gg}{wa:Addr}{x:Str}(h:x∉(["which","word","start","front","first","rear","last"]:List Str)):(hZ g wa).lookup x=none:=by
 simp only[ahp,ah5,ajt,not_or]at h;obtain⟨h1,h2,h3,h4,h5,h6,h7⟩:=h;unfold hZ;simp only[List.lookup,aho.mpr h1,aho.mpr h2,aho.mpr h3,aho.mpr h4,aho.mpr h5,aho.mpr h6,aho.mpr h7]
theorem EG (g:Gg)(wa:Addr)(n:Nat):b6 "front" (.int n) (hZ g wa)=hZ { g with front:=n } wa:=by kernel_rfl
theorem Ng (g:Gg)(wa:Addr)(n:Nat):b6 "first" (.int n) (hZ g wa)=hZ { g with first:=n } wa:=by kernel_rfl
theorem G8 (g:Gg)(wa:Addr)(n:Nat):b6 "rear" (.int n) (hZ g wa)=hZ { g with bF:=n } wa:=by kernel_rfl
theorem Rf (g:Gg)(wa:Addr)(n:Nat):b6 "last" (.int n) (hZ g wa)=hZ { g with last:=n } wa:=by kernel_rfl
structure fu (CG:Addr) (H:Hp) (p dx wa:Addr) (g:Gg):Prop where
 ins:H p=some (.ins CG dx (hZ g wa))
 wo:H wa=some (.tup (ao g.word))
theorem fu.same {CG:Addr}{H H':Hp}{p dx wa:Addr}{g:Gg}(h:fu CG H p dx wa g)(s:au H H'):fu CG H' p dx wa g:=⟨s _ _ h.ins,s _ _ h.wo⟩
theorem fu.set {CG:Addr}{H:Hp}{p dx wa:Addr}{g g':Gg}(h:fu CG H p dx wa g)(e:g'.word=g.word):fu CG (upd H p (.ins CG dx (hZ g' wa))) p dx wa g':=⟨aj,by rw[av (cX h.wo h.ins (by intro z;cases z)),e];exact h.wo⟩
def kb (fp:List (List Int×Nat)):List (List Key×V):=fp.map λp=>(p.1.map Sum.inl,V.int p.2)
structure AX (rs:Za3) (fp:List (List Int×Nat)):Prop where
 a:∀p∈fp,rs[p.2]?=some p.1
 b:∀w∈rs,∃n,(w,n)∈fp
 n:(fp.map (·.1)).Nodup
theorem EH {fp:List (List Int×Nat)}(w:List Int):bM (kb fp) (w.map Sum.inl)=((fp.find? λp=>decide (p.1=w)).map λp=>V.int p.2):=by
 induction fp with
 |nil=>rfl
 |cons p l ih=>
  by_cases h:p.1=w
  ·rw[ai7 (by exact ahy h)];exact di (p:=(p.1.map Sum.inl,V.int p.2)) (by rw[h])
  ·rw[ai8 (by simpa using h)];refine(da (p:=(p.1.map Sum.inl,V.int p.2)) (λz=>h ?_)).trans ih
   have inj:∀{a b:List Int},a.map (Sum.inl:Int->Key)=b.map Sum.inl->a=b:=λ{a b} e=>by
    induction a generalizing b with
    |nil=>cases b with|nil=>rfl|cons=>cases e
    |cons x a ih=>cases b with
     |nil=>cases e
     |cons y b=>rw[ahY,ahY]at e;injection e with e1 e2;rw[Sum.inl.inj e1,ih e2]
   exact inj z
def EI:Sp:=λvs H Q _=>∃(l:Addr) (rs:Za3),vs=[.ref l]/\b0 H l rs/\rs.length<=1000/\∀d fp H',au H H'->H d=none->H' d=some (.dT (kb fp))->AX rs fp->Q (.ref d) H'
theorem zT (T:Txt K mg A):aL P w K mg base bB 1 A.m8 A.m9 ["rules"] EI:=by
 refine T.my.F.ok jg (λvs H Q E h=>?_) (λbR AA outer s H vs Q E hr h=>?_)
 ·obtain⟨l,rs,rfl,_⟩:=h;rfl
 ·obtain⟨l,rs,rfl,hW,hl,k⟩:=h;have dE:=gM hr
  refine⟨_,(ai (aY (i:=1) jg.nd rfl (Or.inl rfl) uc)
   (ai (dw ahK rfl (Mi rfl T.sQ (pv 0)) (jX rfl (cz (bQ (i:=2) jg.nd rfl (Or.inl rfl)) (cz (bQ (i:=3) jg.nd rfl (Or.inl rfl)) iX)))
    (aq (bH (Mx dE (pv 1) (pv 3) (pv 2) ⟨rfl,rfl,rfl,rfl⟩))))
   (aq (bz (pv 1))))),?_⟩
  try dsimp only[bJ,cx]
  refine gE ?_;intro gB fD;obtain⟨ps,jr,Vf⟩:=id hW;refine λd nd=>?_
  have s1:=au.upd (o:=.dT []) nd;have q1:upd H d (.dT []) d=some (.dT (kb [])):=aj;generalize upd H d (.dT [])=H1 at s1 q1 ⊢;have XY:l≠d:=aI jr nd;refine⟨_,rfl,l,rfl,⟨_,aM.of (s1 _ _ jr)⟩,?_⟩
  let fU:Nat->St->Hp->Prop:=λi σ H2=>∃fp v2 v3,σ=[some (.ref l),some (.ref d),v2,v3]/\au H H2/\H2 d=some (.dT (kb fp))/\(∀p∈fp,rs[p.2]?=some p.1/\p.2<i)/\(∀(j:Nat) (w:List Int),j<i->rs[j]?=some w->∃n,(w,n)∈fp)/\(fp.map (·.1)).Nodup/\fp.length<=i
  refine JN (K:=K) (a:=l) (xs:=ps.map V.ref) fU
   ⟨[],none,none,rfl,s1,q1,(λp hp=>by cases hp),λj w hj=>absurd hj (by omega),ais,ahi _⟩ (λi σ H2 _ ⟨_,_,_,_,s2,_⟩=>aM.of (s2 _ _ jr)) ?_ ?_
  ·intro i v σ H2 t hi nt bV;refine bI ?_;intro q_;obtain⟨fp,v2,v3,rfl,s2,hd,ha,hb,hn,hlen⟩:=bV;dsimp only[q_];clear q_
   have tm:i<ps.length:=by
    have:=(ahd.mp hi).1;rw[ahl]at this;exact this
   have hir:i<rs.length:=by rw[←Vf.1];exact tm
   obtain⟨q,g1⟩:=get_some (xs:=ps) (i:=i) tm;obtain⟨w,g2⟩:=get_some (xs:=rs) (i:=i) hir;rw[ahw,g1]at hi;obtain rfl:V.ref (q)=v:=Za0 hi;have s3:=au.upd (o:=.tup [.int (i:Int),.ref q]) nt;refine⟨t,_,rfl,bL.of aj,rfl,_,_,rfl,_,_,rfl,rfl,?_⟩;generalize upd H2 t (.tup [.int (i:Int),.ref q])=H3 at s3 ⊢;have DF:=s3 _ _ hd;have hq:H3 q=some (.tup ((w.map (Sum.inl:Int->Key)).map kV)):=by rw[aiv];exact(s2.trans s3) _ _ (Vf.2 i q w g1 g2)
   refine⟨_,rfl,d,rfl,.inr ⟨_,.inl DF⟩,_,rfl,_,rfl,kb fp,w.map Sum.inl,q,DF,rfl,hq,?_,λv hv=>?_,λhv=>?_⟩
   ·unfold kb;rw[ahl];exact ahr (show fp.length<=1000 by omega) (by decide)
   ·rw[EH]at hv;obtain⟨p,hp,rfl⟩:=aim.mp hv;have e:p.1=w:=by have h9:=List.find?_some hp;simpa using h9
    have hm:=ajg hp;refine⟨fp,_,_,rfl,s2.trans s3,DF,λp hp=>⟨(ha p hp).1,by have:=(ha p hp).2;omega⟩,λj u hj eu=>?_,hn,by omega⟩;by_cases rn:j<i
    ·exact hb j u rn eu
    ·rw[show j=i by omega,g2]at eu;rw[←Za0 eu,←e];exact⟨p.2,hm⟩
   ·rw[EH]at hv
    have Gk:∀p∈fp,p.1≠w:=λp hp e=>by
     have:=List.find?_eq_none.mp (aj9.mp hv) p hp;exact this (ahy e)
    have ep:putK (kb fp) (w.map Sum.inl) (V.int (i:Int))=kb (fp++[(w,i)]):=by
     rw[Dw _ (by rw[EH];exact hv)];unfold kb;rw[ahO];rfl
    rw[ep];have Vg:H d=none:=nd;refine⟨fp++[(w,i)],_,_,rfl,λb o e=>by rw[av (aI e Vg)];exact(s2.trans s3) _ _ e,aj,λp hp=>?_,λj u hj eu=>?_,?_,by rw[ahe];show _+ 1<=_;omega⟩
    ·rcases ahx.mp hp with z|z
     ·exact⟨(ha p z).1,by have:=(ha p z).2;omega⟩
     ·rw[ahg.mp z];exact⟨g2,by show i<i+ 1;omega⟩
    ·by_cases rn:j<i
     ·obtain⟨n,hn⟩:=hb j u rn eu;exact⟨n,ahF _ hn⟩
     ·rw[show j=i by omega,g2]at eu;rw[←Za0 eu];exact⟨i,ahn _ (ahg.mpr rfl)⟩
    ·rw[ahO,ah9];refine⟨hn,by simp,λx hx y hy e=>?_⟩;have hy:y=w:=ahg.mp hy;obtain⟨p,hp,rfl⟩:=ah0.mp hx;exact Gk p hp (e.trans hy)
  ·intro σ H2 bV;refine bI ?_;intro q_;obtain⟨fp,v2,v3,rfl,s2,hd,ha,hb,hn,hlen⟩:=bV;dsimp only[q_];clear q_;refine⟨_,rfl,k d fp H2 s2 nd hd ⟨λp hp=>(ha p hp).1,λw hw=>?_,hn⟩⟩;obtain⟨j,hj⟩:=aih hw;exact hb j w (by rw[ahl,Vf.1];exact(ahd.mp hj).1) hj
def B1 (which:Nat)(word:List Int)(start:Nat):Gg:=⟨which,word,start,start,0,start,word.length - 1⟩
inductive EJ (CG:Addr) (vs:List V) (H:Hp) (Q:VK) (E_:XK):Prop
 |mk (x dx wa:Addr) (which start:Nat) (word:List Int) (e9:vs=[.ref x,.int which,.ref wa,.int start]) (fb:H x=some (.ins CG dx [])) (fm:H wa=some (.tup (ao word))) (fq:1<=word.length) (fZ:word.length<=1000) (hX:∀H',(∀b o,H b=some o->b≠x->H' b=some o)->fu CG H' x dx wa (B1 which word start)->Q .non H'):EJ CG vs H Q E_
def Pa (which start:Nat)(wa:Addr)(l:Int):List (Str×V):=[("which",.int which)]
def Pb (which start:Nat)(wa:Addr)(l:Int):List (Str×V):=[("which",.int which),("word",.ref wa)]
def Pg (which start:Nat)(wa:Addr)(l:Int):List (Str×V):=[("which",.int which),("word",.ref wa),("start",.int start)]
def Ph (which start:Nat)(wa:Addr)(l:Int):List (Str×V):=[("which",.int which),("word",.ref wa),("start",.int start),("front",.int start)]
def Pj (which start:Nat)(wa:Addr)(l:Int):List (Str×V):=[("which",.int which),("word",.ref wa),("start",.int start),("front",.int start),("first",.int 0)]
def Pk (which start:Nat)(wa:Addr)(l:Int):List (Str×V):=[("which",.int which),("word",.ref wa),("start",.int start),("front",.int start),("first",.int 0),("rear",.int start)]
def Vh (which start:Nat)(wa:Addr)(l:Int):List (Str×V):=[("which",.int which),("word",.ref wa),("start",.int start),("front",.int start),("first",.int 0),("rear",.int start),("last",.int l)]
theorem gy2 (which start:Nat)(wa:Addr)(l:Int):b6 "word" (.ref wa) (Pa which start wa l)=Pb which start wa l:=fA (by kernel_rfl)
theorem gy3 (which start:Nat)(wa:Addr)(l:Int):b6 "start" (.int start) (Pb which start wa l)=Pg which start wa l:=fA (by kernel_rfl)
theorem gy4 (which start:Nat)(wa:Addr)(l:Int):b6 "front" (.int start) (Pg which start wa l)=Ph which start wa l:=fA (by kernel_rfl)
theorem gy5 (which start:Nat)(wa:Addr)(l:Int):b6 "first" (.int 0) (Ph which start wa l)=Pj which start wa l:=fA (by kernel_rfl)
theorem gy6 (which start:Nat)(wa:Addr)(l:Int):b6 "rear" (.int start) (Pj which start wa l)=Pk which start wa l:=fA (by kernel_rfl)
theorem gy7 (which start:Nat)(wa:Addr)(l:Int):b6 "last" (.int l) (Pk which start wa l)=Vh which start wa l:=fA (by kernel_rfl)
theorem xl (T:Txt K mg A):aL P w K mg base bB 1 A.iD A.kI ["self","which","word","start"] (EJ A.aF):=by
 refine T.jN.F.ok xg (λvs H Q E h=>?_) (λbR AA outer s H vs Q E hr h=>?_)
 ·obtain⟨x,dx,wa,which,start,word,rfl,_⟩:=h;rfl
 ·obtain⟨x,dx,wa,which,start,word,rfl,hx,vX,oQ,fM,k⟩:=h
  refine⟨_,(ai (cE (pv 0) (pv 1) rfl)
   (ai (cE (pv 0) (pv 2) rfl)
   (ai (cE (pv 0) (pv 3) rfl)
   (ai (cE (pv 0) (pv 3) rfl)
   (ai (cE (pv 0) aw rfl)
   (ai (cE (pv 0) (pv 3) rfl)
   (aq (cE (pv 0) (bD qk (bq bA rfl T.cQ ahJ (ae (pv 2) ah)) aw) rfl)))))))),?_⟩
  try dsimp only[bJ,cx]
  refine DV ?_;intro zI uU rX mE gB fD;have st:∀{H0:Hp} {fs gs:List (Str×V)},H0 x=some (.ins A.aF dx fs)->(∀b o,H b=some o->b≠x->H0 b=some o)->upd H0 x (.ins A.aF dx gs) x=some (.ins A.aF dx gs)/\∀b o,H b=some o->b≠x->upd H0 x (.ins A.aF dx gs) b=some o:=λ_ h=>⟨aj,λb o e n=>by rw[av n];exact h b o e n⟩
  have YF:wa≠x:=cX vX hx (by intro z;cases z);have o0:∀b o,H b=some o->b≠x->H b=some o:=λb o e _=>e
  refine⟨_,rfl,_,rfl,x,_,dx,_,rfl,hx,aV T,T.Ek,(by show 0<1000;decide),?_⟩;rw[show b6 "which" (.int which) []=Pa which start wa (((word.length - 1:Nat):Int)) from rfl];obtain⟨x1,o1⟩:=st (gs:=Pa which start wa (((word.length - 1:Nat):Int))) hx o0;generalize upd H x (.ins A.aF dx (Pa which start wa (((word.length - 1:Nat):Int))))=H1 at x1 o1 ⊢;refine⟨_,rfl,_,rfl,x,_,dx,_,rfl,x1,aV T,T.lh,(by show 1<1000;decide),?_⟩;rw[gy2];obtain⟨x2,o2⟩:=st (gs:=Pb which start wa (((word.length - 1:Nat):Int))) x1 o1;generalize upd H1 x (.ins A.aF dx (Pb which start wa (((word.length - 1:Nat):Int))))=H2 at x2 o2 ⊢;refine⟨_,rfl,_,rfl,x,_,dx,_,rfl,x2,aV T,T.uB,(by show 2<1000;decide),?_⟩;rw[gy3];obtain⟨x3,o3⟩:=st (gs:=Pg which start wa (((word.length - 1:Nat):Int))) x2 o2;generalize upd H2 x (.ins A.aF dx (Pg which start wa (((word.length - 1:Nat):Int))))=H3 at x3 o3 ⊢;refine⟨_,rfl,_,rfl,x,_,dx,_,rfl,x3,aV T,T.iM,(by show 3<1000;decide),?_⟩;rw[gy4];obtain⟨x4,o4⟩:=st (gs:=Ph which start wa (((word.length - 1:Nat):Int))) x3 o3;generalize upd H3 x (.ins A.aF dx (Ph which start wa (((word.length - 1:Nat):Int))))=H4 at x4 o4 ⊢;refine⟨_,rfl,x,_,dx,_,rfl,x4,aV T,T.fT,(by show 4<1000;decide),?_⟩;rw[gy5];obtain⟨x5,o5⟩:=st (gs:=Pj which start wa (((word.length - 1:Nat):Int))) x4 o4;generalize upd H4 x (.ins A.aF dx (Pj which start wa (((word.length - 1:Nat):Int))))=H5 at x5 o5 ⊢;refine⟨_,rfl,_,rfl,x,_,dx,_,rfl,x5,aV T,T.i5,(by show 5<1000;decide),?_⟩;rw[gy6];obtain⟨x6,o6⟩:=st (gs:=Pk which start wa (((word.length - 1:Nat):Int))) x5 o5;generalize upd H5 x (.ins A.aF dx (Pk which start wa (((word.length - 1:Nat):Int))))=H6 at x6 o6 ⊢;refine⟨_,rfl,wa,_,rfl,.inr (bL.of (o6 _ _ vX YF)),_,_,rfl,rfl,_,rfl,x,_,dx,_,rfl,x6,aV T,T.jP,(by show 6<1000;decide),?_⟩;rw[show (λ(i j:Int)=>V.int (i - j)) ((ao word).length:Int) 1=V.int (((word.length - 1:Nat):Int)) by show V.int (((ao word).length:Int) - 1)=_;rw[bh];congr 1;omega];rw[gy7];obtain⟨x7,o7⟩:=st (gs:=Vh which start wa (((word.length - 1:Nat):Int))) x6 o6;generalize upd H6 x (.ins A.aF dx (Vh which start wa (((word.length - 1:Nat):Int))))=H7 at x7 o7 ⊢;exact k H7 o7 ⟨x7,o7 _ _ vX YF⟩
structure vY (S:RS) (g g':Gg):Prop where
 wh:g'.which=g.which
 wo:g'.word=g.word
 st:g'.start=g.start
 gi:GI S g'
 ef:S.ay g'.front=g'.front
 er:S.ay g'.bF=g'.bF
 k1:S.ay g.front=g.front->S.by g.front g.z1=none->g'.front=g.front/\g'.first=g.first
 k2:S.ay g.bF=g.bF->S.by g.bF g.z2=none->g'.bF=g.bF/\g'.last=g.last
theorem vY.fwd {S:RS}{R:Za2}{g g1:Gg}(h:vY S g g1)(gd:Good S [] R)(bU:g1.first<g1.last){c:Nat}(hc:S.by g1.front g1.z1=some c):vY S g { g1 with front:=c,first:=g1.first+ 1 }:=by
 obtain⟨_,xN,_,ec⟩:=gd.st _ _ _ hc;have ll:=h.gi.ll;have hz:=Gg.zp (g:=g1) (by omega);refine⟨h.wh,h.wo,h.st,⟨bU,ll,h.gi.s,xN,h.gi.r,?_,h.gi.wr⟩,ec,h.er,λe1 e2=>?_,h.k2⟩
 ·have:=h.gi.wf;rw[h.ef]at this;show wk S.by _ (g1.word.take (g1.first+ 1))=some (S.ay c);rw[take_snoc hz,vL this,Kj hc,ec]
 ·obtain⟨q1,q2⟩:=h.k1 e1 e2;unfold Gg.z1 at hc e2;rw[q1,q2,h.wo,e2]at hc;cases hc
theorem vY.bwd {S:RS}{R:Za2}{g g1:Gg}(h:vY S g g1)(gd:Good S [] R)(bU:g1.first<g1.last){c:Nat}(hc:S.by g1.bF g1.z2=some c):vY S g { g1 with bF:=c,last:=g1.last - 1 }:=by
 obtain⟨_,xN,_,ec⟩:=gd.st _ _ _ hc;have ll:=h.gi.ll;have hz:=Gg.at2 (g:=g1) ll;refine⟨h.wh,h.wo,h.st,⟨by show g1.first<=g1.last - 1;omega,by show g1.last - 1<g1.word.length;omega,h.gi.s,h.gi.f,xN,h.gi.wf,?_⟩,h.ef,ec,h.k1,λe1 e2=>?_⟩
 ·have:=h.gi.wr;rw[h.er]at this;show wk S.by (S.ay c) (g1.word.drop (g1.last - 1+ 1))=some (S.ay g1.start);rw[show g1.last - 1+ 1=g1.last by omega,drop_cons hz,ec,lg (gd.sy _ _ _ hc)];exact this
 ·obtain⟨q1,q2⟩:=h.k2 e1 e2;unfold Gg.z2 at hc e2;rw[q1,q2,h.wo,e2]at hc;cases hc
inductive IU (CR CG:Addr) (vs:List V) (H:Hp) (Q:VK) (E_:XK):Prop
 |mk (p dx wa r:Addr) (g:Gg) (S:RS) (a:RA) (R:Za2) (e9:vs=[.ref p,.ref r]) (fb:fu CG H p dx wa g) (fm:ax CR H r S a) (fq:Good S [] R) (fZ:GI S g) (hX:¬a.own r p) (iW:g.word.length<=1000) (jC:∀g' H',(∀b o,b≠p->H b=some o->H' b=some o)->fu CG H' p dx wa g'->X8 S g g'->Q .non H'):IU CR CG vs H Q E_
theorem yB (T:Txt K mg A):aL P w K mg base bB 2 A.lZ A.l0 ["self","rooms"] (IU A.ak A.aF):=by
 have eK:aL P w K mg base bB 1 A.gj A.gk ["self","room"] (p9 A.ak):=jQ T;have fh:aL P w K mg base bB 1 A.iF A.iG ["self","room","step"] (uD A.ak):=j8 T;refine T.pD.F.ok kQ (λvs H Q E h=>?_) (λbR AA outer s H vs Q E hr h=>?_)
 ·obtain⟨p,dx,wa,r,g,S,a,R,rfl,_⟩:=h;rfl
 ·obtain⟨p,dx,wa,r,g,S,a,R,rfl,hp,hR,gd,gi,EK,jS,k⟩:=h
  refine⟨_,(ai (cE (pv 0) (bT (pv 1) (aK T) T.dI.m (eK) hr.Za5 T.dI.b .nil aO (ae (aJ (pv 0) rfl) ah)) rfl)
   (ai (cE (pv 0) (bT (pv 1) (aK T) T.dI.m (eK) hr.Za5 T.dI.b .nil aO (ae (aJ (pv 0) rfl) ah)) rfl)
   (ai (bX (ky ahK (aZ lF (aJ (pv 0) rfl) (aJ (pv 0) rfl) (bj _))
    (ai (aY (i:=2) kQ.nd rfl (Or.inl rfl) (bT (pv 1) (aK T) T.eV.m (fh) hr.Za5 T.eV.b .nil aO (ae (aJ (pv 0) rfl) (ae (aS bp (aJ (pv 0) rfl) (aJ (pv 0) rfl) (λ_ _=>rfl)) ah))))
    (ai (bP (aZ oB (pv 2) dv (bj _))
     (aq xW)
     bC)
    (ai (cE (pv 0) (pv 2) rfl)
    (aq (cE (pv 0) (bD dG (aJ (pv 0) rfl) aw) rfl)))))))
   (aq (bX (ky ahK (aZ lF (aJ (pv 0) rfl) (aJ (pv 0) rfl) (bj _))
    (ai (aY (i:=2) kQ.nd rfl (Or.inl rfl) (bT (pv 1) (aK T) T.eV.m (fh) hr.Za5 T.eV.b .nil aO (ae (aJ (pv 0) rfl) (ae (fW eP (aS bp (aJ (pv 0) rfl) (aJ (pv 0) rfl) (λ_ _=>rfl))) ah))))
    (ai (bP (aZ oB (pv 2) dv (bj _))
     (aq xW)
     bC)
    (ai (cE (pv 0) (pv 2) rfl)
    (aq (cE (pv 0) (bD qk (aJ (pv 0) rfl) aw) rfl))))))))))),?_⟩
  try dsimp only[bJ,cx]
  refine qK ?_;intro mE gB fD;have eo:∀{c:Nat},c<S.made->S.aB[c]?=some (S.ay c):=λ{c} hc=>oO (by rw[gd.wf.e];exact hc)
  have kp:∀{H2:Hp},(∀b o,b≠p->H b=some o->H2 b=some o)->ax A.ak H2 r S a:=λ{H2} f=>hR.keep (λb o hb e=>f b o (λz=>EK (z ▸ hb)) e) (λb xs e=>f b _ (cX e hp.ins (by intro z;cases z)) e)
  have up:∀{H2:Hp} {o2:HO},(∀b o,b≠p->H b=some o->H2 b=some o)->∀b o,b≠p->H b=some o->upd H2 p o2 b=some o:=λf b o n e=>by rw[av n];exact f b o n e
  refine⟨_,rfl,r,a.dx,_,rfl,hR.ins,cq _ _ _ (by decide +kernel),_,rfl,p,_,dx,_,_,rfl,hp.ins,aV T,T.iM,nU _ _,r,S,a,g.front,S.ay g.front,rfl,hR,eo gi.f,_,rfl,p,_,dx,_,rfl,hp.ins,aV T,T.iM,(by show 7<1000;decide),?_⟩;rw[EG];have p1:=hp.set (g':={ g with front:=S.ay g.front }) rfl;have f1:=up (o2:=.ins A.aF dx (hZ { g with front:=S.ay g.front } wa)) (λb o _ e=>e);generalize upd H p (.ins A.aF dx (hZ { g with front:=S.ay g.front } wa))=H1 at p1 f1 ⊢;have R1:=kp f1;refine⟨_,rfl,r,a.dx,_,rfl,R1.ins,cq _ _ _ (by decide +kernel),_,rfl,p,_,dx,_,_,rfl,p1.ins,aV T,T.i5,nV _ _,r,S,a,g.bF,S.ay g.bF,rfl,R1,eo gi.r,_,rfl,p,_,dx,_,rfl,p1.ins,aV T,T.i5,(by show 7<1000;decide),?_⟩;rw[G8];have p2:=p1.set (g':={ g with front:=S.ay g.front,bF:=S.ay g.bF }) rfl;have f2:=up (o2:=.ins A.aF dx (hZ { g with front:=S.ay g.front,bF:=S.ay g.bF } wa)) f1;generalize upd H1 p (.ins A.aF dx (hZ { g with front:=S.ay g.front,bF:=S.ay g.bF } wa))=H2 at p2 f2 ⊢;have e1:=(gd.el _ gi.f).2;have e2:=(gd.el _ gi.r).2;have Vi:vY S g { g with front:=S.ay g.front,bF:=S.ay g.bF }:=⟨rfl,rfl,rfl,⟨gi.fl,gi.ll,gi.s,gd.lt gi.f,gd.lt gi.r,by show wk _ _ _=some (S.ay (S.ay g.front));rw[e1];exact gi.wf,by show wk _ (S.ay (S.ay g.bF)) _=_;rw[e2];exact gi.wr⟩,e1,e2,λe _=>⟨e,rfl⟩,λe _=>⟨e,rfl⟩⟩
  let uI:St->Hp->Prop:=λ aX H'=>∃g1 v2,aX=[some (.ref p),some (.ref r),v2]/\(∀b o,b≠p->H b=some o->H' b=some o)/\fu A.aF H' p dx wa g1/\vY S g g1/\(g1.first<g1.last->S.by g1.front g1.z1=none)
  refine⟨uI,?_,?_⟩
  ·refine cM ?_;intro ik;refine⟨λm σ H'=>∃g1 v2,m=g1.last - g1.first/\σ=[some (.ref p),some (.ref r),v2]/\(∀b o,b≠p->H b=some o->H' b=some o)/\fu A.aF H' p dx wa g1/\vY S g g1,⟨_,_,none,rfl,rfl,f2,p2,Vi⟩,?_⟩;intro m σ H' bV;refine bI ?_;intro q_;obtain⟨g1,v2,rfl,rfl,f',p',ad⟩:=bV;dsimp only[q_];clear q_;have R':=kp f';have ll:=ad.gi.ll;have fl:=ad.gi.fl;have lw:g1.word.length<=1000:=by rw[ad.wo];exact jS
   refine⟨_,rfl,p,_,dx,_,_,rfl,p'.ins,aV T,T.fT,iP _ _,_,rfl,p,_,dx,_,_,rfl,p'.ins,aV T,T.jP,nX _ _,_,_,rfl,rfl,_,rfl,?_⟩;refine cS (λq=>?_) (λq=>?_)
   ·have q:(g1.first:Int)<(g1.last:Int):=ahB q;refine⟨_,λ_ _ z=>z,?_⟩;have hz:=Gg.zp (g:=g1) (by omega);refine⟨_,rfl,r,a.dx,_,rfl,R'.ins,cq _ _ _ (by decide +kernel),_,rfl,p,_,dx,_,_,rfl,p'.ins,aV T,T.iM,nU _ _,_,rfl,p,_,dx,_,_,rfl,p'.ins,aV T,T.lh,nT _ _,_,rfl,p,_,dx,_,_,rfl,p'.ins,aV T,T.fT,iP _ _,wa,_,_,.int g1.z1,rfl,rfl,bL.of p'.wo,cf (bZ hz),r,S,a,g1.front,g1.z1,rfl,R',by rw[gd.wf.w];exact ad.gi.f,?_⟩
    cases eb:S.by g1.front g1.z1 with
    |none=>exact⟨_,rfl,rfl,_,rfl,fQ ⟨g1,_,rfl,f',p',ad,λ_=>eb⟩⟩
    |some c=>
     rw[show (Option.map (λn:Nat=>V.int (n:Int)) (some c)).getD V.non=V.int (c:Int) from rfl];refine⟨_,rfl,rfl,_,rfl,b8 ?_⟩;refine⟨_,rfl,_,rfl,p,_,dx,_,rfl,p'.ins,aV T,T.iM,(by show 7<1000;decide),?_⟩;rw[EG];have p3:=p'.set (g':={ g1 with front:=c }) rfl;have f3:=up (o2:=.ins A.aF dx (hZ { g1 with front:=c } wa)) f';generalize upd H' p (.ins A.aF dx (hZ { g1 with front:=c } wa))=H3 at p3 f3 ⊢;refine⟨_,rfl,p,_,dx,_,_,rfl,p3.ins,aV T,T.fT,iP _ _,_,_,rfl,rfl,_,rfl,p,_,dx,_,rfl,p3.ins,aV T,T.fT,(by show 7<1000;decide),?_⟩;rw[show (λ(i j:Int)=>V.int (i+ j)) (({ g1 with front:=c }:Gg).first:Int) 1=V.int ((g1.first+ 1:Nat):Int) from rfl,Ng];exact⟨_,by show g1.last - (g1.first+ 1)<_;omega,_,_,rfl,rfl,up f3,p3.set rfl,ad.fwd gd (by omega) eb⟩
   ·exact⟨g1,v2,rfl,f',p',ad,λz=>absurd (ahy (show (g1.first:Int)<(g1.last:Int) by omega)) q⟩
  intro aX H' bV;refine bI ?_;intro q_;obtain⟨g0,v0,rfl,f0,p0,Vi,n0⟩:=bV;dsimp only[q_];clear q_
  let uH:St->Hp->Prop:=λ aX H'=>∃g1 v2,aX=[some (.ref p),some (.ref r),v2]/\(∀b o,b≠p->H b=some o->H' b=some o)/\fu A.aF H' p dx wa g1/\vY S g g1/\(g1.first<g1.last->S.by g1.front g1.z1=none)/\(g1.first<g1.last->S.by g1.bF g1.z2=none)
  refine⟨uH,?_,?_⟩
  ·refine cM ?_;intro ik;refine⟨λm σ H'=>∃g1 v2,m=g1.last - g1.first/\σ=[some (.ref p),some (.ref r),v2]/\(∀b o,b≠p->H b=some o->H' b=some o)/\fu A.aF H' p dx wa g1/\vY S g g1/\(g1.first<g1.last->S.by g1.front g1.z1=none),⟨_,_,v0,rfl,rfl,f0,p0,Vi,n0⟩,?_⟩;intro m σ H' bV;refine bI ?_;intro q_;obtain⟨g1,v2,rfl,rfl,f',p',ad,n1⟩:=bV;dsimp only[q_];clear q_;have R':=kp f';have ll:=ad.gi.ll;have fl:=ad.gi.fl;have lw:g1.word.length<=1000:=by rw[ad.wo];exact jS
   refine⟨_,rfl,p,_,dx,_,_,rfl,p'.ins,aV T,T.fT,iP _ _,_,rfl,p,_,dx,_,_,rfl,p'.ins,aV T,T.jP,nX _ _,_,_,rfl,rfl,_,rfl,?_⟩;refine cS (λq=>?_) (λq=>?_)
   ·have q:(g1.first:Int)<(g1.last:Int):=ahB q;refine⟨_,λ_ _ z=>z,?_⟩;have hz:=Gg.at2 (g:=g1) ll;refine⟨_,rfl,r,a.dx,_,rfl,R'.ins,cq _ _ _ (by decide +kernel),_,rfl,p,_,dx,_,_,rfl,p'.ins,aV T,T.i5,nV _ _,_,rfl,p,_,dx,_,_,rfl,p'.ins,aV T,T.lh,nT _ _,_,rfl,p,_,dx,_,_,rfl,p'.ins,aV T,T.jP,nX _ _,wa,_,_,.int (-g1.z2),rfl,rfl,bL.of p'.wo,cf (bZ hz),_,rfl,r,S,a,g1.bF,g1.z2,(by show [V.ref r,V.int (g1.bF:Int),V.int (- -g1.z2)]=_;rw[aiK]),R',by rw[gd.wf.w];exact ad.gi.r,?_⟩
    cases eb:S.by g1.bF g1.z2 with
    |none=>exact⟨_,rfl,rfl,_,rfl,fQ ⟨g1,_,rfl,f',p',ad,n1,λ_=>eb⟩⟩
    |some c=>
     rw[show (Option.map (λn:Nat=>V.int (n:Int)) (some c)).getD V.non=V.int (c:Int) from rfl];refine⟨_,rfl,rfl,_,rfl,b8 ?_⟩;refine⟨_,rfl,_,rfl,p,_,dx,_,rfl,p'.ins,aV T,T.i5,(by show 7<1000;decide),?_⟩;rw[G8];have p3:=p'.set (g':={ g1 with bF:=c }) rfl;have f3:=up (o2:=.ins A.aF dx (hZ { g1 with bF:=c } wa)) f';generalize upd H' p (.ins A.aF dx (hZ { g1 with bF:=c } wa))=H3 at p3 f3 ⊢;refine⟨_,rfl,p,_,dx,_,_,rfl,p3.ins,aV T,T.jP,nX _ _,_,_,rfl,rfl,_,rfl,p,_,dx,_,rfl,p3.ins,aV T,T.jP,(by show 7<1000;decide),?_⟩;rw[show (λ(i j:Int)=>V.int (i - j)) (({ g1 with bF:=c }:Gg).last:Int) 1=V.int ((g1.last - 1:Nat):Int) by show V.int ((g1.last:Int) - 1)=_;congr 1;omega,Rf];exact⟨_,by show (g1.last - 1) - g1.first<_;omega,_,_,rfl,rfl,up f3,p3.set rfl,ad.bwd gd (by omega) eb,λz=>n1 (by have z:g1.first<g1.last - 1:=z;omega)⟩
   ·exact⟨g1,v2,rfl,f',p',ad,n1,λz=>absurd (ahy (show (g1.first:Int)<(g1.last:Int) by omega)) q⟩
  intro aX H' bV;refine bI ?_;intro q_;obtain⟨g1,v2,rfl,f',p',ad,n1,n2⟩:=bV;dsimp only[q_];clear q_;exact k g1 H' f' p' ⟨ad.wh,ad.wo,ad.st,ad.gi,ad.ef,ad.er,n1,n2,ad.k1,ad.k2⟩
theorem Xx (ns:List Int)(j:Nat):i7 (ao ns) none (some (j:Int))=ao (ns.take j):=by
 rw[ub,HT.wH];show ao ((List.drop 0 ns).take (min j ns.length - 0))=_;rw[List.drop_zero,Nat.sub_zero];by_cases h:j<=ns.length
 ·rw[aiq h]
 ·rw[ai0 (by omega),aik,aiP (by omega)]
theorem Rg (ns:List Int)(j:Nat)(h:j<=ns.length):i7 (ao ns) (some (j:Int)) none=ao (ns.drop j):=by
 rw[ub,HT.wH,aiq h];show ao ((ns.drop j).take (ns.length - j))=_;rw[aiP (by rw[aiA];exact ahi _)]
theorem tO {by_:Nat->Int->Option Nat}:∀{ws:List Int} {r:Nat},(cH by_ r ws).length<=ws.length
 |[],_=>ahi _
 |z::ws,r=>by
  cases q:by_ r z with
  |none=>rw[BM q];exact ahT _
  |some d=>rw[rS q,ahE,ahE];exact Nat.succ_le_succ tO
inductive EL (CR CG:Addr) (vs:List V) (H:Hp) (Q:VK) (E_:XK):Prop
 |mk (p dx wa r:Addr) (g:Gg) (S:RS) (a:RA) (R:Za2) (e9:vs=[.ref p,.ref r]) (fb:fu CG H p dx wa g) (fm:ax CR H r S a) (fq:Good S [] R) (fZ:g.start<S.made) (hX:g.bF<S.made) (iW:g.last<g.word.length) (jC:g.word.length<=1000) (lu:∀q H',au H H'->bN H' 2 (.ref q) (mW g.which ((g.start::cH S.by g.start (g.word.take g.first))++(g.bF::cH S.by g.bF (g.word.drop (g.last+ 1)))) g.first)->Q (.ref q) H'):EL CR CG vs H Q E_
theorem ER (T:Txt K mg A):aL P w K mg base bB 3 A.sN A.sO ["self","rooms"] (EL A.ak A.aF):=by
 have EV:aL P w K mg base bB 2 A.yl A.ym ["rooms","room","word"] (yz A.ak):=K3 T;refine T.vR.F.ok q9 (λvs H Q E h=>?_) (λbR AA outer s H vs Q E hr h=>?_)
 ·obtain⟨p,dx,wa,r,g,S,a,R,rfl,_⟩:=h;rfl
 ·obtain⟨p,dx,wa,r,g,S,a,R,rfl,hp,hR,gd,hs,hr9,Og,jS,k⟩:=h
  refine⟨_,(ai (aY (i:=2) q9.nd rfl (Or.inl rfl) (bx (EV) hr.Za5 rfl T.walked.m T.walked.F.kp T.walked.b .nil aO (ae (pv 1) (ae (aJ (pv 0) rfl) (ae (jk Du (aJ (pv 0) rfl) pY (iZ (aJ (pv 0) rfl))) ah)))))
   (ai (aY (i:=3) q9.nd rfl (Or.inl rfl) (bx (EV) hr.Za5 rfl T.walked.m T.walked.F.kp T.walked.b .nil aO (ae (pv 1) (ae (aJ (pv 0) rfl) (ae (jk Du (aJ (pv 0) rfl) (iZ (bD dG (aJ (pv 0) rfl) aw)) pY) ah)))))
   (aq (bz (bS (ae (jF (l:=[114,117,108,101]) rfl) (ae (aJ (pv 0) rfl) (ae (cZ gf rfl T.hU ah3 (ae (bD vq (pv 2) (pv 3)) ah)) (ae (aJ (pv 0) rfl) ah))))))))),?_⟩
  try dsimp only[bJ,cx]
  refine gE ?_;intro gB fD;have BZ:∀c z d,S.by c z=some d->d<S.made:=λc z d e=>(gd.st c z d e).2.1
  refine⟨_,rfl,_,rfl,p,_,dx,_,_,rfl,hp.ins,aV T,T.uB,yA _ _,_,rfl,p,_,dx,_,_,rfl,hp.ins,aV T,T.lh,nT _ _,_,rfl,p,_,dx,_,_,rfl,hp.ins,aV T,T.fT,iP _ _,_,rfl,wa,_,rfl,hp.wo,λt1 H1 s1 e1=>?_⟩;rw[Xx]at e1;refine⟨r,S,a,g.start,t1,g.word.take g.first,rfl,hR.same s1,gd.wf,hs,BZ,e1,by rw[ah2];omega,λl1 H2 s2 h2=>?_⟩;have oS:=s1.trans s2;have p2:=hp.same oS;refine⟨_,rfl,_,rfl,p,_,dx,_,_,rfl,p2.ins,aV T,T.i5,nV _ _,_,rfl,p,_,dx,_,_,rfl,p2.ins,aV T,T.lh,nT _ _,_,rfl,p,_,dx,_,_,rfl,p2.ins,aV T,T.jP,nX _ _,_,_,rfl,rfl,_,rfl,wa,_,rfl,p2.wo,λt2 H3 s3 e3=>?_⟩;rw[show (g.last:Int)+ 1=((g.last+ 1:Nat):Int) by omega,Rg _ _ (by omega)]at e3;have mG:=oS.trans s3;refine⟨r,S,a,g.bF,t2,g.word.drop (g.last+ 1),rfl,hR.same mG,gd.wf,hr9,BZ,e3,by rw[aiA];omega,λl2 H4 s4 h4=>?_⟩;have fV:=mG.trans s4;have p4:=hp.same fV;have lx:=tO (by_:=S.by) (ws:=g.word.take g.first) (r:=g.start);have ly:=tO (by_:=S.by) (ws:=g.word.drop (g.last+ 1)) (r:=g.bF);rw[ah2]at lx;rw[aiA]at ly;refine⟨_,rfl,p,_,dx,_,_,rfl,p4.ins,aV T,T.Ek,Nf _ _,_,rfl,_,rfl,l1,l2,_,_,rfl,rfl,(s3.trans s4) _ _ h2,h4,?_,λl3 n3=>?_⟩
  ·rw[bh,bh,cy,cy,ahE,ahE];exact ahC (show _<=100000 by omega) (by decide)
  refine⟨l3,_,rfl,.inl ⟨aM.of aj,λt3 n4=>?_⟩⟩;rw[←ints_app,←jo]at n4 ⊢;have s5:=au.upd (o:=.lst (ao (nI ((g.start::cH S.by g.start (g.word.take g.first))++(g.bF::cH S.by g.bF (g.word.drop (g.last+ 1))))))) n3;generalize (g.start::cH S.by g.start (g.word.take g.first))++(g.bF::cH S.by g.bF (g.word.drop (g.last+ 1)))=path at *;have s6:=s5.trans (au.upd (o:=.tup (ao (nI path))) n4);have e6:upd (upd H4 l3 (.lst (ao (nI path)))) t3 (.tup (ao (nI path))) t3=_:=aj;generalize upd (upd H4 l3 (.lst (ao (nI path)))) t3 (.tup (ao (nI path)))=H6 at s6 e6 ⊢;refine⟨_,rfl,p,_,dx,_,_,rfl,(s6 _ _ p4.ins),aV T,T.fT,iP _ _,(Za4 4),λq nq=>?_⟩;have s7:=au.upd (o:=.tup [.str (tx [114,117,108,101]),.int (g.which:Int),.ref t3,.int (g.first:Int)]) nq;refine k q _ (fV.trans (s6.trans s7)) (.t aj rfl λj v d e7 e8=>?_)
  match j,e7,e8 with
  |0,e7,e8=>cases e7;cases e8;exact .s
  |1,e7,e8=>cases e7;cases e8;exact .i
  |2,e7,e8=>
   cases e7;cases e8;refine .t (s7 _ _ e6) (by rw[bh,cy,ahl]) λi u x f1 f2=>?_
   obtain⟨z,rfl,hz⟩:=dN f1;unfold nI at hz;rw[ahw]at hz f2
   cases q1:path[i]? with
   |none=>rw[q1]at hz;cases hz
   |some c=>
    rw[q1]at hz f2;cases hz;cases f2;exact .i
  |3,e7,e8=>cases e7;cases e8;exact .i
  |j+ 4,e7,e8=>simp at e7
theorem same_none {H H':Hp}(s:au H H'){b:Addr}(h:H' b=none):H b=none:=by
 cases e:H b with
 |none=>rfl
 |some o=>rw[s _ _ e]at h;cases h
structure KA where
 dx:Addr
 aQ:Addr
 aG:Addr
 aA:Addr
 aW:Addr
def tQ (r:Addr)(c:KA)(hd:Nat):List (Str×V):=[("rooms",.ref r),("rules",.ref c.aQ),("goings",.ref c.aG),("agenda",.ref c.aA),("waiting",.ref c.aW),("heard",.int hd)]
theorem iQ (r:Addr)(c:KA)(hd:Nat):(tQ r c hd).lookup ("rooms":Str)=some (.ref r):=by kernel_rfl
theorem Nh (r:Addr)(c:KA)(hd:Nat):(tQ r c hd).lookup ("rules":Str)=some (.ref c.aQ):=by kernel_rfl
theorem oT (r:Addr)(c:KA)(hd:Nat):(tQ r c hd).lookup ("goings":Str)=some (.ref c.aG):=by kernel_rfl
theorem r6 (r:Addr)(c:KA)(hd:Nat):(tQ r c hd).lookup ("agenda":Str)=some (.ref c.aA):=by kernel_rfl
theorem pV (r:Addr)(c:KA)(hd:Nat):(tQ r c hd).lookup ("waiting":Str)=some (.ref c.aW):=by kernel_rfl
theorem yC (r:Addr)(c:KA)(hd:Nat):(tQ r c hd).lookup ("heard":Str)=some (.int hd):=by kernel_rfl
theorem jh {r:Addr}{c:KA}{hd:Nat}{x:Str}(h:x∉(["rooms","rules","goings","agenda","waiting","heard"]:List Str)):(tQ r c hd).lookup x=none:=by
 simp only[ahp,ah5,ajt,not_or]at h;obtain⟨h1,h2,h3,h4,h5,h6⟩:=h;unfold tQ;simp only[List.lookup,aho.mpr h1,aho.mpr h2,aho.mpr h3,aho.mpr h4,aho.mpr h5,aho.mpr h6]
theorem Ni (r:Addr)(c:KA)(hd n:Nat):b6 "heard" (.int n) (tQ r c hd)=tQ r c n:=by kernel_rfl
structure uJ (CG:Addr) (H:Hp) (gv:List V) (gs:List (Option Gg)) (O:Addr->Prop):Prop where
 l:gv.length=gs.length
 n:∀(i:Nat) (v:V),gv[i]?=some v->gs[i]?=some none->v=.non
 s:∀(i:Nat) (v:V) (g:Gg),gv[i]?=some v->gs[i]?=some (some g)->∃p dx wa,v=.ref p/\fu CG H p dx wa g/\O p
 i:∀(i j:Nat) (p:Addr),gv[i]?=some (.ref p)->gv[j]?=some (.ref p)->i=j
structure cJ (CG CC:Addr) (H:Hp) (x r:Addr) (c:KA) (gs:List (Option Gg)) (ag:List Nat) (W:bW) (hd:Nat) (fp:List (List Int×Nat)) (O:Addr->Prop):Prop where
 ins:H x=some (.ins CC c.dx (tQ r c hd))
 hG:∃gv,H c.aG=some (.lst gv)/\uJ CG H gv gs O
 hA:H c.aA=some (.lst (ao (nI ag)))
 wt:tH H c.aW W O
 ne:c.aG≠c.aA
 ox:O x
 oG:O c.aG
 oA:O c.aA
 th:∀b,O b->∃o,H b=some o/\(∀xs,o≠.tup xs)/\∀kv,o≠.dT kv
section
variable {CG CC:Addr}{H H':Hp}{x r:Addr}{c:KA}{gs:List (Option Gg)}{ag:List Nat}{W:bW}{hd:Nat}{fp:List (List Int×Nat)}{O:Addr->Prop}
theorem uJ.keep {gv:List V}(h:uJ CG H gv gs O)(f:∀b o,O b->H b=some o->H' b=some o)(ft:∀b xs,H b=some (.tup xs)->H' b=some (.tup xs)):uJ CG H' gv gs O:=by
 refine⟨h.l,h.n,λi v g e1 e2=>?_,h.i⟩;obtain⟨p,dx,wa,e,q,o⟩:=h.s i v g e1 e2;exact⟨p,dx,wa,e,⟨f _ _ o q.ins,ft _ _ q.wo⟩,o⟩
theorem cJ.keep (h:cJ CG CC H x r c gs ag W hd fp O)(f:∀b o,O b->H b=some o->H' b=some o)(ft:∀b xs,H b=some (.tup xs)->H' b=some (.tup xs)):cJ CG CC H' x r c gs ag W hd fp O:=by
 obtain⟨gv,g1,g2⟩:=h.hG;refine⟨f _ _ h.ox h.ins,⟨gv,f _ _ h.oG g1,g2.keep f ft⟩,f _ _ h.oA h.hA,h.wt.keep f,h.ne,h.ox,h.oG,h.oA,λb hb=>?_⟩;obtain⟨o,e,q⟩:=h.th b hb;exact⟨o,f _ _ hb e,q⟩
theorem cJ.same (h:cJ CG CC H x r c gs ag W hd fp O)(s:au H H'):cJ CG CC H' x r c gs ag W hd fp O:=h.keep (λb o _ e=>s b o e) (λb o e=>s _ _ e)
theorem cJ.mN (h:cJ CG CC H x r c gs ag W hd fp O){b:Addr}{xs:List V}(e:H b=some (.tup xs)):¬O b:=λz=>by
 obtain⟨o,q,n,_⟩:=h.th b z;rw[e]at q;exact n xs (Za0 q).symm
theorem cJ.Vj (h:cJ CG CC H x r c gs ag W hd fp O){b:Addr}{kv:List (List Key×V)}(e:H b=some (.dT kv)):¬O b:=λz=>by
 obtain⟨o,q,_,n⟩:=h.th b z;rw[e]at q;exact n kv (Za0 q).symm
theorem cJ.waits (h:cJ CG CC H x r c gs ag W hd fp O){W':bW}{O':Addr->Prop}(f:∀b o,(∀kv,o≠.dK kv)->H b=some o->H' b=some o)(oo:∀b,O b->O' b)(w:tH H' c.aW W' O')(th:∀b,O' b->∃o,H' b=some o/\(∀xs,o≠.tup xs)/\∀kv,o≠.dT kv):cJ CG CC H' x r c gs ag W' hd fp O':=by
 obtain⟨gv,g1,g2⟩:=h.hG;refine⟨f _ _ (by intro _ z;cases z) h.ins,⟨gv,f _ _ (by intro _ z;cases z) g1,g2.l,g2.n,λi v g e1 e2=>?_,g2.i⟩,f _ _ (by intro _ z;cases z) h.hA,w,h.ne,oo _ h.ox,oo _ h.oG,oo _ h.oA,th⟩;obtain⟨p,dx,wa,e,q,o⟩:=g2.s i v g e1 e2;exact⟨p,dx,wa,e,⟨f _ _ (by intro _ z;cases z) q.ins,f _ _ (by intro _ z;cases z) q.wo⟩,oo _ o⟩
theorem cJ.agenda (h:cJ CG CC H x r c gs ag W hd fp O)(ia:List Nat):cJ CG CC (upd H c.aA (.lst (ao (nI ia)))) x r c gs ia W hd fp O:=by
 obtain⟨gv,g1,g2⟩:=h.hG;have k:∀b o,b≠c.aA->H b=some o->upd H c.aA (.lst (ao (nI ia))) b=some o:=λb o n e=>by rw[av n];exact e
 have kn:∀b o,(∀xs,o≠.lst xs)->H b=some o->upd H c.aA (.lst (ao (nI ia))) b=some o:=λb o n e=>k b o (λz=>by rw[z,h.hA]at e;exact n _ (Za0 e).symm) e
 refine⟨kn _ _ (by intro _ z;cases z) h.ins,⟨gv,k _ _ h.ne g1,g2.l,g2.n,λi v g e1 e2=>?_,g2.i⟩,aj,?_,h.ne,h.ox,h.oG,h.oA,λb hb=>?_⟩
 ·obtain⟨p,dx,wa,e,q,o⟩:=g2.s i v g e1 e2;exact⟨p,dx,wa,e,⟨kn _ _ (by intro _ z;cases z) q.ins,kn _ _ (by intro _ z;cases z) q.wo⟩,o⟩
 ·obtain⟨D,E,k1,k2⟩:=h.wt;exact⟨D,E,k1.keep λb o hb e=>by obtain⟨kv,q⟩:=k1.there hb;rw[q]at e;cases e;exact kn _ _ (by intro _ z;cases z) q,k2⟩
 ·by_cases e:b=c.aA
  ·exact⟨_,by rw[e];exact aj,(by intro _ z;cases z),by intro _ z;cases z⟩
  ·obtain⟨o,q,n⟩:=h.th b hb;exact⟨o,k _ _ e q,n⟩
end
def Bt (O:Addr->Prop)(H H':Hp):Prop:=∀b o,¬O b->H b=some o->H' b=some o
theorem Bt.trans {O O':Addr->Prop}{H H1 H2:Hp}(h:Bt O H H1)(h':Bt O' H1 H2)(f:∀b,O' b->O b\/H b=none):Bt O H H2:=λb o n e=>h' b o (λz=>(f b z).elim n λq=>by rw[q]at e;cases e) (h b o n e)
theorem Bt.of {O:Addr->Prop}{H H':Hp}(s:au H H'):Bt O H H':=λb o _ e=>s b o e
inductive EW (CR CG CC:Addr) (vs:List V) (H:Hp) (Q:VK) (E_:XK):Prop
 |mk (x r:Addr) (c:KA) (gs:List (Option Gg)) (ag:List Nat) (W:bW) (hd:Nat) (fp:List (List Int×Nat)) (O:Addr->Prop) (n m:Nat) (s:Int) (e9:vs=[.ref x,.int n,.int m,.int s]) (fb:cJ CG CC H x r c gs ag W hd fp O) (fm:m<100000) (fq:n<100000) (fZ:(-1000<=s/\s<=1000)) (hX:∀O' H',Bt O H H'->(∀b o,(∀kv,o≠.dK kv)->H b=some o->H' b=some o)->(∀b,O b->O' b)->(∀b,O' b->O b\/H b=none)->cJ CG CC H' x r c gs ag (addW W m s n) hd fp O'->Q .non H'):EW CR CG CC vs H Q E_
structure mH (H:Hp) (O:Addr->Prop) (H1:Hp) (O1:Addr->Prop):Prop where
 f:∀b o,(∀kv,o≠.dK kv)->H b=some o->H1 b=some o
 bt:Bt O H H1
 le:∀b,O b->O1 b
 nw:∀b,O1 b->O b\/H b=none
 th:∀b,O1 b->∃o,H1 b=some o/\(∀xs,o≠.tup xs)/\∀kv,o≠.dT kv
theorem mH.new {H H1:Hp}{O O1:Addr->Prop}(h:mH H O H1 O1){p:Addr}{kv:List (Key×V)}(np:H1 p=none):mH H O (upd H1 p (.dK kv)) O1:=by
 have s:=au.upd (o:=.dK kv) np;refine⟨λb o n e=>s _ _ (h.f b o n e),λb o n e=>s _ _ (h.bt b o n e),h.le,h.nw,λb hb=>?_⟩;obtain⟨o,e,q⟩:=h.th b hb;exact⟨o,s _ _ e,q⟩
theorem mH.put {H H1:Hp}{O O1:Addr->Prop}(h:mH H O H1 O1){d:Addr}(hd:O1 d){kv kv':List (Key×V)}(ed:H1 d=some (.dK kv)):mH H O (upd H1 d (.dK kv')) O1:=by
 have k:∀b o,b≠d->H1 b=some o->upd H1 d (.dK kv') b=some o:=λb o n e=>by rw[av n];exact e
 refine⟨λb o n e=>k _ _ (λz=>by have:=h.f b o n e;rw[z,ed]at this;exact n _ (Za0 this).symm) (h.f b o n e),λb o n e=>k _ _ (λz=>?_) (h.bt b o n e),h.le,h.nw,λb hb=>?_⟩
 ·rcases h.nw d hd with q|q
  ·exact n (by rw[z];exact q)
  ·rw[z,q]at e;cases e
 ·by_cases e:b=d
  ·exact⟨_,by rw[e];exact aj,(by intro _ z;cases z),by intro _ z;cases z⟩
  ·obtain⟨o,q,m⟩:=h.th b hb;exact⟨o,k _ _ e q,m⟩
theorem mH.YG {H H1:Hp}{O O1:Addr->Prop}(h:mH H O H1 O1){p:Addr}(np:H p=none){o:HO}(ep:H1 p=some o)(h1:∀xs,o≠.tup xs)(h2:∀kv,o≠.dT kv):mH H O H1 (Ko O1 p):=by
 refine⟨h.f,h.bt,λb z=>.inl (h.le b z),λb z=>z.elim (h.nw b) λq=>.inr (by rw[q];exact np),λb z=>?_⟩;rcases z with z|z
 ·exact h.th b z
 ·rw[z];exact⟨o,ep,h1,h2⟩
theorem mH.no {H H1:Hp}{O O1:Addr->Prop}(h:mH H O H1 O1){p:Addr}(np:H1 p=none):H p=none:=by
 cases e:H p with
 |none=>rfl
 |some o=>
  by_cases q:O p
  ·obtain⟨o1,e1,_⟩:=h.th p (h.le p q);rw[np]at e1;cases e1
  ·rw[h.bt p o q e]at np;cases np
theorem cJ.mid {CG CC:Addr}{H:Hp}{x r:Addr}{c:KA}{gs:List (Option Gg)}{ag:List Nat}{W:bW}{hd:Nat}{fp:List (List Int×Nat)}{O:Addr->Prop}(h:cJ CG CC H x r c gs ag W hd fp O):mH H O H O:=⟨λ_ _ _ e=>e,λ_ _ _ e=>e,λ_ z=>z,λ_ z=>.inl z,h.th⟩
theorem zU (T:Txt K mg A):aL P w K mg base bB 1 A.nH A.nJ ["self","number","room","step"] (EW A.ak A.aF A.az):=by
 refine T.jA.F.ok mD (λvs H Q E h=>?_) (λbR AA outer s H vs Q E hr h=>?_)
 ·obtain⟨x,r,c,gs,ag,W,hd,fp,O,n,m,s,rfl,_⟩:=h;rfl
 ·obtain⟨x,r,c,gs,ag,W,hd,fp,O,n,m,s,rfl,h,hm,hn,hs,k⟩:=h;have dE:=gM hr
  refine⟨_,(ai (bX (aY (i:=4) mD.nd rfl (Or.inl rfl) (rQ (aJ (pv 0) rfl) (pv 2) gC ⟨rfl,rfl,rfl,rfl⟩)))
   (ai (bX (aY (i:=5) mD.nd rfl (Or.inl rfl) (rQ (pv 4) (pv 3) gC ⟨rfl,rfl,rfl,rfl⟩)))
   (aq (jG dE (pv 5) (pv 1) dD rfl)))),?_⟩
  try dsimp only[bJ,cx]
  refine gE ?_;intro gB fD
  let uI:St->Hp->Prop:=λ aX H1=>∃d O1,aX=[some (.ref x),some (.int (n:Int)),some (.int (m:Int)),some (.int s),some (.ref d),none]/\mH H O H1 O1/\gx H1 c.aW W O1 m d
  refine⟨uI,?_,?_⟩
  ·refine cM ?_;intro ik;refine⟨_,rfl,x,_,c.dx,_,_,rfl,h.ins,aU T,T.mC,pV _ _ _,c.aW,rfl,h.wt.vE,_,rfl,λp np=>?_⟩;obtain⟨kvs,q1,q2,q3,q4⟩:=h.wt.room np (c:=(m:Int)) (by omega);refine⟨kvs,Sum.inl (m:Int),q1,rfl,q2,λv hv=>?_,λhv=>?_⟩
   ·obtain⟨d,rfl,w⟩:=q3 v hv;exact⟨d,O,rfl,h.mid.new np,w⟩
   ·have w:=q4 hv;have hk:O c.aW:=by obtain⟨D,E,_,z⟩:=h.wt;exact z.o _ (.inl rfl)
    exact⟨p,_,rfl,((h.mid.new np).put hk q1).YG np (by rw[av (λz=>by rw[z]at np;obtain⟨o,e,_⟩:=h.th _ hk;rw[np]at e;cases e)];exact aj) (by intro _ z;cases z) (by intro _ z;cases z),w⟩
  rintro aX H1 ⟨d,O1,rfl,m1,w1⟩
  let uH:St->Hp->Prop:=λ aX H2=>∃e O2,aX=[some (.ref x),some (.int (n:Int)),some (.int (m:Int)),some (.int s),some (.ref d),some (.ref e)]/\mH H O H2 O2/\uj H2 c.aW W O2 m s e
  refine⟨uH,?_,?_⟩
  ·refine cM ?_;intro ik;refine⟨_,rfl,d,rfl,w1.vE,_,rfl,λp np=>?_⟩;obtain⟨kvs,q1,q2,q3,q4⟩:=w1.cell np hs;refine⟨kvs,Sum.inl s,q1,rfl,q2,λv hv=>?_,λhv=>?_⟩
   ·obtain⟨e,rfl,w⟩:=q3 v hv;exact⟨e,O1,rfl,m1.new np,w⟩
   ·have w:=q4 hv;have hd:=w1.own;exact⟨p,_,rfl,((m1.new np).put hd q1).YG (m1.no np) (by rw[av (λz=>by rw[z]at np;obtain⟨o,e,_⟩:=m1.th _ hd;rw[np]at e;cases e)];exact aj) (by intro _ z;cases z) (by intro _ z;cases z),w⟩
  rintro aX H2 ⟨e,O2,rfl,m2,w2⟩;obtain⟨kvs,q1,q2,q3⟩:=w2.put (n:=(n:Int)) (by omega);refine⟨_,rfl,_,rfl,e,_,rfl,kz.k (k:=Sum.inl (n:Int)) q1 q2,?_⟩;have m3:=m2.put (kv':=putK kvs (Sum.inl (n:Int)) (.bl true)) w2.own q1;exact k O2 _ m3.bt m3.f m3.le m3.nw (h.waits m3.f m3.le q3 m3.th)
inductive zV (CR CG CC:Addr) (vs:List V) (H:Hp) (Q:VK) (E_:XK):Prop
 |mk (x r:Addr) (c:KA) (gs:List (Option Gg)) (ag:List Nat) (W:bW) (hd:Nat) (fp:List (List Int×Nat)) (O:Addr->Prop) (m:Nat) (s:Int) (e9:vs=[.ref x,.int m,.int s]) (fb:cJ CG CC H x r c gs ag W hd fp O) (fm:(∀ns:List Nat,ns.Nodup->(∀n:Nat,n∈ns↔W m s n=true)->ag.length+ ns.length<=1000000)) (fq:∀ns H',Bt O H H'->ns.Nodup->(∀n:Nat,n∈ns↔W m s n=true)->cJ CG CC H' x r c gs (ag++ns) (i9 W m s) hd fp O->Q .non H'):zV CR CG CC vs H Q E_
theorem r9 (T:Txt K mg A):aL P w K mg base bB 1 A.jL A.jM ["self","room","step"] (zV A.ak A.aF A.az):=by
 refine T.eD.F.ok zE (λvs H Q E h=>?_) (λbR AA outer s H vs Q E hr h=>?_)
 ·obtain⟨x,r,c,gs,ag,W,hd,fp,O,m,s,rfl,_⟩:=h;rfl
 ·obtain⟨x,r,c,gs,ag,W,hd,fp,O,m,s,rfl,h,hz,k⟩:=h;have dE:=gM hr;refine⟨_,(aq (bH (fG ahD PySem.F.slot_list_extend PySem.F.type_list_extend Bn (aJ (pv 0) rfl) (ae (cZ (lT rfl) rfl T.mB aid (ae (ya (qA dE (aJ (pv 0) rfl) (pv 1) gC ⟨rfl,rfl,rfl,rfl⟩) (pv 2) gC ⟨rfl,rfl,rfl,rfl⟩) ah)) ah)))),?_⟩
  try dsimp only[bJ,cx]
  have rest:∀{H2:Hp} {W':bW} {l:Addr} {ns:List Nat},cJ A.aF A.az H2 x r c gs ag W' hd fp O->Bt O H H2->H2 l=none->ns.Nodup->(∀n:Nat,n∈ns↔W m s n=true)->W'=i9 W m s->∃l' b xs zs,V.ref c.aA=.ref l'/\[V.ref l]=[.ref b]/\upd H2 l (.lst (ao (nI ns))) l'=some (.lst xs)/\upd H2 l (.lst (ao (nI ns))) b=some (.lst zs)/\xs.length+ zs.length<=sizeLine/\Q .non (upd (upd H2 l (.lst (ao (nI ns)))) l' (.lst (xs++zs))):=λ{H2 W' l ns} h2 b2 nl nd hn eW=>by
   subst eW;have s3:=au.upd (o:=.lst (ao (nI ns))) nl;refine⟨c.aA,l,_,_,rfl,rfl,s3 _ _ h2.hA,aj,?_,?_⟩
   ·rw[bh,bh,cy,cy];exact ahC (hz ns nd hn) (by decide)
   ·rw[←ints_app,←jo];exact k ns _ (λb o n e=>by rw[av (λz=>n (by rw[z];exact h.oA))];exact s3 _ _ (b2 b o n e)) nd hn ((h2.same s3).agenda (ag++ns))
  refine⟨_,rfl,x,_,c.dx,_,_,rfl,h.ins,aU T,T.oM,r6 _ _ _,.inl ⟨rfl,_,aM.of h.hA⟩,_,rfl,x,_,c.dx,_,_,rfl,h.ins,aU T,T.mC,pV _ _ _,c.aW,rfl,h.wt.vE,_,rfl,λp1 EX=>?_⟩;have s1:=au.upd (o:=.dK []) EX;have q1:upd H p1 (.dK []) p1=some (.dK []):=aj;generalize upd H p1 (.dK [])=H1 at s1 q1 ⊢;have h1:=h.same s1;obtain⟨o,g1,g2⟩:=h1.wt.get (c:=(m:Int));refine⟨o,g1,?_⟩;rcases g2 with ⟨rfl,no⟩|⟨d,rfl,w⟩
  ·refine⟨p1,rfl,.inl ⟨_,.inl q1⟩,_,rfl,λp2 tM=>?_⟩;have s2:=au.upd (o:=.dK []) tM;have q2:upd H1 p2 (.dK []) p2=some (.dK []):=aj;generalize upd H1 p2 (.dK [])=H2 at s2 q2 ⊢;refine⟨[],Sum.inl s,s2 _ _ q1,rfl,(λv hv=>by cases hv),λ_=>⟨p2,[],rfl,q2,λl nl=>?_⟩⟩;exact rest (ns:=[]) (h1.same s2) (.of (s1.trans s2)) nl ais (λn=>⟨(λz=>by cases z),λz=>by rw[no]at z;cases z⟩) (Az (no s)).symm
  ·refine⟨d,rfl,w.vE,_,rfl,λp2 tM=>?_⟩;have s2:=au.upd (o:=.dK []) tM;have q2:upd H1 p2 (.dK []) p2=some (.dK []):=aj;generalize upd H1 p2 (.dK [])=H2 at s2 q2 ⊢;have h2:=h1.same s2;obtain⟨kvs,e1,e2,e3⟩:=(w.same s2).pop s;refine⟨kvs,Sum.inl s,e1,rfl,λv hv=>?_,λhv=>⟨p2,[],rfl,q2,λl nl=>?_⟩⟩
   ·obtain⟨e,uQ,ns,rfl,uR,f1,f2,f3,f4,f5⟩:=e3 v hv;refine⟨e,uQ,rfl,by rw[av uR];exact f1,λl nl=>?_⟩;have m3:=(h2.mid.put (kv':=fI kvs (Sum.inl s)) w.own e1);rw[f2];exact rest (h2.waits m3.f m3.le f5 m3.th) (Bt.trans (.of (s1.trans s2)) m3.bt λb z=>.inl z) nl f3 f4 rfl
   ·exact rest (ns:=[]) h2 (.of (s1.trans s2)) nl ais (λn=>⟨(λz=>by cases z),λz=>by rw[e2 hv]at z;cases z⟩) (Az (e2 hv)).symm
theorem _root_.L2.CI.Vk {S:RS}{bs:List (Nat×List Int×Nat)}{gs:List (Option Gg)}{ag:List Nat}{W:bW}{Ex:Nat->Int->Prop}{x:Option Nat}(h:CI S bs gs ag W Ex x){m:Nat}{s:Int}{ns:List Nat}(nd:ns.Nodup)(hn:∀n:Nat,n∈ns↔W m s n=true):ns.length+ zq S.made gs.length (i9 W m s)<=zq S.made gs.length W:=by
 cases ns with
 |nil=>
  have:∀n,W m s n=false:=λn=>by
   cases q:W m s n with
   |false=>rfl
   |true=>
    obtain⟨_,n',_,e,_⟩:=h.en _ _ _ q;rw[e]at q;have:=(hn n').mpr q;cases this
  rw[Az this,ajZ,akf];exact ahi _
 |cons n r=>
  obtain⟨m',n',e1,_,hm,_,hs,_⟩:=h.en _ _ _ ((hn n).mp (ahv ..));have hm:m<S.made:=by omega
  have h1:=QW (G:=gs.length) (W:=W) hm hs
  have h2:=Kp (P:=λn:Nat=>W m s n) (G:=gs.length) nd λn hm=>by
   have w:=(hn n).mp hm;obtain⟨_,n',_,e,_,hl,_⟩:=h.en _ _ _ w;exact⟨by omega,w⟩
  omega
theorem _root_.L2.CI.two {S:RS}{bs:List (Nat×List Int×Nat)}{gs:List (Option Gg)}{ag:List Nat}{W:bW}{Ex:Nat->Int->Prop}{x:Option Nat}(h:CI S bs gs ag W Ex x):zq S.made gs.length W<=2* gs.length:=QY λn=>by
 obtain⟨p,q,e,_⟩:=h.sl n;exact⟨p,q,e⟩
theorem _root_.L2.gx.keys {H:Hp}{k:Addr}{W:bW}{O:Addr->Prop}{c:Int}{d:Addr}(h:gx H k W O c d):∃(kvs:List (Key×V)) (zs:List Int),H d=some (.dK kvs)/\kvs.map (λkv=>kV kv.1)=ao zs/\zs.length<=2001/\∀s n,W c s n=true->s∈zs:=by
 obtain⟨D,E,h1,h2,hd⟩:=h;obtain⟨kvs,q1,q2,q3,q4⟩:=h1.Mu hd
 have hl:kvs.length<=2001:=zo (n:=2001) (lo:=-1000) q2 q3 q4 λi v hv=>by
  cases e:E c i with
  |none=>rw[e]at hv;cases hv
  |some x=>have:=h2.e c i x e;omega
 have ex:∃zs:List Int,kvs.map (·.1)=zs.map Sum.inl:=by
  clear q1 q2 q4 hl
  induction kvs with
  |nil=>exact⟨[],rfl⟩
  |cons kv r ih=>
   obtain⟨zs,e⟩:=ih λx hx=>q3 x (ahL _ hx)
   obtain⟨i,hi⟩:=q3 kv (ahv ..);exact⟨i::zs,by rw[ahY,ahY,e,hi]⟩
 obtain⟨zs,e⟩:=ex;refine⟨kvs,zs,q1,?_,?_,λs n w=>?_⟩
 ·rw[show (λkv:Key×V=>kV kv.1)=kV ∘ (·.1) from rfl,←aiv,e,aiv];rfl
 ·have:=ah6 List.length e;rw[ahl,ahl]at this;omega
 ·obtain⟨x,hx⟩:=h1.se _ _ _ w;have:Sum.inl s∈kvs.map (·.1):=GQ (v:=.ref x) (by rw[q4,hx];rfl);rw[e]at this;obtain⟨y,hy,q⟩:=ah0.mp this;rw[←Sum.inl.inj q];exact hy
structure pM (CG CC:Addr) (S:RS) (bs:List (Nat×List Int×Nat)) (gs:List (Option Gg)) (W0:bW) (Ex:Nat->Int->Prop) (B:Nat) (x r:Addr) (c:KA) (hd:Nat) (fp:List (List Int×Nat)) (O:Addr->Prop) (H:Hp) (ag:List Nat) (W:bW):Prop where
 c:cJ CG CC H x r c gs ag W hd fp O
 i:CI S bs gs ag W Ex none
 s:∀r s n,W r s n=true->W0 r s n=true
 b:ag.length+ zq S.made gs.length W<=B
theorem pM.wake {CG CC:Addr}{S:RS}{bs:List (Nat×List Int×Nat)}{gs:List (Option Gg)}{W0:bW}{Ex:Nat->Int->Prop}{B:Nat}{x r:Addr}{c:KA}{hd:Nat}{fp:List (List Int×Nat)}{O:Addr->Prop}{H H':Hp}{ag:List Nat}{W:bW}(h:pM CG CC S bs gs W0 Ex B x r c hd fp O H ag W){m:Nat}{s:Int}{ns:List Nat}(nd:ns.Nodup)(hn:∀n:Nat,n∈ns↔W m s n=true)(q:cJ CG CC H' x r c gs (ag++ns) (i9 W m s) hd fp O):pM CG CC S bs gs W0 Ex B x r c hd fp O H' (ag++ns) (i9 W m s):=
 ⟨q,h.i.wake hn,λr s n w=>h.s _ _ _ (eB.mp w).1,by have:=h.i.Vk nd hn;have:=h.b;rw[ahe];omega⟩
theorem pM.fits {CG CC:Addr}{S:RS}{bs:List (Nat×List Int×Nat)}{gs:List (Option Gg)}{W0:bW}{Ex:Nat->Int->Prop}{B:Nat}{x r:Addr}{c:KA}{hd:Nat}{fp:List (List Int×Nat)}{O:Addr->Prop}{H:Hp}{ag:List Nat}{W:bW}(h:pM CG CC S bs gs W0 Ex B x r c hd fp O H ag W)(hB:B<=1000000){m:Nat}{s:Int}:∀ns:List Nat,ns.Nodup->(∀n:Nat,n∈ns↔W m s n=true)->ag.length+ ns.length<=1000000:=λns nd hn=>by have:=h.i.Vk nd hn;have:=h.b;omega
inductive AY (CR CG CC:Addr) (vs:List V) (H:Hp) (Q:VK) (E_:XK):Prop
 |mk (x r:Addr) (c:KA) (S:RS) (a:RA) (bs:List (Nat×List Int×Nat)) (gs:List (Option Gg)) (ag:List Nat) (W:bW) (Ex:Nat->Int->Prop) (B hd:Nat) (fp:List (List Int×Nat)) (O:Addr->Prop) (m:Nat) (e9:vs=[.ref x,.int m]) (fb:pM CG CC S bs gs W Ex B x r c hd fp O H ag W) (fm:B<=1000000) (fq:ax CR H r S a) (fZ:S.Wf) (hX:(∀b,a.own r b->¬O b)) (iW:m<S.made) (jC:S.ay m<S.made) (lu:∀ia W' H',Bt O H H'->pM CG CC S bs gs W Ex B x r c hd fp O H' ia W'->(∀s n,W' m s n=false)->(∀s n,W' (S.ay m) s n=true->S.by (S.ay m) s=none)->Q .non H'):AY CR CG CC vs H Q E_
theorem va (T:Txt K mg A):aL P w K mg base bB 2 A.jy A.jz ["self","room"] (AY A.ak A.aF A.az):=by
 have eK:aL P w K mg base bB 1 A.gj A.gk ["self","room"] (p9 A.ak):=jQ T;have ic:aL P w K mg base bB 1 A.jL A.jM ["self","room","step"] (zV A.ak A.aF A.az):=r9 T;have fh:aL P w K mg base bB 1 A.iF A.iG ["self","room","step"] (uD A.ak):=j8 T;refine T.kO.F.ok fY (λvs H Q E h=>?_) (λbR AA outer s H vs Q E hr h=>?_)
 ·obtain⟨x,r,c,S,a,bs,gs,ag,W,Ex,B,hd,fp,O,m,rfl,_⟩:=h;rfl
 ·obtain⟨x,r,c,S,a,bs,gs,ag,W,Ex,B,hd,fp,O,m,rfl,h,hB,hR,wf,dj,hm,he,k⟩:=h;have dE:=gM hr
  refine⟨_,(ai (dw ahK rfl (eJ (cZ (lT rfl) rfl T.mB aid (ae (qA dE (aJ (pv 0) rfl) (pv 1) gC ⟨rfl,rfl,rfl,rfl⟩) ah))) (bQ (i:=2) fY.nd rfl (Or.inl rfl))
   (aq (bH (bT (pv 0) (aU T) T.eD.m (ic) hr.Za5 T.eD.b .nil aO (ae (pv 1) (ae (pv 2) ah))))))
   (ai (aY (i:=3) fY.nd rfl (Or.inl rfl) (bT (aJ (pv 0) rfl) (aK T) T.dI.m (eK) hr.Za5 T.dI.b .nil aO (ae (pv 1) ah)))
   (aq (dw ahK rfl (eJ (cZ (lT rfl) rfl T.mB aid (ae (qA dE (aJ (pv 0) rfl) (pv 3) gC ⟨rfl,rfl,rfl,rfl⟩) ah))) (bQ (i:=2) fY.nd rfl (Or.inl rfl))
    (aq (bX (bP (aZ wF (bT (aJ (pv 0) rfl) (aK T) T.eV.m (fh) hr.Za5 T.eV.b .nil aO (ae (pv 3) (ae (pv 2) ah))) dv (bj _))
     (aq (bH (bT (pv 0) (aU T) T.eD.m (ic) hr.Za5 T.eD.b .nil aO (ae (pv 3) (ae (pv 2) ah)))))
     bC))))))),?_⟩
  try dsimp only[bJ,cx]
  refine gE ?_;intro gB fD;have rk:∀{H2:Hp},Bt O H H2->ax A.ak H2 r S a:=λ{H2} b=>hR.keep (λb' o hb e=>b b' o (dj b' hb) e) (λb' xs e=>b b' _ (h.c.mN e) e)
  have get:∀{H1:Hp} {YH:List Nat} {W1:bW} (m1:Nat),pM A.aF A.az S bs gs W Ex B x r c hd fp O H1 YH W1->∀p1,H1 p1=none->∃(o:Option V) (d:Addr) (kvs:List (Key×V)) (zs:List Int),dB (upd H1 p1 (.dK [])) c.aW (.int (m1:Int)) o/\o.getD (.ref p1)=.ref d/\upd H1 p1 (.dK []) d=some (.dK kvs)/\kvs.map (λkv=>kV kv.1)=ao zs/\∀s n,W1 m1 s n=true->s∈zs:=λ{H1 YH W1} m1 h1 p1 EX=>by
   have s1:=au.upd (o:=.dK []) EX;obtain⟨o,g1,g2⟩:=(h1.c.same s1).wt.get (c:=(m1:Int));rcases g2 with ⟨rfl,no⟩|⟨d,rfl,w⟩
   ·exact⟨none,p1,[],[],g1,rfl,aj,rfl,λs n z=>by rw[no]at z;cases z⟩
   ·obtain⟨kvs,zs,e1,e2,_,e4⟩:=w.keys;exact⟨_,d,kvs,zs,g1,rfl,e1,e2,e4⟩
  refine⟨_,rfl,x,_,c.dx,_,_,rfl,h.c.ins,aU T,T.mC,pV _ _ _,c.aW,rfl,h.c.wt.vE,_,rfl,λp1 EX=>?_⟩;obtain⟨o,d,kvs,zs,g1,g2,g3,g4,Gx⟩:=get m h p1 EX;refine⟨o,g1,d,kvs,(by rw[g2]),g3,λl nl=>?_⟩;rw[g4];have s1:=(au.upd (o:=.dK []) EX).trans (au.upd (o:=.lst (ao zs)) nl);have hl:upd (upd H p1 (.dK [])) l (.lst (ao zs)) l=some (.lst (ao zs)):=aj;replace nl:=same_none (au.upd (o:=.dK []) EX) nl;generalize upd (upd H p1 (.dK [])) l (.lst (ao zs))=H1 at s1 hl ⊢;clear g1 g2 g3 g4;have YJ:¬O l:=λz=>by obtain⟨o,e,_⟩:=h.c.th l z;rw[nl]at e;cases e
  have h1:pM A.aF A.az S bs gs W Ex B x r c hd fp O H1 ag W:=⟨h.c.same s1,h.i,h.s,h.b⟩;refine⟨l,rfl,⟨_,aM.of hl⟩,?_⟩
  let fU:Nat->St->Hp->Prop:=λi σ H2=>∃eR W2 v2,σ=[some (.ref x),some (.int (m:Int)),v2,none]/\Bt O H1 H2/\pM A.aF A.az S bs gs W Ex B x r c hd fp O H2 eR W2/\∀(j:Nat) (s:Int),j<i->zs[j]?=some s->∀n,W2 m s n=false
  refine iz (K:=K) (a:=l) (xs:=ao zs) fU
   ⟨ag,W,none,rfl,λ_ _ _ e=>e,h1,λj s hj=>absurd hj (by omega)⟩ (λi σ H2 _ ⟨_,_,_,_,b2,_⟩=>aM.of (b2 _ _ YJ hl)) ?_ ?_
  ·intro i v σ H2 hi bV;refine bI ?_;intro q_;obtain⟨eR,W2,v2,rfl,b2,h2,hj⟩:=bV;dsimp only[q_];clear q_;dsimp only[eM];refine cM ?_;intro ik;obtain⟨s,rfl,hs⟩:=dN hi;refine⟨_,rfl,x,c.dx,_,rfl,h2.c.ins,jh (by decide +kernel),_,rfl,_,rfl,x,r,c,gs,eR,W2,hd,fp,O,m,s,rfl,h2.c,h2.fits hB,λns H3 b3 nd hn h3=>?_⟩;refine⟨_,_,_,rfl,b2.trans b3 λb z=>.inl z,h2.wake nd hn h3,λj s' B6 e n=>?_⟩
   cases q:i9 W2 m s m s' n with
   |false=>rfl
   |true=>
    obtain⟨q1,q2⟩:=eB.mp q;by_cases rn:j<i
    ·rw[hj j s' rn e n]at q1;cases q1
    ·rw[show j=i by omega,hs]at e;exact absurd ⟨rfl,(Za0 e).symm⟩ q2
  intro σ H2 bV;refine bI ?_;intro q_;obtain⟨eR,W2,v2,rfl,b2,h2,hj⟩:=bV;dsimp only[q_];clear q_;rw[bh]at hj;have zW:Bt O H H2:=Bt.trans (.of s1) b2 λb z=>.inl z
  have off:∀s n,W2 m s n=false:=λs n=>by
   cases q:W2 m s n with
   |false=>rfl
   |true=>
    obtain⟨j,B6,e⟩:=List.mem_iff_getElem.mp (Gx s n (h2.s _ _ _ q));rw[hj j s B6 (by rw[ahc B6,e]) n]at q;cases q
  clear hj Gx hl YJ h1;have R2:=rk zW;refine⟨_,rfl,x,_,c.dx,_,_,rfl,h2.c.ins,aU T,T.gF,iQ _ _ _,r,a.dx,_,rfl,R2.ins,cq _ _ _ (by decide +kernel),_,rfl,r,S,a,m,S.ay m,rfl,R2,oO (by rw[wf.e];exact hm),?_⟩;generalize S.ay m=e at he k ⊢;refine⟨_,rfl,x,_,c.dx,_,_,rfl,h2.c.ins,aU T,T.mC,pV _ _ _,c.aW,rfl,h2.c.wt.vE,_,rfl,λp2 tM=>?_⟩;obtain⟨o2,d2,EY,G9,g1,g2,g3,g4,abV⟩:=get e h2 p2 tM;refine⟨o2,g1,d2,EY,(by rw[g2]),g3,λl2 uW=>?_⟩;rw[g4];have s3:=(au.upd (o:=.dK []) tM).trans (au.upd (o:=.lst (ao G9)) uW);have fM:upd (upd H2 p2 (.dK [])) l2 (.lst (ao G9)) l2=some (.lst (ao G9)):=aj;replace uW:=same_none (au.upd (o:=.dK []) tM) uW;generalize upd (upd H2 p2 (.dK [])) l2 (.lst (ao G9))=H3 at s3 fM ⊢;clear g1 g2 g3 g4;have abW:¬O l2:=λz=>by obtain⟨o,e,_⟩:=h2.c.th l2 z;rw[uW]at e;cases e
  have h3:pM A.aF A.az S bs gs W Ex B x r c hd fp O H3 eR W2:=⟨h2.c.same s3,h2.i,h2.s,h2.b⟩;refine⟨l2,rfl,⟨_,aM.of fM⟩,?_⟩
  let yD:Nat->St->Hp->Prop:=λi σ H4=>∃B7 W4 v2,σ=[some (.ref x),some (.int (m:Int)),v2,some (.int (e:Int))]/\Bt O H3 H4/\pM A.aF A.az S bs gs W Ex B x r c hd fp O H4 B7 W4/\(∀r s n,W4 r s n=true->W2 r s n=true)/\∀(j:Nat) (s:Int),j<i->G9[j]?=some s->∀n,W4 e s n=true->S.by e s=none
  refine iz (K:=K) (a:=l2) (xs:=ao G9) yD
   ⟨eR,W2,_,rfl,λ_ _ _ q=>q,h3,λ_ _ _ q=>q,λj s hj=>absurd hj (by omega)⟩ (λi σ H4 _ ⟨_,_,_,_,b4,_⟩=>aM.of (b4 _ _ abW fM)) ?_ ?_
  ·intro i v σ H4 hi bV;refine bI ?_;intro q_;obtain⟨B7,W4,v4,rfl,b4,h4,EZ,hj⟩:=bV;dsimp only[q_];clear q_;dsimp only[eM];refine cM ?_;intro ik;obtain⟨s,rfl,hs⟩:=dN hi;have b04:Bt O H H4:=zW.trans (Bt.trans (.of s3) b4 λb z=>.inl z) λb z=>.inl z
   have R4:=rk b04;refine⟨_,?_,λ_ _ z=>z⟩;refine⟨_,rfl,x,_,c.dx,_,_,rfl,h4.c.ins,aU T,T.gF,iQ _ _ _,r,a.dx,_,rfl,R4.ins,cq _ _ _ (by decide +kernel),_,rfl,_,rfl,r,S,a,e,s,rfl,R4,by rw[wf.w];exact he,?_⟩
   cases eb:S.by e s with
   |none=>
    refine⟨rfl,_,rfl,?_⟩;refine cS (λz=>absurd z (by decide)) (λ_=>?_);refine⟨_,_,_,rfl,b4,h4,EZ,λj s' B6 q n w=>?_⟩;by_cases rn:j<i
    ·exact hj j s' rn q n w
    ·rw[show j=i by omega,hs]at q;rw[←Za0 q];exact eb
   |some d=>
    rw[show (Option.map (λn:Nat=>V.int (n:Int)) (some d)).getD V.non=V.int (d:Int) from rfl];refine⟨rfl,_,rfl,?_⟩;refine cS (λ_=>?_) (λz=>absurd rfl z);refine⟨_,rfl,x,c.dx,_,rfl,h4.c.ins,jh (by decide +kernel),_,rfl,_,rfl,x,r,c,gs,B7,W4,hd,fp,O,e,s,rfl,h4.c,h4.fits hB,λns H5 b5 nd hn h5=>?_⟩;refine⟨_,_,_,rfl,b4.trans b5 λb z=>.inl z,h4.wake nd hn h5,λr s n w=>EZ _ _ _ (eB.mp w).1,λj s' B6 q n w=>?_⟩;obtain⟨w1,w2⟩:=eB.mp w;by_cases rn:j<i
    ·exact hj j s' rn q n w1
    ·rw[show j=i by omega,hs]at q;exact absurd ⟨rfl,(Za0 q).symm⟩ w2
  intro σ H4 bV;refine bI ?_;intro q_;obtain⟨B7,W4,v4,rfl,b4,h4,EZ,hj⟩:=bV;dsimp only[q_];clear q_;rw[bh]at hj;refine k B7 W4 H4 (zW.trans (Bt.trans (.of s3) b4 λb z=>.inl z) λb z=>.inl z) h4 (λs n=>?_) λs n w=>?_
  ·cases q:W4 m s n with
   |false=>rfl
   |true=>have:=EZ _ _ _ q;rw[off s n]at this;cases this
  ·obtain⟨j,B6,q⟩:=List.mem_iff_getElem.mp (abV s n (EZ _ _ _ w));exact hj j s B6 (by rw[ahc B6,q]) n w
theorem cJ.Xy {CG CC:Addr}{H:Hp}{x r:Addr}{c:KA}{gs:List (Option Gg)}{ag:List Nat}{W:bW}{hd:Nat}{fp:List (List Int×Nat)}{O:Addr->Prop}(h:cJ CG CC H x r c gs ag W hd fp O)(ng:∀(n:Nat) (g:Gg) (p dx wa:Addr),gs[n]?=some (some g)->fu CG H p dx wa g->p≠x)(n:Nat):cJ CG CC (upd H x (.ins CC c.dx (tQ r c n))) x r c gs ag W n fp O:=by
 have kn:∀b o,(∀C d fs,o≠.ins C d fs)->H b=some o->upd H x (.ins CC c.dx (tQ r c n)) b=some o:=λb o q e=>by rw[av (λz=>by rw[z,h.ins]at e;exact q _ _ _ (Za0 e).symm)];exact e
 obtain⟨gv,g1,g2⟩:=h.hG;refine⟨aj,⟨gv,kn _ _ (by intro _ _ _ z;cases z) g1,g2.l,g2.n,λi v g e1 e2=>?_,g2.i⟩,kn _ _ (by intro _ _ _ z;cases z) h.hA,?_,h.ne,h.ox,h.oG,h.oA,λb hb=>?_⟩
 ·obtain⟨p,dx,wa,e,q,o⟩:=g2.s i v g e1 e2;exact⟨p,dx,wa,e,⟨by rw[av (ng i g p dx wa e2 q)];exact q.ins,kn _ _ (by intro _ _ _ z;cases z) q.wo⟩,o⟩
 ·obtain⟨D,E,k1,k2⟩:=h.wt;exact⟨D,E,k1.keep λb o hb e=>by obtain⟨kv,q⟩:=k1.there hb;rw[q]at e;cases e;exact kn _ _ (by intro _ _ _ z;cases z) q,k2⟩
 ·by_cases e:b=x
  ·exact⟨_,by rw[e];exact aj,(by intro _ z;cases z),by intro _ z;cases z⟩
  ·obtain⟨o,q,m⟩:=h.th b hb;exact⟨o,by rw[av e];exact q,m⟩
theorem E3 {CG CC:Addr}{H:Hp}{x r:Addr}{c:KA}{gs:List (Option Gg)}{ag:List Nat}{W:bW}{hd:Nat}{fp:List (List Int×Nat)}{O:Addr->Prop}(h:cJ CG CC H x r c gs ag W hd fp O){p dx wa:Addr}{g:Gg}(q:fu CG H p dx wa g):p≠x:=λz=>by
 have:=q.ins;rw[z,h.ins]at this;have e:=ah6 (λo:Option HO=>match o with|some (.ins _ _ fs)=>fs.length|_=>0) this;exact absurd (show 6=7 from e) (by decide)
def Pl (S:RS)(hd:Nat):Nat->Int->Prop:=λr _=>∃m∈S.bE.drop hd,r=m\/r=S.ay m
inductive E4 (CR CG CC:Addr) (vs:List V) (H:Hp) (Q:VK) (E_:XK):Prop
 |mk (x r:Addr) (c:KA) (S:RS) (a:RA) (R:Za2) (bs:List (Nat×List Int×Nat)) (gs:List (Option Gg)) (ag:List Nat) (W:bW) (B hd:Nat) (fp:List (List Int×Nat)) (O:Addr->Prop) (e9:vs=[.ref x]) (fb:pM CG CC S bs gs W (Pl S hd) B x r c hd fp O H ag W) (fm:B<=1000000) (fq:hd<=S.bE.length) (fZ:ax CR H r S a) (hX:Good S [] R) (iW:(∀m∈S.bE,m<S.made)) (jC:(∀b,a.own r b->¬O b)) (lu:∀ia W' H',Bt O H H'->pM CG CC S bs gs W fL B x r c S.bE.length fp O H' ia W'->Q .non H'):E4 CR CG CC vs H Q E_
theorem zX (T:Txt K mg A):aL P w K mg base bB 3 A.nK A.nL ["self"] (E4 A.ak A.aF A.az):=by
 have vZ:aL P w K mg base bB 2 A.jy A.jz ["self","room"] (AY A.ak A.aF A.az):=va T;refine T.qX.F.ok zF (λvs H Q E h=>?_) (λbR AA outer s H vs Q E hr h=>?_)
 ·obtain⟨x,r,c,S,a,R,bs,gs,ag,W,B,hd,fp,O,rfl,_⟩:=h;rfl
 ·obtain⟨x,r,c,S,a,R,bs,gs,ag,W,B,hd,fp,O,rfl,h,hB,hhd,hR,gd,hwm,dj,k⟩:=h
  refine⟨_,(aq (bX (ky ahK (aZ lF (aJ (pv 0) rfl) (bq bA rfl T.cQ ahJ (ae (aJ (aJ (pv 0) rfl) rfl) ah)) (bj _))
   (ai (bH (bT (pv 0) (aU T) T.kO.m (vZ) hr.Za5 T.kO.b .nil aO (ae (aS ck (aJ (aJ (pv 0) rfl) rfl) (aJ (pv 0) rfl) (λ_ _=>rfl)) ah)))
   (aq (cE (pv 0) (bD dG (aJ (pv 0) rfl) aw) rfl)))))),?_⟩
  try dsimp only[bJ,cx]
  have rk:∀{H2:Hp},Bt O H H2->ax A.ak H2 r S a:=λ{H2} b=>hR.keep (λb' o hb e=>b b' o (dj b' hb) e) (λb' xs e=>b b' _ (h.c.mN e) e)
  refine⟨λ aX H'=>Q .non H',?_,λ_ _ q=>q⟩;refine⟨λm σ H2=>∃hd2 eR W2,m=S.bE.length - hd2/\σ=[some (.ref x)]/\hd2<=S.bE.length/\Bt O H H2/\pM A.aF A.az S bs gs W (Pl S hd2) B x r c hd2 fp O H2 eR W2,⟨_,hd,ag,W,rfl,rfl,hhd,λ_ _ _ e=>e,h⟩,?_⟩;intro m σ H2 bV;refine bI ?_;intro q_;obtain⟨hd2,eR,W2,rfl,rfl,fM,b2,h2⟩:=bV;dsimp only[q_];clear q_;have R2:=rk b2;have Vl:=R2.ins;refine⟨_,rfl,x,_,c.dx,_,_,rfl,h2.c.ins,aU T,T.q8,yC _ _ _,_,rfl,x,_,c.dx,_,_,rfl,h2.c.ins,aU T,T.gF,iQ _ _ _,r,_,a.dx,_,_,rfl,Vl,aK T,T.vT,wR _ _ _,a.aN,_,rfl,.inl (aM.of R2.hN),_,_,rfl,rfl,_,rfl,?_⟩;refine cS (λq=>?_) (λq=>?_)
  ·have q:(hd2:Int)<((ao (nI S.bE)).length:Int):=ahB q;rw[bh,cy]at q;have bU:hd2<S.bE.length:=by omega
   obtain⟨m,hm⟩:=get_some (xs:=S.bE) (i:=hd2) bU;have Eb:=hwm m (ahf hm);refine⟨_,λ_ _ z=>z,?_⟩;refine⟨_,rfl,x,c.dx,_,rfl,h2.c.ins,jh (by decide +kernel),_,rfl,x,_,c.dx,_,_,rfl,h2.c.ins,aU T,T.gF,iQ _ _ _,r,_,a.dx,_,_,rfl,Vl,aK T,T.vT,wR _ _ _,_,rfl,x,_,c.dx,_,_,rfl,h2.c.ins,aU T,T.q8,yC _ _ _,a.aN,_,_,.int (m:Int),rfl,rfl,aM.of R2.hN,cf (bZ (fj hm)),?_⟩;refine⟨x,r,c,S,a,bs,gs,eR,W2,Pl S hd2,B,hd2,fp,O,m,rfl,⟨h2.c,h2.i,λ_ _ _ z=>z,h2.b⟩,hB,R2,gd.wf,dj,Eb,gd.lt Eb,λwc W3 H3 b3 h3 w1 w2=>?_⟩;refine⟨_,rfl,x,_,c.dx,_,_,rfl,h3.c.ins,aU T,T.q8,yC _ _ _,_,_,rfl,rfl,_,rfl,x,_,c.dx,_,rfl,h3.c.ins,aU T,T.q8,(by show 6<1000;decide),?_⟩;rw[show (λ(i j:Int)=>V.int (i+ j)) (hd2:Int) 1=V.int ((hd2+ 1:Nat):Int) from rfl,Ni];have c4:=h3.c.Xy (λn g p dx wa _ z=>E3 h3.c z) (hd2+ 1);refine⟨S.bE.length - (hd2+ 1),by omega,hd2+ 1,wc,W3,rfl,rfl,bU,?_,c4,h3.i.ex λr' s n w hr ex=>?_,λr s n w=>h2.s _ _ _ (h3.s _ _ _ w),h3.b⟩
   ·exact(b2.trans b3 λb z=>.inl z).trans (λb o n e=>by rw[av (λz=>n (by rw[z];exact h3.c.ox))];exact e:Bt O H3 _) λb z=>.inl z
   ·obtain⟨m',zy,q'⟩:=ex;rw[aiS bU]at zy;rcases ahp.mp zy with z|z
    ·have em:m'=m:=by rw[z];rw[ahc bU]at hm;exact Za0 hm
     subst em;rcases q' with q'|q'
     ·rw[q',w1]at w;cases w
     ·subst q';exact .inl ⟨(gd.el _ Eb).2,w2 s n w⟩
    ·exact .inr ⟨m',z,q'⟩
  ·have q:¬(hd2:Int)<((ao (nI S.bE)).length:Int):=λz=>q (ahy z)
   rw[bh,cy]at q;have e:hd2=S.bE.length:=by omega
   subst e;refine k eR W2 H2 b2 ⟨h2.c,h2.i.ex λr' s n w hr ex=>?_,h2.s,h2.b⟩;obtain⟨m',zy,_⟩:=ex;rw[ajy]at zy;cases zy
theorem K4 {S:RS}{pend:List Way}{R:Za2}{ks:List Int}(g:Good S pend R)(hk:∀a z b,R a z b->z∈ks)(h1:S.made<=100000)(h2:ks.length<=100000)(h3:S.rows.length<=1000000)(h4:S.bE.length<=1000000):vW S:=by
 refine⟨g.wf,λc hc=>g.lt hc,λc z d e=>(g.st c z d e).2.1,λc n hn=>g.cb c n hn,λc _=>⟨g.kn c,λq hq=>(g.st c q.1 q.2 (mV (g.kn c) hq)).2.1,λq hq _=>?_⟩,⟨h1,λl hl=>?_,h3,h4,λl hl=>?_⟩⟩
 ·rw[g.sy c q.1 q.2 (mV (g.kn c) hq)];rfl
 ·obtain⟨c,hc⟩:=aih hl;have:S.way c=l:=by unfold RS.way;rw[ahh,hc];rfl
  rw[←this];exact ahC (g.DS hk c) h2
 ·obtain⟨c,hc⟩:=aih hl;have:S.cG c=l:=by unfold RS.cG;rw[ahh,hc];rfl
  rw[←this];exact ahC (g.T5 c) (by omega)
theorem uK (S:RS):S.stand<=S.made:=by
 unfold RS.stand;exact ahC List.countP_le_length (by rw[aiH];exact ahi _)
def Pn (R:Za2)(m L B B2 M:Nat)(ks:List Int)(S0:RS)(p0:List Way)(S:RS)(pend:List Way):Prop:=Good S pend R/\S.made=m/\S.L=L/\S.rows.length+ S.stand<=B/\S.bE.length+ S.stand<=B2/\mu ks.length S pend<=M/\∀S',si S pend S'->si S0 p0 S'
theorem E5 {R:Za2}{m L B B2 M:Nat}{ks:List Int}{S0:RS}{p0:List Way}(hk:∀a z b,R a z b->z∈ks)(h1:m<=100000)(h2:ks.length<=100000)(h3:B<=1000000)(h5:B2<=1000000)(h4:M<=1000000)(S:RS)(pend:List Way)(w:Way)(h:Pn R m L B B2 M ks S0 p0 S (pend++[w])):
 vW S/\w.1<S.made/\w.2.2<S.made/\pend.length<=1000000/\Pn R m L B B2 M ks S0 p0 (S.takeIn pend w).1 (S.takeIn pend w).2/\mu ks.length (S.takeIn pend w).1 (S.takeIn pend w).2<mu ks.length S (pend++[w]):=by
 obtain⟨g,e1,e2,e3,e4,e5,e6⟩:=h;obtain⟨a1,a2,a3,a4,a5⟩:=g.take hk;have hw:=g.pl w (ahn _ ahv);refine⟨K4 g hk (by omega) h2 (by omega) (by omega),hw.1,hw.2,?_,⟨a1,by rw[a3,e1],by rw[a4,e2],?_,?_,by omega,λS' l=>e6 S' (.take l)⟩,a2⟩
 ·unfold mu at e5;rw[ahe]at e5;omega
 ·rcases a5 with ⟨q1,q2,q3⟩|⟨q1,c,z,x,y,_,_,_,_,_,q2,q3,_⟩
  ·rw[q1,q2];exact e3
  ·rw[q2,ahe];have:([gU c z (min x y) (max x y)]:List Dt).length=1:=rfl;omega
 ·rcases a5 with ⟨q1,q2,q3⟩|⟨q1,c,z,x,y,_,_,_,_,_,q2,q3,_⟩
  ·rw[q1,q3];exact e4
  ·rw[q3,ahe];have:([max x y]:List Nat).length=1:=rfl;omega
theorem tS {L:Nat}{z:Int}:z∈cV (2* L)↔z≠0/\z.natAbs<=L:=by
 unfold cV;rw[ah0];constructor
 ·rintro ⟨i,hi,rfl⟩;exact M12.Xt (air.mp hi)
 ·rintro ⟨h1,h2⟩;by_cases hp:0<z
  ·refine⟨2* (z.toNat - 1),air.mpr (by omega),?_⟩;unfold M12.st;rw[ahu (by omega)];omega
  ·refine⟨2* (z.natAbs - 1)+ 1,air.mpr (by omega),?_⟩;unfold M12.st;rw[ahq (by omega)];omega
structure kc (CR:Addr) (H:Hp) (r:Addr) (S:RS) (a:RA) (R:Za2) (ks:List Int) (B:Nat):Prop where
 at_:ax CR H r S a
 g:Good S [] R
 w:jK S
 k:∀a z b,R a z b->z∈ks
 m:S.made<=2000
 l:ks.length<=400
 rb:S.rows.length+ S.stand<=B
 wb:S.bE.length+ S.stand<=900000
theorem kc.keep {CR:Addr}{H H':Hp}{r:Addr}{S:RS}{a:RA}{R:Za2}{ks:List Int}{B:Nat}(h:kc CR H r S a R ks B)(k:∀b o,a.own r b->H b=some o->H' b=some o)(kt:∀b xs,H b=some (.tup xs)->H' b=some (.tup xs)):kc CR H' r S a R ks B:=⟨h.at_.keep k kt,h.g,h.w,h.k,h.m,h.l,h.rb,h.wb⟩
theorem kc.same {CR:Addr}{H H':Hp}{r:Addr}{S:RS}{a:RA}{R:Za2}{ks:List Int}{B:Nat}(h:kc CR H r S a R ks B)(s:au H H'):kc CR H' r S a R ks B:=h.keep (λb o _ e=>s _ _ e) (λb o e=>s _ _ e)
theorem wX {C:Addr}{H:Hp}{r:Addr}{S:RS}{a:RA}(h:ax C H r S a){b:Addr}{kv:List (List Key×V)}(e:H b=some (.dT kv)):¬a.own r b:=λz=>by
 rcases z with z|z|z
 ·rw[z,h.ins]at e;cases e
 ·obtain⟨xs,q⟩:=h.TK z;rw[q]at e;cases e
 ·obtain⟨xs,q⟩:=h.vE z;rw[q]at e;cases e
theorem Nj (w:Nat)(p:List Nat)(k:Nat)(h:p.length<=100000):ig (mW w p k):=by
 refine .t (by show 4<=100000;decide) λd hd=>?_
 simp only[ahp,ah5,ajt]at hd;rcases hd with rfl|rfl|rfl|rfl
 ·exact .s
 ·exact .i
 ·refine .t (by rw[ahl];exact h) λd hd=>?_
  obtain⟨c,_,rfl⟩:=ah0.mp hd;exact .i
 ·exact .i
inductive zY (CR CG CC:Addr) (vs:List V) (H:Hp) (Q:VK) (E_:XK):Prop
 |mk (x r p dx wa:Addr) (c:KA) (S:RS) (a:RA) (R:Za2) (ks:List Int) (B:Nat) (ws:Za3) (nr:Nat) (bs:List (Nat×List Int×Nat)) (gs:List (Option Gg)) (ag:List Nat) (W:bW) (fp:List (List Int×Nat)) (O:Addr->Prop) (n:Nat) (g:Gg) (e9:vs=[.ref x,.ref p]) (fb:cJ CG CC H x r c gs ag W S.bE.length fp O) (fm:kc CR H r S a R ks B) (fq:B<900000) (fZ:(∀b,a.own r b->¬O b)) (hX:CI S bs gs ag W fL (some n)) (iW:gs[n]?=some none) (jC:bs[n]?=some (g.which,g.word,g.start)) (lu:fu CG H p dx wa g) (rV:¬O p) (sS:¬a.own r p) (yt:GI S g) (AV:g.first=g.last) (Nk:S.ay g.start=g.start) (Vm:S.ay g.front=g.front) (abX:S.ay g.bF=g.bF) (abY:ws[g.which]?=some g.word) (af5:(g.which<nr\/g.start=0)) (af6:(∀z∈g.word,z∈ks/\-z∈ks)) (af7:g.word.length<=1000) (af8:ag.length+ 2* gs.length<=1000000) (af9:∀S' a' R' ia W' H',(∀b o,¬O b->¬a.own r b->H b=some o->H' b=some o)->cJ CG CC H' x r c gs ia W' S'.bE.length fp O->kc CR H' r S' a' R' ks (B+ 1)->(∀b,a'.own r b->a.own r b\/H b=none)->CI S' bs gs ia W' fL none->ia.length<=ag.length+ 2* gs.length->(∀a z b,R a z b->R' a z b)->S'.made=S.made->S'.L=S.L->Tr ws nr S S'->Q .non H'):zY CR CG CC vs H Q E_
theorem tT (T:Txt K mg A):aL P w K mg base bB 6 A.km A.ko ["self","going"] (zY A.ak A.aF A.az):=by
 have om:aL P w K mg base bB 5 A.j4 A.j5 ["self","room","step","other","row"] (zM A.ak):=rq T;have ic:aL P w K mg base bB 1 A.jL A.jM ["self","room","step"] (zV A.ak A.aF A.az):=r9 T;have AZ:aL P w K mg base bB 3 A.nK A.nL ["self"] (E4 A.ak A.aF A.az):=zX T;have fh:aL P w K mg base bB 1 A.iF A.iG ["self","room","step"] (uD A.ak):=j8 T;have F0:aL P w K mg base bB 3 A.sN A.sO ["self","rooms"] (EL A.ak A.aF):=ER T;refine T.sP.F.ok tJ (λvs H Q E h=>?_) (λbR AA outer s H vs Q E hr h=>?_)
 ·obtain⟨x,r,p,dx,wa,c,S,a,R,ks,B,ws,nr,bs,gs,ag,W,fp,O,n,g,rfl,_⟩:=h;rfl
 ·obtain⟨x,r,p,dx,wa,c,S,a,R,ks,B,ws,nr,bs,gs,ag,W,fp,O,n,g,rfl,hc,hR,hB,dj,ci,wg,Hc,hp,E6,EK,gi,Hd,es,ef,er,K5,K6,pK,jS,K7,k⟩:=h
  refine⟨_,(ai (aY (i:=2) tJ.nd rfl (Or.inl rfl) (aS bp (aJ (pv 1) rfl) (aJ (pv 1) rfl) (λ_ _=>rfl)))
   (ai (bP (aZ fF (bT (aJ (pv 0) rfl) (aK T) T.eV.m (fh) hr.Za5 T.eV.b .nil aO (ae (aJ (pv 1) rfl) (ae (pv 2) ah))) (aJ (pv 1) rfl) (bj _))
    (aq An)
    bC)
   (ai (bH (bT (aJ (pv 0) rfl) (aK T) T.oK.m (om) hr.Za5 T.oK.b .nil aO (ae (aJ (pv 1) rfl) (ae (pv 2) (ae (aJ (pv 1) rfl) (ae (bT (pv 1) (aV T) T.vR.m (F0) hr.Za5 T.vR.b .nil aO (ae (aJ (pv 0) rfl) ah)) ah))))))
   (ai (bH (bT (pv 0) (aU T) T.eD.m (ic) hr.Za5 T.eD.b .nil aO (ae (aJ (pv 1) rfl) (ae (pv 2) ah))))
   (ai (bH (bT (pv 0) (aU T) T.eD.m (ic) hr.Za5 T.eD.b .nil aO (ae (aJ (pv 1) rfl) (ae (fW eP (pv 2)) ah))))
   (aq (bH (fP (pv 0) (aU T) T.qX.m (AZ) hr.Za5 T.qX.b .nil aO)))))))),?_⟩
  try dsimp only[bJ,cx]
  refine yg ?_;intro uU rX mE gB fD;have hz:=Gg.zp (g:=g) (by rw[Hd];exact gi.ll);have zp:kT (ao g.word) (g.first:Int)=some (.int g.z1):=cf (bZ hz);have gd:=hR.g;refine⟨_,rfl,p,_,dx,_,_,rfl,hp.ins,aV T,T.lh,nT _ _,_,rfl,p,_,dx,_,_,rfl,hp.ins,aV T,T.fT,iP _ _,wa,_,_,.int g.z1,rfl,rfl,bL.of hp.wo,zp,?_⟩;refine⟨_,rfl,x,_,c.dx,_,_,rfl,hc.ins,aU T,T.gF,iQ _ _ _,r,a.dx,_,rfl,hR.at_.ins,cq _ _ _ (by decide +kernel),_,rfl,p,_,dx,_,_,rfl,hp.ins,aV T,T.iM,nU _ _,_,rfl,r,S,a,g.front,g.z1,rfl,hR.at_,by rw[gd.wf.w];exact gi.f,_,rfl,p,_,dx,_,_,rfl,hp.ins,aV T,T.i5,nV _ _,?_⟩
  have fin:S.by g.front g.z1=some g.bF->Q .non H:=λhb=>by
   refine k S a R ag W H (λ_ _ _ _ e=>e) hc ⟨hR.at_,hR.g,hR.w,hR.k,hR.m,hR.l,by have:=hR.rb;omega,hR.wb⟩ (λb z=>.inl z) (ci.done wg λb eb=>?_) (by omega) (λ_ _ _ z=>z) rfl rfl (.refl S);rw[Hc]at eb;obtain rfl:=Za0 eb;exact .inr (gi.whole Hd es ef er hb)
  by_cases hb:S.by g.front g.z1=some g.bF
  ·rw[hb];refine⟨rfl,_,rfl,?_⟩;exact cS (λ_=>fin hb) (λz=>absurd (ahy rfl) z)
  have Vn:LW (((S.by g.front g.z1).map λn:Nat=>V.int (n:Int)).getD .non) (.int (g.bF:Int))=true/\decide ((((S.by g.front g.z1).map λn:Nat=>V.int (n:Int)).getD .non)=V.int (g.bF:Int))=false:=by
   cases q:S.by g.front g.z1 with
   |none=>exact⟨rfl,ah1 (by intro z;cases z)⟩
   |some d=>exact⟨rfl,ah1 (λz=>hb (by rw[q];have:=V.int.inj z;congr 1;omega))⟩
  refine⟨Vn.1,_,rfl,?_⟩;rw[Vn.2];refine b8 ?_;clear fin Vn;refine⟨_,rfl,x,_,c.dx,_,_,rfl,hc.ins,aU T,T.gF,iQ _ _ _,r,a.dx,_,rfl,hR.at_.ins,cq _ _ _ (by decide +kernel),_,rfl,p,_,dx,_,_,rfl,hp.ins,aV T,T.iM,nU _ _,_,rfl,_,rfl,p,_,dx,_,_,rfl,hp.ins,aV T,T.i5,nV _ _,_,rfl,p,dx,_,rfl,hp.ins,O9 (by decide +kernel),_,rfl,x,_,c.dx,_,_,rfl,hc.ins,aU T,T.gF,iQ _ _ _,p,dx,wa,r,g,S,a,R,rfl,hp,hR.at_,gd,gi.s,gi.r,gi.ll,jS,λq H1 s1 dt=>?_⟩;have lx:=tO (by_:=S.by) (ws:=g.word.take g.first) (r:=g.start);have ly:=tO (by_:=S.by) (ws:=g.word.drop (g.last+ 1)) (r:=g.bF);rw[ah2]at lx;rw[aiA]at ly;have f1:=gi.wf;have f2:=gi.wr;rw[es,ef]at f1;rw[es,er,←Hd]at f2;rw[←Hd]at dt ly;have ra:Ec ws nr S g.which g.word g.start g.first g.front g.bF g.z1:=⟨K5,K6,⟨gi.s,es⟩,hz,f1,f2,⟨gi.f,ef⟩,⟨gi.r,er⟩,hb⟩
  have Nm:∀a y b,et R g.front g.z1 g.bF a y b->y∈ks:=by
   have:=pK g.z1 (ahf hz);rintro a y b (z|⟨_,e,_⟩|⟨_,e,_⟩)
   ·exact hR.k _ _ _ z
   ·rw[e];exact this.1
   ·rw[e];exact this.2
  have stl:=uK S
  have K2:mu ks.length (wV S g.which g.word g.start g.first g.bF) [(g.front,g.z1,g.bF)]<=1000000:=by
   unfold mu;have h1:(wV S g.which g.word g.start g.first g.bF).stand=S.stand:=rfl;have:S.stand* (ks.length+ 1)<=2000* 401:=Nat.mul_le_mul (by have:=hR.m;omega) (by have:=hR.l;omega);rw[h1];show S.stand* (ks.length+ 1)+ 1<=_;omega
  have gl:=gd.lay g.z1 gi.f gi.r (wV S g.which g.word g.start g.first g.bF).rows;refine⟨r,q,S,a,g.front,g.bF,g.z1,_,Pn (et R g.front g.z1 g.bF) S.made S.L (B+ 1) 900000 1000000 ks (wV S g.which g.word g.start g.first g.bF) [(g.front,g.z1,g.bF)],mu ks.length,rfl,hR.at_.same s1,by have:=hR.rb;omega,dt,Nj _ _ _ (by rw[ahe,ahE,ahE];omega),⟨gl,rfl,rfl,?_,hR.wb,K2,λ_ z=>z⟩,E5 Nm (by have:=hR.m;omega) (by have:=hR.l;omega) (by omega) (by decide) (by decide),λS' a' H2 b2 h2 i2 o2=>?_⟩
  ·show (S.rows++[_]).length+ S.stand<=_;rw[ahe];have:=hR.rb;show _+ 1+ _<=_;omega
  obtain⟨g2,em,eL,rb2,wb2,_,re⟩:=i2;have lay:=re S' (.nil S');obtain⟨_,w2,_,_,l,el⟩:=lay.all gl Nm (⟨hR.w.a,hR.w.b,hR.w.c⟩:jK (wV S g.which g.word g.start g.first g.bF));have el:S'.bE=S.bE++l:=el;have zW:∀b o,¬a.own r b->H b=some o->H2 b=some o:=λb o nb e=>b2 b o nb (s1 _ _ e)
  have YK:∀b,a'.own r b->a.own r b\/H b=none:=λb z=>(o2 b z).imp id (same_none s1)
  have E7:∀b,a'.own r b->¬O b:=λb z y=>by
   rcases YK b z with q|q
   ·exact dj b q y
   ·obtain⟨o,e,_⟩:=hc.th b y;rw[q]at e;cases e
  have c2:cJ A.aF A.az H2 x r c gs ag W S.bE.length fp O:=hc.keep (λb o hb e=>zW b o (λz=>dj b z hb) e) (λb xs e=>zW b _ (hR.at_.nZ e) e);have p2:fu A.aF H2 p dx wa g:=⟨zW _ _ EK hp.ins,zW _ _ (hR.at_.nZ hp.wo) hp.wo⟩;have lt:=Later.of gd g2 qJ (ajV em.symm)
  have wj:=ci.lay wg gd g2 em hR.w w2 el gi.f ef gi.r er λb eb=>by
   rw[Hc]at eb;obtain rfl:=Za0 eb;show S'.ay g.start≠g.start\/wk S'.by g.start g.word=some g.start;by_cases e1:S'.ay g.start=g.start
   ·right
    have h1:=lt.wk f1;have h3:=lt.wk f2;have SQ:=g2.zl.mpr ⟨g.front,g.bF,yd,rfl,rfl⟩;rw[e1]at h1 h3;have:g.word=g.word.take g.first++(g.z1::g.word.drop (g.first+ 1)):=by rw[←drop_cons hz,List.take_append_drop]
    rw[this,vL h1,lg SQ];exact h3
   ·exact .inl e1
  have YL:pM A.aF A.az S' bs gs W _ (ag.length+ 2* gs.length) x r c S.bE.length fp O H2 ag W:=⟨c2,wj,λ_ _ _ z=>z,by have:=wj.two;omega⟩;refine⟨_,rfl,x,c.dx,_,rfl,c2.ins,jh (by decide +kernel),_,rfl,p,_,dx,_,_,rfl,p2.ins,aV T,T.iM,nU _ _,_,rfl,x,r,c,gs,ag,W,S.bE.length,fp,O,g.front,g.z1,rfl,c2,YL.fits K7,λns H3 b3 nd hn c3=>?_⟩;have YM:=YL.wake nd hn c3;have p3:fu A.aF H3 p dx wa g:=⟨b3 _ _ E6 p2.ins,b3 _ _ (c2.mN p2.wo) p2.wo⟩;refine⟨_,rfl,x,c.dx,_,rfl,c3.ins,jh (by decide +kernel),_,rfl,p,_,dx,_,_,rfl,p3.ins,aV T,T.i5,nV _ _,_,rfl,_,rfl,x,r,c,gs,_,_,S.bE.length,fp,O,g.bF,-g.z1,rfl,c3,YM.fits K7,λns2 H4 b4 Vg Bi c4=>?_⟩;have YN:=YM.wake Vg Bi c4;have Vo:Bt O H2 H4:=b3.trans b4 λb z=>.inl z
  have R4:ax A.ak H4 r S' a':=h2.keep (λb o hb e=>Vo b o (E7 b hb) e) (λb xs e=>Vo b _ (c2.mN e) e)
  have i4:CI S' bs gs (ag++ns++ns2) (i9 (i9 W g.front g.z1) g.bF (-g.z1)) (Pl S' S.bE.length) none:=YN.i.ex λr' s n' w hr ex=>by
   obtain⟨w1,n1⟩:=eB.mp w;obtain⟨w2,n2⟩:=eB.mp w1;rcases ex with ⟨e1,e2⟩|⟨e1,e2⟩|⟨m,hm,e⟩
   ·exact absurd ⟨by rw[e1],e2⟩ n2
   ·exact absurd ⟨by rw[e1],e2⟩ n1
   ·exact .inr ⟨m,by rw[el,List.drop_append_of_le_length (ahi _),ajy];exact hm,e⟩
  refine⟨_,rfl,x,c.dx,_,rfl,c4.ins,jh (by decide +kernel),x,r,c,S',a',_,bs,gs,_,_,_,S.bE.length,fp,O,rfl,⟨c4,i4,λ_ _ _ z=>z,YN.b⟩,K7,by rw[el,ahe];omega,R4,g2,w2.c,E7,λVp W5 H5 b5 h5=>?_⟩;have Vq:Bt O H2 H5:=Vo.trans b5 λb z=>.inl z
  refine k S' a' _ Vp W5 H5 (λb o n1 n2 e=>Vq b o n1 (zW b o n2 e)) h5.c ⟨h2.keep (λb o hb e=>Vq b o (E7 b hb) e) (λb xs e=>Vq b _ (c2.mN e) e),g2,w2,Nm,by rw[em];exact hR.m,hR.l,rb2,wb2⟩ YK h5.i (by have:=h5.b;omega) qJ em eL (.step (.refl S) ra lay)
theorem Xz {x y:V}{A B:Prop}(h:x=y)(k:B):if (!decide (x=y))=true then A else B:=by rw[ahq (by simp[h])];exact k
section
variable {CG CC:Addr}{H H':Hp}{x r:Addr}{c:KA}{gs:List (Option Gg)}{ag:List Nat}{W:bW}{hd:Nat}{fp:List (List Int×Nat)}{O:Addr->Prop}{gv:List V}{n:Nat}{p dx wa:Addr}{g g':Gg}
theorem cJ.XA (h:cJ CG CC H x r c gs ag W hd fp O)(hG:H c.aG=some (.lst gv))(hs:uJ CG H gv gs O)(ev:gv[n]?=some (.ref p))(op:O p)(q:fu CG H p dx wa g)(f:∀b o,b≠p->H b=some o->H' b=some o)(q':fu CG H' p dx wa g'):cJ CG CC H' x r c (gs.set n (some g')) ag W hd fp O/\uJ CG H' gv (gs.set n (some g')) O:=by
 have kn:∀b o,(∀C d fs,o≠.ins C d fs)->H b=some o->H' b=some o:=λb o w e=>f b o (λz=>by rw[z,q.ins]at e;exact w _ _ _ (Za0 e).symm) e
 have YQ:uJ CG H' gv (gs.set n (some g')) O:=by
  refine⟨by rw[ahG];exact hs.l,λi v e1 e2=>?_,λi v u e1 e2=>?_,hs.i⟩
  ·rcases fS e2 with ⟨_,z⟩|⟨_,z⟩
   ·cases z
   ·exact hs.n i v e1 z
  ·rcases fS e2 with ⟨z1,z⟩|⟨z1,z⟩
   ·cases z;rw[z1,ev]at e1;exact⟨p,dx,wa,(Za0 e1).symm,q',op⟩
   ·obtain⟨p1,K8,K9,e,q1,o1⟩:=hs.s i v u e1 z;have np:p1≠p:=λz=>z1 (hs.i i n p (by rw[←z,←e];exact e1) ev)
    exact⟨p1,K8,K9,e,⟨f _ _ np q1.ins,kn _ _ (by intro _ _ _ z;cases z) q1.wo⟩,o1⟩
 refine⟨⟨f _ _ (E3 h q).symm h.ins,⟨gv,kn _ _ (by intro _ _ _ z;cases z) hG,YQ⟩,kn _ _ (by intro _ _ _ z;cases z) h.hA,?_,h.ne,h.ox,h.oG,h.oA,λb hb=>?_⟩,YQ⟩
 ·obtain⟨D,E,k1,k2⟩:=h.wt;exact⟨D,E,k1.keep λb o hb e=>by obtain⟨kv,q⟩:=k1.there hb;rw[q]at e;cases e;exact kn _ _ (by intro _ _ _ z;cases z) q,k2⟩
 ·by_cases e:b=p
  ·exact⟨_,by rw[e];exact q'.ins,(by intro _ z;cases z),by intro _ z;cases z⟩
  ·obtain⟨o,q,m⟩:=h.th b hb;exact⟨o,f _ _ e q,m⟩
theorem cJ.He (h:cJ CG CC H x r c gs ag W hd fp O)(hG:H c.aG=some (.lst gv))(hs:uJ CG H gv gs O)(ev:gv[n]?=some (.ref p))(q:fu CG H p dx wa g):cJ CG CC (upd H c.aG (.lst (gv.set n .non))) x r c (gs.set n none) ag W hd fp (λb=>O b/\b≠p):=by
 have k:∀b o,b≠c.aG->H b=some o->upd H c.aG (.lst (gv.set n .non)) b=some o:=λb o n e=>by rw[av n];exact e
 have kn:∀b o,(∀xs,o≠.lst xs)->H b=some o->upd H c.aG (.lst (gv.set n .non)) b=some o:=λb o w e=>k b o (λz=>by rw[z,hG]at e;exact w _ (Za0 e).symm) e
 have nl:∀{b xs},H b=some (.lst xs)->b≠p:=λ{b xs} e z=>by rw[z,q.ins]at e;cases e
 refine⟨kn _ _ (by intro _ z;cases z) h.ins,⟨_,aj,by rw[ahG,ahG];exact hs.l,λi v e1 e2=>?_,λi v u e1 e2=>?_,λi j p' e1 e2=>?_⟩,k _ _ h.ne.symm h.hA,?_,h.ne,⟨h.ox,(E3 h q).symm⟩,⟨h.oG,nl hG⟩,⟨h.oA,nl h.hA⟩,λb hb=>?_⟩
 ·rcases fS e1 with ⟨z1,z⟩|⟨z1,z⟩
  ·exact z
  ·rcases fS e2 with ⟨y1,_⟩|⟨_,y⟩
   ·exact absurd y1 z1
   ·exact hs.n i v z y
 ·rcases fS e2 with ⟨_,z⟩|⟨z1,z⟩
  ·cases z
  ·rcases fS e1 with ⟨y1,_⟩|⟨_,y⟩
   ·exact absurd y1 z1
   ·obtain⟨p1,K8,K9,e,q1,o1⟩:=hs.s i v u y z;have np:p1≠p:=λw=>z1 (hs.i i n p (by rw[←w,←e];exact y) ev)
    exact⟨p1,K8,K9,e,⟨kn _ _ (by intro _ z;cases z) q1.ins,kn _ _ (by intro _ z;cases z) q1.wo⟩,o1,np⟩
 ·rcases fS e1 with ⟨_,z⟩|⟨_,z⟩
  ·cases z
  ·rcases fS e2 with ⟨_,y⟩|⟨_,y⟩
   ·cases y
   ·exact hs.i i j p' z y
 ·obtain⟨D,E,k1,k2⟩:=h.wt;refine⟨D,E,k1.keep λb o hb e=>by obtain⟨kv,q⟩:=k1.there hb;rw[q]at e;cases e;exact kn _ _ (by intro _ z;cases z) q,λb hb=>⟨k2.o b hb,λz=>?_⟩,k2.d,k2.e,k2.w⟩;obtain⟨kv,q2⟩:=k1.there hb;rw[z,q.ins]at q2;cases q2
 ·by_cases e:b=c.aG
  ·exact⟨_,by rw[e];exact aj,(by intro _ z;cases z),by intro _ z;cases z⟩
  ·obtain⟨o,q,m⟩:=h.th b hb.1;exact⟨o,k _ _ e q,m⟩
end
structure Nn (ws:Za3) (nr:Nat) (ks:List Int) (bs:List (Nat×List Int×Nat)):Prop where
 w:∀b∈bs,ws[b.1]?=some b.2.1
 n:∀b∈bs,b.1<nr\/b.2.2=0
 l:∀b∈bs,b.2.1.length<=1000
 k:∀b∈bs,∀z∈b.2.1,z∈ks/\-z∈ks
 c:bs.length<100000
def live (gs:List (Option Gg)):Nat:=gs.countP (·.isSome)
theorem E8 {gs:List (Option Gg)}{n:Nat}{g:Gg}(h:gs[n]?=some (some g)):(∀u:Gg,live (gs.set n (some u))=live gs)/\live (gs.set n none)+ 1=live gs:=by
 unfold live
 induction gs generalizing n with
 |nil=>simp at h
 |cons y r ih=>
  cases n with
  |zero=>
   have:y=some g:=by simpa using h
   subst this;simp[List.countP_cons]
  |succ n=>
   obtain⟨i1,i2⟩:=ih (n:=n) (by simpa using h);simp only[List.set_cons_succ,List.countP_cons];exact⟨λu=>by rw[i1 u],by omega⟩
inductive E9 (CR CG CC:Addr) (vs:List V) (H:Hp) (Q:VK) (E_:XK):Prop
 |mk (x r:Addr) (c:KA) (S:RS) (a:RA) (R:Za2) (ks:List Int) (B:Nat) (ws:Za3) (nr:Nat) (bs:List (Nat×List Int×Nat)) (gs:List (Option Gg)) (ag:List Nat) (W:bW) (fp:List (List Int×Nat)) (O:Addr->Prop) (n:Nat) (e9:vs=[.ref x,.int n]) (fb:cJ CG CC H x r c gs ag W S.bE.length fp O) (fm:kc CR H r S a R ks B) (fq:B<900000) (fZ:(∀b,a.own r b->¬O b)) (hX:CI S bs gs (ag++[n]) W fL none) (iW:Nn ws nr ks bs) (jC:ag.length+ 2* gs.length<=1000000) (lu:∀S' a' R' mI ia W' O' B' H',(∀b o,¬O b->¬a.own r b->H b=some o->H' b=some o)->cJ CG CC H' x r c mI ia W' S'.bE.length fp O'->kc CR H' r S' a' R' ks B'->(∀b,a'.own r b->a.own r b\/H b=none)->(∀b,O' b->O b\/H b=none)->(∀b,a'.own r b->¬O' b)->CI S' bs mI ia W' fL none->(∀a z b,R a z b->R' a z b)->S'.made=S.made->S'.L=S.L->Tr ws nr S S'->(live mI=live gs/\ia.length=ag.length/\B'=B)\/(live mI+ 1=live gs/\ia.length<=ag.length+ 2* gs.length/\B'<=B+ 1)->Q .non H'):E9 CR CG CC vs H Q E_
theorem yE (T:Txt K mg A):aL P w K mg base bB 7 A.mh A.mj ["self","number"] (E9 A.ak A.aF A.az):=by
 have zZ:aL P w K mg base bB 2 A.lZ A.l0 ["self","rooms"] (IU A.ak A.aF):=yB T;have eK:aL P w K mg base bB 1 A.gj A.gk ["self","room"] (p9 A.ak):=jQ T;have tU:aL P w K mg base bB 1 A.nH A.nJ ["self","number","room","step"] (EW A.ak A.aF A.az):=zU T;have uX:aL P w K mg base bB 6 A.km A.ko ["self","going"] (zY A.ak A.aF A.az):=tT T;have om:aL P w K mg base bB 5 A.j4 A.j5 ["self","room","step","other","row"] (zM A.ak):=rq T;refine T.pE.F.ok rh (λvs H Q E h=>?_) (λbR AA outer s H vs Q E hr h=>?_)
 ·obtain⟨x,r,c,S,a,R,ks,B,ws,nr,bs,gs,ag,W,fp,O,n,rfl,_⟩:=h;rfl
 ·obtain⟨x,r,c,S,a,R,ks,B,ws,nr,bs,gs,ag,W,fp,O,n,rfl,h,hR,hB,dj,ci,Aa,K7,k⟩:=h
  refine⟨_,(ai (aY (i:=2) rh.nd rfl (Or.inl rfl) (aS ck (aJ (pv 0) rfl) (pv 1) (λ_ _=>rfl)))
   (ai (bP (aZ oB (pv 2) dv (bj _))
    (aq An)
    bC)
   (ai (bP (aZ lE (bT (aJ (pv 0) rfl) (aK T) T.dI.m (eK) hr.Za5 T.dI.b .nil aO (ae (aJ (pv 2) rfl) ah)) (aJ (pv 2) rfl) (bj _))
    (ai (oy dv (yO (aJ (pv 0) rfl) (pv 1) set_list))
    (aq An))
    bC)
   (ai (bH (bT (pv 2) (aV T) T.pD.m (zZ) hr.Za5 T.pD.b .nil aO (ae (aJ (pv 0) rfl) ah)))
   (aq (bX (bP (aZ lF (aJ (pv 2) rfl) (aJ (pv 2) rfl) (bj _))
    (ai (bH (bT (pv 0) (aU T) T.jA.m (tU) hr.Za5 T.jA.b .nil aO (ae (pv 1) (ae (aJ (pv 2) rfl) (ae (aS bp (aJ (pv 2) rfl) (aJ (pv 2) rfl) (λ_ _=>rfl)) ah)))))
    (aq (bH (bT (pv 0) (aU T) T.jA.m (tU) hr.Za5 T.jA.b .nil aO (ae (pv 1) (ae (aJ (pv 2) rfl) (ae (fW eP (aS bp (aJ (pv 2) rfl) (aJ (pv 2) rfl) (λ_ _=>rfl))) ah)))))))
    (ai (oy dv (yO (aJ (pv 0) rfl) (pv 1) set_list))
    (aq (bH (bT (pv 0) (aU T) T.sP.m (uX) hr.Za5 T.sP.b .nil aO (ae (pv 2) ah)))))))))))),?_⟩
  try dsimp only[bJ,cx]
  refine DU ?_;intro rX mE gB fD;have hn:n<gs.length:=ci.ab n (ahn _ (ahg.mpr rfl));obtain⟨gv,hG,hs⟩:=h.hG;obtain⟨v,hv⟩:=get_some (xs:=gv) (i:=n) (by rw[hs.l];exact hn);have gd:=hR.g;refine⟨_,rfl,x,_,c.dx,_,_,rfl,h.ins,aU T,T.lj,oT _ _ _,_,rfl,c.aG,_,_,v,rfl,rfl,aM.of hG,cf hv,?_⟩;obtain⟨og,wg⟩:=get_some (xs:=gs) (i:=n) hn
  cases og with
  |none=>
   obtain rfl:=hs.n n v hv wg;refine⟨_,rfl,rfl,_,rfl,fQ ?_⟩;exact k S a R gs ag W O B H (λ_ _ _ _ e=>e) h hR (λb z=>.inl z) (λb z=>.inl z) dj (ci.pop.done wg λb eb=>ci.de n b wg (by intro z;cases z) eb) (λ_ _ _ z=>z) rfl rfl (.refl S) (.inl ⟨rfl,rfl,rfl⟩)
  |some g=>
   obtain⟨p,dx,wa,rfl,hp,op⟩:=hs.s n v g hv wg;obtain⟨Hc,gi,_⟩:=ci.al n g wg;have La:=ahf Hc;have jS:g.word.length<=1000:=Aa.l _ La;have EK:¬a.own r p:=λz=>dj p z op
   refine⟨_,rfl,rfl,_,rfl,b8 ?_⟩;refine⟨_,rfl,x,_,c.dx,_,_,rfl,h.ins,aU T,T.gF,iQ _ _ _,r,a.dx,_,rfl,hR.at_.ins,cq _ _ _ (by decide +kernel),_,rfl,p,_,dx,_,_,rfl,hp.ins,aV T,T.uB,yA _ _,r,S,a,g.start,S.ay g.start,rfl,hR.at_,oO (by rw[gd.wf.e];exact gi.s),_,rfl,p,_,dx,_,_,rfl,hp.ins,aV T,T.uB,yA _ _,rfl,_,rfl,?_⟩;have Vr:∀b,a.own r b->¬(O b/\b≠p):=λb z y=>dj b z y.1
   by_cases es:S.ay g.start=g.start
   ·refine Xz (by rw[es]) ?_;refine⟨_,rfl,p,dx,_,rfl,hp.ins,O9 (by decide +kernel),_,rfl,x,_,c.dx,_,_,rfl,h.ins,aU T,T.gF,iQ _ _ _,p,dx,wa,r,g,S,a,R,rfl,hp,hR.at_,gd,gi,EK,jS,λg' H1 f1 p1 ad=>?_⟩;have R1:kc A.ak H1 r S a R ks B:=hR.keep (λb o hb e=>f1 b o (λz=>EK (z ▸ hb)) e) (λb xs e=>f1 b _ (cX e hp.ins (by intro z;cases z)) e);obtain⟨c1,gs1⟩:=h.XA hG hs hv op hp f1 p1;have Fb:H1 c.aG=some (.lst gv):=f1 _ _ (cX hG hp.ins (by intro z;cases z)) hG;have Lb:=ad.gi;have Og:=Lb.ll;have Yp:=Lb.fl;have abZ:g'.word.length<=1000:=by rw[ad.wo];exact jS
    have z1:=Gg.zp (g:=g') (by omega);have z2:=Gg.at2 (g:=g') Og;have aga:(gs.set n (some g'))[n]?=some (some g'):=ahW hn
    have lv:=E8 wg;have lm:=hR.m;refine⟨λ_ H'=>Q .non H',?_,λ_ _ q=>q⟩;refine⟨_,rfl,p,_,dx,_,_,rfl,p1.ins,aV T,T.fT,iP _ _,_,rfl,p,_,dx,_,_,rfl,p1.ins,aV T,T.jP,nX _ _,_,_,rfl,rfl,_,rfl,?_⟩;refine cS (λq=>?_) (λq=>?_)
    ·have q:(g'.first:Int)<(g'.last:Int):=ahB q;have bw:∀z∈g'.word,-1000<=z/\z<=1000:=λz hz=>ci.bd _ La z (by rw[←ad.wo];exact hz)
     have b1:=bw _ (ahf z1);have b2:=bw _ (ahf z2);have hf:=Lb.f;have hrr:=Lb.r;have YR:n<100000:=by have:=ci.len;have:=Aa.c;omega
     refine⟨_,rfl,x,c.dx,_,rfl,c1.ins,jh (by decide +kernel),_,rfl,_,rfl,p,_,dx,_,_,rfl,p1.ins,aV T,T.iM,nU _ _,_,rfl,p,_,dx,_,_,rfl,p1.ins,aV T,T.lh,nT _ _,_,rfl,p,_,dx,_,_,rfl,p1.ins,aV T,T.fT,iP _ _,wa,_,_,.int g'.z1,rfl,rfl,bL.of p1.wo,cf (bZ z1),x,r,c,_,ag,W,S.bE.length,fp,O,n,g'.front,g'.z1,rfl,c1,by omega,YR,b1,λO2 H2 YS f2 Vs xO c2=>?_⟩;have p2:fu A.aF H2 p dx wa g':=⟨f2 _ _ (by intro _ z;cases z) p1.ins,f2 _ _ (by intro _ z;cases z) p1.wo⟩;refine⟨_,rfl,x,c.dx,_,rfl,c2.ins,jh (by decide +kernel),_,rfl,_,rfl,p,_,dx,_,_,rfl,p2.ins,aV T,T.i5,nV _ _,_,rfl,p,_,dx,_,_,rfl,p2.ins,aV T,T.lh,nT _ _,_,rfl,p,_,dx,_,_,rfl,p2.ins,aV T,T.jP,nX _ _,wa,_,_,.int (-g'.z2),rfl,rfl,bL.of p2.wo,cf (bZ z2),_,rfl,x,r,c,_,ag,_,S.bE.length,fp,O2,n,g'.bF,g'.z2,(by show [V.ref x,V.int (n:Int),V.int (g'.bF:Int),V.int (- -g'.z2)]=_;rw[aiK]),c2,by omega,YR,by omega,λO3 H3 bt3 f3 YT B8 c3=>?_⟩
     have ab0:∀b,O3 b->O b\/H1 b=none:=λb z=>by
      rcases B8 b z with y|y
      ·exact xO b y
      ·by_cases w:O b
       ·exact .inl w
       ·refine .inr ?_
        cases e:H1 b with
        |none=>rfl
        |some o=>rw[YS b o w e]at y;cases y
     have nw:∀b,O3 b->O b\/H b=none:=λb z=>by
      rcases ab0 b z with y|y
      ·exact .inl y
      ·by_cases w:b=p
       ·exact .inl (by rw[w];exact op)
       ·refine .inr ?_
        cases e:H b with
        |none=>rfl
        |some o=>rw[f1 b o w e]at y;cases y
     have Np:Bt O H1 H3:=YS.trans bt3 xO
     have dj3:∀b,a.own r b->¬O3 b:=λb z y=>by
      rcases nw b y with w|w
      ·exact dj b z w
      ·obtain⟨o,e⟩:=hR.at_.there z;rw[w]at e;cases e
     refine k S a R _ ag _ O3 B H3 (λb o n1 _ e=>Np b o n1 (f1 b o (λz=>n1 (by rw[z];exact op)) e)) c3 (R1.keep (λb o hb e=>Np b o (dj b hb) e) (λb xs e=>Np b _ (c1.mN e) e)) (λb z=>.inl z) nw dj3 (ci.pop.waits wg ad (by omega)) (λ_ _ _ z=>z) rfl rfl (.refl S) (.inl ⟨lv.1 g',rfl,rfl⟩)
    ·have q:¬(g'.first:Int)<(g'.last:Int):=λz=>q (ahy z)
     have Hd:g'.first=g'.last:=by omega
     refine⟨_,rfl,x,_,c.dx,_,_,rfl,c1.ins,aU T,T.lj,oT _ _ _,_,rfl,c.aG,_,_,n,rfl,rfl,Fb,wW (by rw[hs.l];exact hn),?_⟩;have c2:=c1.He Fb gs1 hv p1;have kn:∀b o,(∀xs,o≠.lst xs)->H1 b=some o->upd H1 c.aG (.lst (gv.set n .non)) b=some o:=λb o w e=>by rw[av (λz=>by rw[z,Fb]at e;exact w _ (Za0 e).symm)];exact e
     have p2:fu A.aF (upd H1 c.aG (.lst (gv.set n .non))) p dx wa g':=⟨kn _ _ (by intro _ z;cases z) p1.ins,kn _ _ (by intro _ z;cases z) p1.wo⟩;have Vt:¬a.own r c.aG:=λz=>dj _ z h.oG
     have R2:kc A.ak (upd H1 c.aG (.lst (gv.set n .non))) r S a R ks B:=R1.keep (λb o hb e=>by rw[av (λz=>Vt (by rw[←z];exact hb))];exact e) (λb xs e=>kn _ _ (by intro _ z;cases z) e);have ess:(gs.set n (some g')).set n none=gs.set n none:=List.set_set ..;rw[ess]at c2;have Vu:∀b o,¬O b->H b=some o->upd H1 c.aG (.lst (gv.set n .non)) b=some o:=λb o n1 e=>by rw[av (λz=>n1 (by rw[z];exact h.oG))];exact f1 b o (λz=>n1 (by rw[z];exact op)) e
     have Vv:∀b,upd H1 c.aG (.lst (gv.set n .non)) b=none->H b=none:=λb z=>by
      cases e:H b with
      |none=>rfl
      |some o=>
       by_cases w:O b
       ·by_cases y:b=p
        ·rw[y,p2.ins]at z;cases z
        ·obtain⟨o2,e2,_⟩:=c2.th b ⟨w,y⟩;rw[z]at e2;cases e2
       ·rw[Vu b o w e]at z;cases z
     generalize upd H1 c.aG (.lst (gv.set n .non))=H2 at c2 p2 R2 Vu Vv ⊢;refine⟨_,rfl,x,c.dx,_,rfl,c2.ins,jh (by decide +kernel),_,rfl,x,r,p,dx,wa,c,S,a,R,ks,B,ws,nr,bs,gs.set n none,ag,W,fp,_,n,g',rfl,c2,R2,hB,Vr,ci.pop.kill,ahW hn,by rw[Hc,ad.wh,ad.wo,ad.st],p2,(λz=>z.2 rfl),EK,Lb,Hd,by rw[ad.st];exact es,ad.ef,ad.er,by rw[ad.wh,ad.wo];exact Aa.w _ La,by rw[ad.wh,ad.st];exact Aa.n _ La,by rw[ad.wo];exact Aa.k _ La,abZ,by rw[ahG];exact K7,λS' a' R' ia W' H' f3 c3 R3 o3 Ab la rr em eL tr=>?_⟩;have o03:∀b,a'.own r b->a.own r b\/H b=none:=λb z=>(o3 b z).imp id (Vv b)
     rw[ahG]at la;refine k S' a' R' _ ia W' _ (B+ 1) H' (λb o n1 n2 e=>f3 b o (λz=>n1 z.1) n2 (Vu b o n1 e)) c3 R3 o03 (λb z=>.inl z.1) (λb z y=>?_) Ab rr em eL tr (.inr ⟨lv.2,la,ahi _⟩);rcases o3 b z with w|w
     ·exact Vr b w y
     ·obtain⟨o2,e2,_⟩:=c2.th b y;rw[w]at e2;cases e2
   ·refine cS (λ_=>?_) (λz=>absurd (by rw[ah1 λw=>es (by have:=V.int.inj w;omega)];rfl) z);refine⟨_,rfl,x,_,c.dx,_,_,rfl,h.ins,aU T,T.lj,oT _ _ _,_,rfl,c.aG,_,_,n,rfl,rfl,hG,wW (by rw[hs.l];exact hn),?_⟩;have c2:=h.He hG hs hv hp;have Vt:¬a.own r c.aG:=λz=>dj _ z h.oG
    refine k S a R _ ag W _ B _ (λb o n1 _ e=>by rw[av (λz=>n1 (by rw[z];exact h.oG))];exact e) c2 (hR.keep (λb o hb e=>by rw[av (λz=>Vt (by rw[←z];exact hb))];exact e) (λb xs e=>by rw[av (λz=>by rw[z,hG]at e;cases e)];exact e)) (λb z=>.inl z) (λb z=>.inl z.1) Vr (ci.pop.kill.done (ahW hn) λb eb=>?_) (λ_ _ _ z=>z) rfl rfl (.refl S) (.inr ⟨(E8 wg).2,by omega,by omega⟩);rw[Hc]at eb;obtain rfl:=Za0 eb;exact .inl es
theorem _root_.L2.Tr.trans {ws:Za3}{nr:Nat}{S S1 S2:RS}(h:Tr ws nr S S1)(k:Tr ws nr S1 S2):Tr ws nr S S2:=by
 induction k with
 |refl=>exact h
 |step _ a b ih=>exact .step ih a b
inductive yF (CR CG CC:Addr) (vs:List V) (H:Hp) (Q:VK) (E_:XK):Prop
 |mk (x r:Addr) (c:KA) (S:RS) (a:RA) (R:Za2) (ks:List Int) (B:Nat) (ws:Za3) (nr:Nat) (bs:List (Nat×List Int×Nat)) (gs:List (Option Gg)) (ag:List Nat) (W:bW) (fp:List (List Int×Nat)) (O:Addr->Prop) (e9:vs=[.ref x]) (fb:cJ CG CC H x r c gs ag W S.bE.length fp O) (fm:kc CR H r S a R ks B) (fq:B+ live gs<900000) (fZ:(∀b,a.own r b->¬O b)) (hX:CI S bs gs ag W fL none) (iW:Nn ws nr ks bs) (jC:live gs* (2* bs.length+ 1)+ ag.length+ 2* bs.length<=1000000) (lu:∀S' a' R' mI W' O' B' H',(∀b o,¬O b->¬a.own r b->H b=some o->H' b=some o)->cJ CG CC H' x r c mI [] W' S'.bE.length fp O'->kc CR H' r S' a' R' ks B'->(∀b,a'.own r b->a.own r b\/O b\/H b=none)->(∀b,O' b->O b\/a.own r b\/H b=none)->(∀b,a'.own r b->¬O' b)->CI S' bs mI [] W' fL none->(∀a z b,R a z b->R' a z b)->S'.made=S.made->S'.L=S.L->Tr ws nr S S'->B'+ live mI<=B+ live gs->Q .non H'):yF CR CG CC vs H Q E_
theorem xm (T:Txt K mg A):aL P w K mg base bB 8 A.kJ A.kK ["self"] (yF A.ak A.aF A.az):=by
 have Ac:aL P w K mg base bB 7 A.mh A.mj ["self","number"] (E9 A.ak A.aF A.az):=yE T;refine T.nM.F.ok xh (λvs H Q E h=>?_) (λbR AA outer s H vs Q E hr h=>?_)
 ·obtain⟨x,r,c,S,a,R,ks,B,ws,nr,bs,gs,ag,W,fp,O,rfl,_⟩:=h;rfl
 ·obtain⟨x,r,c,S,a,R,ks,B,ws,nr,bs,gs,ag,W,fp,O,rfl,h,hR,hB,dj,ci,Aa,hm,k⟩:=h
  refine⟨_,(aq (bX (ky ahK (C9 (aJ (pv 0) rfl) (λ_=>rfl))
   (aq (bH (bT (pv 0) (aU T) T.pE.m (Ac) hr.Za5 T.pE.b .nil aO (ae (Jv ahD PySem.F.slot_list_pop PySem.F.type_list_pop Jw (aJ (pv 0) rfl)) ah))))))),?_⟩
  try dsimp only[bJ,cx]
  have hgl:=ci.len;refine⟨λ_ H'=>Q .non H',?_,λ_ _ q=>q⟩;refine⟨λm σ H2=>∃S2 a2 R2 ji eR W2 O2 B2,m=live ji* (2* bs.length+ 1)+ eR.length/\σ=[some (.ref x)]/\(∀b o,¬O b->¬a.own r b->H b=some o->H2 b=some o)/\cJ A.aF A.az H2 x r c ji eR W2 S2.bE.length fp O2/\kc A.ak H2 r S2 a2 R2 ks B2/\(∀b,a2.own r b->a.own r b\/O b\/H b=none)/\(∀b,O2 b->O b\/a.own r b\/H b=none)/\(∀b,a2.own r b->¬O2 b)/\CI S2 bs ji eR W2 fL none/\(∀a z b,R a z b->R2 a z b)/\S2.made=S.made/\S2.L=S.L/\Tr ws nr S S2/\B2+ live ji<=B+ live gs/\live ji* (2* bs.length+ 1)+ eR.length+ 2* bs.length<=1000000,⟨_,S,a,R,gs,ag,W,O,B,rfl,rfl,λ_ _ _ _ e=>e,h,hR,λb z=>.inl z,λb z=>.inl z,dj,ci,λ_ _ _ z=>z,rfl,rfl,.refl S,ahi _,hm⟩,?_⟩;intro m σ H2 bV;refine bI ?_;intro q_;obtain⟨S2,a2,R2,ji,eR,W2,O2,B2,rfl,rfl,f2,c2,r2,Vw,Pp,E7,wj,YV,YW,YX,YY,qB,U0⟩:=bV;dsimp only[q_];clear q_;refine⟨_,rfl,x,_,c.dx,_,_,rfl,c2.ins,aU T,T.oM,r6 _ _ _,!(ao (nI eR)).isEmpty,.inl ⟨_,aM.of c2.hA,rfl⟩,?_⟩;by_cases cF:eR=[]
  ·subst cF;refine b8 ?_;exact k S2 a2 R2 ji W2 O2 B2 H2 f2 c2 r2 Vw Pp E7 wj YV YW YX YY qB
  ·have pJ:=ai2 cF;generalize eR.getLast cF=n at pJ;generalize eR.dropLast=pre at pJ;subst pJ;rw[show (!(ao (nI (pre++[n]))).isEmpty)=true by unfold ao nI;simp];refine fQ ?_;refine⟨_,λ_ _ z=>z,?_⟩;refine⟨_,rfl,x,c.dx,_,rfl,c2.ins,jh (by decide +kernel),_,rfl,x,_,c.dx,_,_,rfl,c2.ins,aU T,T.oM,r6 _ _ _,.inl ⟨rfl,_,aM.of c2.hA⟩,c.aA,_,.int (n:Int),rfl,rfl,c2.hA,?_,?_⟩
   ·rw[bh,cy,ahe];exact bZ (fj (by show (pre++[n])[pre.length+ 1 - 1]?=some n;rw[Nat.add_sub_cancel,ahs (ahi _),ai4];rfl))
   have Vd:(ao (nI (pre++[n]))).dropLast=ao (nI pre):=by rw[jo,ints_app];exact List.dropLast_concat
   rw[Vd];have c3:=c2.agenda pre;have Df:¬a2.own r c.aA:=λz=>E7 _ z c2.oA
   have f3:∀b o,b≠c.aA->H2 b=some o->upd H2 c.aA (.lst (ao (nI pre))) b=some o:=λb o n1 e=>by rw[av n1];exact e
   have r3:kc A.ak (upd H2 c.aA (.lst (ao (nI pre)))) r S2 a2 R2 ks B2:=r2.keep (λb o hb e=>f3 b o (λz=>Df (by rw[←z];exact hb)) e) (λb xs e=>f3 b _ (λz=>by rw[z,c2.hA]at e;cases e) e)
   have Vx:∀b,upd H2 c.aA (.lst (ao (nI pre))) b=none->H2 b=none:=λb z=>by
    by_cases e:b=c.aA
    ·rw[e,aj]at z;cases z
    ·rw[av e]at z;exact z
   generalize upd H2 c.aA (.lst (ao (nI pre)))=H3 at c3 f3 r3 Vx ⊢;have ln2:=wj.len;rw[ahe]at U0;have:([n]:List Nat).length=1:=rfl
   have YZ:∀b,H2 b=none->a.own r b\/O b\/H b=none:=λb z=>by
    by_cases w:a.own r b
    ·exact .inl w
    ·by_cases w2:O b
     ·exact .inr (.inl w2)
     ·refine .inr (.inr ?_)
      cases e:H b with
      |none=>rfl
      |some o=>rw[f2 b o w2 w e]at z;cases z
   refine⟨x,r,c,S2,a2,R2,ks,B2,ws,nr,bs,ji,pre,W2,fp,O2,n,rfl,c3,r3,by omega,E7,wj,Aa,by omega,λS4 a4 R4 Vy B7 W4 O4 B4 H4 f4 c4 r4 ow4 oo4 dj4 ci4 rr4 em4 eL4 tr4 ms=>?_⟩;have ow:∀b,a4.own r b->a.own r b\/O b\/H b=none:=λb z=>(ow4 b z).elim (Vw b) λw=>YZ b (Vx b w)
   have oo:∀b,O4 b->O b\/a.own r b\/H b=none:=λb z=>(oo4 b z).elim (Pp b) λw=>by
    rcases YZ b (Vx b w) with y|y|y
    ·exact .inr (.inl y)
    ·exact .inl y
    ·exact .inr (.inr y)
   have Vz:B4+ live Vy<=B+ live gs/\live Vy* (2* bs.length+ 1)+ B7.length<live ji* (2* bs.length+ 1)+ (pre++[n]).length:=by
    rw[ahe];rcases ms with ⟨e1,e2,e3⟩|⟨e1,e2,e3⟩
    ·rw[e1,e2,e3];exact⟨qB,by omega⟩
    ·rw[←e1,aki];exact⟨by omega,by omega⟩
   refine⟨_,Vz.2,S4,a4,R4,Vy,B7,W4,O4,B4,rfl,rfl,λb o n1 n2 e=>?_,c4,r4,ow,oo,dj4,ci4,λa z b q=>rr4 _ _ _ (YV _ _ _ q),em4.trans YW,eL4.trans YX,YY.trans tr4,Vz.1,by have:=Vz.2;rw[ahe]at this;omega⟩;refine f4 b o (λz=>?_) (λz=>?_) (f3 b o (λz=>n1 ?_) (f2 b o n1 n2 e))
   ·rcases Pp b z with w|w|w
    ·exact n1 w
    ·exact n2 w
    ·rw[w]at e;cases e
   ·rcases Vw b z with w|w|w
    ·exact n2 w
    ·exact n1 w
    ·rw[w]at e;cases e
   ·subst z;rcases Pp c.aA c2.oA with w|w|w
    ·exact w
    ·exact absurd w n2
    ·rw[w]at e;cases e
theorem _root_.L2.CI.begin {S:RS}{bs:List (Nat×List Int×Nat)}{gs:List (Option Gg)}{ag:List Nat}{W:bW}(h:CI S bs gs ag W fL none){which m:Nat}{word:List Int}(hw:word≠[])(hm:m<S.made)(hb:∀z∈word,-1000<=z/\z<=1000):CI S (bs++[(which,word,m)]) (gs++[some (B1 which word m)]) (ag++[gs.length]) W fL none:=by
 have hl:=List.length_pos_iff.mpr hw
 have old:∀{k:Nat} {y:Option Gg},(gs++[some (B1 which word m)])[k]?=some y->(k<gs.length/\gs[k]?=some y)\/(k=gs.length/\y=some (B1 which word m)):=λ{k y} e=>by
  by_cases hk:k<gs.length
  ·rw[aht hk]at e;exact .inl ⟨hk,e⟩
  ·rw[ahs (by omega)]at e;have:=(ahd.mp e).1;have Bw:k=gs.length:=by simp at this;omega
   subst Bw;rw[ai4]at e;exact .inr ⟨rfl,(Za0 e).symm⟩
 have VA:∀{k:Nat},k<gs.length->(bs++[(which,word,m)])[k]?=bs[k]?:=λ{k} hk=>aht (by rw[←h.len];exact hk)
 refine⟨by rw[ahe,ahe,h.len];rfl,λk g e=>?_,λk b e hx eb=>?_,λk hk=>?_,λr s k q=>?_,λk=>?_,λb G3=>?_⟩
 ·rcases old e with ⟨hk,e⟩|⟨hk,e⟩
  ·obtain⟨h1,h2,h3⟩:=h.al k g e;exact⟨by rw[VA hk];exact h1,h2,h3.imp (ahF _) id⟩
  ·cases e;refine⟨?_,⟨ahT _,by show word.length - 1<word.length;omega,hm,hm,hm,rfl,?_⟩,.inl (ahn _ (ahg.mpr hk))⟩
   ·rw[ahs (by rw[hk,h.len];exact ahi _),hk,h.len,ai4];rfl
   ·show wk S.by _ (word.drop (word.length - 1+ 1))=_;rw[show word.length - 1+ 1=word.length by omega,ajy];rfl
 ·rcases old e with ⟨hk,e⟩|⟨hk,e⟩
  ·rw[VA hk]at eb;exact h.de k b e hx eb
  ·cases e
 ·rw[ahe];rcases ahx.mp hk with q|q
  ·have:=h.ab k q;show k<_+ 1;omega
  ·rw[ahg.mp q];show _<_+ 1;omega
 ·obtain⟨r',n',e1,e2,e3,e4,e5⟩:=h.en r s k q;exact⟨r',n',e1,e2,e3,by rw[ahe];show n'<_+ 1;omega,e5⟩
 ·by_cases hk:k<gs.length
  ·obtain⟨p,q,h1,h2⟩:=h.sl k;refine⟨p,q,h1,λg e=>h2 g ?_⟩;rw[aht hk]at e;exact e
  ·refine⟨((B1 which word m).front,(B1 which word m).z1),((B1 which word m).bF,(B1 which word m).z2),λr s w=>?_,λg e=>?_⟩
   ·obtain⟨_,n',_,e,_,hl,_⟩:=h.en r s k w;omega
   ·rcases old e with ⟨z,_⟩|⟨_,e⟩
    ·exact absurd z hk
    ·cases e;exact⟨rfl,rfl⟩
 ·rcases ahx.mp G3 with q|q
  ·exact h.bd b q
  ·rw[ahg.mp q];exact hb
theorem cJ.XB {CG CC:Addr}{H H':Hp}{x r:Addr}{c:KA}{gs:List (Option Gg)}{ag:List Nat}{W:bW}{hd:Nat}{fp:List (List Int×Nat)}{O:Addr->Prop}{gv:List V}{p dx wa:Addr}{g:Gg}(h:cJ CG CC H x r c gs ag W hd fp O)(hG:H c.aG=some (.lst gv))(hs:uJ CG H gv gs O)(np:H p=none)(s:au H H')(q:fu CG H' p dx wa g):cJ CG CC (upd H' c.aG (.lst (gv++[.ref p]))) x r c (gs++[some g]) ag W hd fp (Ko O p):=by
 have k:∀b o,b≠c.aG->H' b=some o->upd H' c.aG (.lst (gv++[.ref p])) b=some o:=λb o n e=>by rw[av n];exact e
 have kn:∀b o,(∀xs,o≠.lst xs)->H' b=some o->upd H' c.aG (.lst (gv++[.ref p])) b=some o:=λb o w e=>k b o (λz=>by rw[z,s _ _ hG]at e;exact w _ (Za0 e).symm) e
 have fresh:∀(i:Nat),gv[i]?≠some (.ref p):=λi e=>by
  have hi:i<gs.length:=by rw[←hs.l];exact(ahd.mp e).1
  cases q2:gs[i]? with
  |none=>rw[ahc hi]at q2;cases q2
  |some y=>
   cases y with
   |none=>cases hs.n i _ e q2
   |some u=>
    obtain⟨p1,_,_,e1,q1,_⟩:=hs.s i _ u e q2;cases e1;have:=q1.ins;rw[np]at this;cases this
 have old:∀{i:Nat} {v:V},(gv++[.ref p])[i]?=some v->(i<gv.length/\gv[i]?=some v)\/(i=gv.length/\v=.ref p):=λ{i v} e=>by
  by_cases hk:i<gv.length
  ·rw[aht hk]at e;exact .inl ⟨hk,e⟩
  ·rw[ahs (by omega)]at e;have:=(ahd.mp e).1;have Bw:i=gv.length:=by simp at this;omega
   subst Bw;rw[ai4]at e;exact .inr ⟨rfl,(Za0 e).symm⟩
 refine⟨kn _ _ (by intro _ z;cases z) (s _ _ h.ins),⟨_,aj,by rw[ahe,ahe,hs.l];rfl,λi v e1 e2=>?_,λi v u e1 e2=>?_,λi j p' e1 e2=>?_⟩,k _ _ h.ne.symm (s _ _ h.hA),?_,h.ne,.inl h.ox,.inl h.oG,.inl h.oA,λb hb=>?_⟩
 ·rcases old e1 with ⟨hi,e⟩|⟨hi,e⟩
  ·rw[aht (by rw[←hs.l];exact hi)]at e2;exact hs.n i v e e2
  ·rw[hi,hs.l,ahs (ahi _),ai4]at e2;cases Za0 e2
 ·rcases old e1 with ⟨hi,e⟩|⟨hi,e⟩
  ·rw[aht (by rw[←hs.l];exact hi)]at e2;obtain⟨p1,K8,K9,e3,q1,o1⟩:=hs.s i v u e e2;exact⟨p1,K8,K9,e3,⟨kn _ _ (by intro _ z;cases z) (s _ _ q1.ins),kn _ _ (by intro _ z;cases z) (s _ _ q1.wo)⟩,.inl o1⟩
  ·rw[hi,hs.l,ahs (ahi _),ai4]at e2;cases Za0 e2;exact⟨p,dx,wa,e,⟨kn _ _ (by intro _ z;cases z) q.ins,kn _ _ (by intro _ z;cases z) q.wo⟩,.inr rfl⟩
 ·rcases old e1 with ⟨hi,e⟩|⟨hi,e⟩
  ·rcases old e2 with ⟨hj,e'⟩|⟨hj,e'⟩
   ·exact hs.i i j p' e e'
   ·cases e';exact absurd e (fresh i)
  ·rcases old e2 with ⟨hj,e'⟩|⟨hj,e'⟩
   ·cases e;exact absurd e' (fresh j)
   ·omega
 ·obtain⟨D,E,k1,k2⟩:=h.wt;exact⟨D,E,(k1.same s).keep λb o hb e=>by obtain⟨kv,q⟩:=(k1.same s).there hb;rw[q]at e;cases e;exact kn _ _ (by intro _ z;cases z) q,λb hb=>.inl (k2.o b hb),k2.d,k2.e,k2.w⟩
 ·rcases hb with hb|hb
  ·by_cases e:b=c.aG
   ·exact⟨_,by rw[e];exact aj,(by intro _ z;cases z),by intro _ z;cases z⟩
   ·obtain⟨o,q,m⟩:=h.th b hb;exact⟨o,k _ _ e (s _ _ q),m⟩
  ·rw[hb];exact⟨_,kn _ _ (by intro _ z;cases z) q.ins,(by intro _ z;cases z),by intro _ z;cases z⟩
def nz (which:Nat)(word:List Int)(m:Nat):List (Nat×List Int×Nat):=if word=[] then [] else [(which,word,m)]
inductive wY (CR CG CC:Addr) (vs:List V) (H:Hp) (Q:VK) (E_:XK):Prop
 |mk (x r wa:Addr) (c:KA) (S:RS) (bs:List (Nat×List Int×Nat)) (gs:List (Option Gg)) (ag:List Nat) (W:bW) (hd:Nat) (fp:List (List Int×Nat)) (O:Addr->Prop) (which m:Nat) (word:List Int) (e9:vs=[.ref x,.int which,.ref wa,.int m]) (fb:cJ CG CC H x r c gs ag W hd fp O) (fm:CI S bs gs ag W fL none) (fq:H wa=some (.tup (ao word))) (fZ:word.length<=1000) (hX:(∀z∈word,-1000<=z/\z<=1000)) (iW:m<S.made) (jC:bs.length<100000) (lu:ag.length<=bs.length) (rV:∀mI ia O' H',Bt O H H'->(∀b,O b->O' b)->(∀b,O' b->O b\/H b=none)->cJ CG CC H' x r c mI ia W hd fp O'->CI S (bs++nz which word m) mI ia W fL none->ia.length<=(bs++nz which word m).length->Q .non H'):wY CR CG CC vs H Q E_
theorem rD (T:Txt K mg A):aL P w K mg base bB 3 A.je A.jf ["self","which","word","room"] (wY A.ak A.aF A.az):=by
 have yG:aL P w K mg base bB 1 A.iD A.kI ["self","which","word","start"] (EJ A.aF):=xl T;refine T.iV.F.ok yp (λvs H Q E h=>?_) (λbR AA outer s H vs Q E hr h=>?_)
 ·obtain⟨x,r,wa,c,S,bs,gs,ag,W,hd,fp,O,which,m,word,rfl,_⟩:=h;rfl
 ·obtain⟨x,r,wa,c,S,bs,gs,ag,W,hd,fp,O,which,m,word,rfl,h,ci,vX,jS,Pq,hm,BZ,VB,k⟩:=h
  refine⟨_,(aq (bX (bP (aZ HB (bq bA rfl T.cQ ahJ (ae (pv 2) ah)) aw (bj _))
   (ai (bH (fG ahD ahH ahI cT (aJ (pv 0) rfl) (ae (bq bA rfl T.cQ ahJ (ae (aJ (pv 0) rfl) ah)) ah)))
   (aq (bH (fG ahD ahH ahI cT (aJ (pv 0) rfl) (ae (Ao (yo T) (yG) hr.Za5 rfl T.Q9 T.jN.b .nil aO (ae (pv 1) (ae (pv 2) (ae (pv 3) ah)))) ah)))))
   bC))),?_⟩
  try dsimp only[bJ,cx]
  have hgl:=ci.len;refine⟨λ_ H'=>Q .non H',?_,λ_ _ q=>q⟩;refine⟨_,rfl,wa,_,rfl,.inr (bL.of vX),_,_,rfl,rfl,_,rfl,?_⟩;refine cS (λq=>?_) (λq=>?_)
  ·have q:(0:Int)<((ao word).length:Int):=ahB q;rw[bh]at q;have cF:word≠[]:=λz=>by rw[z]at q;exact absurd q (by show ¬(0:Int)<((0:Nat):Int);decide)
   obtain⟨gv,hG,hs⟩:=h.hG;refine⟨_,rfl,x,_,c.dx,_,_,rfl,h.ins,aU T,T.oM,r6 _ _ _,.inl ⟨rfl,_,aM.of h.hA⟩,_,rfl,x,_,c.dx,_,_,rfl,h.ins,aU T,T.lj,oT _ _ _,c.aG,_,rfl,.inl (aM.of hG),c.aA,_,_,rfl,rfl,h.hA,?_,?_⟩
   ·rw[bh,cy];exact ahr (show ag.length<=100000 by omega) (by decide)
   have ea:ao (nI ag)++[V.int (gv.length:Int)]=ao (nI (ag++[gs.length])):=by rw[jo,ints_app,hs.l];rfl
   rw[ea];have h1:=h.agenda (ag++[gs.length]);have k1:∀b o,b≠c.aA->H b=some o->upd H c.aA (.lst (ao (nI (ag++[gs.length])))) b=some o:=λb o n e=>by rw[av n];exact e
   have n1:∀b,upd H c.aA (.lst (ao (nI (ag++[gs.length])))) b=none->H b=none:=λb z=>by
    by_cases e:b=c.aA
    ·rw[e,aj]at z;cases z
    ·rw[av e]at z;exact z
   generalize upd H c.aA (.lst (ao (nI (ag++[gs.length]))))=H1 at h1 k1 n1 ⊢;have ab1:=k1 _ _ (cX vX h.hA (by intro z;cases z)) vX;obtain⟨gv1,Fb,B9⟩:=h1.hG;refine⟨_,rfl,x,_,c.dx,_,_,rfl,h1.ins,aU T,T.lj,oT _ _ _,.inl ⟨rfl,_,aM.of Fb⟩,_,rfl,_,rfl,_,rfl,λp dx np Ca uR=>?_⟩;have s2:au H1 (upd (upd H1 dx (.own p)) p (.ins A.aF dx [])):=(au.upd Ca).trans (au.upd (by rw[av uR.symm];exact np));refine⟨p,dx,wa,which,m,word,rfl,aj,s2 _ _ ab1,by omega,jS,λH3 f3 g3=>⟨rfl,?_⟩⟩;have s3:au H1 H3:=λb o e=>f3 b o (s2 _ _ e) (aI e np)
   refine⟨c.aG,_,_,rfl,rfl,s3 _ _ Fb,(by rw[B9.l];exact ahr (show gs.length<=100000 by omega) (by decide)),?_⟩;have en:nz which word m=[(which,word,m)]:=ahq cF;refine k _ _ (Ko O p) _ (λb o n e=>?_) (λb z=>.inl z) (λb z=>z.imp id λw=>by rw[w];exact n1 p np) (h1.XB Fb B9 np s3 g3) (by rw[en];exact ci.begin cF hm Pq) (by rw[en,ahe,ahe];show _+ 1<=_+ 1;omega);rw[av (λz=>n (by rw[z];exact h.oG))];exact s3 _ _ (k1 b o (λz=>n (by rw[z];exact h.oA)) e)
  ·have q:¬(0:Int)<((ao word).length:Int):=λz=>q (ahy z)
   rw[bh]at q;have cF:word=[]:=List.length_eq_zero_iff.mp (by omega);have en:nz which word m=[]:=ahu cF;exact k gs ag O H (λ_ _ _ e=>e) (λb z=>z) (λb z=>.inl z) h (by rw[en,ahU];exact ci) (by rw[en,ahU];exact VB)
def pH (fp:List (List Int×Nat))(m:Nat):List (Nat×List Int×Nat):=fp.flatMap λp=>nz p.2 p.1 m
theorem Pu (w:Nat)(u:List Int)(m:Nat):(nz w u m).length<=1:=by
 unfold nz;split
 ·exact ahT _
 ·exact ahi _
theorem yH (m:Nat):∀fp:List (List Int×Nat),(pH fp m).length<=fp.length
 |[]=>ahi _
 |p::l=>by
  have:=yH m l;have:=Pu p.2 p.1 m;unfold pH at *;rw[List.flatMap_cons,ahe,ahE];omega
theorem Lc {fp:List (List Int×Nat)}{i:Nat}{p:List Int×Nat}(h:fp[i]?=some p)(m:Nat):pH (fp.take (i+ 1)) m=pH (fp.take i) m++nz p.2 p.1 m:=by
 unfold pH;rw[aje,h,ajw];show _++(nz p.2 p.1 m++[])=_;rw[ahU]
theorem VC {fp:List (List Int×Nat)}{i:Nat}{kv:List Key×V}(h:(kb fp)[i]?=some kv):∃p,fp[i]?=some p/\kv=(p.1.map Sum.inl,.int p.2):=by
 unfold kb at h;rw[ahw]at h
 cases q:fp[i]? with
 |none=>rw[q]at h;cases h
 |some p=>rw[q]at h;exact⟨p,rfl,(Za0 h).symm⟩
inductive Fd (CR CG CC:Addr) (vs:List V) (H:Hp) (Q:VK) (E_:XK):Prop
 |mk (x r:Addr) (c:KA) (S:RS) (bs:List (Nat×List Int×Nat)) (gs:List (Option Gg)) (ag:List Nat) (W:bW) (hd:Nat) (fp:List (List Int×Nat)) (O:Addr->Prop) (m:Nat) (e9:vs=[.ref x,.int m]) (fb:cJ CG CC H x r c gs ag W hd fp O) (fm:H c.aQ=some (.dT (kb fp))) (fq:CI S bs gs ag W fL none) (fZ:(∀p∈fp,p.1.length<=1000/\∀z∈p.1,-1000<=z/\z<=1000)) (hX:m<S.made) (iW:bs.length+ fp.length<100000) (jC:ag.length<=bs.length) (lu:∀mI ia O' H',Bt O H H'->(∀b,O b->O' b)->(∀b,O' b->O b\/H b=none)->cJ CG CC H' x r c mI ia W hd fp O'->CI S (bs++pH fp m) mI ia W fL none->ia.length<=(bs++pH fp m).length->Q .non H'):Fd CR CG CC vs H Q E_
theorem sT (T:Txt K mg A):aL P w K mg base bB 4 A.gZ A.g9 ["self","room"] (Fd A.ak A.aF A.az):=by
 have mJ:aL P w K mg base bB 3 A.je A.jf ["self","which","word","room"] (wY A.ak A.aF A.az):=rD T;refine T.ja.F.ok gG (λvs H Q E h=>?_) (λbR AA outer s H vs Q E hr h=>?_)
 ·obtain⟨x,r,c,S,bs,gs,ag,W,hd,fp,O,m,rfl,_⟩:=h;rfl
 ·obtain⟨x,r,c,S,bs,gs,ag,W,hd,fp,O,m,rfl,h,hQ,ci,hfp,hm,BZ,VB,k⟩:=h
  refine⟨_,(aq (Ax (dw ahK rfl (Xp (aJ (pv 0) rfl)) (jX rfl (cz (bQ (i:=2) gG.nd rfl (Or.inl rfl)) (cz (bQ (i:=3) gG.nd rfl (Or.inl rfl)) iX)))
   (aq (bH (bT (pv 0) (aU T) T.iV.m (mJ) hr.Za5 T.iV.b .nil aO (ae (pv 3) (ae (pv 2) (ae (pv 1) ah))))))))),?_⟩
  try dsimp only[bJ,cx]
  have nQ:¬O c.aQ:=h.Vj hQ;have nxQ:x≠c.aQ:=cX h.ins hQ (by intro z;cases z);refine⟨c.aQ,_,hQ,trivial,_,rfl,x,_,c.dx,_,_,rfl,h.ins,aU T,T.El,Nh _ _ _,c.aQ,kb fp,rfl,hQ,λfo=>?_⟩;have k0:∀b o,b≠c.aQ->H b=some o->upd H c.aQ (.dC fo (.dT (kb fp))) b=some o:=λb o n e=>by rw[av n];exact e
  have h0:cJ A.aF A.az (upd H c.aQ (.dC fo (.dT (kb fp)))) x r c gs ag W hd fp O:=h.keep (λb o hb e=>k0 b o (λz=>nQ (by rw[←z];exact hb)) e) (λb xs e=>k0 b _ (cX e hQ (by intro z;cases z)) e)
  let fU:Nat->St->Hp->Prop:=λi σ H5=>∃ji eR O2 v2 v3,σ=[some (.ref x),some (.int (m:Int)),v2,v3]/\H5 c.aQ=some (.dC fo (.dT (kb fp)))/\(∀b o,b≠c.aQ->¬O b->H b=some o->H5 b=some o)/\(∀b,O b->O2 b)/\(∀b,O2 b->O b\/H b=none)/\cJ A.aF A.az H5 x r c ji eR W hd fp O2/\CI S (bs++pH (fp.take i) m) ji eR W fL none/\eR.length<=(bs++pH (fp.take i) m).length
  refine T9 (d:=c.aQ) (o:=fo) (kvs:=kb fp) fU
   ⟨gs,ag,O,none,none,rfl,aj,λb o n _ e=>k0 b o n e,λb z=>z,λb z=>.inl z,h0,by rw[List.take_zero];show CI S (bs++[]) _ _ _ _ _;rw[ahU];exact ci,by rw[List.take_zero];show _<=(bs++[]).length;rw[ahU];exact VB⟩ (λi σ H5 _ ⟨_,_,_,_,_,_,q,_⟩=>q) ?_ ?_
  ·intro i kv σ H5 t kp dP nt VD bV;refine bI ?_;intro q_;obtain⟨ji,eR,O2,v2,v3,rfl,q5,f5,Pw,Cb,c5,Fe,Ff⟩:=bV;dsimp only[q_];clear q_;obtain⟨p,hp,rfl⟩:=VC dP;have hi:=(ahd.mp hp).1
   replace VD:H5 kp=some (.tup (ao p.1)):=by
    rw[VD];show some (HO.tup (((p.1.map (Sum.inl:Int->Key)).map kV)))=_;rw[aiv];rfl
   have s6:=au.upd (o:=.tup [.ref kp,.int (p.2:Int)]) nt;refine⟨t,_,rfl,bL.of aj,rfl,_,_,rfl,_,_,rfl,rfl,?_⟩;generalize upd H5 t (.tup [.ref kp,.int (p.2:Int)])=H6 at s6 ⊢;have hb:=hfp p (ahf hp);have bl:=yH m (fp.take i);rw[ah2]at bl;have c6:=c5.same s6;refine⟨_,rfl,x,c.dx,_,rfl,c6.ins,jh (by decide +kernel),_,rfl,_,rfl,_,rfl,x,r,kp,c,S,_,ji,eR,W,hd,fp,O2,p.2,m,p.1,rfl,c6,Fe,s6 _ _ VD,hb.1,hb.2,hm,by rw[ahe];omega,Ff,λgs7 ag7 O7 H7 Y0 le7 nw7 c7 Y1 Y2=>?_⟩;have VF:¬O2 c.aQ:=λz=>(Cb _ z).elim nQ λq=>by rw[hQ]at q;cases q
   rw[aia,←Lc hp]at Y1 Y2;refine⟨gs7,ag7,O7,_,_,rfl,Y0 _ _ VF (s6 _ _ q5),λb o n1 n2 e=>Y0 b o (λz=>(Cb b z).elim n2 λq=>by rw[q]at e;cases e) (s6 _ _ (f5 b o n1 n2 e)),λb z=>le7 b (Pw b z),λb z=>?_,c7,Y1,Y2⟩;rcases nw7 b z with w|w
   ·exact Cb b w
   ·by_cases y:O b
    ·exact .inl y
    ·refine .inr ?_
     cases e:H b with
     |none=>rfl
     |some o=>
      by_cases y2:b=c.aQ
      ·rw[y2,s6 _ _ q5]at w;cases w
      ·rw[s6 _ _ (f5 b o y2 y e)]at w;cases w
  ·intro σ H5 bV;refine bI ?_;intro q_;obtain⟨ji,eR,O2,v2,v3,rfl,q5,f5,Pw,Cb,c5,Fe,Ff⟩:=bV;dsimp only[q_];clear q_;rw[show (kb fp).length=fp.length by unfold kb;rw[ahl],aik]at Fe Ff;have VF:¬O2 c.aQ:=λz=>(Cb _ z).elim nQ λq=>by rw[hQ]at q;cases q
   refine⟨fo,q5,k ji eR O2 _ (λb o n e=>?_) Pw Cb (c5.keep (λb o hb e=>by rw[av (λz=>VF (by rw[←z];exact hb))];exact e) (λb xs e=>by rw[av (λz=>by rw[z,q5]at e;cases e)];exact e)) Fe Ff⟩;by_cases z:b=c.aQ
   ·rw[z,aj,←hQ,←z];exact e
   ·rw[av z];exact f5 b o z n e
def Px (r:Addr):List (Str×V):=[("rooms",.ref r)]
def Py (r q:Addr):List (Str×V):=[("rooms",.ref r),("rules",.ref q)]
def Pz (r q g:Addr):List (Str×V):=[("rooms",.ref r),("rules",.ref q),("goings",.ref g)]
def PB (r q g e:Addr):List (Str×V):=[("rooms",.ref r),("rules",.ref q),("goings",.ref g),("agenda",.ref e)]
def PD (r q g e w:Addr):List (Str×V):=[("rooms",.ref r),("rules",.ref q),("goings",.ref g),("agenda",.ref e),("waiting",.ref w)]
def VG (r q g e w:Addr)(n:Int):List (Str×V):=[("rooms",.ref r),("rules",.ref q),("goings",.ref g),("agenda",.ref e),("waiting",.ref w),("heard",.int n)]
theorem cz2 (r q:Addr):b6 "rules" (.ref q) (Px r)=Py r q:=fA (by kernel_rfl)
theorem cz3 (r q g:Addr):b6 "goings" (.ref g) (Py r q)=Pz r q g:=fA (by kernel_rfl)
theorem cz4 (r q g e:Addr):b6 "agenda" (.ref e) (Pz r q g)=PB r q g e:=fA (by kernel_rfl)
theorem cz5 (r q g e w:Addr):b6 "waiting" (.ref w) (PB r q g e)=PD r q g e w:=fA (by kernel_rfl)
theorem cz6 (r q g e w:Addr)(n:Int):b6 "heard" (.int n) (PD r q g e w)=VG r q g e w n:=fA (by kernel_rfl)
theorem kat_nil {H:Hp}{k:Addr}(h:H k=some (.dK [])):eZ H k (λ_=>none) (λ_ _=>none) (λ_ _ _=>false):=⟨⟨[],h,by simp,(λkv z=>by cases z),λ_=>rfl⟩,(λ_ _ z=>by cases z),(λ_ _ _ z=>by cases z),(λ_ _ _ z=>by cases z),(λ_ _ _ z=>by cases z),(λ_ _ z=>by cases z),(λ_ _ _ z=>by cases z),(λ_ _ _ z=>by cases z),(λ_ _ _ _ z=>by cases z),(λ_ _ _ _ _ z=>by cases z)⟩
def dM (S:RS):List Nat:=(List.range S.made).filter λc=>decide (S.aB[c]?=some c)
def eS (fp:List (List Int×Nat))(st:List Nat):List (Nat×List Int×Nat):=st.flatMap λm=>pH fp m
def gP (ps:Za3)(nr i:Nat):List (Nat×List Int×Nat):=(List.range i).flatMap λj=>nz (nr+ j) (ps.getD j []) 0
theorem pW (fp:List (List Int×Nat)):∀st:List Nat,(eS fp st).length<=st.length* fp.length
 |[]=>ahT _
 |m::st=>by
  have:=pW fp st;have:=yH m fp;unfold eS at *;rw[List.flatMap_cons,ahe,ahE,aki];omega
theorem wm (ps:Za3)(nr:Nat):∀i,(gP ps nr i).length<=i
 |0=>ahi _
 |i+ 1=>by
  have:=wm ps nr i;have:=Pu (nr+ i) (ps.getD i []) 0;unfold gP at *;rw[aiy,ajw,ahe];show _+ (nz _ _ 0++[]).length<=_;rw[ahU];omega
def wq:bW:=λ_ _ _=>false
theorem VH {S:RS}:CI S [] [] [] wq fL none:=⟨rfl,(λn g e=>by simp at e),(λn b e=>by simp at e),(λn z=>by cases z),(λr s n z=>by cases z),λn=>⟨(0,0),(0,0),(λr s z=>by cases z),λg e=>by simp at e⟩,(λb z=>by cases z)⟩
inductive Fg (CR CG CC:Addr) (vs:List V) (H:Hp) (Q:VK) (E_:XK):Prop
 |mk (x dx r ru pa:Addr) (S:RS) (a:RA) (R:Za2) (rs ps:Za3) (e9:vs=[.ref x,.ref r,.ref ru,.ref pa]) (fb:H x=some (.ins CC dx [])) (fm:ax CR H r S a) (fq:Good S [] R) (fZ:0<S.made) (hX:S.made<=2000) (iW:¬a.own r x) (jC:b0 H ru rs) (lu:b0 H pa ps) (rV:rs.length<=400) (sS:ps.length<=400) (yt:(∀u∈rs++ps,u.length<=1000/\∀z∈u,-1000<=z/\z<=1000)) (AV:(∀fp,AX rs fp->S.made* fp.length+ ps.length<50000)) (Nk:∀c gs ag fp O H',(∀b o,H b=some o->b≠x->H' b=some o)->cJ CG CC H' x r c gs ag wq S.bE.length fp O->H' c.aQ=some (.dT (kb fp))->(∀b,O b->b=x\/H b=none)->CI S (eS fp (dM S)++gP ps rs.length ps.length) gs ag wq fL none->ag.length<=(eS fp (dM S)++gP ps rs.length ps.length).length->AX rs fp->Q .non H'):Fg CR CG CC vs H Q E_
theorem vb (T:Txt K mg A):aL P w K mg base bB 5 A.gy A.jx ["self","rooms","rules","part"] (Fg A.ak A.aF A.az):=by
 have A0:aL P w K mg base bB 1 A.m8 A.m9 ["rules"] EI:=zT T;have iR:aL P w K mg base bB 1 A.iH A.iI ["self"] (pU A.ak):=pL T;have tV:aL P w K mg base bB 4 A.gZ A.g9 ["self","room"] (Fd A.ak A.aF A.az):=sT T;have mJ:aL P w K mg base bB 3 A.je A.jf ["self","which","word","room"] (wY A.ak A.aF A.az):=rD T;refine T.iL.F.ok fX (λvs H Q E h=>?_) (λbR AA outer s H vs Q E hr h=>?_)
 ·obtain⟨x,dx,r,ru,pa,S,a,R,rs,ps,rfl,_⟩:=h;rfl
 ·obtain⟨x,dx,r,ru,pa,S,a,R,rs,ps,rfl,hx,hR,gd,Hf,hm,Hg,uY,wu,jV,dR,Pq,Ar,k⟩:=h
  refine⟨_,(ai (cE (pv 0) (pv 1) rfl)
   (ai (cE (pv 0) (bx (A0) hr.Za5 rfl T.my.m T.my.F.kp T.my.b .nil aO (ae (pv 2) ah)) rfl)
   (ai (cE (pv 0) (dX ah) rfl)
   (ai (cE (pv 0) (dX ah) rfl)
   (ai (cE (pv 0) gC rfl)
   (ai (cE (pv 0) (bq bA rfl T.cQ ahJ (ae (aJ (pv 1) rfl) ah)) rfl)
   (ai (dw ahK rfl (eJ (fP (pv 1) (aK T) T.eX.m (iR) hr.Za5 T.eX.b .nil aO)) (bQ (i:=4) fX.nd rfl (Or.inl rfl))
    (aq (bH (bT (pv 0) (aU T) T.ja.m (tV) hr.Za5 T.ja.b .nil aO (ae (pv 4) ah)))))
   (aq (dw ahK rfl (Kn rfl T.sQ (pv 3) (bq bA rfl T.cQ ahJ (ae (pv 2) ah))) (jX rfl (cz (bQ (i:=5) fX.nd rfl (Or.inl rfl)) (cz (bQ (i:=6) fX.nd rfl (Or.inl rfl)) iX)))
    (aq (bH (bT (pv 0) (aU T) T.iV.m (mJ) hr.Za5 T.iV.b .nil aO (ae (pv 5) (ae (pv 6) (ae aw ah))))))))))))))),?_⟩
  try dsimp only[bJ,cx]
  refine uh ?_;intro Ez zI uU rX mE gB fD;obtain⟨VJ,PF,PH⟩:=id uY;obtain⟨PJ,xP,JH⟩:=id wu
  have st:∀{H0:Hp} {fs gs:List (Str×V)},H0 x=some (.ins A.az dx fs)->(∀b o,H b=some o->b≠x->H0 b=some o)->upd H0 x (.ins A.az dx gs) x=some (.ins A.az dx gs)/\(∀b o,H b=some o->b≠x->upd H0 x (.ins A.az dx gs) b=some o)/\(∀b o,b≠x->H0 b=some o->upd H0 x (.ins A.az dx gs) b=some o)/\∀b,upd H0 x (.ins A.az dx gs) b=none->H0 b=none:=λ_ h=>⟨aj,λb o e n=>by rw[av n];exact h b o e n,λb o n e=>by rw[av n];exact e,λb z=>by
   by_cases e:b=x
   ·rw[e,aj]at z;cases z
   ·rw[av e]at z;exact z⟩
  have o0:∀b o,H b=some o->b≠x->H b=some o:=λb o e _=>e
  have VL:ru≠x:=cX PF hx (by intro z;cases z);have VM:pa≠x:=cX xP hx (by intro z;cases z);refine⟨_,rfl,_,rfl,x,_,dx,_,rfl,hx,aU T,T.gF,(by show 0<1000;decide),?_⟩;rw[show b6 "rooms" (.ref r) []=Px r from rfl];obtain⟨x1,o1,-,n1⟩:=st (gs:=Px r) hx o0;generalize upd H x (.ins A.az dx (Px r))=H1 at x1 o1 n1 ⊢;have zh:b0 H1 ru rs:=⟨VJ,o1 _ _ PF VL,PH.1,λi q u e1 e2=>o1 _ _ (PH.2 i q u e1 e2) (cX (PH.2 i q u e1 e2) hx (by intro z;cases z))⟩;refine⟨_,rfl,ru,rs,rfl,zh,by omega,λq fp H2 s2 nq hq EF=>?_⟩;have x2:=s2 _ _ x1;have o2:∀b o,H b=some o->b≠x->H2 b=some o:=λb o e n=>s2 _ _ (o1 b o e n)
  have n2:∀b,H2 b=none->H b=none:=λb z=>n1 b (same_none s2 z)
  refine⟨_,rfl,x,_,dx,_,rfl,x2,aU T,T.El,(by show 1<1000;decide),?_⟩;rw[cz2];have Ld:q≠x:=cX hq x2 (by intro z;cases z);obtain⟨x3,o3,k3,n3⟩:=st (gs:=Py r q) x2 o2;generalize upd H2 x (.ins A.az dx (Py r q))=H3 at x3 o3 k3 n3 ⊢;have q3:=k3 _ _ Ld hq;refine⟨ahT _,λg ng=>?_⟩;have s4:=au.upd (o:=.lst []) ng;have g4:upd H3 g (.lst []) g=some (.lst []):=aj;have n4:∀b,upd H3 g (.lst []) b=none->H b=none:=λb z=>n2 b (n3 b (same_none s4 z))
  have Y3:=n2 g (n3 g ng);generalize upd H3 g (.lst [])=H4 at s4 g4 n4 ⊢;refine⟨_,rfl,x,_,dx,_,rfl,s4 _ _ x3,aU T,T.lj,(by show 2<1000;decide),?_⟩;rw[cz3];obtain⟨x5,o5,k5,n5⟩:=st (gs:=Pz r q g) (s4 _ _ x3) (λb o e n=>s4 _ _ (o3 b o e n));generalize upd H4 x (.ins A.az dx (Pz r q g))=H5 at x5 o5 k5 n5 ⊢;have Le:g≠x:=cX g4 (s4 _ _ x3) (by intro z;cases z);have q5:=k5 _ _ Ld (s4 _ _ q3);have g5:=k5 _ _ Le g4;refine⟨ahT _,λe ne=>?_⟩;have s6:=au.upd (o:=.lst []) ne;have e6:upd H5 e (.lst []) e=some (.lst []):=aj;have n6:∀b,upd H5 e (.lst []) b=none->H b=none:=λb z=>n4 b (n5 b (same_none s6 z))
  have Y4:=n4 e (n5 e ne);have Y5:g≠e:=aI g5 ne;generalize upd H5 e (.lst [])=H6 at s6 e6 n6 ⊢;refine⟨_,rfl,x,_,dx,_,rfl,s6 _ _ x5,aU T,T.oM,(by show 3<1000;decide),?_⟩;rw[cz4];obtain⟨x7,o7,k7,n7⟩:=st (gs:=PB r q g e) (s6 _ _ x5) (λb o e n=>s6 _ _ (o5 b o e n));generalize upd H6 x (.ins A.az dx (PB r q g e))=H7 at x7 o7 k7 n7 ⊢;have zx:e≠x:=cX e6 (s6 _ _ x5) (by intro z;cases z);have q7:=k7 _ _ Ld (s6 _ _ q5);have g7:=k7 _ _ Le (s6 _ _ g5);have e7:=k7 _ _ zx e6;refine λw nw=>?_
  have s8:=au.upd (o:=.dK []) nw;have w8:upd H7 w (.dK []) w=some (.dK []):=aj;have n8:∀b,upd H7 w (.dK []) b=none->H b=none:=λb z=>n6 b (n7 b (same_none s8 z))
  have Y6:=n6 w (n7 w nw);generalize upd H7 w (.dK [])=H8 at s8 w8 n8 ⊢;refine⟨_,rfl,x,_,dx,_,rfl,s8 _ _ x7,aU T,T.mC,(by show 4<1000;decide),?_⟩;rw[cz5];obtain⟨x9,o9,k9,n9⟩:=st (gs:=PD r q g e w) (s8 _ _ x7) (λb o e n=>s8 _ _ (o7 b o e n));generalize upd H8 x (.ins A.az dx (PD r q g e w))=H9 at x9 o9 k9 n9 ⊢;have VN:w≠x:=cX w8 (s8 _ _ x7) (by intro z;cases z);have R9:ax A.ak H9 r S a:=hR.keep (λb o hb e=>o9 b o e (λz=>Hg (by rw[←z];exact hb))) (λb xs e=>o9 b _ e (cX e hx (by intro z;cases z)));refine⟨_,rfl,r,_,a.dx,_,_,rfl,R9.ins,aK T,T.vT,wR _ _ _,a.aN,_,rfl,.inl (aM.of R9.hN),_,rfl,x,_,dx,_,rfl,x9,aU T,T.q8,(by show 5<1000;decide),?_⟩;rw[bh,cy,cz6];obtain⟨xa,oa,ka,na⟩:=st (gs:=VG r q g e w S.bE.length) x9 o9;generalize upd H9 x (.ins A.az dx (VG r q g e w S.bE.length))=Ha at xa oa ka na ⊢;have up:∀b o,b≠x->H8 b=some o->Ha b=some o:=λb o n z=>ka b o n (k9 b o n z)
  have cA:cJ A.aF A.az Ha x r ⟨dx,q,g,e,w⟩ [] [] wq S.bE.length fp (λb=>b=x\/b=g\/b=e\/b=w):=by
   refine⟨xa,⟨[],up _ _ Le (s8 _ _ g7),rfl,(λi v z=>by simp at z),(λi v u z=>by simp at z),(λi j p z=>by simp at z)⟩,up _ _ zx (s8 _ _ e7),⟨_,_,kat_nil (up _ _ VN w8),⟨λb hb=>?_,(λ_ _ z=>by cases z),(λ_ _ _ z=>by cases z),(λ_ _ _ z=>by cases z)⟩⟩,Y5,.inl rfl,.inr (.inl rfl),.inr (.inr (.inl rfl)),λb hb=>?_⟩
   ·rcases hb with z|⟨_,z⟩|⟨_,_,z⟩
    ·exact .inr (.inr (.inr z))
    ·cases z
    ·cases z
   ·rcases hb with z|z|z|z
    ·rw[z];exact⟨_,xa,(by intro _ z;cases z),by intro _ z;cases z⟩
    ·rw[z];exact⟨_,up _ _ Le (s8 _ _ g7),(by intro _ z;cases z),by intro _ z;cases z⟩
    ·rw[z];exact⟨_,up _ _ zx (s8 _ _ e7),(by intro _ z;cases z),by intro _ z;cases z⟩
    ·rw[z];exact⟨_,up _ _ VN w8,(by intro _ z;cases z),by intro _ z;cases z⟩
  have qa:=up _ _ Ld (s8 _ _ q7)
  have Oa:∀b,(b=x\/b=g\/b=e\/b=w)->b=x\/H b=none:=λb z=>by
   rcases z with z|z|z|z
   ·exact .inl z
   ·rw[z];exact .inr Y3
   ·rw[z];exact .inr Y4
   ·rw[z];exact .inr Y6
  have Ra:ax A.ak Ha r S a:=hR.keep (λb o hb e=>oa b o e (λz=>Hg (by rw[←z];exact hb))) (λb xs e=>oa b _ e (cX e hx (by intro z;cases z)));have nA:∀b,Ha b=none->H b=none:=λb z=>n8 b (n9 b (na b z))
  obtain⟨O,eO⟩:∃O:Addr->Prop,O=λb=>b=x\/b=g\/b=e\/b=w:=⟨_,rfl⟩
  rw[←eO]at cA;replace Oa:∀b,O b->b=x\/H b=none:=by rw[eO];exact Oa
  clear eO;generalize ec:(⟨dx,q,g,e,w⟩:KA)=c at cA;have qa:Ha c.aQ=some (.dT (kb fp)):=by rw[←ec];exact qa
  clear g7 e7 w8 x9 o9 k9 n9 s8 n8 x7 o7 k7 n7 s6 n6 e6 x5 o5 k5 n5 s4 g4 n4 x3 o3 k3 n3 x1 o1 n1 x2 o2 n2 up ka q7 q5 q3 g5 xa na R9 Y6 Y4 Y3 nw ne ng Y5 zx Le VN hq nq s2 Ld zh;have hfb:∀p∈fp,p.1.length<=1000/\∀z∈p.1,-1000<=z/\z<=1000:=λp hp=>Pq _ (ahF _ (ahf (EF.a p hp)))
  have Ar:=Ar fp EF;refine⟨_,rfl,r,a.dx,_,rfl,Ra.ins,cq _ _ _ (by decide +kernel),r,S,a,rfl,Ra,gd.wf,by omega,λl nl=>?_⟩;have sl:(dM S).length<=S.made:=ahC (aiT _ _) (by rw[aiH];exact ahi _);have stm:∀m∈dM S,m<S.made:=λm hm=>air.mp (ajj.mp hm).1
  have hmf:(dM S).length* fp.length<=S.made* fp.length:=aji _ sl;have sb:=au.upd (o:=.lst (ao (nI (dM S)))) nl;have hl:upd Ha l (.lst (ao (nI (dM S)))) l=some (.lst (ao (nI (dM S)))):=aj;show ∃a_1,_;rw[show (List.range S.made).filter (λc=>decide (S.aB[c]?=some c))=dM S from rfl];have nl0:=nA l nl;have nlO:¬O l:=λz=>by obtain⟨o,e,_⟩:=cA.th l z;rw[nl]at e;cases e
  generalize upd Ha l (.lst (ao (nI (dM S))))=Hb at sb hl ⊢;have cB:=cA.same sb;refine⟨l,rfl,⟨_,aM.of hl⟩,?_⟩
  let fU:Nat->St->Hp->Prop:=λi σ H2=>∃ji eR O2 v4,σ=[some (.ref x),some (.ref r),some (.ref ru),some (.ref pa),v4,none,none]/\(∀b o,¬O b->Hb b=some o->H2 b=some o)/\(∀b,O b->O2 b)/\(∀b,O2 b->O b\/Hb b=none)/\cJ A.aF A.az H2 x r c ji eR wq S.bE.length fp O2/\CI S (eS fp ((dM S).take i)) ji eR wq fL none/\eR.length<=(eS fp ((dM S).take i)).length
  refine iz (K:=K) (a:=l) (xs:=ao (nI (dM S))) fU
   ⟨[],[],O,none,rfl,λ_ _ _ e=>e,λb z=>z,λb z=>.inl z,cB,VH,ahi _⟩ (λi σ H2 _ ⟨_,_,_,_,_,f,_⟩=>aM.of (f _ _ nlO hl)) ?_ ?_
  ·intro i v σ H2 hi bV;refine bI ?_;intro q_;obtain⟨ji,eR,O2,v4,rfl,f2,Vs,xO,c2,wj,PL⟩:=bV;dsimp only[q_];clear q_;dsimp only[eM];refine cM ?_;intro ik;obtain⟨z,rfl,hz⟩:=dN hi
   obtain⟨m,VP,rfl⟩:∃m,(dM S)[i]?=some m/\z=(m:Int):=by
    unfold nI at hz;rw[ahw]at hz
    cases y:(dM S)[i]? with
    |none=>rw[y]at hz;cases hz
    |some m=>rw[y]at hz;exact⟨m,rfl,(Za0 hz).symm⟩
   have tm:=(ahd.mp VP).1;have nQ:¬O c.aQ:=cA.Vj qa;have q2:=f2 _ _ nQ (sb _ _ qa);have ll:=pW fp ((dM S).take i);rw[ah2,aiq (by omega)]at ll;have li:(i+ 1)* fp.length<=(dM S).length* fp.length:=aji _ tm;rw[aki]at li;refine⟨_,rfl,x,c.dx,_,rfl,c2.ins,jh (by decide +kernel),_,rfl,x,r,c,S,_,ji,eR,wq,S.bE.length,fp,O2,m,rfl,c2,q2,wj,hfb,stm m (ahf VP),by omega,PL,λCd wc O3 H3 b3 YT B8 c3 Ab Fh=>?_⟩
   have es:eS fp ((dM S).take (i+ 1))=eS fp ((dM S).take i)++pH fp m:=by
    unfold eS;rw[aje,VP,ajw];show _++(pH fp m++[])=_;rw[ahU]
   rw[←es]at Ab Fh;refine⟨Cd,wc,O3,_,rfl,λb o n e=>b3 b o (λz=>(xO b z).elim n λy=>by rw[y]at e;cases e) (f2 b o n e),λb z=>YT b (Vs b z),λb z=>?_,c3,Ab,Fh⟩;rcases B8 b z with y|y
   ·exact xO b y
   ·by_cases y2:O b
    ·exact .inl y2
    ·refine .inr ?_
     cases e:Hb b with
     |none=>rfl
     |some o=>rw[f2 b o y2 e]at y;cases y
  intro σ H2 bV;refine bI ?_;intro q_;obtain⟨ji,eR,O2,v4,rfl,f2,Vs,xO,c2,wj,PL⟩:=bV;dsimp only[q_];clear q_;rw[bh,cy,aik]at wj PL;have ll:=pW fp (dM S);have VQ:Hb pa=some (.lst (PJ.map V.ref)):=sb _ _ (oa _ _ xP VM);have E6:∀{b o},H b=some o->b≠x->¬O b:=λ{b o} e n z=>(Oa b z).elim n λy=>by rw[y]at e;cases e
  have ab2:=f2 _ _ (E6 xP VM) VQ;have ab3:=f2 _ _ (E6 PF VL) (sb _ _ (oa _ _ PF VL));have lr:(VJ.map V.ref).length=rs.length:=by rw[ahl,PH.1]
  refine⟨_,rfl,_,rfl,ru,_,rfl,.inl (aM.of ab3),pa,((VJ.map V.ref).length:Int),rfl,rfl,by omega,by omega,⟨_,aM.of ab2⟩,?_⟩;rw[lr]
  let yD:Nat->St->Hp->Prop:=λi σ H3=>∃Cd wc O3 v5 v6,σ=[some (.ref x),some (.ref r),some (.ref ru),some (.ref pa),v4,v5,v6]/\(∀b o,¬O b->Hb b=some o->H3 b=some o)/\(∀b,O3 b->O b\/Hb b=none)/\cJ A.aF A.az H3 x r c Cd wc wq S.bE.length fp O3/\CI S (eS fp (dM S)++gP ps rs.length i) Cd wc wq fL none/\wc.length<=(eS fp (dM S)++gP ps rs.length i).length
  refine Ig (K:=K) (a:=pa) (xs:=PJ.map V.ref) yD
   ⟨ji,eR,O2,none,none,rfl,f2,xO,c2,by show CI S (_++[]) _ _ _ _ _;rw[ahU];exact wj,by show _<=(_++[]).length;rw[ahU];exact PL⟩ (λi σ H3 _ ⟨_,_,_,_,_,_,f,_⟩=>aM.of (f _ _ (E6 xP VM) VQ)) ?_ ?_
  ·intro i v σ H3 t hi nt bV;refine bI ?_;intro q_;obtain⟨Cd,wc,O3,v5,v6,rfl,f3,B8,c3,Ab,Fh⟩:=bV;dsimp only[q_];clear q_
   have tm:i<PJ.length:=by
    have:=(ahd.mp hi).1;rw[ahl]at this;exact this
   have hip:i<ps.length:=by rw[←JH.1];exact tm
   obtain⟨wa,g1⟩:=get_some (xs:=PJ) (i:=i) tm;obtain⟨u,g2⟩:=get_some (xs:=ps) (i:=i) hip;rw[ahw,g1]at hi;obtain rfl:V.ref (wa)=v:=Za0 hi;have vX:=JH.2 i wa u g1 g2;have Y7:wa≠x:=cX vX hx (by intro z;cases z);have ab4:=f3 _ _ (E6 vX Y7) (sb _ _ (oa _ _ vX Y7));have s4:=au.upd (o:=.tup [.int ((rs.length:Int)+ (i:Int)),.ref wa]) nt;refine⟨t,_,rfl,bL.of aj,rfl,_,_,rfl,_,_,rfl,rfl,?_⟩;generalize upd H3 t (.tup [.int ((rs.length:Int)+ (i:Int)),.ref wa])=H4 at s4 ⊢;have c4:=c3.same s4;have pl:=wm ps rs.length i;have Y8:=Pq u (ahn _ (ahf g2));refine⟨_,rfl,x,c.dx,_,rfl,c4.ins,jh (by decide +kernel),_,rfl,_,rfl,x,r,wa,c,S,_,Cd,wc,wq,S.bE.length,fp,O3,rs.length+ i,0,u,rfl,c4,Ab,s4 _ _ ab4,Y8.1,Y8.2,Hf,by rw[ahe];omega,Fh,λgs5 Vp O5 H5 b5 Pw Cb c5 Fe Ff=>?_⟩
   have ep:gP ps rs.length (i+ 1)=gP ps rs.length i++nz (rs.length+ i) u 0:=by
    unfold gP;rw[aiy,ajw];show _++(nz (rs.length+ i) (ps.getD i []) 0++[])=_;rw[ahU,ahh,g2];rfl
   rw[aia,←ep]at Fe Ff;refine⟨gs5,Vp,O5,_,_,rfl,λb o n e=>b5 b o (λz=>(B8 b z).elim n λy=>by rw[y]at e;cases e) (s4 _ _ (f3 b o n e)),λb z=>?_,c5,Fe,Ff⟩;rcases Cb b z with y|y
   ·exact B8 b y
   ·by_cases y2:O b
    ·exact .inl y2
    ·refine .inr ?_
     cases e:Hb b with
     |none=>rfl
     |some o=>rw[s4 _ _ (f3 b o y2 e)]at y;cases y
  ·intro σ H3 bV;refine bI ?_;intro q_;obtain⟨Cd,wc,O3,v5,v6,rfl,f3,B8,c3,Ab,Fh⟩:=bV;dsimp only[q_];clear q_;rw[ahl,JH.1]at Ab Fh;refine k c Cd wc fp O3 H3 (λb o e n=>f3 b o (E6 e n) (sb _ _ (oa b o e n))) c3 (f3 _ _ (cA.Vj qa) (sb _ _ qa)) (λb z=>?_) Ab Fh EF;rcases B8 b z with y|y
   ·exact Oa b y
   ·exact .inr (nA b (same_none sb y))
theorem Nq {rs:Za3}{fp:List (List Int×Nat)}(h:AX rs fp):fp.length<=rs.length:=by
 have nd:(fp.map (·.2)).Nodup:=by
  have:=h.n;unfold List.Nodup at this ⊢;rw[ajP]at this ⊢
  exact this.imp_of_mem λ{p q} hp hq n e=>n (by
   have h1:=h.a p hp;have h2:=h.a q hq;rw[e,h2]at h1;exact(Za0 h1).symm)
 have:=pN rs.length _ nd λn hn=>by
  obtain⟨p,hp,rfl⟩:=ah0.mp hn;exact(ahd.mp (h.a p hp)).1
 rw[ahl]at this;exact this
theorem Lf {b:Nat×List Int×Nat}{w m:Nat}{u:List Int}(h:b∈nz w u m):b=(w,u,m)/\u≠[]:=by
 unfold nz at h;split at h
 ·cases h
 ·rename_i q;exact⟨ahg.mp h,q⟩
theorem PN {w m:Nat}{u:List Int}(h:u≠[]):(w,u,m)∈nz w u m:=by
 unfold nz;rw[ahq h];exact ahg.mpr rfl
theorem Rh {fp:List (List Int×Nat)}{st:List Nat}{ps:Za3}{nr:Nat}{b:Nat×List Int×Nat}(h:b∈eS fp st++gP ps nr ps.length):(∃p∈fp,b.1=p.2/\b.2.1=p.1/\b.2.2∈st)\/∃j u,ps[j]?=some u/\b=(nr+ j,u,0):=by
 rcases ahx.mp h with q|q
 ·obtain⟨m,hm,q⟩:=ai1.mp q;obtain⟨p,hp,q⟩:=ai1.mp q;obtain⟨rfl,_⟩:=Lf q;exact .inl ⟨p,hp,rfl,rfl,hm⟩
 ·obtain⟨j,hj,q⟩:=ai1.mp q;obtain⟨rfl,_⟩:=Lf q;have hj:=air.mp hj;exact .inr ⟨j,ps.getD j [],by rw[ahh,ahc hj];rfl,rfl⟩
theorem ends {S:RS}{R:Za2}{bs:List (Nat×List Int×Nat)}{gs:List (Option Gg)}{W:bW}(ci:CI S bs gs [] W fL none)(gd:Good S [] R){b:Nat×List Int×Nat}(hb:b∈bs)(es:S.ay b.2.2=b.2.2):GP S b.2.2 b.2.1:=by
 obtain⟨n,hn⟩:=aih hb;have hl:n<gs.length:=by rw[ci.len];exact(ahd.mp hn).1
 cases q:gs[n]? with
 |none=>rw[ahc hl]at q;cases q
 |some y=>
  cases y with
  |none=>
   rcases ci.de n b q (by intro z;cases z) hn with z|z
   ·exact absurd es z
   ·exact .inl z
  |some g=>
   obtain⟨e,gi,z⟩:=ci.al n g q;rw[hn]at e;obtain rfl:=Za0 e;rcases z with z|z|⟨lt,w1,w2⟩
   ·cases z
   ·cases z
   ·obtain⟨r1,_,e1,_,_,_,_,f1⟩:=ci.en _ _ _ w1;obtain⟨r2,_,e2,_,_,_,_,f2⟩:=ci.en _ _ _ w2;have e1:r1=g.front:=by omega
    have e2:r2=g.bF:=by omega
    subst e1 e2;rcases f1 with ⟨a1,a2⟩|f1
    ·rcases f2 with ⟨b1,b2⟩|f2
     ·have h1:=gi.wf;have h2:=gi.wr;have es:S.ay g.start=g.start:=es;rw[es,a1]at h1;rw[es,b1]at h2;exact .inr ⟨g.first,g.last,g.front,g.bF,g.z1,-g.z2,lt,Gg.zp (by have:=gi.ll;omega),Gg.at2 gi.ll,h1,a2,h2,by rw[aiK];exact b2⟩
     ·exact f2.elim
    ·exact f1.elim
theorem Ri {S S':RS}{R:Za2}{rs ps:Za3}{fp:List (List Int×Nat)}{gs:List (Option Gg)}{W:bW}(hp:AX rs fp)(ci:CI S' (eS fp (dM S)++gP ps rs.length ps.length) gs [] W fL none)(gd:Good S' [] R)(em:S'.made=S.made)(wf:S.Wf)(h0:0<S.made)(st:∀c,c<S.made->S'.ay c=c->S.ay c=c):Mw rs ps S':=by
 refine⟨λw hw c hc ec=>?_,λw hw=>?_⟩
 ·by_cases cF:w=[]
  ·rw[cF];exact .inl rfl
  ·obtain⟨n,hn⟩:=hp.b w hw;rw[em]at hc;have Gj:c∈dM S:=ajj.mpr ⟨air.mpr hc,ahy (by rw[oO (by rw[wf.e];exact hc),st c hc ec])⟩;exact ends (b:=(n,w,c)) ci gd (ahF _ (ai1.mpr ⟨c,Gj,ai1.mpr ⟨(w,n),hn,PN cF⟩⟩)) ec
 ·by_cases cF:w=[]
  ·rw[cF];exact .inl rfl
  ·obtain⟨j,hj⟩:=aih hw;have hl:=(ahd.mp hj).1;have e0:S'.ay 0=0:=by have:=(gd.el 0 (by omega)).1;omega
   refine ends (b:=(rs.length+ j,w,0)) ci gd (ahn _ (ai1.mpr ⟨j,air.mpr hl,?_⟩)) e0;rw[ahh,hj];exact PN cF
inductive A1 (CR CG CC:Addr) (vs:List V) (H:Hp) (Q:VK) (E_:XK):Prop
 |mk (r ru pa:Addr) (S:RS) (a:RA) (R:Za2) (ks:List Int) (B:Nat) (rs ps:Za3) (e9:vs=[.ref r,.ref ru,.ref pa]) (fb:kc CR H r S a R ks B) (fm:0<S.made) (fq:B<800000) (fZ:b0 H ru rs) (hX:b0 H pa ps) (iW:rs.length<=400) (jC:ps.length<=400) (lu:S.made* rs.length+ ps.length<=700) (rV:(∀u∈rs++ps,u.length<=1000/\∀z∈u,(-1000<=z/\z<=1000)/\z∈ks/\-z∈ks)) (sS:∀S' a' R' B' H',(∀b o,¬a.own r b->H b=some o->H' b=some o)->kc CR H' r S' a' R' ks B'->(∀b,a'.own r b->a.own r b\/H b=none)->(∀a z b,R a z b->R' a z b)->S'.made=S.made->S'.L=S.L->Tr (rs++ps) rs.length S S'->Mw rs ps S'->B'<=B+ 700->Q .non H'):A1 CR CG CC vs H Q E_
theorem Nr (T:Txt K mg A):aL P w K mg base bB 9 A.AF A.AG ["rooms","rules","part"] (A1 A.ak A.aF A.az):=by
 have yI:aL P w K mg base bB 8 A.kJ A.kK ["self"] (yF A.ak A.aF A.az):=xm T;have wx:aL P w K mg base bB 5 A.gy A.jx ["self","rooms","rules","part"] (Fg A.ak A.aF A.az):=vb T;refine T.close.F.ok MR (λvs H Q E h=>?_) (λbR AA outer s H vs Q E hr h=>?_)
 ·obtain⟨r,ru,pa,S,a,R,ks,B,rs,ps,rfl,_⟩:=h;rfl
 ·obtain⟨r,ru,pa,S,a,R,ks,B,rs,ps,rfl,hR,Hf,hB,uY,wu,jV,dR,hG,hw,k⟩:=h;refine⟨_,(aq (bH (fP (Ao (uC T) (wx) hr.Za5 rfl T.Ky T.iL.b .nil aO (ae (pv 0) (ae (pv 1) (ae (pv 2) ah)))) (aU T) T.nM.m (yI) hr.Za5 T.nM.b .nil aO))),?_⟩
  try dsimp only[bJ,cx]
  refine⟨_,rfl,_,rfl,_,rfl,λx dx nx Ca uR=>?_⟩;have s0:au H (upd (upd H dx (.own x)) x (.ins A.az dx [])):=(au.upd Ca).trans (au.upd (by rw[av uR.symm];exact nx));have Ce:upd (upd H dx (.own x)) x (.ins A.az dx []) x=some (.ins A.az dx []):=aj;have Hg:¬a.own r x:=λz=>by obtain⟨o,e⟩:=hR.at_.there z;rw[nx]at e;cases e
  have n0:∀b,upd (upd H dx (.own x)) x (.ins A.az dx []) b=none->H b=none:=λb z=>same_none s0 z
  generalize upd (upd H dx (.own x)) x (.ins A.az dx [])=H0 at s0 Ce n0 ⊢;have gd:=hR.g
  have fit:∀fp,AX rs fp->S.made* fp.length+ ps.length<=700:=λfp h=>by
   have:=Nat.mul_le_mul_left S.made (Nq h);omega
  refine⟨x,dx,r,ru,pa,S,a,R,rs,ps,rfl,Ce,hR.at_.same s0,gd,Hf,hR.m,Hg,uY.same s0,wu.same s0,jV,dR,λu hu=>⟨(hw u hu).1,λz hz=>((hw u hu).2 z hz).1⟩,λfp h=>by have:=fit fp h;omega,λc gs ag fp O H1 f1 c1 q1 o1 Y9 al1 hp=>⟨rfl,?_⟩⟩;have hf:=fit fp hp;have sl:(dM S).length<=S.made:=ahC (aiT _ _) (by rw[aiH];exact ahi _);have hmf:(dM S).length* fp.length<=S.made* fp.length:=aji _ sl;have l1:=pW fp (dM S);have l2:=wm ps rs.length ps.length;have BZ:(eS fp (dM S)++gP ps rs.length ps.length).length<=700:=by rw[ahe];omega
  have hlv:live gs<=(eS fp (dM S)++gP ps rs.length ps.length).length:=by rw[←Y9.len];exact List.countP_le_length
  have r1:kc A.ak H1 r S a R ks B:=(hR.same s0).keep (λb o hb e=>f1 b o e (λz=>Hg (by rw[←z];exact hb))) (λb xs e=>f1 b _ e (cX e Ce (by intro z;cases z)))
  have dj:∀b,a.own r b->¬O b:=λb z y=>by
   obtain⟨o,e⟩:=(hR.at_.same s0).there z;rcases o1 b y with w|w
   ·exact Hg (by rw[←w];exact z)
   ·rw[w]at e;cases e
  have ab5:Nn (rs++ps) rs.length ks (eS fp (dM S)++gP ps rs.length ps.length):=by
   have at_:∀b∈eS fp (dM S)++gP ps rs.length ps.length,(rs++ps)[b.1]?=some b.2.1/\(b.1<rs.length\/b.2.2=0):=λb hb=>by
    rcases Rh hb with ⟨p,qO,e1,e2,_⟩|⟨j,u,hj,rfl⟩
    ·have h1:=hp.a p qO;have h2:=(ahd.mp h1).1;rw[e1,e2,aht h2];exact⟨h1,.inl h2⟩
    ·exact⟨by show (rs++ps)[rs.length+ j]?=_;rw[ahs (by omega),Nat.add_sub_cancel_left];exact hj,.inr rfl⟩
   exact⟨λb hb=>(at_ b hb).1,λb hb=>(at_ b hb).2,λb hb=>(hw _ (ahf (at_ b hb).1)).1,λb hb z hz=>((hw _ (ahf (at_ b hb).1)).2 z hz).2,by omega⟩
  generalize Aa:eS fp (dM S)++gP ps rs.length ps.length=bs at *;have hmul:live gs* (2* bs.length+ 1)<=700* 1401:=Nat.mul_le_mul (by omega) (by omega);refine⟨x,c.dx,_,rfl,c1.ins,jh (by decide +kernel),x,r,c,S,a,R,ks,B,rs++ps,rs.length,bs,gs,ag,wq,fp,O,rfl,c1,r1,by omega,dj,Y9,ab5,by omega,λS' a' R' mI W' O' B' H' f' c' r' ow oo dj' ci' rr em eL tr G3=>?_⟩;have lt:=Later.of gd r'.g rr (ajV em.symm);refine k S' a' R' B' H' (λb o n e=>f' b o (λz=>?_) n (f1 b o (s0 _ _ e) (aI e nx))) r' (λb z=>?_) rr em eL tr (Ri (S:=S) hp (by rw[Aa];exact ci') r'.g em gd.wf Hf λc hc ec=>?_) (by omega)
  ·rcases o1 b z with w|w
   ·rw[w,nx]at e;cases e
   ·rw[n0 b w]at e;cases e
  ·rcases ow b z with w|w|w
   ·exact .inl w
   ·rcases o1 b w with y|y
    ·rw[y];exact .inr nx
    ·exact .inr (n0 b y)
   ·refine .inr ?_
    cases e:H b with
    |none=>rfl
    |some o=>rw[f1 b o (s0 _ _ e) (aI e nx)]at w;cases w
  ·have h1:=lt.el c hc;have h2:=(gd.el c hc).1;have h3:=(r'.g.el (S.ay c) (by rw[em];exact gd.lt hc)).1;rw[h1,ec]at h3;omega
theorem Rj {H:Hp}{t:Addr}{w:List Int}{k:Nat}(h:H t=some (.tup (ao w))):bN H (k+ 1) (.ref t) (.t (w.map Dt.i)):=by
 refine .t h (by rw[bh,ahl]) λj v d e1 e2=>?_
 obtain⟨z,rfl,hz⟩:=dN e1;rw[ahw,hz]at e2;rw[←Za0 e2];exact .i
theorem uL {H:Hp}{a:Addr}{ws:Za3}(h:b0 H a ws):bN H 4 (.ref a) (.l (ws.map λw=>Dt.t (w.map Dt.i))):=by
 obtain⟨ps,h1,h2⟩:=h;refine .l h1 (by rw[ahl,ahl,h2.1]) λj v d e1 e2=>?_
 rw[ahw]at e1 e2
 cases q1:ps[j]? with
 |none=>rw[q1]at e1;cases e1
 |some p=>
  cases q2:ws[j]? with
  |none=>rw[q2]at e2;cases e2
  |some w=>
   rw[q1]at e1;rw[q2]at e2;rw[←Za0 e1,←Za0 e2];exact Rj (h2.2 j p w q1 q2)
theorem words_of {H:Hp}{P:List Int->Prop}:∀{ps:List Addr},(∀(i:Nat) (p:Addr),ps[i]?=some p->∃w,H p=some (.tup (ao w))/\P w)->∃ws,dZ H ps ws/\∀w∈ws,P w
 |[],_=>⟨[],⟨rfl,(λi p w e=>by simp at e)⟩,(λw hw=>by cases hw)⟩
 |p::ps,h=>by
  obtain⟨ws,h1,h2⟩:=words_of (ps:=ps) λi q e=>h (i+ 1) q (by simpa using e)
  obtain⟨w,e1,e2⟩:=h 0 p rfl;refine⟨w::ws,⟨by rw[ahE,ahE,h1.1],λi q u e3 e4=>?_⟩,λu hu=>?_⟩
  ·cases i with
   |zero=>cases e3;cases e4;exact e1
   |succ i=>exact h1.2 i q u (by simpa using e3) (by simpa using e4)
  ·rcases ahp.mp hu with rfl|hu
   ·exact e2
   ·exact h2 u hu
inductive Fi (K:Za1) (vs:List V) (H:Hp) (Q:VK) (E_:XK):Prop
 |mk (a:Addr) (ns:List Int) (k:Nat) (e9:vs=[.ref a,.int k]) (fb:aM K H a (ao ns)) (fm:k<=1000) (fq:∀z,Q (.int z) H):Fi K vs H Q E_
def tW:Sp:=λvs H Q _=>∃n:Int,vs=[.int n]/\Q (.bl true) H
def wy:Sp:=λvs H Q _=>∃(z:Int) (L:Nat),vs=[.int z,.int L]/\1<=L/\L<=200/\∀s:Int,s≠0->s.natAbs<=L->Q (.int s) H
theorem Ad (T:Txt K mg A):aL P w K mg base bB 1 A.nh A.ni ["_law_script","_law_k"] (Fi K):=by
 refine T._law_cell_at.F.ok zC (λvs H Q E h=>?_) (λbR AA outer s H vs Q E hr h=>?_)
 ·obtain⟨a,ns,n,rfl,_⟩:=h;rfl
 ·obtain⟨a,ns,n,rfl,ha,hn,k⟩:=h
  refine⟨_,(ai (bP (aZ lF (pv 1) (bq bA rfl T.cQ ahJ (ae (pv 0) ah)) (bj _))
   (aq (bz (aS ck (pv 0) (pv 1) (λ_ _=>rfl))))
   bC)
   (aq (bz aw))),?_⟩
  try dsimp only[bJ,cx]
  refine ug ?_;intro fD;refine⟨_,rfl,_,rfl,a,_,rfl,.inl ha,_,_,rfl,rfl,_,rfl,?_⟩;refine cS (λh=>?_) (λh=>?_)
  ·have h':(n:Int)<((ao ns).length:Int):=ahB h;rw[bh]at h';have e0:ns[n]?=some ns[n]:=ahc (by omega)
   exact⟨_,rfl,_,rfl,a,_,_,_,rfl,rfl,ha,cf (bZ e0),k _⟩
  ·exact k _
theorem kr (T:Txt K mg A):aL P w K mg base bB 1 A.gX A.gY ["_law_found"] tW:=by
 refine T._law_whole.F.ok Cy (λvs H Q E h=>?_) (λbR AA outer s H vs Q E hr h=>?_)
 ·obtain⟨n,rfl,_⟩:=h;rfl
 ·obtain⟨n,rfl,k⟩:=h;refine⟨_,(aq (bz (yN (bq eT rfl T.cO ahN (ae (pv 0) (ae (fO (v:=.ty "int") rfl T.Xu PyProof.Rows.boot_int rfl) ah))) (C4 (R0 (bq eT rfl T.cO ahN (ae (pv 0) (ae (fO (v:=.ty "bool") rfl T.Ux PyProof.Rows.boot_bool rfl) ah)))))))),?_⟩
  try dsimp only[bJ,cx]
  refine⟨_,rfl,_,_,_,_,rfl,.int n,mU K "int",_,rfl,fQ ?_⟩;exact⟨_,rfl,_,_,_,_,rfl,.int n,Ds K,_,rfl,k⟩
theorem rE (T:Txt K mg A):aL P w K mg base bB 1 A.j2 A.j3 ["_law_number","_law_letters"] wy:=by
 refine T._law_step.F.ok Eo (λvs H Q E h=>?_) (λbR AA outer s H vs Q E hr h=>?_)
 ·obtain⟨z,L,rfl,_⟩:=h;rfl
 ·obtain⟨z,L,rfl,j7,zH,k⟩:=h
  refine⟨_,(ai (bP (aZ fF (bD dy (pv 0) aw) aw (bj _))
   (aq (bz (fW eP (bD dG aw (bD dy (bD iY (pv 0) aw) (pv 1))))))
   bC)
   (aq (bz (bD dG aw (bD dy (bD iY (pv 0) aw) (pv 1)))))),?_⟩
  try dsimp only[bJ,cx]
  refine ug ?_;intro fD;have hm:∀y:Int,0<=y % (L:Int)/\y % (L:Int)<L:=λy=>⟨aj5 _ (by omega),ajC _ (by omega)⟩
  have h1:=hm (z / 2);refine⟨_,rfl,_,_,rfl,rfl,(by show (0:Int)<2;decide),rfl,_,rfl,cS (λh=>?_) (λh=>?_)⟩
  ·refine⟨_,rfl,_,_,rfl,rfl,⟨by decide,by decide⟩,_,rfl,_,_,rfl,rfl,(by show (0:Int)<(L:Int);omega),_,_,rfl,rfl,_,rfl,k _ ?_ ?_⟩ <;> omega
  ·refine⟨_,rfl,_,_,rfl,rfl,⟨by decide,by decide⟩,_,rfl,_,_,rfl,rfl,(by show (0:Int)<(L:Int);omega),_,_,rfl,rfl,k _ ?_ ?_⟩ <;> omega
def Lg:Sp:=λvs H Q _=>∃(z:Int) (L:Nat),vs=[.int z,.int L]/\1<=L/\L<=200/\∀l w H',au H H'->H' l=some (.tup (ao w))->w.length<=6->(∀s∈w,s≠0/\s.natAbs<=L)->Q (.ref l) H'
theorem Fj (T:Txt K mg A):aL P w K mg base bB 2 A.sI A.sJ ["_law_number","_law_letters"] Lg:=by
 have i6:aL P w K mg base bB 1 A.j2 A.j3 ["_law_number","_law_letters"] wy:=rE T;refine T._law_word.F.ok jB (λvs H Q E h=>?_) (λbR AA outer s H vs Q E hr h=>?_)
 ·obtain⟨z,L,rfl,_⟩:=h;rfl
 ·obtain⟨z,L,rfl,j7,zH,k⟩:=h
  refine⟨_,(ai (aY (i:=2) jB.nd rfl (Or.inl rfl) (bS ah))
   (ai (dw ahK rfl (gu rfl T.hJ (ae (bD dy (pv 0) aw) ah)) (bQ (i:=3) jB.nd rfl (Or.inl rfl))
    (ai (aY (i:=0) jB.nd rfl (Or.inl rfl) (bD dy (bD qm (pv 0) aw) aw))
    (aq (aY (i:=2) jB.nd rfl (Or.inl rfl) (bD L8 (pv 2) (bS (ae (bx (i6) hr.Za5 rfl T._law_step.m T._law_step.F.kp T._law_step.b .nil aO (ae (bD iY (pv 0) aw) (ae (pv 1) ah))) ah)))))))
   (aq (bz (pv 2))))),?_⟩
  try dsimp only[bJ,cx]
  refine gE ?_;intro gB fD;have z1:=aj5 z (show (7:Int)≠0 by decide);have z2:=ajC z (show (0:Int)<7 by decide);refine⟨ahT _,λt nt=>?_⟩;have s1:=au.upd (o:=.tup []) nt;have q1:upd H t (.tup []) t=some (.tup (ao [])):=aj;generalize upd H t (.tup [])=H1 at s1 q1 ⊢;refine⟨_,rfl,_,_,rfl,rfl,(by show (0:Int)<7;decide),z % 7,rfl,by omega,by omega,?_⟩
  let fU:Nat->St->Hp->Prop:=λi σ H2=>∃(y:Int) (t:Addr) (w:List Int) (v3:Option V),σ=[some (.int y),some (.int L),some (.ref t),v3]/\au H H2/\H2 t=some (.tup (ao w))/\w.length=i/\∀s∈w,s≠0/\s.natAbs<=L
  refine oz (lo:=0) (n:=(z % 7).toNat) fU
   ⟨z,t,[],none,rfl,s1,q1,rfl,(λs hs=>by cases hs)⟩ ?_ ?_
  ·intro i σ H2 hi bV;refine bI ?_;intro q_;obtain⟨y,t,w,v3,rfl,s2,q2,hl,hw⟩:=bV;dsimp only[q_];clear q_;dsimp only[eM];refine ye ?_;intro ik GR;refine⟨_,rfl,_,_,rfl,rfl,.inr ⟨by decide,by decide⟩,_,_,rfl,rfl,(by show (0:Int)<2147483647;decide),?_⟩;refine⟨_,rfl,_,rfl,_,_,rfl,rfl,⟨by decide,by decide⟩,_,rfl,_,L,rfl,j7,zH,λs h1 h2=>⟨(Za4 1),λu nu=>?_⟩⟩;refine⟨t,u,_,_,rfl,rfl,au.upd nu _ _ q2,aj,?_,λp H3 s3 e3=>?_⟩
   ·rw[bh];exact ahC (show w.length+ 1<=100 by omega) (by decide)
   refine⟨_,p,w++[s],_,rfl,s2.trans ((au.upd nu).trans s3),by rw[ints_app];exact e3,by rw[ahe,hl];rfl,λx hx=>?_⟩;rcases ahx.mp hx with q|q
   ·exact hw x q
   ·rw[ahg.mp q];exact⟨h1,h2⟩
  ·intro σ H2 bV;refine bI ?_;intro q_;obtain⟨y,t,w,v3,rfl,s2,q2,hl,hw⟩:=bV;dsimp only[q_];clear q_;exact⟨_,rfl,k t w H2 s2 q2 (by omega) hw⟩
theorem Rk {C:Addr}{H H1:Hp}{x dx:Addr}{S:RS}{a:RA}(nx:H x=none)(Ca:H dx=none)(uR:dx≠x)(k:∀b o,upd (upd H dx (.own x)) x (.ins C dx []) b=some o->b≠x->H1 b=some o)(ho:∀b,a.own x b->b=x\/upd (upd H dx (.own x)) x (.ins C dx []) b=none):au H H1/\∀b,a.own x b->H b=none:=by
 have s0:au H (upd (upd H dx (.own x)) x (.ins C dx [])):=(au.upd Ca).trans (au.upd (by rw[av uR.symm];exact nx));exact⟨λb o e=>k b o (s0 _ _ e) (aI e nx),λb z=>(ho b z).elim (λe=>by rw[e];exact nx) (same_none s0)⟩
theorem Hh {R:Za2}{L c d:Nat}{z:Int}(k:∀a z b,R a z b->z∈cV (2* L))(h1:z≠0)(h2:z.natAbs<=L):∀a y b,et R c z d a y b->y∈cV (2* L):=by
 rintro a y b (q|⟨_,e,_⟩|⟨_,e,_⟩)
 ·exact k _ _ _ q
 ·rw[e];exact tS.mpr ⟨h1,h2⟩
 ·rw[e];exact tS.mpr ⟨by omega,by rw[Int.natAbs_neg];exact h2⟩
theorem PQ (z:Int){n:Nat}(h:0<n):∃m:Nat,z % (n:Int)=(m:Int)/\m<n:=by
 have b1:=aj5 z (show (n:Int)≠0 by omega);have b2:=ajC z (show (0:Int)<(n:Int) by omega);exact⟨(z % (n:Int)).toNat,by omega,by omega⟩
def eG (c:Nat)(z:Int):List Key:=[Sum.inl (c:Int),Sum.inl z]
def k3 (a:Nat)(z:Int)(b:Nat):List Key:=[Sum.inl (a:Int),Sum.inl z,Sum.inl (b:Int)]
theorem Fl {c c':Nat}{z z':Int}:eG c z=eG c' z'↔c=c'/\z=z':=by
 unfold eG;constructor
 ·intro h;injection h with h1 h2
  injection h2 with h2 _
  exact⟨by have:=Sum.inl.inj h1;omega,Sum.inl.inj h2⟩
 ·rintro ⟨rfl,rfl⟩;rfl
theorem mK {a a' b b':Nat}{z z':Int}:k3 a z b=k3 a' z' b'↔a=a'/\z=z'/\b=b':=by
 unfold k3;constructor
 ·intro h;injection h with h1 h2
  injection h2 with h2 h3
  injection h3 with h3 _
  exact⟨by have:=Sum.inl.inj h1;omega,Sum.inl.inj h2,by have:=Sum.inl.inj h3;omega⟩
 ·rintro ⟨rfl,rfl,rfl⟩;rfl
structure WD (kvs:List (List Key×V)) (W:Za2):Prop where
 k:∀p∈kvs,∃a z b,p.1=k3 a z b/\W a z b
 v:∀a z b,W a z b->(bM kvs (k3 a z b)).isSome=true
 n:(kvs.map (·.1)).Nodup
theorem wZ {kvs:List (List Key×V)}{k:List Key}{v:V}(h:bM kvs k=some v):∃p∈kvs,p.1=k:=by
 unfold bM at h;obtain⟨q,hq,rfl⟩:=aim.mp h;have h1:=List.find?_some hq;exact⟨q,ajg hq,by simpa using h1⟩
theorem WD.iff {kvs:List (List Key×V)}{W:Za2}(h:WD kvs W)(a:Nat)(z:Int)(b:Nat):(bM kvs (k3 a z b)).isSome=true↔W a z b:=by
 constructor
 ·intro e;obtain⟨v,hv⟩:=aio.mp e;obtain⟨p,hp,ep⟩:=wZ hv;obtain⟨a',z',b',e1,w⟩:=h.k p hp;obtain⟨rfl,rfl,rfl⟩:=mK.mp (ep.symm.trans e1);exact w
 ·exact h.v a z b
theorem ui {kvs:List (List Key×V)}{k:List Key}{v:V}(hn:(kvs.map (·.1)).Nodup):((putK kvs k v).map (·.1)).Nodup/\∀p∈putK kvs k v,p.1=k\/∃q∈kvs,q.1=p.1:=by
 unfold putK;split
 ·refine⟨?_,λp hp=>?_⟩
  ·rw[aiv]
   have:((λx:List Key×V=>x.1) ∘ λkv:List Key×V=>if kv.1=k then (kv.1,v) else kv)=λx=>x.1:=by
    funext p
    show (if p.1=k then (p.1,v) else p).1=p.1;split <;> rfl
   rw[this];exact hn
  ·obtain⟨q,hq,rfl⟩:=ah0.mp hp;split <;> exact .inr ⟨q,hq,rfl⟩
 ·rename_i hk;refine⟨?_,λp hp=>?_⟩
  ·rw[ahO];refine ah9.mpr ⟨hn,by simp,λa ha b hb e=>hk ?_⟩;obtain⟨q,hq,rfl⟩:=ah0.mp ha;have:b=k:=by simpa using hb
   exact akg.mpr ⟨q,hq,ahy (e.trans this)⟩
  ·rcases ahx.mp hp with h|h
   ·exact .inr ⟨p,h,rfl⟩
   ·rw[ahg.mp h];exact .inl rfl
theorem WD.put {kvs:List (List Key×V)}{W:Za2}(h:WD kvs W)(a:Nat)(z:Int)(b:Nat)(v:V):WD (putK kvs (k3 a z b) v) (λx s y=>W x s y\/(x=a/\s=z/\y=b)):=by
 obtain⟨h1,h2⟩:=ui (k:=k3 a z b) (v:=v) h.n;refine⟨λp hp=>?_,λx s y hw=>?_,h1⟩
 ·rcases h2 p hp with e|⟨q,hq,e⟩
  ·exact⟨a,z,b,e,.inr ⟨rfl,rfl,rfl⟩⟩
  ·obtain⟨a',z',b',e1,w⟩:=h.k q hq;exact⟨a',z',b',by rw[←e,e1],.inl w⟩
 ·rw[qv];split
  ·rfl
  ·rename_i cF;rcases hw with hw|⟨rfl,rfl,rfl⟩
   ·exact h.v x s y hw
   ·exact absurd rfl cF
theorem WD.congr {kvs:List (List Key×V)}{W W':Za2}(h:WD kvs W)(e:∀a z b,W a z b↔W' a z b):WD kvs W':=
 ⟨λp hp=>by obtain⟨a,z,b,e1,w⟩:=h.k p hp;exact⟨a,z,b,e1,(e a z b).mp w⟩,λa z b w=>h.v a z b ((e a z b).mpr w),h.n⟩
inductive wz (vs:List V) (H:Hp) (Q:VK) (E_:XK):Prop
 |mk (a x y:Nat) (e9:vs=[.int a,.int x,.int y]) (fb:Q (.int ((if a=y then x else a:Nat):Int)) H):wz vs H Q E_
theorem Rl (m n:Nat):decide (V.int (m:Int)=V.int (n:Int))=decide (m=n):=by
 rw[ah4,ahQ,ahQ];exact⟨λh=>by injection h with h;omega,λh=>by rw[h]⟩
theorem Ae (T:Txt K mg A):aL P w K mg base bB 1 A.nj A.ny ["_law_room","_law_less","_law_more"] wz:=by
 refine T._law_renamed.F.ok zD (λvs H Q E h=>?_) (λbR AA outer s H vs Q E hr h=>?_)
 ·obtain⟨a,x,y,rfl,_⟩:=h;rfl
 ·obtain⟨a,x,y,rfl,k⟩:=h
  refine⟨_,(ai (bP (aZ fF (pv 0) (pv 2) (bj _))
   (aq (bz (pv 1)))
   bC)
   (aq (bz (pv 0)))),?_⟩
  try dsimp only[bJ,cx]
  refine ug ?_;intro fD;refine⟨_,rfl,_,rfl,rfl,_,rfl,?_⟩;rw[Rl];by_cases h:a=y
  ·rw[ahu h]at k;rw[ahy h];exact fQ ⟨_,rfl,k⟩
  ·rw[ahq h]at k;rw[ah1 h];exact b8 ⟨_,rfl,k⟩
theorem pX {α:Type} [DecidableEq α]:∀(k l:List α),l.Nodup->(∀x∈l,x∈k)->l.length<=k.length
 |[],[],_,_=>ahi _
 |[],a::l,_,h=>by have:=h a ahv;cases this
 |y::k,l,hn,h=>by
  by_cases hm:y∈l
  ·have:=pX k (l.erase y) (hn.erase y) (λx hx=>by
    have h1:=(hn.mem_erase_iff).mp hx;rcases ahp.mp (h x h1.2) with e|e
    ·exact absurd e h1.1
    ·exact e)
   rw[ajr hm]at this;have:1<=l.length:=aj8 hm;rw[ahE];omega
  ·have:=pX k l hn (λx hx=>by
    rcases ahp.mp (h x hx) with e|e
    ·exact absurd (e ▸ hx) hm
    ·exact e)
   rw[ahE];omega
def cW (S:RS)(zs:List Int)(c:Nat):List (List Key):=zs.filterMap λz=>(S.by c z).map λd=>k3 c z d
theorem mL {S:RS}{zs:List Int}{c:Nat}{k:List Key}:k∈cW S zs c↔∃z∈zs,∃d,S.by c z=some d/\k=k3 c z d:=by
 unfold cW;rw[List.mem_filterMap];constructor
 ·rintro ⟨z,hz,e⟩;obtain⟨d,h1,h2⟩:=aim.mp e;exact⟨z,hz,d,h1,h2.symm⟩
 ·rintro ⟨z,hz,d,h1,h2⟩;exact⟨z,hz,by rw[h1,h2];rfl⟩
theorem Ci {S:RS}{c:Nat}:∀{zs:List Int},zs.Nodup->(cW S zs c).Nodup
 |[],_=>ais
 |z::zs,h=>by
  obtain⟨h1,h2⟩:=ahX.mp h;have ih:=Ci (S:=S) (c:=c) h2;unfold cW at ih ⊢
  cases e:S.by c z with
  |none=>rw[List.filterMap_cons_none (by rw[e];rfl)];exact ih
  |some d=>
   rw[List.filterMap_cons_some (b:=k3 c z d) (by rw[e];rfl)];refine ahX.mpr ⟨λq=>?_,ih⟩;obtain⟨z',Uk,d',_,e2⟩:=mL.mp q;have:=(mK.mp e2).2.1;rw[this]at h1;exact h1 Uk
theorem IV {S:RS}{zs:List Int}{st:List Nat}{kvs:List (List Key×V)}(hW:WD kvs (λa z b=>S.by a z=some b))(hz:zs.Nodup)(hs:st.Nodup)(BO:∀a z b,S.by a z=some b->a∈st/\z∈zs):(st.flatMap (cW S zs)).length=kvs.length:=by
 have nd:(st.flatMap (cW S zs)).Nodup:=by
  refine List.pairwise_flatMap.mpr ⟨λa _=>Ci hz,List.Pairwise.imp ?_ hs⟩;intro a b jn x hx y hy e;obtain⟨z,_,d,_,e1⟩:=mL.mp hx;obtain⟨z',_,d',_,e2⟩:=mL.mp hy;rw[e,e2]at e1;exact jn ((mK.mp e1).1).symm
 have l1:=pX (kvs.map (·.1)) _ nd (λk hk=>by
  obtain⟨c,hc,hk⟩:=ai1.mp hk;obtain⟨z,_,d,e1,rfl⟩:=mL.mp hk;obtain⟨v,hv⟩:=aio.mp (hW.v _ _ _ e1);obtain⟨p,hp,ep⟩:=wZ hv;exact ah0.mpr ⟨p,hp,ep⟩)
 have l2:(kvs.map (·.1)).length<=(st.flatMap (cW S zs)).length:=pX _ (kvs.map (·.1)) hW.n (λk hk=>by
  obtain⟨p,hp,rfl⟩:=ah0.mp hk;obtain⟨a,z,b,e1,e2⟩:=hW.k p hp;obtain⟨q1,q2⟩:=BO a z b e2;exact ai1.mpr ⟨a,q1,mL.mpr ⟨z,q2,b,e2,e1⟩⟩)
 rw[ahl]at l1 l2;omega
def du (S:RS):List Nat:=(List.range S.made).filter λc=>decide (S.aB[c]?=some c)
theorem Lh {S:RS}{zs:List Int}{st:List Nat}{i c:Nat}(h:st[i]?=some c):((st.take (i+ 1)).flatMap (cW S zs)).length=((st.take i).flatMap (cW S zs)).length+ (cW S zs c).length:=by
 rw[aje,h,ajw,ahe];show _+ ((cW S zs c)++[]).length=_;rw[ahU]
theorem IW (S:RS)(c:Nat)(zs Za:List Int):cW S (zs++Za) c=cW S zs c++cW S Za c:=by unfold cW;rw[List.filterMap_append]
theorem Fm {H:Hp}{S:RS}{tt:TT}{te:TE}{fv:St}{Q:VK}(hw:S.Wf)(hm:S.made<=1000)(ht:∀(i q:Nat) (Rr:Bool->Hp->Prop),S.aB[i]?=some q->Rr (decide (V.int (q:Int)=V.int (0+ (i:Int)))) H->tt (some (.int (0+ (i:Int)))::fv) H Rr)
 (he:∀(i:Nat) (Rr:VK),Rr (.int (0+ (i:Int))) H->te (some (.int (0+ (i:Int)))::fv) H Rr) (k:∀D,H D=none->Q (.ref D) (upd H D (.lst (ao (nI (du S)))))):yb tt te fv Q (Bd 0 S.made) H:=by
 refine⟨λi m ys H2=>m=S.made - i/\i<=S.made/\ys=ao (nI ((List.range i).filter λc=>decide (S.aB[c]?=some c)))/\H2=H,⟨S.made,by simp,ahT _,rfl,rfl⟩,?_⟩;rintro i m ys H2 ⟨rfl,hi,rfl,rfl⟩
 have hlen:(ao (nI ((List.range i).filter λc=>decide (S.aB[c]?=some c)))).length<=i:=by
  rw[bh,cy];exact ahC (aiT _ _) (by rw[aiH];exact ahi _)
 by_cases bU:i<S.made
 ·refine .inr ⟨bU,?_,λx H3 jm=>?_⟩
  ·exact ahr (ahC hlen (show i<=100000 by omega)) (by decide)
  obtain⟨rfl,rfl⟩:=jm;obtain⟨q,hE⟩:=get_some (xs:=S.aB) (i:=i) (by rw[hw.e];exact bU);refine ht i q _ hE ?_;by_cases lM:q=i
  ·subst lM;rw[show decide (V.int (q:Int)=V.int (0+ (q:Int)))=true from ahy (by rw[ajd])];refine he q _ ⟨S.made - (q+ 1),by omega,rfl,bU,?_,rfl⟩;rw[aiy,aj4,ajv (by rw[hE];exact ahy rfl),aj2,jo,ints_app,ajd];rfl
  ·rw[show decide (V.int (q:Int)=V.int (0+ (i:Int)))=false from ah1 (λz=>lM (by injection z with z;omega))];refine⟨S.made - (i+ 1),by omega,rfl,bU,?_,rfl⟩;rw[aiy,aj4,aju (by rw[hE];intro z;exact lM (Za0 (ahB z))),aj2,ahU]
 ·have e:i=S.made:=by omega
  subst e;exact .inl ⟨ahi _,ahC hlen (ahC (show S.made<=100000 by omega) (by decide)),λD hD=>k D hD⟩
theorem qb {S:RS}(hw:S.Wf){c:Nat}:c∈du S↔c<S.made/\S.ay c=c:=by
 unfold du;rw[ajj,air,ahQ];constructor
 ·rintro ⟨h1,h2⟩;rw[oO (by rw[hw.e];exact h1)]at h2;exact⟨h1,Za0 h2⟩
 ·rintro ⟨h1,h2⟩;exact⟨h1,by rw[oO (by rw[hw.e];exact h1),h2]⟩
theorem VR (xs:List V)(n:Nat):i7 xs none (some (n:Int))=xs.take n:=by
 unfold i7;rw[HT.Dg,HT.wH,List.drop_zero,Nat.sub_zero];rcases ajL n xs.length with q|q
 ·rw[aiq q]
 ·rw[ai0 q,aik,aiP q]
theorem Nt (xs:List V)(n:Nat)(h:n<=xs.length):i7 xs (some (n:Int)) none=xs.drop n:=by
 unfold i7;rw[HT.Dg,HT.wH,aiq h];exact aiP (by rw[aiA];exact ahi _)
theorem Li {α:Type}{P:Addr->α->Prop}{ps:List Addr}{xs ys:List α}(h:Each P ps (xs++ys)):Each P (ps.take xs.length) xs:=by
 refine⟨by rw[ah2,h.1,ahe];omega,λi p x h1 h2=>?_⟩;have hi:=(ahd.mp h2).1;rw[ajl hi]at h1;exact h.2 i p x h1 (by rw[aht hi];exact h2)
theorem Lj {H:Hp}{t:Addr}{ps:List Addr}{rows:List Dt}(ht:H t=some (.lst (ps.map V.ref)))(h:Each (λp d=>bN H 4 (.ref p) d) ps rows):bN H 8 (.ref t) (.l rows):=by
 refine .l ht (by rw[ahl];exact h.1) λj v d e1 e2=>?_
 rw[ahw]at e1
 cases hp:ps[j]? with
 |none=>rw[hp]at e1;cases e1
 |some p=>
  rw[hp]at e1;rw[←Za0 e1];exact(h.2 j p d hp e2).le (by decide)
theorem PR {H:Hp}{p:Addr}{c u v:Nat}{z:Int}(h:bN H 4 (.ref p) (gU c z u v)):H p=some (.tup [.str (tx [109,101,101,116]),.int c,.int z,.int u,.int v]):=by
 cases h with
 | @t _ _ vs _ h1 h2 h3=>
   have hl:vs.length=5:=h2
   match vs,hl with
   |[v0,v1,v2,v3,v4],_=>
    have q0:=h3 0 v0 _ rfl rfl;have q1:=h3 1 v1 _ rfl rfl;have q2:=h3 2 v2 _ rfl rfl;have q3:=h3 3 v3 _ rfl rfl;have q4:=h3 4 v4 _ rfl rfl;cases q0;cases q1;cases q2;cases q3;cases q4;exact h1
theorem Af {S:RS}{R:Za2}(g:Good S [] R)(a:Nat)(z:Int)(b:Nat):S.by a z=some b↔qN R S.aB a z b:=g.zl
theorem IX {S:RS}{c:Nat}{z:Int}{g:List Int}(hw:S.Wf):(S.make c z g).stand=S.stand+ 1:=by
 unfold RS.stand;show (List.range (S.made+ 1)).countP _=_;rw[aiy,List.countP_append,List.countP_singleton]
 have e1:(S.make c z g).ay S.made=S.made:=by
  show (S.grown c z g).ay S.made=S.made;rw[lb hw,ahu rfl]
 rw[show decide ((S.make c z g).ay S.made=S.made)=true from ahy e1,ahu rfl]
 congr 1
 refine List.countP_congr λa ha=>?_
 have:(S.make c z g).ay a=S.ay a:=by
  show (S.grown c z g).ay a=S.ay a;rw[lb hw,ahq (by have:=air.mp ha;omega)]
 rw[this]
theorem Nu {S:RS}{c c':Nat}{z z':Int}{g:List Int}(hw:S.Wf)(hc:c<S.made):(S.make c z g).by c' z'=if c'=S.made/\z'= -z then some c else if c'=c/\z'=z then some S.made else S.by c' z':=by
 unfold RS.make RS.keep;have l1:(S.grown c z g).ways.length=S.made+ 1:=by show (S.ways++[[]]).length=_;rw[ahe,hw.w];rfl
 have bg:∀a s,(S.grown c z g).by a s=S.by a s:=λa s=>by unfold RS.by;rw[vI hw]
 show (((S.grown c z g).dz c z S.made).dz S.made (-z) c).by c' z'=_;rw[rP (by show ((S.grown c z g).ways.set c _).length > _;rw[ahG,l1];omega),rP (by rw[l1];omega),bg]
theorem Lk {S:RS}(h:jK S)(wf:S.Wf)(c:Nat)(z:Int)(ks:List Int):jK (S.make c z ks):=by
 have e:∀b,(S.make c z ks).ay b=if b=S.made then S.made else S.ay b:=λb=>lb wf c z ks b
 refine⟨λb hb cF=>?_,λb hb=>?_,λb hb=>?_⟩
 ·have hb:b<S.made+ 1:=hb;rw[e]at cF;by_cases q:b=S.made
  ·rw[ahu q,q]at cF;exact absurd rfl cF
  ·rw[ahq q]at cF;exact h.a b (by omega) cF
 ·have hb:b∈S.bE:=hb;have:=h.c b hb;rw[e,ahq (by omega)];exact h.b b hb
 ·have hb:b∈S.bE:=hb;have:=h.c b hb;show b<S.made+ 1;omega
theorem VS {S S':RS}{pend:List Way}{R:Za2}{ks:List Int}(l:si S pend S'):Good S pend R->(∀c z d,R c z d->z∈ks)->Good S' [] R/\S'.bE.length+ S'.stand<=S.bE.length+ S.stand:=by
 induction l with
 |nil S=>exact λg _=>⟨g,ahi _⟩
 |take _ ih=>
  intro g hk;obtain⟨a1,a2,a3,a4,a5⟩:=g.take hk;obtain⟨g2,e2⟩:=ih a1 hk;refine⟨g2,ahC e2 ?_⟩;rcases a5 with ⟨q1,q2,q3⟩|⟨q1,c,z,x,y,_,_,_,_,_,q2,q3,_⟩
  ·rw[q1,q3];exact ahi _
  ·rw[q3,ahe];have:([max x y]:List Nat).length=1:=rfl;omega
theorem XC {ws:Za3}{nr:Nat}{S S':RS}{R:Za2}{ks:List Int}(t:Tr ws nr S S')(hw:∀w∈ws,∀z∈w,z∈ks/\-z∈ks):Good S [] R->(∀a z b,R a z b->z∈ks)->∃R',Good S' [] R'/\(∀a z b,R' a z b->z∈ks)/\S'.bE.length+ S'.stand<=S.bE.length+ S.stand:=by
 induction t with
 |refl=>exact λg k=>⟨R,g,k,ahi _⟩
 |step _ ra la ih=>
  rename_i S1 S2 which word start m c d z _;intro g k;obtain⟨R1,g1,k1,e1⟩:=ih g k;have hz:=hw word (ahf ra.w) z (ahf ra.hz)
  have pK:∀a y b,et R1 c z d a y b->y∈ks:=by
   rintro a y b (r|⟨_,e,_⟩|⟨_,e,_⟩)
   ·exact k1 _ _ _ r
   ·rw[e];exact hz.1
   ·rw[e];exact hz.2
  obtain⟨g2,e2⟩:=VS la (g1.lay z ra.hc.1 ra.hd.1 _) pK;exact⟨_,g2,pK,ahC e2 e1⟩
theorem F1 (T:Txt K mg A):aL P w K mg base bB 1 A.ux A.uy ["_law_letters","_law_ways","_law_elders","_law_row"] (λ_ _ _ _=>False):=⟨λ_ _ _ _ h=>h.elim,λ_ _ _ _ _ _ _ _ _ _ _ _ _ h=>h.elim⟩
inductive uM (vs:List V) (H:Hp) (Q:VK) (E_:XK):Prop
 |mk (e:Addr) (E:List Nat) (c:Nat) (e9:vs=[.ref e,.int c]) (fb:H e=some (.lst (ao (nI E)))) (fm:E[c]?=some c) (fq:Q (.bl true) H):uM vs H Q E_
theorem tX (T:Txt K mg A):aL P w K mg base bB 2 A.ki A.kj ["_law_elders","_law_room"] uM:=by
 have eI:aL P w K mg base bB 1 A.gX A.gY ["_law_found"] tW:=kr T;refine T._law_stands.F.ok AH (λvs H Q E h=>?_) (λbR AA outer s H vs Q E hr h=>?_)
 ·obtain⟨e,E,c,rfl,_⟩:=h;rfl
 ·obtain⟨e,E,c,rfl,he,hc,k⟩:=h;refine⟨_,(aq (bz (yN (bx (eI) hr.Za5 rfl T._law_whole.m T._law_whole.F.kp T._law_whole.b .nil aO (ae (pv 1) ah)) (yN (LX WT lF aw (pv 1) (bq bA rfl T.cQ ahJ (ae (pv 0) ah))) (C4 (mQ fF (aS ck (pv 0) (pv 1) (λ_ _=>rfl)) (pv 1) (bj _))))))),?_⟩
  try dsimp only[bJ,cx]
  have U6:c<E.length:=(ahd.mp hc).1;refine⟨_,rfl,c,rfl,true,rfl,fQ ?_⟩;refine⟨_,rfl,_,_,rfl,rfl,true,ah6 V.bl (ahy (by omega)),fQ ?_⟩;refine⟨_,rfl,e,_,rfl,.inl (aM.of he),_,_,rfl,rfl,true,ah6 V.bl (ahy (by rw[bh,cy];omega)),fQ ?_⟩;refine⟨_,rfl,_,rfl,e,_,_,_,rfl,rfl,aM.of he,cf (bZ (fj hc)),_,rfl,rfl,?_⟩;rw[ahy rfl];exact k
inductive Fn (vs:List V) (H:Hp) (Q:VK) (E_:XK):Prop
 |mk (d e p:Addr) (kvs:List (List Key×V)) (E:List Nat) (W:Za2) (c u v:Nat) (z:Int) (e9:vs=[.ref d,.ref e,.ref p]) (fb:H d=some (.dT kvs)) (fm:H e=some (.lst (ao (nI E)))) (fq:H p=some (.tup [.str (tx [109,101,101,116]),.int c,.int z,.int u,.int v])) (fZ:WD kvs W) (hX:u<v) (iW:E[u]?=some u) (jC:E[v]?=some v) (lu:W c z u) (rV:W c z v) (sS:∀H',au H H'->Q (.bl true) H'):Fn vs H Q E_
theorem Fo (T:Txt K mg A):aL P w K mg base bB 3 A.sG A.sH ["_law_ways","_law_elders","_law_row"] Fn:=by
 have ku:aL P w K mg base bB 2 A.ki A.kj ["_law_elders","_law_room"] uM:=tX T;have eI:aL P w K mg base bB 1 A.gX A.gY ["_law_found"] tW:=kr T;refine T._law_meet.F.ok Ep (λvs H Q E h=>?_) (λbR AA outer s H vs Q E hr h=>?_)
 ·obtain⟨d,e,p,kvs,E,W,c,u,v,z,rfl,_⟩:=h;rfl
 ·obtain⟨d,e,p,kvs,E,W,c,u,v,z,rfl,hd,he,hp,hW,GK,hu,hv,iu,iv,k⟩:=h;have dE:=gM hr
  refine⟨_,(ai (bX (bP (PW.pt (fE (aZ lE (bq bA rfl T.cQ ahJ (ae (pv 2) ah)) aw (bj _)) (fE (gq (cD (bx (ku) hr.Za5 rfl T._law_stands.m T._law_stands.F.kp T._law_stands.b .nil aO (ae (pv 1) (ae (aS bp (pv 2) aw (λ_ _=>rfl)) ah))))) (fE (gq (cD (bx (ku) hr.Za5 rfl T._law_stands.m T._law_stands.F.kp T._law_stands.b .nil aO (ae (pv 1) (ae (aS bp (pv 2) aw (λ_ _=>rfl)) ah))))) (iT (aZ CK (aS bp (pv 2) aw (λ_ _=>rfl)) (aS bp (pv 2) aw (λ_ _=>rfl)) (bj _)))))))
   (aq (bz dD))
   bC))
   (ai (bX (bP (PW.pt (fE (gq (cD (bx (eI) hr.Za5 rfl T._law_whole.m T._law_whole.F.kp T._law_whole.b .nil aO (ae (aS bp (pv 2) aw (λ_ _=>rfl)) ah)))) (iT (gq (cD (bx (eI) hr.Za5 rfl T._law_whole.m T._law_whole.F.kp T._law_whole.b .nil aO (ae (aS bp (pv 2) aw (λ_ _=>rfl)) ah)))))))
    (aq (bz dD))
    bC))
   (aq (bz (yN (Jh (qx dE (bS (ae (aS bp (pv 2) aw (λ_ _=>rfl)) (ae (aS bp (pv 2) aw (λ_ _=>rfl)) (ae (aS bp (pv 2) aw (λ_ _=>rfl)) ah)))) (pv 0))) (C4 (Jh (qx dE (bS (ae (aS bp (pv 2) aw (λ_ _=>rfl)) (ae (aS bp (pv 2) aw (λ_ _=>rfl)) (ae (aS bp (pv 2) aw (λ_ _=>rfl)) ah)))) (pv 0))))))))),?_⟩
  try dsimp only[bJ,cx]
  refine gE ?_;intro gB fD;have sq:bL K H p [.str (tx [109,101,101,116]),.int (c:Int),.int z,.int (u:Int),.int (v:Int)]:=bL.of hp;refine⟨_,?_,λ_ _ h=>h⟩;refine⟨_,rfl,p,_,rfl,.inr sq,rfl,_,rfl,jE rfl ?_⟩;refine⟨_,rfl,_,rfl,p,_,_,_,rfl,rfl,sq,rfl,e,E,u,rfl,he,hu,true,rfl,b8 ?_⟩;refine⟨_,rfl,_,rfl,p,_,_,_,rfl,rfl,sq,rfl,e,E,v,rfl,he,hv,true,rfl,b8 ?_⟩;refine⟨_,rfl,p,_,_,_,rfl,rfl,sq,rfl,_,rfl,p,_,_,_,rfl,rfl,sq,rfl,_,_,rfl,rfl,_,rfl,?_⟩;rw[ah1 (show ¬((u:Int)>=(v:Int)) by omega)];refine b8 ?_;refine⟨_,?_,λ_ _ h=>h⟩;refine⟨_,rfl,p,_,_,_,rfl,rfl,sq,rfl,c,rfl,true,rfl,b8 ?_⟩;refine⟨_,rfl,p,_,_,_,rfl,rfl,sq,rfl,z,rfl,true,rfl,b8 ?_⟩;refine⟨_,rfl,p,_,_,_,rfl,rfl,sq,rfl,_,rfl,p,_,_,_,rfl,rfl,sq,rfl,_,rfl,p,_,_,_,rfl,rfl,sq,rfl,(Za4 3),λt3 rF=>?_⟩;have s3:=au.upd (o:=.tup [.int (c:Int),.int z,.int (u:Int)]) rF;have rA:upd H t3 (.tup [.int (c:Int),.int z,.int (u:Int)]) t3=some (.tup ((k3 c z u).map kV)):=aj;generalize upd H t3 (.tup [.int (c:Int),.int z,.int (u:Int)])=H3 at s3 rA ⊢;have VW:bL K H3 p [.str (tx [109,101,101,116]),.int (c:Int),.int z,.int (u:Int),.int (v:Int)]:=bL.of (s3 _ _ hp);refine⟨_,rfl,d,_,rfl,dB.t (k:=k3 c z u) (s3 _ _ hd) rA,_,rfl,?_⟩;rw[hW.v c z u iu];refine fQ ?_;refine⟨_,rfl,p,_,_,_,rfl,rfl,VW,rfl,_,rfl,p,_,_,_,rfl,rfl,VW,rfl,_,rfl,p,_,_,_,rfl,rfl,VW,rfl,(Za4 3),λt4 Ln=>?_⟩;have s4:=au.upd (o:=.tup [.int (c:Int),.int z,.int (v:Int)]) Ln;have tY:upd H3 t4 (.tup [.int (c:Int),.int z,.int (v:Int)]) t4=some (.tup ((k3 c z v).map kV)):=aj;generalize upd H3 t4 (.tup [.int (c:Int),.int z,.int (v:Int)])=H4 at s4 tY ⊢;refine⟨_,rfl,d,_,rfl,dB.t (k:=k3 c z v) (s4 _ _ (s3 _ _ hd)) tY,?_⟩;rw[hW.v c z v iv];exact k H4 (s3.trans s4)
theorem Rm {xs:List V}{x:V}{n:Nat}(hl:xs.length=n+ 1)(h:xs[n]?=some x):kT xs (-1)=some x:=by
 unfold kT xu;rw[ahq (by decide),ahu (by omega)];show xs[((-1:Int)+ (xs.length:Int)).toNat]?=_
 rw[show ((-1:Int)+ (xs.length:Int)).toNat=n by omega];exact h
inductive Fq (vs:List V) (H:Hp) (Q:VK) (E_:XK):Prop
 |mk (wl d e p q:Addr) (ws:Za3) (nr:Nat) (kvs:List (List Key×V)) (E:List Nat) (W:Za2) (which m:Nat) (word:List Int) (ip:List Nat) (e9:vs=[.ref wl,.int nr,.ref d,.ref e,.ref p]) (fb:b0 H wl ws) (fm:H d=some (.dT kvs)) (fq:H e=some (.lst (ao (nI E)))) (fZ:H p=some (.tup [.str (tx [114,117,108,101]),.int which,.ref q,.int m])) (hX:H q=some (.tup (ao (nI ip)))) (iW:WD kvs W) (jC:ws[which]?=some word) (lu:ip.length=word.length+ 1) (rV:ip[0]?=ip[word.length]?) (sS:(which<nr\/ip[0]?=some 0)) (yt:(∀x∈ip,E[x]?=some x)) (AV:m<word.length) (Nk:(∀(i a b:Nat) (y:Int),i≠m->word[i]?=some y->ip[i]?=some a->ip[i+ 1]?=some b->W a y b)) (Vm:∀H',au H H'->Q (.bl true) H'):Fq vs H Q E_
theorem Fs (T:Txt K mg A):aL P w K mg base bB 3 A.sE A.sF ["_law_words","_law_many","_law_ways","_law_elders","_law_row"] Fq:=by
 have eI:aL P w K mg base bB 1 A.gX A.gY ["_law_found"] tW:=kr T;have ku:aL P w K mg base bB 2 A.ki A.kj ["_law_elders","_law_room"] uM:=tX T;refine T._law_rule.F.ok hV (λvs H Q E h=>?_) (λbR AA outer s H vs Q E hr h=>?_)
 ·obtain⟨wl,d,e,p,q,ws,nr,kvs,E,W,which,m,word,ip,rfl,_⟩:=h;rfl
 ·obtain⟨wl,d,e,p,q,ws,nr,kvs,E,W,which,m,word,ip,rfl,⟨PV,jS,Ft⟩,hd,he,hp,hq,hW,Hi,dR,VX,K6,Nv,hm,cI,k⟩:=h;have dE:=gM hr
  refine⟨_,(ai (bX (bP (PW.pt (fE (aZ lE (bq bA rfl T.cQ ahJ (ae (pv 4) ah)) aw (bj _)) (fE (gq (cD (bx (eI) hr.Za5 rfl T._law_whole.m T._law_whole.F.kp T._law_whole.b .nil aO (ae (aS bp (pv 4) aw (λ_ _=>rfl)) ah)))) (fE (gq (cD (bx (eI) hr.Za5 rfl T._law_whole.m T._law_whole.F.kp T._law_whole.b .nil aO (ae (aS bp (pv 4) aw (λ_ _=>rfl)) ah)))) (iT (gq (cD (bq eT rfl T.cO ahN (ae (aS bp (pv 4) aw (λ_ _=>rfl)) (ae (fO (v:=.ty "tuple") rfl T.hU ah3 rfl) ah))))))))))
   (aq (bz dD))
   bC))
   (ai (aY (i:=5) hV.nd rfl (Or.inl rfl) (aS bp (pv 4) aw (λ_ _=>rfl)))
   (ai (aY (i:=6) hV.nd rfl (Or.inl rfl) (aS bp (pv 4) aw (λ_ _=>rfl)))
   (ai (bX (bP (PW.pt (fE (aZ lF (pv 5) aw (bj _)) (fE (aZ CK (pv 5) (bq bA rfl T.cQ ahJ (ae (pv 0) ah)) (bj _)) (fE (aZ lF (aS bp (pv 4) aw (λ_ _=>rfl)) aw (bj _)) (iT (aZ CK (aS bp (pv 4) aw (λ_ _=>rfl)) (bq bA rfl T.cQ ahJ (ae (aS ck (pv 0) (pv 5) (λ_ _=>rfl)) ah)) (bj _)))))))
    (aq (bz dD))
    bC))
   (ai (bX (bP (PW.pt (fE (aZ lE (bq bA rfl T.cQ ahJ (ae (pv 6) ah)) (bD dG (bq bA rfl T.cQ ahJ (ae (aS ck (pv 0) (pv 5) (λ_ _=>rfl)) ah)) aw) (bj _)) (fE (aZ lE (aS bp (pv 6) aw (λ_ _=>rfl)) (aS bp (pv 6) (fW eP aw) (λ_ _=>rfl)) (bj _)) (iT (PW.pt (lC (aZ CK (pv 5) (pv 1) (bj _)) (kS (aZ lE (aS bp (pv 6) aw (λ_ _=>rfl)) aw (bj _)))))))))
    (aq (bz dD))
    bC))
   (ai (dw ahK rfl (jj (pv 6)) (bQ (i:=7) hV.nd rfl (Or.inl rfl))
    (aq (bP (gq (cD (bx (ku) hr.Za5 rfl T._law_stands.m T._law_stands.F.kp T._law_stands.b .nil aO (ae (pv 3) (ae (pv 7) ah)))))
     (aq (bz dD))
     bC)))
   (ai (dw ahK rfl (Mv rfl T.sQ (aS ck (pv 0) (pv 5) (λ_ _=>rfl))) (jX rfl (cz (bQ (i:=8) hV.nd rfl (Or.inl rfl)) (cz (bQ (i:=9) hV.nd rfl (Or.inl rfl)) iX)))
    (aq (bX (bP (PW.pt (lC (aZ lE (pv 8) (aS bp (pv 4) aw (λ_ _=>rfl)) (bj _)) (kS (qi (Bu dE (bS (ae (aS bp (pv 6) (pv 8) (λ_ _=>rfl)) (ae (pv 9) (ae (aS bp (pv 6) (bD dG (pv 8) aw) (λ_ _=>rfl)) ah)))) (pv 2))))))
     (aq (bz dD))
     bC))))
   (aq (bz dD))))))))),?_⟩
  try dsimp only[bJ,cx]
  refine uh ?_;intro Ez zI uU rX mE gB fD;have sq:bL K H p [.str (tx [114,117,108,101]),.int (which:Int),.ref q,.int (m:Int)]:=bL.of hp;have Ag:bL K H q (ao (nI ip)):=bL.of hq;have Nw:which<ws.length:=(ahd.mp Hi).1;obtain⟨wp,Lp⟩:∃wp,PV[which]?=some wp:=⟨_,ahc (by rw[Ft.1];exact Nw)⟩
  have zN:=Ft.2 _ _ _ Lp Hi;have VY:bL K H wp (ao word):=bL.of zN;have Zb:(ao (nI ip)).length=ip.length:=by rw[bh,cy]
  obtain⟨c0,DC⟩:∃c0,ip[0]?=some c0:=⟨_,ahc (by omega)⟩
  have Zc:kT (ao (nI ip)) (0:Int)=some (.int (c0:Int)):=cf (j:=0) (bZ (fj DC));have atL:kT (ao (nI ip)) (-1)=some (.int (c0:Int)):=Rm (n:=word.length) (by rw[Zb,dR]) (bZ (fj (by rw[←VX];exact DC)));have VZ:kT (PV.map V.ref) (which:Int)=some (.ref wp):=gA Lp;refine⟨_,?_,λ_ _ h=>h⟩;refine⟨_,rfl,p,_,rfl,.inr sq,rfl,_,rfl,jE rfl ?_⟩;refine⟨_,rfl,p,_,_,_,rfl,rfl,sq,rfl,which,rfl,true,rfl,b8 ?_⟩;refine⟨_,rfl,p,_,_,_,rfl,rfl,sq,rfl,m,rfl,true,rfl,b8 ?_⟩;refine⟨_,rfl,p,_,_,_,rfl,rfl,sq,rfl,_,_,_,_,rfl,.tup hq,mU K "tuple",true,rfl,b8 ?_⟩;refine⟨_,rfl,p,_,_,_,rfl,rfl,sq,rfl,?_⟩;refine⟨_,rfl,p,_,_,_,rfl,rfl,sq,rfl,?_⟩;refine⟨_,?_,λ_ _ h=>h⟩;refine⟨_,rfl,_,_,rfl,rfl,_,rfl,cS (λh=>absurd (ahB h) (by omega)) λ_=>?_⟩;refine⟨_,rfl,_,rfl,wl,_,rfl,.inl (aM.of jS),_,_,rfl,rfl,_,rfl,cS (λh=>absurd (ahB h) (by rw[ahl,Ft.1];omega)) λ_=>?_⟩;refine⟨_,rfl,p,_,_,_,rfl,rfl,sq,rfl,_,_,rfl,rfl,_,rfl,cS (λh=>absurd (ahB h) (by omega)) λ_=>?_⟩;refine⟨_,rfl,p,_,_,_,rfl,rfl,sq,rfl,_,rfl,_,rfl,wl,_,_,_,rfl,rfl,aM.of jS,VZ,wp,_,rfl,.inr VY,_,_,rfl,rfl,_,rfl,cS (λh=>absurd (ahB h) (by rw[bh];omega)) λ_=>?_⟩
  let uI:St->Hp->Prop:=λ aX H'=>aX=[some (.ref wl),some (.int (nr:Int)),some (.ref d),some (.ref e),some (.ref p),some (.int (which:Int)),some (.ref q),none,none,none]/\H'=H
  refine⟨uI,?_,?_⟩
  ·refine cM ?_;intro ik;refine⟨_,rfl,q,_,rfl,.inr Ag,_,rfl,_,rfl,wl,_,_,_,rfl,rfl,aM.of jS,VZ,wp,_,rfl,.inr VY,_,_,rfl,rfl,rfl,_,rfl,jE (by rw[Zb,dR,bh];rfl) ?_⟩;refine⟨_,rfl,q,_,_,_,rfl,rfl,Ag,Zc,_,rfl,_,rfl,q,_,_,_,rfl,rfl,Ag,atL,rfl,_,rfl,jE rfl ?_⟩;refine⟨_,rfl,_,rfl,_,_,rfl,rfl,_,rfl,cS (λh=>?_) λ_=>⟨rfl,rfl⟩⟩;have h:(which:Int)>=(nr:Int):=ahB h;refine⟨_,rfl,q,_,_,_,rfl,rfl,Ag,Zc,rfl,_,rfl,jE ?_ ⟨rfl,rfl⟩⟩;rcases K6 with h'|h'
   ·omega
   ·rw[DC]at h';rw[Za0 h'];rfl
  rintro aX H0 ⟨rfl,rfl⟩;refine⟨_,rfl,q,rfl,⟨_,Ag⟩,?_⟩
  let yD:Nat->St->Hp->Prop:=λi σ H2=>∃v7,σ=[some (.ref wl),some (.int (nr:Int)),some (.ref d),some (.ref e),some (.ref p),some (.int (which:Int)),some (.ref q),v7,none,none]/\H2=H0
  refine Gb (K:=K) (a:=q) (xs:=ao (nI ip)) yD ⟨none,rfl,rfl⟩ (λi σ H2 _ ⟨_,_,e⟩=>by rw[e];exact Ag) ?_ ?_
  ·rintro i x σ H2 hx ⟨v7,rfl,rfl⟩;dsimp only[eM];refine cM ?_;intro ik;obtain⟨y,rfl,hy⟩:=dN hx;obtain⟨c,hc,rfl⟩:=ah0.mp (ahf hy);exact⟨_,rfl,_,rfl,e,E,c,rfl,he,Nv c hc,true,rfl,b8 ⟨_,rfl,rfl⟩⟩
  rintro σ H2 ⟨v7,rfl,rfl⟩;refine⟨_,rfl,_,rfl,wl,_,_,_,rfl,rfl,aM.of jS,VZ,wp,rfl,⟨_,VY⟩,?_⟩
  let Nx:Nat->St->Hp->Prop:=λi σ H3=>∃v8 v9,σ=[some (.ref wl),some (.int (nr:Int)),some (.ref d),some (.ref e),some (.ref p),some (.int (which:Int)),some (.ref q),v7,v8,v9]/\au H2 H3
  refine Ki (K:=K) (a:=wp) (xs:=ao word) Nx ⟨none,none,rfl,λ_ _ e=>e⟩ (λi σ H3 _ ⟨_,_,_,s⟩=>bL.of (s _ _ zN)) ?_ ?_
  ·rintro i x σ H3 t hx nt ⟨v8,v9,rfl,s3⟩;obtain⟨y,rfl,hy⟩:=dN hx;have s4:=au.upd (o:=.tup [.int (i:Int),.int y]) nt;have tY:upd H3 t (.tup [.int (i:Int),.int y]) t=some (.tup [.int (i:Int),.int y]):=aj;generalize upd H3 t (.tup [.int (i:Int),.int y])=H4 at s4 tY ⊢;have fV:=s3.trans s4;have hiw:i<word.length:=(ahd.mp hy).1;obtain⟨a,ha⟩:∃a,ip[i]?=some a:=⟨_,ahc (by omega)⟩
   obtain⟨b,hb⟩:∃b,ip[i+ 1]?=some b:=⟨_,ahc (by omega)⟩
   have sq4:bL K H4 p _:=bL.of (fV _ _ hp);have V0:bL K H4 q _:=bL.of (fV _ _ hq);refine⟨t,_,rfl,bL.of tY,rfl,_,_,rfl,_,_,rfl,rfl,?_⟩;refine⟨_,?_,λ_ _ h=>h⟩;refine⟨_,rfl,_,rfl,p,_,_,_,rfl,rfl,sq4,rfl,rfl,_,rfl,?_⟩;by_cases Zd:i=m
   ·subst Zd;exact jE rfl ⟨_,_,rfl,fV⟩
   ·refine cS (λ_=>?_) λ_=>⟨_,_,rfl,fV⟩
    refine⟨_,rfl,_,rfl,q,_,_,_,rfl,rfl,V0,cf (bZ (fj ha)),_,rfl,_,rfl,_,rfl,_,_,rfl,rfl,q,_,_,_,rfl,rfl,V0,(cf (j:=i+ 1) (bZ (fj hb)):kT _ ((i:Int)+ 1)=_),(Za4 3),λt3 rF=>?_⟩;have s5:=au.upd (o:=.tup [.int (a:Int),.int y,.int (b:Int)]) rF;have Ze:upd H4 t3 (.tup [.int (a:Int),.int y,.int (b:Int)]) t3=some (.tup ((k3 a y b).map kV)):=aj;generalize upd H4 t3 (.tup [.int (a:Int),.int y,.int (b:Int)])=H5 at s5 Ze ⊢;refine⟨_,rfl,d,_,rfl,dB.t (k:=k3 a y b) (s5 _ _ (fV _ _ hd)) Ze,_,rfl,?_⟩;rw[hW.v a y b (cI i a b y Zd hy ha hb)];exact b8 ⟨_,_,rfl,fV.trans s5⟩
  rintro σ H3 ⟨v8,v9,rfl,s3⟩;exact k H3 s3
theorem PX {H:Hp}{p:Addr}{which m:Nat}{ip:List Nat}(h:bN H 4 (.ref p) (mW which ip m)):∃q,H p=some (.tup [.str (tx [114,117,108,101]),.int which,.ref q,.int m])/\H q=some (.tup (ao (nI ip))):=by
 cases h with
 | @t _ _ vs _ h1 h2 h3=>
   have hl:vs.length=4:=h2
   match vs,hl with
   |[v0,v1,v2,v3],_=>
    have q0:=h3 0 v0 _ rfl rfl;have q1:=h3 1 v1 _ rfl rfl;have q2:=h3 2 v2 _ rfl rfl;have q3:=h3 3 v3 _ rfl rfl;cases q0;cases q1;cases q3
    cases q2 with
    | @t _ p2 us _ g1 g2 g3=>
      refine⟨p2,h1,?_⟩;rw[g1]
      congr 2
      refine ajm λi=>?_
      unfold ao nI;rw[ahw,ahw];rw[ahl]at g2
      cases hp:ip[i]? with
      |none=>rw[ahR (by have:=List.getElem?_eq_none_iff.mp hp;omega)];rfl
      |some c=>
       have hi:i<us.length:=by have:=(ahd.mp hp).1;omega
       have e:=ahc hi;have:=g3 i _ _ e (by rw[ahw,hp];rfl);rw[e];generalize us[i]=x at this;cases this;rfl
theorem Cj {H:Hp}{a b l:Addr}{rs ps:Za3}{us vs:List Addr}(h1:dZ H us rs)(h2:dZ H vs ps)(hl:H l=none):b0 (upd H l (.lst (us.map V.ref++vs.map V.ref))) l (rs++ps):=by
 have s:=au.upd (o:=.lst (us.map V.ref++vs.map V.ref)) hl;refine⟨us++vs,by rw[aj,ahO],by rw[ahe,ahe,h1.1,h2.1],λi p w e1 e2=>s _ _ ?_⟩;by_cases hi:i<us.length
 ·rw[aht hi]at e1;rw[aht (by rw[←h1.1];exact hi)]at e2;exact h1.2 i p w e1 e2
 ·rw[ahs (by omega)]at e1;rw[ahs (by rw[←h1.1];omega),←h1.1]at e2;exact h2.2 _ p w e1 e2
def OnQ (H:Hp)(d e:Addr)(n:Nat)(E':List Nat)(W':Za2)(Q:VK):Prop:=∀cU d' e' cN H',(∀b u,b≠d->H b=some u->H' b=some u)->(∃u,H' d=some u)->H' cU=some (.tup [.ref d',.ref e'])->H' d'=some (.dT cN)->H' e'=some (.lst (ao (nI E')))->(d'=d\/H d'=none)->(e'=e\/H e'=none)->WD cN W'->cN.length<=n+ 2->Q (.ref cU) H'
inductive Ny (vs:List V) (H:Hp) (Q:VK) (E_:XK):Prop
 |mk (L:Int) (ru pa st p d e:Addr) (rs ps:Za3) (kvs:List (List Key×V)) (E E':List Nat) (W W':Za2) (row:Dt) (e9:vs=[.int L,.ref ru,.ref pa,.ref st,.ref p]) (fb:b0 H ru rs) (fm:b0 H pa ps) (fq:rs.length+ ps.length<=1000) (fZ:H st=some (.tup [.ref d,.ref e])) (hX:H d=some (.dT kvs)) (iW:H e=some (.lst (ao (nI E)))) (jC:WD kvs W) (lu:bN H 4 (.ref p) row) (rV:One (rs++ps) rs.length E W row E' W') (sS:kvs.length<=10000) (yt:E.length<=1000) (AV:OnQ H d e kvs.length E' W' Q):Ny vs H Q E_
theorem Fu {a b:List Nat}(h:a≠b):¬(V.str (tx a)=V.str (tx b)):=λz=>h (SW (V.str.inj z))
theorem IY (T:Txt K mg A):aL P w K mg base bB 4 A.vP A.vQ ["_law_letters","_law_rules","_law_part","_law_state","_law_row"] Ny:=by
 have F2:aL P w K mg base bB 3 A.sG A.sH ["_law_ways","_law_elders","_law_row"] Fn:=Fo T;have IZ:aL P w K mg base bB 1 A.ux A.uy ["_law_letters","_law_ways","_law_elders","_law_row"] (λ_ _ _ _=>False):=F1 T;have F3:aL P w K mg base bB 3 A.sE A.sF ["_law_words","_law_many","_law_ways","_law_elders","_law_row"] Fq:=Fs T;have nY:aL P w K mg base bB 1 A.nj A.ny ["_law_room","_law_less","_law_more"] wz:=Ae T;refine T._law_on.F.ok eF (λvs H Q E h=>?_) (λbR AA outer s H vs Q E hr h=>?_)
 ·obtain⟨L,ru,pa,st,p,d,e,rs,ps,kvs,E,E',W,W',row,rfl,_⟩:=h;rfl
 ·obtain⟨L,ru,pa,st,p,d,e,rs,ps,kvs,E,E',W,W',row,rfl,⟨us,uY,qq⟩,⟨vs,wu,BH⟩,jV,cI,hd,he,hW,AW,I0,vB,Lq,k⟩:=h;have dE:=gM hr
  refine⟨_,(ai (oy (pv 3) (jX rfl (cz (bQ (i:=5) eF.nd rfl (Or.inl rfl)) (cz (bQ (i:=6) eF.nd rfl (Or.inl rfl)) iX))))
   (ai (bX (bP (PW.pt (fE (gq (cD (bq eT rfl T.cO ahN (ae (pv 4) (ae (fO (v:=.ty "tuple") rfl T.hU ah3 rfl) ah))))) (iT (aZ lF (bq bA rfl T.cQ ahJ (ae (pv 4) ah)) aw (bj _)))))
    (aq (bz dv))
    bC))
   (ai (bX (bP (PW.pt (lC (aZ fF (aS bp (pv 4) aw (λ_ _=>rfl)) (jF (l:=[109,101,101,116]) rfl) (bj _)) (kS (cD (bx (F2) hr.Za5 rfl T._law_meet.m T._law_meet.F.kp T._law_meet.b .nil aO (ae (pv 5) (ae (pv 6) (ae (pv 4) ah))))))))
    (ai (aY (i:=7) eF.nd rfl (Or.inl rfl) uc)
    (ai (Ax (dw ahK rfl (Oh (pv 5)) (jX rfl (cz (bQ (i:=8) eF.nd rfl (Or.inl rfl)) (cz (bQ (i:=9) eF.nd rfl (Or.inl rfl)) (cz (bQ (i:=10) eF.nd rfl (Or.inl rfl)) iX))))
     (aq (jG dE (pv 7) (bS (ae (bx (nY) hr.Za5 rfl T._law_renamed.m T._law_renamed.F.kp T._law_renamed.b .nil aO (ae (pv 8) (ae (aS bp (pv 4) aw (λ_ _=>rfl)) (ae (aS bp (pv 4) aw (λ_ _=>rfl)) ah)))) (ae (pv 9) (ae (bx (nY) hr.Za5 rfl T._law_renamed.m T._law_renamed.F.kp T._law_renamed.b .nil aO (ae (pv 10) (ae (aS bp (pv 4) aw (λ_ _=>rfl)) (ae (aS bp (pv 4) aw (λ_ _=>rfl)) ah)))) ah)))) dD rfl))))
    (aq (bz (bS (ae (pv 7) (ae (dQ (fns:=["_law_row"]) (ixs:=[4]) (cl:=_) rfl (eJ (pv 6)) (fe rfl rfl (by decide +kernel) rfl (by decide +kernel) rfl (by decide +kernel) (by decide +kernel) rfl rfl rfl rfl) (λC s H ex=>(bx (nY) hr.Za5 rfl T._law_renamed.m T._law_renamed.F.kp T._law_renamed.b .nil aO (ae (pv 0) (ae (aS (tj (K:=K) rfl) (pv 1) aw (λ_ _=>rfl)) (ae (aS (tj (K:=K) rfl) (pv 1) aw (λ_ _=>rfl)) ah)))))) ah)))))))
    bC))
   (ai (aY (i:=11) eF.nd rfl (Or.inl rfl) dv)
   (ai (bX (bP (PW.pt (lC (aZ fF (aS bp (pv 4) aw (λ_ _=>rfl)) (jF (l:=[110,101,119]) rfl) (bj _)) (kS (cD (bx (IZ) hr.Za5 rfl T._law_new.m T._law_new.F.kp T._law_new.b .nil aO (ae (pv 0) (ae (pv 5) (ae (pv 6) (ae (pv 4) ah)))))))))
    (ai (aY (i:=6) eF.nd rfl (Or.inl rfl) (bD vq (pv 6) (dX (ae (aS bp (pv 4) aw (λ_ _=>rfl)) ah))))
    (aq (aY (i:=11) eF.nd rfl (Or.inl rfl) (bS (ae (aS bp (pv 4) aw (λ_ _=>rfl)) (ae (aS bp (pv 4) aw (λ_ _=>rfl)) (ae (aS bp (pv 4) aw (λ_ _=>rfl)) ah)))))))
    bC))
   (ai (bX (bP (PW.pt (lC (aZ fF (aS bp (pv 4) aw (λ_ _=>rfl)) (jF (l:=[114,117,108,101]) rfl) (bj _)) (kS (cD (bx (F3) hr.Za5 rfl T._law_rule.m T._law_rule.F.kp T._law_rule.b .nil aO (ae (bD vq (pv 1) (pv 2)) (ae (bq bA rfl T.cQ ahJ (ae (pv 1) ah)) (ae (pv 5) (ae (pv 6) (ae (pv 4) ah))))))))))
    (aq (aY (i:=11) eF.nd rfl (Or.inl rfl) (bS (ae (aS bp (aS bp (pv 4) aw (λ_ _=>rfl)) (aS bp (pv 4) aw (λ_ _=>rfl)) (λ_ _=>rfl)) (ae (aS bp (aS ck (bD vq (pv 1) (pv 2)) (aS bp (pv 4) aw (λ_ _=>rfl)) (λ_ _=>rfl)) (aS bp (pv 4) aw (λ_ _=>rfl)) (λ_ _=>rfl)) (ae (aS bp (aS bp (pv 4) aw (λ_ _=>rfl)) (bD dG (aS bp (pv 4) aw (λ_ _=>rfl)) aw) (λ_ _=>rfl)) ah))))))
    bC))
   (ai (bP (aZ oB (pv 11) dv (bj _))
    (aq (bz dv))
    bC)
   (ai (jG dE (pv 5) (pv 11) dD rfl)
   (ai (jG dE (pv 5) (bS (ae (aS bp (pv 11) aw (λ_ _=>rfl)) (ae (fW eP (aS bp (pv 11) aw (λ_ _=>rfl))) (ae (aS bp (pv 11) aw (λ_ _=>rfl)) ah)))) dD rfl)
   (aq (bz (bS (ae (pv 5) (ae (pv 6) ah)))))))))))))),?_⟩
  try dsimp only[bJ,cx]
  refine Ms ?_;intro Zf UN Ez zI uU rX mE gB fD;refine⟨_,rfl,st,_,rfl,bL.of cI,rfl,_,_,rfl,_,_,rfl,rfl,?_⟩
  cases I0 with
  | @meet c u v z GK hu hv iu iv=>
    have hp:=PR AW;have sq:∀{H':Hp},H' p=some (.tup [.str (tx [109,101,101,116]),.int (c:Int),.int z,.int (u:Int),.int (v:Int)])->bL K H' p [.str (tx [109,101,101,116]),.int (c:Int),.int z,.int (u:Int),.int (v:Int)]:=λh=>bL.of h
    refine⟨_,?_,λ_ _ h=>h⟩;refine⟨_,rfl,_,_,_,_,rfl,.tup hp,mU K "tuple",true,rfl,b8 ?_⟩;refine⟨_,rfl,p,_,rfl,.inr (sq hp),_,_,rfl,rfl,_,rfl,cS (λh=>absurd (ahB h) (by show ¬((5:Nat):Int)<4;decide)) λ_=>?_⟩;refine⟨_,?_,λ_ _ h=>h⟩;refine⟨_,rfl,p,_,_,_,rfl,rfl,sq hp,rfl,rfl,_,rfl,cS (λ_=>?_) λh=>absurd (ahy rfl) h⟩;refine⟨_,rfl,_,rfl,_,rfl,d,e,p,kvs,E,W,c,u,v,z,rfl,hd,he,hp,hW,GK,hu,hv,iu,iv,λH3 mG=>⟨true,rfl,fQ ?_⟩⟩;intro td Ck;have s4:=au.upd (o:=.dT []) Ck;have Fv:upd H3 td (.dT []) td=some (.dT []):=aj;have Ah:d≠td:=aI (mG _ _ hd) Ck;have V1:H td=none:=mG.free Ck;generalize upd H3 td (.dT [])=H4 at s4 Fv ⊢;have V2:=mG.trans s4;have tD:=V2 _ _ hd;refine⟨d,.dT kvs,tD,True.intro,_,rfl,d,kvs,rfl,tD,λo=>?_⟩;have kf:∀b x,b≠d->H4 b=some x->upd H4 d (.dC o (.dT kvs)) b=some x:=λb x n e=>by rw[av n];exact e
    have hf:upd H4 d (.dC o (.dT kvs)) d=some (.dC o (.dT kvs)):=aj;generalize upd H4 d (.dC o (.dT kvs))=H5 at kf hf ⊢;have Nz:=kf _ _ (ail Ah) Fv;have pd:p≠d:=λz=>by rw[z,hd]at hp;cases hp
    have V3:=kf _ _ pd (V2 _ _ hp);have ptd:p≠td:=λz=>by rw[z,V1]at hp;cases hp
    let fU:Nat->St->Hp->Prop:=λi σ H6=>∃v6 v7 v8 tk,σ=[some (.int L),some (.ref ru),some (.ref pa),some (.ref st),some (.ref p),some (.ref d),some (.ref e),some (.ref td),v6,v7,v8,none]/\(∀b x,b≠td->H5 b=some x->H6 b=some x)/\H6 td=some (.dT tk)/\tk.length<=i/\WD tk (λa s b=>∃j p a1 b1,j<i/\kvs[j]?=some p/\p.1=k3 a1 s b1/\a=fN u v a1/\b=fN u v b1)
    refine J0 (o:=o) (kvs:=kvs) fU ⟨none,none,none,[],rfl,λ_ _ _ e=>e,Nz,ahi _,⟨(λp hp=>by cases hp),(λa z b h=>by obtain⟨j,_,_,_,hj,_⟩:=h;omega),ais⟩⟩ (λi σ H6 _ ⟨_,_,_,_,_,kk,_⟩=>kk _ _ Ah hf) ?_ ?_
    ·intro i kv σ H6 pk dP Ls bV;refine bI ?_;intro q_;obtain⟨v6,v7,v8,tk,rfl,kk,rJ,V4,Cm⟩:=bV;dsimp only[q_];clear q_;obtain⟨a,s,b,ek,hw⟩:=hW.k kv (ahf dP);have hi:i<kvs.length:=(ahd.mp dP).1;have qO:H6 pk=some (.tup [.int (a:Int),.int s,.int (b:Int)]):=by rw[ek]at Ls;exact Ls
     have PY:=sq (kk _ _ ptd V3);refine⟨pk,_,rfl,bL.of qO,rfl,_,_,rfl,_,_,rfl,_,_,rfl,rfl,?_⟩;refine⟨_,rfl,_,rfl,_,rfl,p,_,_,_,rfl,rfl,PY,rfl,_,rfl,p,_,_,_,rfl,rfl,PY,rfl,a,u,v,rfl,_,rfl,_,rfl,_,rfl,p,_,_,_,rfl,rfl,PY,rfl,_,rfl,p,_,_,_,rfl,rfl,PY,rfl,b,u,v,rfl,(Za4 3),λt nt=>?_⟩;have s7:=au.upd (o:=.tup [.int ((fN u v a:Nat):Int),.int s,.int ((fN u v b:Nat):Int)]) nt;have PZ:upd H6 t (.tup [.int ((fN u v a:Nat):Int),.int s,.int ((fN u v b:Nat):Int)]) t=some (.tup ((k3 (fN u v a) s (fN u v b)).map kV)):=aj;refine⟨td,_,rfl,kz.t (k:=k3 (fN u v a) s (fN u v b)) (s7 _ _ rJ) PZ (ahr (show tk.length<=10000 by omega) (by decide)),?_⟩;have dR:=dH tk (k3 (fN u v a) s (fN u v b)) (.bl true);refine⟨_,_,_,_,rfl,λx o nx e=>?_,aj,by omega,(Cm.put (fN u v a) s (fN u v b) (.bl true)).congr λa' s' b'=>?_⟩
     ·rw[av nx];exact s7 _ _ (kk x o nx e)
     ·constructor
      ·rintro (⟨j,p,a1,b1,hj,q⟩|⟨rfl,rfl,rfl⟩)
       ·exact⟨j,p,a1,b1,by omega,q⟩
       ·exact⟨i,kv,a,b,by omega,dP,ek,rfl,rfl⟩
      ·rintro ⟨j,p,a1,b1,hj,q1,q2,q3,q4⟩;by_cases rn:j=i
       ·subst rn;rw[dP]at q1;obtain rfl:=Za0 q1;obtain⟨rfl,rfl,rfl⟩:=mK.mp (ek.symm.trans q2);exact .inr ⟨q3,rfl,q4⟩
       ·exact .inl ⟨j,p,a1,b1,by omega,q1,q2,q3,q4⟩
    ·intro σ H6 bV;refine bI ?_;intro q_;obtain⟨v6,v7,v8,tk,rfl,kk,rJ,V4,Cm⟩:=bV;dsimp only[q_];clear q_;refine⟨o,kk _ _ Ah hf,?_⟩
     have same:au H (upd H6 d (.dT kvs)):=λb x e=>by
      by_cases hb:b=d
      ·subst hb;rw[aj];rw[hd]at e;exact e
      ·rw[av hb];exact kk b x (λz=>by rw[z]at e;have:=mG _ _ e;rw[Ck]at this;cases this) (kf b x hb (V2 _ _ e))
     have A2:upd H6 d (.dT kvs) td=some (.dT tk):=by rw[av (ail Ah)];exact rJ
     generalize upd H6 d (.dT kvs)=H7 at same A2 ⊢;have P0:=same _ _ he;have Zg:=sq (same _ _ hp);refine⟨_,rfl,?_⟩;refine⟨_,rfl,e,rfl,⟨_,aM.of P0⟩,?_⟩;refine JB (ao (nI E)) (λw=>match w with|.int q=>.int ((fN u v q.toNat:Nat):Int)|w=>w) (vt (aM.of P0)) (sZ (aM.of P0)) (qt (aM.of P0)) (by rw[bh,cy];exact ahC Lq (by decide)) (λi w hw Rr hR=>?_) (λD nD=>?_)
     ·obtain⟨q,rfl,hq⟩:=dN hw;unfold nI at hq;rw[ahw]at hq
      cases hE:E[i]? with
      |none=>rw[hE]at hq;cases hq
      |some a=>
       rw[hE]at hq;obtain rfl:(a:Int)=q:=Za0 hq;refine⟨_,rfl,_,rfl,p,_,_,_,rfl,rfl,Zg,rfl,_,rfl,p,_,_,_,rfl,rfl,Zg,rfl,a,u,v,rfl,?_⟩;exact hR
     have eE:((ao (nI E)).map λw=>match w with|.int q=>V.int ((fN u v q.toNat:Nat):Int)|w=>w)=ao (nI (E.map (fN u v))):=by
      unfold ao nI;rw[aiv,aiv,aiv,aiv];refine ajU λa _=>?_
      show V.int ((fN u v (a:Int).toNat:Nat):Int)=V.int ((fN u v a:Nat):Int);rw[ahZ]
     rw[eE];have s8:=au.upd (o:=.lst (ao (nI (E.map (fN u v))))) nD;have Zh:upd H7 D (.lst (ao (nI (E.map (fN u v))))) D=some (.lst (ao (nI (E.map (fN u v))))):=aj;have nDH:H D=none:=same.free nD;generalize upd H7 D (.lst (ao (nI (E.map (fN u v)))))=H8 at s8 Zh ⊢
     have hWn:WD tk (MA u v W):=Cm.congr λa s b=>by
      constructor
      ·rintro ⟨j,p,a1,b1,hj,q1,q2,rfl,rfl⟩;obtain⟨a2,s2,b2,e2,w2⟩:=hW.k p (ahf q1);obtain⟨rfl,rfl,rfl⟩:=mK.mp (q2.symm.trans e2);exact⟨_,_,w2,rfl,rfl⟩
      ·rintro ⟨a3,b3,r,e3,e4⟩;obtain⟨w,hw⟩:=aio.mp (hW.v _ s _ r);obtain⟨p,hp,ep⟩:=wZ hw;obtain⟨j,hj⟩:=aih hp;exact⟨j,p,_,_,(ahd.mp hj).1,hj,ep,e3.symm,e4.symm⟩
     refine⟨(Za4 2),λt nt=>?_⟩;have s9:=au.upd (o:=.tup [.ref td,.ref D]) nt;exact k t td D tk _ (λb u _ e=>s9 _ _ (s8 _ _ (same _ _ e))) ⟨_,s9 _ _ (s8 _ _ (same _ _ hd))⟩ aj (s9 _ _ (s8 _ _ A2)) (s9 _ _ Zh) (.inr V1) (.inr nDH) hWn (by omega)
  | @rule which m c dd word ip z Hi dR VX K6 Nv Zi EF zO ab6=>
    obtain⟨q,hp,hq⟩:=PX AW;have sq:∀{H':Hp},au H H'->bL K H' p [.str (tx [114,117,108,101]),.int (which:Int),.ref q,.int (m:Int)]:=λs=>bL.of (s _ _ hp)
    have Ag:∀{H':Hp},au H H'->bL K H' q (ao (nI ip)):=λs=>bL.of (s _ _ hq)
    have s0:au H H:=λ_ _ e=>e
    have Nw:which<(rs++ps).length:=(ahd.mp Hi).1;have JY:m<word.length:=(ahd.mp Zi).1
    have fits:(us.map V.ref).length+ (vs.map V.ref).length<=sizeLine:=by
     rw[ahl,ahl,qq.1,BH.1];exact ahC jV (by decide)
    refine⟨_,?_,λ_ _ h=>h⟩;refine⟨_,rfl,_,_,_,_,rfl,.tup hp,mU K "tuple",true,rfl,b8 ?_⟩;refine⟨_,rfl,p,_,rfl,.inr (sq s0),_,_,rfl,rfl,_,rfl,cS (λh=>absurd (ahB h) (by show ¬((4:Nat):Int)<4;decide)) λ_=>?_⟩;refine⟨_,?_,λ_ _ h=>h⟩;refine⟨_,rfl,p,_,_,_,rfl,rfl,sq s0,rfl,rfl,_,rfl,cS (λh=>absurd (ahB h) (Fu (by decide))) λ_=>?_⟩;refine⟨_,?_,λ_ _ h=>h⟩;refine⟨_,rfl,p,_,_,_,rfl,rfl,sq s0,rfl,rfl,_,rfl,cS (λh=>absurd (ahB h) (Fu (by decide))) λ_=>?_⟩
    let uH:St->Hp->Prop:=λ aX H'=>∃t,aX=[some (.int L),some (.ref ru),some (.ref pa),some (.ref st),some (.ref p),some (.ref d),some (.ref e),none,none,none,none,some (.ref t)]/\au H H'/\H' t=some (.tup ((k3 c z dd).map kV))
    refine⟨uH,?_,?_⟩
    ·refine cM ?_;intro ik;refine⟨_,rfl,p,_,_,_,rfl,rfl,sq s0,rfl,rfl,_,rfl,cS (λ_=>?_) λh=>absurd (ahy rfl) h⟩;refine⟨_,rfl,_,rfl,ru,pa,_,_,rfl,rfl,uY,wu,fits,λwl Zj=>?_⟩;have Zk:=Cj (a:=ru) (b:=pa) qq BH Zj;have s1:=au.upd (o:=.lst (us.map V.ref++vs.map V.ref)) Zj;generalize upd H wl (.lst (us.map V.ref++vs.map V.ref))=H1 at Zk s1 ⊢;refine⟨_,rfl,ru,_,rfl,.inl (aM.of (s1 _ _ uY)),_,rfl,_,rfl,_,rfl,wl,d,e,p,q,rs++ps,rs.length,kvs,E,W,which,m,word,ip,(by rw[ahl,qq.1];rfl),Zk,s1 _ _ hd,s1 _ _ he,s1 _ _ hp,s1 _ _ hq,hW,Hi,dR,VX,K6,Nv,JY,ab6,λH2 s2=>⟨true,rfl,fQ ?_⟩⟩;have oS:=s1.trans s2;refine⟨_,rfl,p,_,_,_,rfl,rfl,sq oS,rfl,_,rfl,p,_,_,_,rfl,rfl,sq oS,rfl,q,_,_,_,rfl,rfl,Ag oS,cf (bZ (fj EF)),?_⟩;refine⟨_,rfl,_,rfl,ru,pa,_,_,rfl,rfl,oS _ _ uY,oS _ _ wu,fits,λw2 xO=>?_⟩;obtain⟨PV,Lv,Ft⟩:=Cj (a:=ru) (b:=pa) (qq.same oS) (BH.same oS) xO;have s3:=au.upd (o:=.lst (us.map V.ref++vs.map V.ref)) xO;generalize upd H2 w2 (.lst (us.map V.ref++vs.map V.ref))=H3 at Lv Ft s3 ⊢;have mG:=oS.trans s3;obtain⟨wp,Lp⟩:∃wp,PV[which]?=some wp:=⟨_,ahc (by rw[Ft.1];exact Nw)⟩
     refine⟨_,rfl,p,_,_,_,rfl,rfl,sq mG,rfl,w2,_,_,_,rfl,rfl,aM.of Lv,gA Lp,_,rfl,p,_,_,_,rfl,rfl,sq mG,rfl,wp,_,_,_,rfl,rfl,bL.of (Ft.2 _ _ _ Lp Hi),cf (bZ Zi),?_⟩;refine⟨_,rfl,p,_,_,_,rfl,rfl,sq mG,rfl,_,rfl,p,_,_,_,rfl,rfl,sq mG,rfl,_,_,rfl,rfl,q,_,_,_,rfl,rfl,Ag mG,(cf (j:=m+ 1) (bZ (fj zO)):kT _ ((m:Int)+ 1)=_),by show 3<=sizeLine;decide,λt nt=>⟨t,rfl,?_,aj⟩⟩;exact mG.trans (au.upd nt)
    rintro aX H1 ⟨t,rfl,s1,ht⟩;refine⟨_,rfl,rfl,_,rfl,cS (λh=>by have:=ahB h;cases this) λ_=>?_⟩;have jZ:=s1 _ _ hd;have td:t≠d:=λe=>by rw[e,jZ]at ht;cases ht
    have oQ:=dH kvs (k3 c z dd) (.bl true);refine⟨_,rfl,_,rfl,d,_,rfl,kz.t (k:=k3 c z dd) jZ ht (ahr vB (by decide)),?_⟩;have k1:∀b u,b≠d->H1 b=some u->upd H1 d (.dT (putK kvs (k3 c z dd) (.bl true))) b=some u:=λb u n e=>by rw[av n];exact e
    have hd2:upd H1 d (.dT (putK kvs (k3 c z dd) (.bl true))) d=some (.dT (putK kvs (k3 c z dd) (.bl true))):=aj;generalize upd H1 d (.dT (putK kvs (k3 c z dd) (.bl true)))=H2 at k1 hd2 ⊢;have V5:bL K H2 t [.int (c:Int),.int z,.int (dd:Int)]:=bL.of (k1 _ _ td ht);refine⟨_,rfl,_,rfl,t,_,_,_,rfl,rfl,V5,rfl,_,rfl,t,_,_,_,rfl,rfl,V5,rfl,_,rfl,_,rfl,t,_,_,_,rfl,rfl,V5,rfl,by show 3<=sizeLine;decide,λt2 V6=>?_⟩;have s3:=au.upd (o:=.tup [.int (dd:Int),.int (-z),.int (c:Int)]) V6;have rA:upd H2 t2 (.tup [.int (dd:Int),.int (-z),.int (c:Int)]) t2=some (.tup ((k3 dd (-z) c).map kV)):=aj;generalize upd H2 t2 (.tup [.int (dd:Int),.int (-z),.int (c:Int)])=H3 at s3 rA ⊢;have fM:=dH (putK kvs (k3 c z dd) (.bl true)) (k3 dd (-z) c) (.bl true);refine⟨d,_,rfl,kz.t (k:=k3 dd (-z) c) (s3 _ _ hd2) rA (ahr (show _<=10001 by omega) (by decide)),?_⟩;have V7:∀b u,b≠d->H b=some u->upd H3 d (.dT (putK (putK kvs (k3 c z dd) (.bl true)) (k3 dd (-z) c) (.bl true))) b=some u:=λb u n e=>by rw[av n];exact s3 _ _ (k1 _ _ n (s1 _ _ e))
    have tD:upd H3 d (.dT (putK (putK kvs (k3 c z dd) (.bl true)) (k3 dd (-z) c) (.bl true))) d=some (.dT (putK (putK kvs (k3 c z dd) (.bl true)) (k3 dd (-z) c) (.bl true))):=aj;generalize upd H3 d (.dT (putK (putK kvs (k3 c z dd) (.bl true)) (k3 dd (-z) c) (.bl true)))=H4 at V7 tD ⊢;have ed:e≠d:=λz=>by rw[z,hd]at he;cases he
    refine⟨_,rfl,_,rfl,by show 2<=sizeLine;decide,λs5 ns5=>?_⟩;have s6:=au.upd (o:=.tup [.ref d,.ref e]) ns5;refine k s5 d e _ _ (λb u n e=>s6 _ _ (V7 b u n e)) ⟨_,s6 _ _ tD⟩ aj (s6 _ _ tD) (s6 _ _ (V7 _ _ ed he)) (.inl rfl) (.inl rfl) (((hW.put c z dd (.bl true)).put dd (-z) c (.bl true)).congr λa y b=>?_) (by omega);unfold et;constructor
    ·rintro ((h|h)|h)
     ·exact .inl h
     ·exact .inr (.inl h)
     ·exact .inr (.inr h)
    ·rintro (h|h|h)
     ·exact .inl (.inl h)
     ·exact .inl (.inr h)
     ·exact .inr h
inductive w6 (vs:List V) (H:Hp) (Q:VK) (E_:XK):Prop
 |mk (L:Int) (ru pa st l d e:Addr) (rs ps:Za3) (kvs:List (List Key×V)) (E E':List Nat) (W W':Za2) (qs:List Addr) (ms:List Dt) (e9:vs=[.int L,.ref ru,.ref pa,.ref st,.ref l]) (fb:b0 H ru rs) (fm:b0 H pa ps) (fq:rs.length+ ps.length<=1000) (fZ:H st=some (.tup [.ref d,.ref e])) (hX:H d=some (.dT kvs)) (iW:H e=some (.lst (ao (nI E)))) (jC:WD kvs W) (lu:H l=some (.lst (qs.map V.ref))) (rV:Each (λp x=>bN H 4 (.ref p) x) qs ms) (sS:(∀x∈ms,ig x)) (yt:Go (rs++ps) rs.length E W ms E' W') (AV:kvs.length+ 2* ms.length<=10000) (Nk:E.length<=1000) (Vm:ru≠d) (abX:pa≠d) (abY:∀cU d' e' cN H',(∀b u,b≠d->H b=some u->H' b=some u)->(∃u,H' d=some u)->H' cU=some (.tup [.ref d',.ref e'])->H' d'=some (.dT cN)->H' e'=some (.lst (ao (nI E')))->(d'=d\/H d'=none)->(e'=e\/H e'=none)->WD cN W'->cN.length<=kvs.length+ 2* ms.length->Q (.ref cU) H'):w6 vs H Q E_
theorem Lx {ws:Za3}{nr:Nat}{E E':List Nat}{W W':Za2}{row:Dt}(h:One ws nr E W row E' W'):E'.length=E.length:=by
 cases h with
 |meet=>rw[ahl]
 |rule=>rfl
theorem Rn {ws:Za3}{nr:Nat}{E E':List Nat}{W W':Za2}{ms:List Dt}(h:Go ws nr E W ms E' W'):E'.length=E.length:=by
 induction h with
 |nil=>rfl
 |cons o _ ih=>rw[ih,Lx o]
theorem Ro {H:Hp}{p:Addr}{ws:Za3}{nr:Nat}{E E':List Nat}{W W':Za2}{row:Dt}(h:One ws nr E W row E' W')(q:bN H 4 (.ref p) row):∃(l:List Nat) (xs:List V),H p=some (.tup (.str (tx l)::xs))/\l≠[110,101,119]:=by
 cases h with
 |meet=>exact⟨_,_,PR q,by decide⟩
 |rule=>obtain⟨_,e,_⟩:=PX q;exact⟨_,_,e,by decide⟩
theorem A3 (T:Txt K mg A):aL P w K mg base bB 5 A.pz A.pA ["_law_letters","_law_rules","_law_part","_law_state","_law_rows"] w6:=by
 have Ly:aL P w K mg base bB 4 A.vP A.vQ ["_law_letters","_law_rules","_law_part","_law_state","_law_row"] Ny:=IY T;refine T._law_walked.F.ok nO (λvs H Q E h=>?_) (λbR AA outer s H vs Q E hr h=>?_)
 ·obtain⟨L,ru,pa,Zm,l,d0,e0,rs,ps,NB,E0,E',W0,W',qs,ms,rfl,_⟩:=h;rfl
 ·obtain⟨L,ru,pa,Zm,l,d0,e0,rs,ps,NB,E0,E',W0,W',qs,ms,rfl,uY,wu,jV,ab7,zi,he0,hW0,hl,j0,G6,ab8,agb,ab9,nru,npa,k⟩:=h
  refine⟨_,(ai (dw ahK rfl (eJ (pv 4)) (bQ (i:=5) nO.nd rfl (Or.inl rfl))
   (ai (aY (i:=3) nO.nd rfl (Or.inl rfl) (bx (Ly) hr.Za5 rfl T._law_on.m T._law_on.F.kp T._law_on.b .nil aO (ae (pv 0) (ae (pv 1) (ae (pv 2) (ae (pv 3) (ae (pv 5) ah)))))))
   (aq (bX (bP (PW.pt (fE (aZ oB (pv 3) dv (bj _)) (iT (aZ fF (aS bp (pv 5) aw (λ_ _=>rfl)) (jF (l:=[110,101,119]) rfl) (bj _)))))
    (aq (bz dv))
    bC)))))
   (aq (bz (pv 3)))),?_⟩
  try dsimp only[bJ,cx]
  refine ug ?_;intro fD;have ll:(qs.map V.ref).length=ms.length:=by rw[ahl,j0.1]
  have nld:l≠d0:=λz=>by rw[z,zi]at hl;cases hl
  have kt:∀{H':Hp},(∀b u,b≠d0->H b=some u->H' b=some u)->∀b xs,H b=some (.tup xs)->H' b=some (.tup xs):=λkk b xs e=>kk b _ (λz=>by rw[z,zi]at e;cases e) e
  have kw:∀{H':Hp} {a:Addr} {ws:Za3},a≠d0->b0 H a ws->(∀b u,b≠d0->H b=some u->H' b=some u)->b0 H' a ws:=λna ⟨us,h1,h2⟩ kk=>⟨us,kk _ _ na h1,h2.keep λp xs e=>kt kk p xs e⟩
  refine⟨_,rfl,l,rfl,⟨_,aM.of hl⟩,?_⟩
  let fU:Nat->St->Hp->Prop:=λi σ H4=>∃st d e kvs E W v5,σ=[some (.int L),some (.ref ru),some (.ref pa),some (.ref st),some (.ref l),v5]/\(∀b u,b≠d0->H b=some u->H4 b=some u)/\(∃u,H4 d0=some u)/\H4 st=some (.tup [.ref d,.ref e])/\H4 d=some (.dT kvs)/\H4 e=some (.lst (ao (nI E)))/\(d=d0\/H d=none)/\(e=e0\/H e=none)/\WD kvs W/\Go (rs++ps) rs.length E W (ms.drop i) E' W'/\kvs.length<=NB.length+ 2* i/\E.length<=1000
  refine iz (K:=K) (a:=l) (xs:=qs.map V.ref) fU ⟨Zm,d0,e0,NB,E0,W0,none,rfl,λ_ _ _ e=>e,⟨_,zi⟩,ab7,zi,he0,.inl rfl,.inl rfl,hW0,ab8,ahi _,ab9⟩ (λi σ H4 _ ⟨_,_,_,_,_,_,_,_,kk,_⟩=>aM.of (kk _ _ nld hl)) ?_ ?_
  ·intro i x σ H4 Hj bV;refine bI ?_;intro q_;obtain⟨st,d,e,kvs,E,W,v5,rfl,kk,Ce,cI,hd,he,od,oe,hW,jT,vB,Lq⟩:=bV;dsimp only[q_];clear q_;dsimp only[eM];refine ye ?_;intro ik GR;have hi:i<ms.length:=by have:=(ahd.mp Hj).1;omega
   rw[ahw]at Hj
   cases hp:qs[i]? with
   |none=>rw[hp]at Hj;cases Hj
   |some p=>
    rw[hp]at Hj;obtain rfl:V.ref p=x:=Za0 Hj;have qd:=(j0.2 i p _ hp (ahc hi)).dW (kt kk) (G6 _ (List.getElem_mem hi));rw[aiS hi]at jT;have lQ:=List.getElem_mem hi;generalize ms[i]'hi=row at qd jT lQ
    cases jT with
    | @cons _ E1 _ _ W1 _ _ _ I0 aca=>
      have V8:=I0;refine⟨_,rfl,_,rfl,_,rfl,_,rfl,_,rfl,L,ru,pa,st,p,d,e,rs,ps,kvs,E,E1,W,W1,row,rfl,kw nru uY kk,kw npa wu kk,jV,cI,hd,he,hW,qd,I0,by omega,Lq,λvi d2 e2 EY H5 k5 hx5 acb hd5 he5 od5 oe5 hW5 agc=>?_⟩
      have U1:∀b u,b≠d0->H b=some u->H5 b=some u:=λb u n e1=>k5 b u (λz=>by
       rcases od with h1|h1
       ·exact n (z.trans h1)
       ·rw[z,h1]at e1;cases e1) (kk b u n e1)
      have P1:∀b,H4 b=none->H b=none:=λb e1=>by
       have hb:b≠d0:=λz=>by obtain⟨u,q⟩:=Ce;rw[z,q]at e1;cases e1
       cases q:H b with
       |none=>rfl
       |some u=>rw[kk b u hb q]at e1;cases e1
      have hx6:∃u,H5 d0=some u:=by
       rcases od with h1|h1
       ·rw[←h1];exact hx5
       ·obtain⟨u,q⟩:=Ce;exact⟨u,k5 _ _ (λz=>by rw[←z,zi]at h1;cases h1) q⟩
      obtain⟨l5,xs5,V3,ne5⟩:=Ro V8 (qd.dW (λb xs e1=>k5 b _ (λz=>by rw[z,hd]at e1;cases e1) e1) (G6 _ lQ));refine⟨_,?_,λ_ _ h=>h⟩;refine⟨_,rfl,rfl,_,rfl,cS (λh=>by have:=ahB h;cases this) λ_=>?_⟩;refine⟨_,rfl,p,_,_,_,rfl,rfl,bL.of V3,cf (j:=0) rfl,rfl,_,rfl,cS (λh=>absurd (ahB h) (Fu ne5)) λ_=>?_⟩;exact⟨vi,d2,e2,EY,E1,W1,_,rfl,U1,hx6,acb,hd5,he5,od5.elim (λh1=>h1 ▸ od) (λh1=>.inr (P1 _ h1)),oe5.elim (λh1=>h1 ▸ oe) (λh1=>.inr (P1 _ h1)),hW5,aca,by omega,by rw[Lx V8];exact Lq⟩
  ·intro σ H4 bV;refine bI ?_;intro q_;obtain⟨st,d,e,kvs,E,W,v5,rfl,kk,Ce,cI,hd,he,od,oe,hW,jT,vB,Lq⟩:=bV;dsimp only[q_];clear q_;rw[ll,ajy]at jT;rw[ll]at vB
   cases jT with
   |nil h=>exact⟨_,rfl,k st d e kvs H4 kk Ce cI hd he od oe (hW.congr h) vB⟩
def sf (L n:Nat):List Int:=(List.range n).map λj:Nat=>-(L:Int)+ (j:Int)
theorem V9 (L n:Nat):(sf L n).Nodup:=by
 unfold sf;refine ajP.mpr (List.Pairwise.imp (λ{a b} h e=>h (by omega)) (akh (n:=n)))
theorem NC (L n:Nat):sf L (n+ 1)=sf L n++[-(L:Int)+ (n:Int)]:=by unfold sf;rw[aiy,ahO];rfl
theorem Rp {L:Nat}{z:Int}(h:z.natAbs<=L):z∈sf L (2* L+ 1):=by
 unfold sf;exact ah0.mpr ⟨(z+ L).toNat,air.mpr (by omega),by omega⟩
theorem ND (S:RS)(c:Nat)(z:Int):cW S [z] c=match S.by c z with|none=>[]|some b=>[k3 c z b]:=by
 unfold cW
 cases e:S.by c z with
 |none=>rw[List.filterMap_cons_none (by rw[e];rfl)];rfl
 |some b=>rw[List.filterMap_cons_some (b:=k3 c z b) (by rw[e];rfl)];rfl
inductive Fw (C:Addr) (vs:List V) (H:Hp) (Q:VK) (E_:XK):Prop
 |mk (r st d e:Addr) (L:Nat) (S:RS) (a:RA) (kvs:List (List Key×V)) (e9:vs=[.ref r,.int L,.ref st]) (fb:ax C H r S a) (fm:S.Wf) (fq:S.made<=1000) (fZ:L<=200) (hX:H st=some (.tup [.ref d,.ref e])) (iW:H d=some (.dT kvs)) (jC:WD kvs (λa z b=>S.by a z=some b)) (lu:H e=some (.lst (ao (nI S.aB)))) (rV:(∀a z b,S.by a z=some b->a∈du S/\z≠0/\z.natAbs<=L)) (sS:∀H',au H H'->Q (.bl true) H'):Fw C vs H Q E_
theorem Ai (T:Txt K mg A):aL P w K mg base bB 2 A.nB A.nF ["_law_rooms","_law_letters","_law_state"] (Fw A.ak):=by
 have iR:aL P w K mg base bB 1 A.iH A.iI ["self"] (pU A.ak):=pL T;have eK:aL P w K mg base bB 1 A.gj A.gk ["self","room"] (p9 A.ak):=jQ T;have fh:aL P w K mg base bB 1 A.iF A.iG ["self","room","step"] (uD A.ak):=j8 T;have eI:aL P w K mg base bB 1 A.gX A.gY ["_law_found"] tW:=kr T;refine T._law_as_told.F.ok df (λvs H Q E h=>?_) (λbR AA outer s H vs Q E hr h=>?_)
 ·obtain⟨r,st,d,e,L,S,a,kvs,rfl,_⟩:=h;rfl
 ·obtain⟨r,st,d,e,L,S,a,kvs,rfl,h,hw,hm,hL,cI,hd,hW,he,BO,k⟩:=h;have dE:=gM hr;have hu:=Nat.lt_of_succ_lt (gM hr)
  refine⟨_,(ai (oy (pv 2) (jX rfl (cz (bQ (i:=3) df.nd rfl (Or.inl rfl)) (cz (bQ (i:=4) df.nd rfl (Or.inr rfl)) iX))))
   (ai (bP (aZ (Gw hu) (fP (pv 0) (aK T) T.eX.m (iR) hr.Za5 T.eX.b .nil aO) (pQ (fns:=["_law_elders"]) (ixs:=[4]) (cl:=_) rfl (gu rfl T.hJ (ae (bq bA rfl T.cQ ahJ (ae (pv 4) ah)) ah)) (fe rfl rfl (by decide +kernel) rfl (by decide +kernel) rfl (by decide +kernel) (by decide +kernel) rfl rfl rfl rfl) (λC s H ex=>(aZ fF (aS (yc (K:=K) rfl) (pv 1) (pv 0) (λ_ _=>rfl)) (pv 0) (bj _))) (λC s H ex=>(pv 0))) (bj _))
    (aq (bz dD))
    bC)
   (ai (bP (aZ (Gw hu) (dQ (fns:=["_law_rooms"]) (ixs:=[0]) (cl:=_) rfl (gu rfl T.hJ (ae (bq bA rfl T.cQ ahJ (ae (pv 4) ah)) ah)) (fe rfl rfl (by decide +kernel) rfl (by decide +kernel) rfl (by decide +kernel) (by decide +kernel) rfl rfl rfl rfl) (λC s H ex=>(bT (pv 1) (aK T) T.dI.m (eK) hr.Za5 T.dI.b .nil aO (ae (pv 0) ah)))) (pv 4) (bj _))
    (aq (bz dD))
    bC)
   (ai (aY (i:=5) df.nd rfl (Or.inl rfl) aw)
   (ai (dw ahK rfl (eJ (fP (pv 0) (aK T) T.eX.m (iR) hr.Za5 T.eX.b .nil aO)) (bQ (i:=6) df.nd rfl (Or.inl rfl))
    (aq (dw ahK rfl (Be rfl T.hJ (ae (fW eP (pv 1)) (ae (bD dG (pv 1) aw) ah))) (bQ (i:=7) df.nd rfl (Or.inl rfl))
     (ai (aY (i:=8) df.nd rfl (Or.inl rfl) dv)
     (ai (bX (bP (aZ lE (pv 7) aw (bj _))
      (aq (aY (i:=8) df.nd rfl (Or.inl rfl) (bT (pv 0) (aK T) T.eV.m (fh) hr.Za5 T.eV.b .nil aO (ae (pv 6) (ae (pv 7) ah)))))
      bC))
     (aq (bX (bP (aZ wF (pv 8) dv (bj _))
      (ai (aY (i:=5) df.nd rfl (Or.inl rfl) (bD dG (pv 5) aw))
      (aq (bX (bP (PW.pt (fE (gq (cD (bx (eI) hr.Za5 rfl T._law_whole.m T._law_whole.F.kp T._law_whole.b .nil aO (ae (pv 8) ah)))) (iT (qi (Bu dE (bS (ae (pv 6) (ae (pv 7) (ae (pv 8) ah)))) (pv 3))))))
       (aq (bz dD))
       bC))))
      bC))))))))
   (aq (bz (mQ fF (pv 5) (bq FV rfl T.cQ ahJ (ae (pv 3) ah)) (bj _))))))))),?_⟩
  try dsimp only[bJ,cx]
  refine yg ?_;intro uU rX mE gB fD;have hnd:(du S).Nodup:=List.Nodup.sublist List.filter_sublist akh;refine⟨_,rfl,st,_,rfl,bL.of cI,rfl,_,_,rfl,_,_,rfl,rfl,?_⟩;refine⟨_,rfl,r,a.dx,_,rfl,h.ins,cq _ _ _ (by decide +kernel),r,S,a,rfl,h,hw,by omega,λl nl=>?_⟩;have s1:=au.upd (o:=.lst (ao (nI ((List.range S.made).filter λc=>decide (S.aB[c]?=some c))))) nl;have oQ:upd H l (.lst (ao (nI ((List.range S.made).filter λc=>decide (S.aB[c]?=some c))))) l=some (.lst (ao (nI (du S)))):=aj;generalize upd H l (.lst (ao (nI ((List.range S.made).filter λc=>decide (S.aB[c]?=some c)))))=H1 at s1 oQ ⊢;have Zn:=s1 _ _ he;have ie:(ao (nI S.aB)).length=S.made:=by rw[bh,cy,hw.e]
  have yJ:((ao (nI S.aB)).length:Int)=(S.made:Int):=by rw[ie]
  refine⟨_,rfl,e,_,rfl,.inl (aM.of Zn),(S.made:Int),ah6 (λx=>[V.int x]) yJ,by omega,by omega,?_⟩;rw[ahZ];refine Fm hw (by omega) (λi q Rr hE hR=>?_) (λi Rr hR=>⟨_,rfl,hR⟩) (λD nD=>?_)
  ·exact⟨_,rfl,_,rfl,e,_,_,_,rfl,rfl,aM.of Zn,(by rw[ajd];exact cf (bZ (fj hE))),_,rfl,rfl,_,rfl,hR⟩
  refine⟨l,D,_,_,rfl,rfl,au.upd nD _ _ oQ,aj,_,rfl,jE rfl ?_⟩;have s2:=s1.trans (au.upd (o:=.lst (ao (nI (du S)))) nD);generalize upd H1 D (.lst (ao (nI (du S))))=H2 at s2 ⊢;have h2:=h.same s2;have Zo:=s2 _ _ he;refine⟨_,rfl,e,_,rfl,.inl (aM.of Zo),(S.made:Int),ah6 (λx=>[V.int x]) yJ,by omega,by omega,?_⟩;rw[ahZ];refine⟨λi m ys H3=>m=S.made - i/\i<=S.made/\ys=ao (nI (S.aB.take i))/\H3=H2,⟨S.made,by simp,ahT _,rfl,rfl⟩,?_⟩;rintro i m ys H3 ⟨rfl,hi,rfl,rfl⟩
  have hlen:(ao (nI (S.aB.take i))).length<=1000:=by
   rw[bh,cy,ah2];omega
  by_cases bU:i<S.made
  ·refine .inr ⟨bU,ahr hlen (by decide),λx H4 jm=>?_⟩;obtain⟨rfl,rfl⟩:=jm;obtain⟨q,hE⟩:=get_some (xs:=S.aB) (i:=i) (by rw[hw.e];exact bU);refine⟨_,rfl,r,a.dx,_,rfl,h2.ins,cq _ _ _ (by decide +kernel),_,rfl,r,S,a,i,q,(by rw[ajd];rfl),h2,hE,S.made - (i+ 1),by omega,rfl,bU,?_,rfl⟩;rw[List.take_add_one,hE,jo,ints_app];rfl
  ·have ei:i=S.made:=by omega
   subst ei;rw[aiP (by rw[hw.e];exact ahi _)];refine .inl ⟨ahi _,by rw[ie];exact ahC hm (by decide),λD2 Aj=>?_⟩;have s3:=s2.trans (au.upd (o:=.lst (ao (nI S.aB))) Aj);refine⟨_,rfl,D2,e,_,_,rfl,rfl,aj,au.upd Aj _ _ Zo,_,rfl,jE rfl ?_⟩;generalize upd H3 D2 (.lst (ao (nI S.aB)))=H4 at s3 ⊢;have h4:=h.same s3;refine⟨_,rfl,r,a.dx,_,rfl,h4.ins,cq _ _ _ (by decide +kernel),r,S,a,rfl,h4,hw,by omega,λl2 uW=>?_⟩;have s5:=s3.trans (au.upd (o:=.lst (ao (nI ((List.range S.made).filter λc=>decide (S.aB[c]?=some c))))) uW);have Lz:upd H4 l2 (.lst (ao (nI ((List.range S.made).filter λc=>decide (S.aB[c]?=some c))))) l2=some (.lst (ao (nI (du S)))):=aj;generalize upd H4 l2 (.lst (ao (nI ((List.range S.made).filter λc=>decide (S.aB[c]?=some c)))))=H5 at s5 Lz ⊢;refine⟨l2,rfl,⟨_,aM.of Lz⟩,?_⟩;refine iz (K:=K) (a:=l2) (xs:=ao (nI (du S))) (λi σ H6=>∃v6 v7 v8,σ=[some (.ref r),some (.int (L:Int)),some (.ref st),some (.ref d),some (.ref e),some (.int ((((du S).take i).flatMap (cW S (sf L (2* L+ 1)))).length:Int)),v6,v7,v8]/\au H5 H6) ⟨none,none,none,rfl,λ_ _ e=>e⟩ (λi σ H6 _ ⟨_,_,_,_,s⟩=>aM.of (s _ _ Lz)) ?_ ?_
   ·rintro i x σ H6 hx ⟨v6,v7,v8,rfl,s6⟩;dsimp only[eM];refine cM ?_;intro ik;obtain⟨y,rfl,hy⟩:=dN hx
    obtain⟨c,Zq,rfl⟩:∃c:Nat,(du S)[i]?=some c/\y=(c:Int):=by
     unfold nI at hy;rw[ahw]at hy
     cases q:(du S)[i]? with
     |none=>rw[q]at hy;cases hy
     |some c=>rw[q]at hy;exact⟨c,rfl,(Za0 hy).symm⟩
    have xN:c<S.made:=((qb hw).mp (ahf Zq)).1;generalize Hf:(((du S).take i).flatMap (cW S (sf L (2* L+ 1)))).length=m0;refine⟨_,rfl,_,rfl,_,rfl,_,_,rfl,rfl,-(L:Int),(L:Int)+ 1,rfl,⟨by omega,by omega,by omega,by omega⟩,?_⟩;refine oz (lo:=-(L:Int)) (n:=((L:Int)+ 1 - -(L:Int)).toNat) (λj σ H7=>∃v7 v8,σ=[some (.ref r),some (.int (L:Int)),some (.ref st),some (.ref d),some (.ref e),some (.int ((m0+ (cW S (sf L j) c).length:Nat):Int)),some (.int (c:Int)),v7,v8]/\au H5 H7) ⟨v7,v8,rfl,s6⟩ ?_ ?_
    ·rintro j σ H7 hj ⟨v7,v8,rfl,s7⟩;dsimp only[eM];refine yf ?_;intro ik UZ GR;have Hk:=s5.trans s7;have h7:=h.same Hk;generalize hz: -(L:Int)+ (j:Int)=z;have P8:=ND S c z
     have Wa:(cW S (sf L (j+ 1)) c).length=(cW S (sf L j) c).length+ (cW S [z] c).length:=by
      rw[NC,IW,ahe,hz]
     generalize (cW S (sf L j) c).length=m1 at Wa;refine⟨λ aX H'=>aX=[some (.ref r),some (.int (L:Int)),some (.ref st),some (.ref d),some (.ref e),some (.int ((m0+ m1:Nat):Int)),some (.int (c:Int)),some (.int z),some (((S.by c z).map λn:Nat=>V.int (n:Int)).getD .non)]/\H'=H7,?_,?_⟩
     ·refine cM ?_;intro ik;refine⟨_,rfl,rfl,_,rfl,?_⟩;by_cases Wb:z=0
      ·refine jE (by rw[Wb]) ?_
       have:S.by c z=none:=by
        cases q:S.by c z with
        |none=>rfl
        |some b=>exact absurd Wb (BO _ _ _ q).2.1
       exact⟨by rw[this];rfl,rfl⟩
      ·refine cS (λ_=>?_) (λhn=>absurd (by rw[ah1 (λq=>Wb (V.int.inj q))];rfl) hn);exact⟨_,rfl,r,a.dx,_,rfl,h7.ins,cq _ _ _ (by decide +kernel),_,rfl,_,rfl,r,S,a,c,z,rfl,h7,by rw[hw.w];exact xN,rfl,rfl⟩
     rintro aX H8 ⟨rfl,rfl⟩;refine⟨_,?_,λ_ _ h=>h⟩;refine⟨_,rfl,rfl,_,rfl,?_⟩
     cases eb:S.by c z with
     |none=>
      rw[eb]at P8;refine⟨some (.int z),some .non,?_,s7⟩;rw[Wa,P8];rfl
     |some b=>
      rw[eb]at P8;rw[show (Option.map (λn:Nat=>V.int (n:Int)) (some b)).getD V.non=V.int (b:Int) from rfl];refine⟨_,rfl,_,_,rfl,rfl,?_⟩;refine⟨_,?_,λ_ _ h=>h⟩;refine⟨_,rfl,b,rfl,true,rfl,b8 ?_⟩;refine⟨_,rfl,_,rfl,_,rfl,(Za4 3),λt6 nt6=>?_⟩;have s8:=au.upd (o:=.tup [.int (c:Int),.int z,.int (b:Int)]) nt6;have KW:upd H8 t6 (.tup [.int (c:Int),.int z,.int (b:Int)]) t6=some (.tup ((k3 c z b).map kV)):=aj;generalize upd H8 t6 (.tup [.int (c:Int),.int z,.int (b:Int)])=H9 at s8 KW ⊢;refine⟨_,rfl,d,_,rfl,dB.t (k:=k3 c z b) (s8 _ _ (Hk _ _ hd)) KW,_,rfl,?_⟩;rw[hW.v c z b eb];refine b8 ⟨some (.int z),some (.int (b:Int)),?_,s7.trans s8⟩;rw[Wa,P8];show [some (V.ref r),some (.int (L:Int)),some (.ref st),some (.ref d),some (.ref e),some (.int (((m0+ m1:Nat):Int)+ 1)),some (.int (c:Int)),some (.int z),some (.int (b:Int))]=_
      congr 1
    ·rintro σ H7 ⟨v7,v8,rfl,s7⟩;refine⟨some (.int (c:Int)),v7,v8,?_,s7⟩;rw[Lh Zq,Hf,show ((L:Int)+ 1 - -(L:Int)).toNat=2* L+ 1 by omega]
   ·rintro σ H6 ⟨v6,v7,v8,rfl,s6⟩;rw[bh,cy,aik];refine⟨_,rfl,_,rfl,d,kvs,rfl,(s5.trans s6) _ _ hd,rfl,?_⟩;have:((du S).flatMap (cW S (sf L (2* L+ 1)))).length=kvs.length:=IV hW (V9 _ _) hnd λa z b q=>⟨(BO a z b q).1,Rp (BO a z b q).2.2⟩
    rw[this];rw[ahy rfl];exact k _ (s5.trans s6)
structure WK (kv:List (List Key×V)) (by_:Nat->Int->Option Nat):Prop where
 v:∀a z,bM kv (eG a z)=(by_ a z).map λb:Nat=>V.int (b:Int)
theorem Hl {by_:Nat->Int->Option Nat}{w:List Int}{c f k:Nat}{y:Int}(h:wk by_ c (w.take k)=some f)(hy:w[k]?=some y):wk by_ c (w.take (k+ 1))=by_ f y:=by
 rw[take_snoc hy,vL h]
 cases q:by_ f y with
 |none=>unfold wk;rw[q]
 |some b=>exact Kj q
theorem w9 {by_:Nat->Int->Option Nat}{w:List Int}{c f i k:Nat}{y:Int}{x:Nat}(h:wk by_ c (w.take i)=some f)(hy:w[i]?=some y)(hn:by_ f y=none)(hk:wk by_ c (w.take k)=some x):k<=i:=by
 rcases ajJ i k with q|q
 ·exfalso
  have e:w.take k=w.take (i+ 1)++(w.take k).drop (i+ 1):=by
   conv=>lhs;rw[←List.take_append_drop (i+ 1) (w.take k)]
   rw[List.take_take,aiq q]
  rw[e]at hk;obtain⟨d,h1,_⟩:=Ea hk;rw[Hl h hy,hn]at h1;cases h1
 ·exact q
theorem Rq {S:RS}{R:Za2}(g:Good S [] R){w:List Int}{x x' c b:Nat}{z:Int}(h:wk S.by x (w.drop (b+ 1))=some c)(hz:w[b]?=some z)(hb:S.by x (-z)=some x'):wk S.by x' (w.drop b)=some c:=by
 have hl:b<w.length:=(ahd.mp hz).1;have e:w[b]=z:=(ahd.mp hz).2;rw[aiS hl,e];have q:=g.sy _ _ _ hb;rw[aiK]at q;show (match S.by x' z with|none=>none|some d=>wk S.by d (w.drop (b+ 1)))=_;rw[q];exact h
theorem Rt {S:RS}{c x:Nat}{word:List Int}(h:GP S c word)(hw:wk S.by c (word.take word.length)=some x):x=c:=by
 rcases h with h|⟨i,j,f,r,y,z,hij,hi,hj,w1,n1,w2,n2⟩
 ·rw[aik,h]at hw;exact(Za0 hw).symm
 ·have h1:=w9 w1 hi n1 hw;have h2:=(ahd.mp hj).1;omega
theorem Ru {S:RS}{c x n:Nat}{word:List Int}{y0:Int}(h:GP S c word)(hw:wk S.by c (word.take n)=some x)(hy:word[n]?=some y0)(hn:S.by x y0=none):∃j r z,n<j/\word[j]?=some z/\wk S.by r (word.drop (j+ 1))=some c/\S.by r (-z)=none:=by
 rcases h with h|⟨i,j,f,r,y,z,hij,hi,hj,w1,n1,w2,n2⟩
 ·have h1:=w9 hw hy hn (k:=word.length) (by rw[aik];exact h);have h2:=(ahd.mp hy).1;omega
 ·have h1:=w9 w1 hi n1 hw;have h2:=w9 hw hy hn w1;exact⟨j,r,z,by omega,hj,w2,n2⟩
inductive A4 (vs:List V) (H:Hp) (Q:VK) (E_:XK):Prop
 |mk (kd t:Addr) (kv:List (List Key×V)) (S:RS) (R:Za2) (word:List Int) (c:Nat) (e9:vs=[.ref kd,.ref t,.int c]) (fb:H kd=some (.dT kv)) (fm:WK kv S.by) (fq:H t=some (.tup (ao word))) (fZ:Good S [] R) (hX:GP S c word) (iW:∀H',au H H'->Q (.bl true) H'):A4 vs H Q E_
theorem CD (T:Txt K mg A):aL P w K mg base bB 1 A.qT A.qU ["_law_known","_law_word_here","_law_room"] A4:=by
 refine T._law_round.F.ok dO (λvs H Q E h=>?_) (λbR AA outer s H vs Q E hr h=>?_)
 ·obtain⟨kd,t,kv,S,R,word,c,rfl,_⟩:=h;rfl
 ·obtain⟨kd,t,kv,S,R,word,c,rfl,P9,Fx,ht,g,Zr,k⟩:=h;have dE:=gM hr
  refine⟨_,(ai (aY (i:=3) dO.nd rfl (Or.inl rfl) aw)
   (ai (aY (i:=4) dO.nd rfl (Or.inl rfl) (pv 2))
   (ai (bX (ky ahK (PW.pt (lC (aZ lF (pv 3) (bq bA rfl T.cQ ahJ (ae (pv 1) ah)) (bj _)) (kS (qi (qx dE (bS (ae (pv 4) (ae (aS bp (pv 1) (pv 3) (λ_ _=>rfl)) ah))) (pv 0))))))
    (ai (aY (i:=4) dO.nd rfl (Or.inl rfl) (As dE (pv 0) (bS (ae (pv 4) (ae (aS bp (pv 1) (pv 3) (λ_ _=>rfl)) ah))) (λ_ _=>rfl)))
    (aq (aY (i:=3) dO.nd rfl (Or.inl rfl) (bD dG (pv 3) aw))))))
   (ai (bP (aZ fF (pv 3) (bq bA rfl T.cQ ahJ (ae (pv 1) ah)) (bj _))
    (aq (bz (mQ fF (pv 4) (pv 2) (bj _))))
    bC)
   (ai (aY (i:=5) dO.nd rfl (Or.inl rfl) (bq bA rfl T.cQ ahJ (ae (pv 1) ah)))
   (ai (aY (i:=4) dO.nd rfl (Or.inl rfl) (pv 2))
   (ai (bX (ky ahK (PW.pt (lC (aZ HB (pv 5) (bD dG (pv 3) aw) (bj _)) (kS (qi (qx dE (bS (ae (pv 4) (ae (fW eP (aS bp (pv 1) (bD qk (pv 5) aw) (λ_ _=>rfl))) ah))) (pv 0))))))
    (ai (aY (i:=4) dO.nd rfl (Or.inl rfl) (As dE (pv 0) (bS (ae (pv 4) (ae (fW eP (aS bp (pv 1) (bD qk (pv 5) aw) (λ_ _=>rfl))) ah))) (λ_ _=>rfl)))
    (aq (aY (i:=5) dO.nd rfl (Or.inl rfl) (bD qk (pv 5) aw))))))
   (aq (bz (mQ HB (pv 5) (bD dG (pv 3) aw) (bj _))))))))))),?_⟩
  try dsimp only[bJ,cx]
  refine uh ?_;intro Ez zI uU rX mE gB fD;have lw:(ao word).length=word.length:=bh _;refine⟨_,rfl,?_⟩
  let uI:St->Hp->Prop:=λ aX H'=>∃n x:Nat,aX=[some (.ref kd),some (.ref t),some (.int (c:Int)),some (.int (n:Int)),some (.int (x:Int)),none]/\au H H'/\n<=word.length/\wk S.by c (word.take n)=some x/\∀y,word[n]?=some y->S.by x y=none
  refine⟨uI,?_,?_⟩
  ·refine cM ?_;intro ik;refine⟨λm σ H2=>∃n x:Nat,m=word.length - n/\σ=[some (.ref kd),some (.ref t),some (.int (c:Int)),some (.int (n:Int)),some (.int (x:Int)),none]/\au H H2/\n<=word.length/\wk S.by c (word.take n)=some x,⟨_,0,c,rfl,rfl,λ_ _ e=>e,ahT _,rfl⟩,?_⟩;intro m σ H2 bV;refine bI ?_;intro q_;obtain⟨n,x,rfl,rfl,s2,hn,hw⟩:=bV;dsimp only[q_];clear q_;refine⟨_,rfl,_,rfl,t,_,rfl,.inr (bL.of (s2 _ _ ht)),_,_,rfl,rfl,_,rfl,?_⟩;refine cS (λbU=>?_) λvK=>b8 ?_
   ·have bU:=ahB bU;have bU:n<word.length:=by omega
    obtain⟨y,hy⟩:=get_some (xs:=word) (i:=n) bU;refine⟨_,rfl,_,rfl,_,rfl,t,_,_,_,rfl,rfl,bL.of (s2 _ _ ht),cf (bZ hy),(Za4 2),λt3 rF=>?_⟩;have s3:=au.upd (o:=.tup [.int (x:Int),.int y]) rF;have rA:upd H2 t3 (.tup [.int (x:Int),.int y]) t3=some (.tup ((eG x y).map kV)):=aj;generalize upd H2 t3 (.tup [.int (x:Int),.int y])=H3 at s3 rA ⊢;have mG:=s2.trans s3;refine⟨_,rfl,kd,_,rfl,dB.t (k:=eG x y) (mG _ _ P9) rA,_,rfl,?_⟩;rw[Fx.v x y]
    cases q:S.by x y with
    |none=>exact b8 ⟨n,x,rfl,mG,hn,hw,λy' h'=>by rw[hy]at h';cases h';exact q⟩
    |some b=>
     refine fQ ⟨λ σ H'=>σ=[some (.ref kd),some (.ref t),some (.int (c:Int)),some (.int ((n+ 1:Nat):Int)),some (.int (b:Int)),none]/\au H H',?_,?_⟩
     ·rintro σ H' ⟨rfl,s'⟩;exact⟨_,by omega,n+ 1,b,rfl,rfl,s',bU,by rw[Hl hw hy,q]⟩
     ·refine⟨_,rfl,_,rfl,_,rfl,_,rfl,t,_,_,_,rfl,rfl,bL.of (mG _ _ ht),cf (bZ hy),(Za4 2),λt4 Ln=>?_⟩;have s4:=au.upd (o:=.tup [.int (x:Int),.int y]) Ln;have tY:upd H3 t4 (.tup [.int (x:Int),.int y]) t4=some (.tup ((eG x y).map kV)):=aj;generalize upd H3 t4 (.tup [.int (x:Int),.int y])=H4 at s4 tY ⊢;have fV:=mG.trans s4;have hv:bM kv (eG x y)=some (.int (b:Int)):=by rw[Fx.v x y,q];rfl
      refine⟨kd,_,rfl,hv ▸ dB.t (k:=eG x y) (fV _ _ P9) tY,?_⟩;exact⟨_,rfl,_,_,rfl,rfl,rfl,fV⟩
   ·have vK:¬(n<word.length):=λh=>vK (ahy (by omega))
    exact⟨n,x,rfl,s2,hn,hw,λy h=>absurd (ahd.mp h).1 vK⟩
  intro σ H2 bV;refine bI ?_;intro q_;obtain⟨n,x,rfl,s2,hn,hw,acd⟩:=bV;dsimp only[q_];clear q_;refine⟨_,rfl,_,rfl,t,_,rfl,.inr (bL.of (s2 _ _ ht)),rfl,_,rfl,?_⟩;refine cS (λhe=>?_) λcF=>?_
  ·have he:=ahB he
   have G6:n=word.length:=by
    have:=ah6 (λv=>match v with|V.int i=>i|_=>0) he;dsimp only at this;omega
   subst G6;have:=Rt Zr hw;subst this;refine⟨_,rfl,_,rfl,rfl,?_⟩;rw[ahy rfl];exact k _ s2
  ·have bU:n<word.length:=by
    rcases ajJ n word.length with q|q
    ·exact q
    ·exact absurd (ahy (by rw[lw,show n=word.length by omega])) cF
   obtain⟨j,r,z,hj,Zt,w2,n2⟩:=Ru Zr hw (ahc bU) (acd _ (ahc bU));have Fy:=(ahd.mp Zt).1;refine⟨_,rfl,t,_,rfl,.inr (bL.of (s2 _ _ ht)),_,rfl,?_⟩
   let uH:St->Hp->Prop:=λ aX H'=>∃b x:Nat,aX=[some (.ref kd),some (.ref t),some (.int (c:Int)),some (.int (n:Int)),some (.int (x:Int)),some (.int (b:Int))]/\au H H'/\j+ 1<=b
   refine⟨uH,?_,?_⟩
   ·refine cM ?_;intro ik;refine⟨λm σ H2=>∃b x:Nat,m=b/\σ=[some (.ref kd),some (.ref t),some (.int (c:Int)),some (.int (n:Int)),some (.int (x:Int)),some (.int (b:Int))]/\au H H2/\j+ 1<=b/\b<=word.length/\wk S.by x (word.drop b)=some c,⟨_,word.length,c,rfl,(by rw[←lw];rfl),s2,Fy,ahi _,by rw[ajy];rfl⟩,?_⟩;intro m σ H3 bV;refine bI ?_;intro q_;obtain⟨b,x2,rfl,rfl,s3,Zu,BZ,Lv⟩:=bV;dsimp only[q_];clear q_;refine⟨_,rfl,_,rfl,_,_,rfl,rfl,_,_,rfl,rfl,_,rfl,?_⟩;rw[ahy (show ((n:Int)+ 1<(m:Int)) by omega)];refine fQ ?_;have JS:m - 1<word.length:=by omega
    obtain⟨y,hy⟩:=get_some (xs:=word) (i:=m - 1) JS
    have Qa:kT (ao word) ((m:Int) - 1)=some (.int y):=by
     rw[show ((m:Int) - 1)=((m - 1:Nat):Int) by omega];exact cf (bZ hy)
    refine⟨_,rfl,_,rfl,_,rfl,_,_,rfl,rfl,t,_,_,_,rfl,rfl,bL.of (s3 _ _ ht),Qa,_,rfl,(Za4 2),λt3 rF=>?_⟩;have s4:=au.upd (o:=.tup [.int (x2:Int),.int (-y)]) rF;have rA:upd H3 t3 (.tup [.int (x2:Int),.int (-y)]) t3=some (.tup ((eG x2 (-y)).map kV)):=aj;generalize upd H3 t3 (.tup [.int (x2:Int),.int (-y)])=H4 at s4 rA ⊢;have fV:=s3.trans s4;refine⟨_,rfl,kd,_,rfl,dB.t (k:=eG x2 (-y)) (fV _ _ P9) rA,_,rfl,?_⟩;rw[Fx.v x2 (-y)]
    cases q:S.by x2 (-y) with
    |none=>exact b8 ⟨m,x2,rfl,fV,Zu⟩
    |some b=>
     have hmj:m - 1≠j:=λe=>by
      rw[e]at hy;rw[Zt]at hy;cases hy;have e2:m=j+ 1:=by omega
      subst e2;have:=Kq g Lv w2;subst this;rw[n2]at q;cases q
     refine fQ ⟨λ σ H'=>σ=[some (.ref kd),some (.ref t),some (.int (c:Int)),some (.int (n:Int)),some (.int (b:Int)),some (.int ((m - 1:Nat):Int))]/\au H H',?_,?_⟩
     ·rintro σ H' ⟨rfl,s'⟩;exact⟨_,show m - 1<m by omega,m - 1,b,rfl,rfl,s',by omega,by omega,Rq g (by rw[show m - 1+ 1=m by omega];exact Lv) hy q⟩
     ·refine⟨_,rfl,_,rfl,_,rfl,_,rfl,_,_,rfl,rfl,t,_,_,_,rfl,rfl,bL.of (fV _ _ ht),Qa,_,rfl,(Za4 2),λt4 Ln=>?_⟩;have s5:=au.upd (o:=.tup [.int (x2:Int),.int (-y)]) Ln;have tY:upd H4 t4 (.tup [.int (x2:Int),.int (-y)]) t4=some (.tup ((eG x2 (-y)).map kV)):=aj;generalize upd H4 t4 (.tup [.int (x2:Int),.int (-y)])=H5 at s5 tY ⊢;have Zv:=fV.trans s5;have hv:bM kv (eG x2 (-y))=some (.int (b:Int)):=by rw[Fx.v x2 (-y),q];rfl
      refine⟨kd,_,rfl,hv ▸ dB.t (k:=eG x2 (-y)) (Zv _ _ P9) tY,?_⟩;exact⟨_,rfl,_,_,rfl,rfl,(by rw[show ((m - 1:Nat):Int)=(m:Int) - 1 by omega];rfl),Zv⟩
   ·rintro σ H3 ⟨b,x2,rfl,s3,Zu⟩;refine⟨_,rfl,_,rfl,_,_,rfl,rfl,_,_,rfl,rfl,?_⟩;show Q (V.bl (decide ((n:Int)+ 1<(b:Int)))) H3;rw[ahy (show ((n:Int)+ 1<(b:Int)) by omega)];exact k _ s3
structure KN (tk:List (List Key×V)) (kvs:List (List Key×V)) (i:Nat):Prop where
 a:∀c z v,bM tk (eG c z)=some v->∃j p b,j<i/\kvs[j]?=some p/\p.1=k3 c z b/\v=V.int ((b:Nat):Int)
 b:∀j p c z b,j<i->kvs[j]?=some p->p.1=k3 c z b->bM tk (eG c z)=some (.int ((b:Nat):Int))
theorem NF {α:Type}:∀{l:List α} {i j:Nat} {x:α},l.Nodup->l[i]?=some x->l[j]?=some x->i=j:=λ{l i j x} h hi hj=>
 (akb (ahd.mp hi).1 h).mp (hi.trans hj.symm)
theorem KN.none {tk kvs:List (List Key×V)}{by_:Nat->Int->Option Nat}(hW:WD kvs (λa z b=>by_ a z=some b)){i c b:Nat}{z:Int}{p:List Key×V}(h:KN tk kvs i)(hp:kvs[i]?=some p)(e:p.1=k3 c z b)(hb:by_ c z=some b):bM tk (eG c z)=none:=by
 cases q:bM tk (eG c z) with
 |none=>rfl
 |some v=>
  exfalso
  obtain⟨j,p',b',hj,qO,e',_⟩:=h.a _ _ _ q;obtain⟨a1,z1,b1,e1,w1⟩:=hW.k p' (ahf qO);obtain⟨rfl,rfl,rfl⟩:=mK.mp (e'.symm.trans e1);rw[hb]at w1;obtain rfl:=Za0 w1;have:=NF hW.n (i:=i) (j:=j) (x:=k3 c z b) (by rw[ahw,hp];exact ah6 some e) (by rw[ahw,qO];exact ah6 some e');omega
theorem KN.put {tk kvs:List (List Key×V)}{by_:Nat->Int->Option Nat}(hW:WD kvs (λa z b=>by_ a z=some b)){i c b:Nat}{z:Int}{p:List Key×V}(h:KN tk kvs i)(hp:kvs[i]?=some p)(e:p.1=k3 c z b)(hb:by_ c z=some b):KN (putK tk (eG c z) (.int (b:Int))) kvs (i+ 1):=by
 refine⟨λc' z' v hv=>?_,λj p' c' z' b' hj qO e'=>?_⟩
 ·rw[qv]at hv;by_cases q:eG c' z'=eG c z
  ·rw[ahu q]at hv;obtain⟨rfl,rfl⟩:=Fl.mp q;exact⟨i,p,b,by omega,hp,e,(Za0 hv).symm⟩
  ·rw[ahq q]at hv;obtain⟨j,p',b',hj,r⟩:=h.a _ _ _ hv;exact⟨j,p',b',by omega,r⟩
 ·rw[qv];by_cases q:eG c' z'=eG c z
  ·rw[ahu q];obtain⟨rfl,rfl⟩:=Fl.mp q;obtain⟨a1,z1,b1,e1,w1⟩:=hW.k p' (ahf qO);obtain⟨rfl,rfl,rfl⟩:=mK.mp (e'.symm.trans e1);rw[hb]at w1;obtain rfl:=Za0 w1;rfl
  ·rw[ahq q];by_cases rn:j=i
   ·subst rn;rw[hp]at qO;obtain rfl:=Za0 qO;obtain⟨rfl,rfl,rfl⟩:=mK.mp (e.symm.trans e');exact absurd rfl q
   ·exact h.b j p' c' z' b' (by omega) qO e'
theorem KN.done {tk kvs:List (List Key×V)}{by_:Nat->Int->Option Nat}(hW:WD kvs (λa z b=>by_ a z=some b))(h:KN tk kvs kvs.length):WK tk by_:=by
 refine⟨λa z=>?_⟩
 cases q:by_ a z with
 |some b=>
  obtain⟨v,hv⟩:=aio.mp (hW.v a z b q);obtain⟨p,hp,e⟩:=wZ hv;obtain⟨j,hj,e2⟩:=List.getElem_of_mem hp;exact h.b j p a z b hj (by rw[ahc hj,e2]) e
 |none=>
  cases r:bM tk (eG a z) with
  |none=>rfl
  |some v=>
   obtain⟨j,p,b,hj,hp,e,_⟩:=h.a _ _ _ r;obtain⟨a1,z1,b1,e1,w1⟩:=hW.k p (ahf hp);obtain⟨rfl,rfl,rfl⟩:=mK.mp (e.symm.trans e1);rw[q]at w1;cases w1
inductive wA (vs:List V) (H:Hp) (Q:VK) (E_:XK):Prop
 |mk (d e ru pa:Addr) (kvs:List (List Key×V)) (S:RS) (R:Za2) (rs ps:Za3) (e9:vs=[.ref d,.ref e,.ref ru,.ref pa]) (fb:H d=some (.dT kvs)) (fm:WD kvs (λa z b=>S.by a z=some b)) (fq:kvs.length<=10000) (fZ:H e=some (.lst (ao (nI S.aB)))) (hX:b0 H ru rs) (iW:b0 H pa ps) (jC:S.Wf) (lu:Good S [] R) (rV:Mw rs ps S) (sS:S.made<=1000) (yt:∀H',au H H'->Q (.bl true) H'):wA vs H Q E_
theorem A5 (T:Txt K mg A):aL P w K mg base bB 2 A.pj A.pw ["_law_ways","_law_elders","_law_rules","_law_part"] wA:=by
 have wB:aL P w K mg base bB 1 A.qT A.qU ["_law_known","_law_word_here","_law_room"] A4:=CD T;refine T._law_closed.F.ok dS (λvs H Q E h=>?_) (λbR AA outer s H vs Q E hr h=>?_)
 ·obtain⟨d,e,ru,pa,kvs,S,R,rs,ps,rfl,_⟩:=h;rfl
 ·obtain⟨d,e,ru,pa,kvs,S,R,rs,ps,rfl,hd,hW,vB,he,⟨us,uY,qq⟩,⟨vs,wu,BH⟩,hw,g,hC,hm,k⟩:=h;have dE:=gM hr
  refine⟨_,(ai (aY (i:=4) dS.nd rfl (Or.inl rfl) uc)
   (ai (Ax (dw ahK rfl (Oh (pv 0)) (jX rfl (cz (bQ (i:=5) dS.nd rfl (Or.inl rfl)) (cz (bQ (i:=6) dS.nd rfl (Or.inl rfl)) (cz (bQ (i:=7) dS.nd rfl (Or.inl rfl)) iX))))
    (ai (bP (qi (qx dE (bS (ae (pv 5) (ae (pv 6) ah))) (pv 4)))
     (aq (bz dD))
     bC)
    (aq (jG dE (pv 4) (bS (ae (pv 5) (ae (pv 6) ah))) (pv 7) rfl)))))
   (ai (dw ahK rfl (gu rfl T.hJ (ae (bq bA rfl T.cQ ahJ (ae (pv 1) ah)) ah)) (bQ (i:=5) dS.nd rfl (Or.inl rfl))
    (aq (bX (bP (aZ fF (aS ck (pv 1) (pv 5) (λ_ _=>rfl)) (pv 5) (bj _))
     (aq (dw ahK rfl (eJ (pv 2)) (bQ (i:=8) dS.nd rfl (Or.inl rfl))
      (aq (bP (gq (cD (bx (wB) hr.Za5 rfl T._law_round.m T._law_round.F.kp T._law_round.b .nil aO (ae (pv 4) (ae (pv 8) (ae (pv 5) ah))))))
       (aq (bz dD))
       bC))))
     bC))))
   (ai (dw ahK rfl (eJ (pv 3)) (bQ (i:=8) dS.nd rfl (Or.inl rfl))
    (aq (bP (gq (cD (bx (wB) hr.Za5 rfl T._law_round.m T._law_round.F.kp T._law_round.b .nil aO (ae (pv 4) (ae (pv 8) (ae aw ah))))))
     (aq (bz dD))
     bC)))
   (aq (bz dD)))))),?_⟩
  try dsimp only[bJ,cx]
  refine DU ?_;intro rX mE gB fD;have ie:(ao (nI S.aB)).length=S.made:=by rw[bh,cy,hw.e]
  have yJ:((ao (nI S.aB)).length:Int)=(S.made:Int):=by rw[ie]
  intro td Ck;have s4:=au.upd (o:=.dT []) Ck;have Fv:upd H td (.dT []) td=some (.dT []):=aj;have Ah:d≠td:=aI hd Ck;generalize upd H td (.dT [])=H4 at s4 Fv ⊢;have tD:=s4 _ _ hd;refine⟨d,.dT kvs,tD,True.intro,_,rfl,d,kvs,rfl,tD,λo=>?_⟩;have kf:∀b x,b≠d->H4 b=some x->upd H4 d (.dC o (.dT kvs)) b=some x:=λb x n e=>by rw[av n];exact e
  have hf:upd H4 d (.dC o (.dT kvs)) d=some (.dC o (.dT kvs)):=aj;generalize upd H4 d (.dC o (.dT kvs))=H5 at kf hf ⊢;have Nz:=kf _ _ (ail Ah) Fv
  let fU:Nat->St->Hp->Prop:=λi σ H6=>∃v5 v6 v7 tk,σ=[some (.ref d),some (.ref e),some (.ref ru),some (.ref pa),some (.ref td),v5,v6,v7,none]/\(∀b x,b≠td->H5 b=some x->H6 b=some x)/\H6 td=some (.dT tk)/\tk.length<=i/\KN tk kvs i
  refine J0 (o:=o) (kvs:=kvs) fU ⟨none,none,none,[],rfl,λ_ _ _ e=>e,Nz,ahi _,⟨λc z v h=>(by cases h),λj p c z b hj=>(by omega)⟩⟩ (λi σ H6 _ ⟨_,_,_,_,_,kk,_⟩=>kk _ _ Ah hf) ?_ ?_
  ·intro i kv σ H6 pk dP Ls bV;refine bI ?_;intro q_;obtain⟨v5,v6,v7,tk,rfl,kk,rJ,V4,Cm⟩:=bV;dsimp only[q_];clear q_;obtain⟨a,s,b,ek,hw⟩:=hW.k kv (ahf dP);have hi:i<kvs.length:=(ahd.mp dP).1;have qO:H6 pk=some (.tup [.int (a:Int),.int s,.int (b:Int)]):=by rw[ek]at Ls;exact Ls
   refine⟨pk,_,rfl,bL.of qO,rfl,_,_,rfl,_,_,rfl,_,_,rfl,rfl,?_⟩;refine⟨_,rfl,_,rfl,(Za4 2),λt nt=>?_⟩;have s7:=au.upd (o:=.tup [.int (a:Int),.int s]) nt;have PZ:upd H6 t (.tup [.int (a:Int),.int s]) t=some (.tup ((eG a s).map kV)):=aj;generalize upd H6 t (.tup [.int (a:Int),.int s])=H7 at s7 PZ ⊢;refine⟨_,rfl,td,_,rfl,dB.t (k:=eG a s) (s7 _ _ rJ) PZ,_,rfl,?_⟩;rw[Cm.none hW dP ek hw];refine b8 ?_;refine⟨_,rfl,_,rfl,_,rfl,_,rfl,(Za4 2),λt8 nt8=>?_⟩;have s8:=au.upd (o:=.tup [.int (a:Int),.int s]) nt8;have Zw:upd H7 t8 (.tup [.int (a:Int),.int s]) t8=some (.tup ((eG a s).map kV)):=aj;generalize upd H7 t8 (.tup [.int (a:Int),.int s])=H8 at s8 Zw ⊢;have Zx:=s7.trans s8;refine⟨td,_,rfl,kz.t (k:=eG a s) (Zx _ _ rJ) Zw (ahr (show tk.length<=10000 by omega) (by decide)),?_⟩;have dR:=dH tk (eG a s) (.int (b:Int));refine⟨_,_,_,_,rfl,λx o nx e=>?_,aj,by omega,Cm.put hW dP ek hw⟩;rw[av nx];exact Zx _ _ (kk x o nx e)
  ·intro σ H6 bV;refine bI ?_;intro q_;obtain⟨v5,v6,v7,tk,rfl,kk,rJ,V4,Cm⟩:=bV;dsimp only[q_];clear q_;refine⟨o,kk _ _ Ah hf,?_⟩
   have same:au H (upd H6 d (.dT kvs)):=λb x e=>by
    by_cases hb:b=d
    ·subst hb;rw[aj];rw[hd]at e;exact e
    ·rw[av hb];exact kk b x (λz=>by rw[z,Ck]at e;cases e) (kf b x hb (s4 _ _ e))
   have A2:upd H6 d (.dT kvs) td=some (.dT tk):=by rw[av (ail Ah)];exact rJ
   generalize upd H6 d (.dT kvs)=H5 at same A2 ⊢;have Fx:=Cm.done hW;refine⟨_,rfl,e,_,rfl,.inl (aM.of (same _ _ he)),(S.made:Int),ah6 (λx=>[V.int x]) yJ,by omega,by omega,?_⟩;rw[ahZ]
   let yD:Nat->St->Hp->Prop:=λi σ H6=>∃v5 v8,σ=[some (.ref d),some (.ref e),some (.ref ru),some (.ref pa),some (.ref td),v5,v6,v7,v8]/\au H5 H6
   refine oz (lo:=0) (n:=S.made) yD ⟨v5,none,rfl,λ_ _ e=>e⟩ ?_ ?_
   ·rintro i σ H6 hi ⟨v5,v8,rfl,s6⟩;dsimp only[eM];refine cM ?_;intro ik;rw[ajd];have Qb:=same.trans s6;obtain⟨q,hE⟩:=get_some (xs:=S.aB) (i:=i) (by rw[hw.e];exact hi);refine⟨_,?_,λ_ _ h=>h⟩;refine⟨_,rfl,_,rfl,e,_,_,_,rfl,rfl,aM.of (Qb _ _ he),cf (bZ (fj hE)),_,rfl,rfl,_,rfl,cS (λhq=>?_) λ_=>⟨_,_,rfl,s6⟩⟩;have hq:=ahB hq
    have hq:q=i:=by
     have:=ah6 (λv=>match v with|V.int i=>i|_=>0) hq;dsimp only at this;omega
    subst hq;refine⟨_,rfl,ru,rfl,⟨_,aM.of (Qb _ _ uY)⟩,?_⟩
    let Nx:Nat->St->Hp->Prop:=λj σ H7=>∃v8,σ=[some (.ref d),some (.ref e),some (.ref ru),some (.ref pa),some (.ref td),some (.int (q:Int)),v6,v7,v8]/\au H5 H7
    refine iz (K:=K) (a:=ru) (xs:=us.map V.ref) Nx ⟨v8,rfl,s6⟩ (λj σ H7 _ ⟨_,_,s⟩=>aM.of (same.trans s _ _ uY)) ?_ ?_
    ·rintro j x σ H7 hx ⟨v8,rfl,s7⟩;dsimp only[eM];refine cM ?_;intro ik;rw[ahw]at hx
     cases hp:us[j]? with
     |none=>rw[hp]at hx;cases hx
     |some u=>
      rw[hp]at hx;obtain rfl:V.ref u=x:=Za0 hx;have Hk:=same.trans s7;have Fy:j<rs.length:=by rw[←qq.1];exact(ahd.mp hp).1
      have Fz:rs[j]?=some (rs[j]'Fy):=ahc _
      generalize rs[j]'Fy=word at Fz;refine⟨_,rfl,_,rfl,_,rfl,td,u,tk,S,R,word,q,rfl,s7 _ _ A2,Fx,Hk _ _ (qq.2 _ _ _ hp Fz),g,hC.r word (ahf Fz) q hi (by rw[oO (by rw[hw.e];exact hi)]at hE;exact Za0 hE),λH8 s8=>⟨true,rfl,b8 ⟨_,rfl,s7.trans s8⟩⟩⟩
    ·rintro σ H7 ⟨v8,rfl,s7⟩;exact⟨_,_,rfl,s7⟩
   ·rintro σ H6 ⟨v5,v8,rfl,s6⟩;have Qb:=same.trans s6;refine⟨_,rfl,pa,rfl,⟨_,aM.of (Qb _ _ wu)⟩,?_⟩
    let ace:Nat->St->Hp->Prop:=λj σ H7=>∃v8,σ=[some (.ref d),some (.ref e),some (.ref ru),some (.ref pa),some (.ref td),v5,v6,v7,v8]/\au H5 H7
    refine iz (K:=K) (a:=pa) (xs:=vs.map V.ref) ace ⟨v8,rfl,s6⟩ (λj σ H7 _ ⟨_,_,s⟩=>aM.of (same.trans s _ _ wu)) ?_ ?_
    ·rintro j x σ H7 hx ⟨v8,rfl,s7⟩;dsimp only[eM];refine cM ?_;intro ik;rw[ahw]at hx
     cases hp:vs[j]? with
     |none=>rw[hp]at hx;cases hx
     |some u=>
      rw[hp]at hx;obtain rfl:V.ref u=x:=Za0 hx;have Hk:=same.trans s7;have Fy:j<ps.length:=by rw[←BH.1];exact(ahd.mp hp).1
      have Fz:ps[j]?=some (ps[j]'Fy):=ahc _
      generalize ps[j]'Fy=word at Fz;refine⟨_,rfl,_,rfl,td,u,tk,S,R,word,0,rfl,s7 _ _ A2,Fx,Hk _ _ (BH.2 _ _ _ hp Fz),g,hC.p word (ahf Fz),λH8 s8=>⟨true,rfl,b8 ⟨_,rfl,s7.trans s8⟩⟩⟩
    ·rintro σ H7 ⟨v8,rfl,s7⟩;exact k _ (same.trans s7)
def said (n:Nat):Dt:=.t [.s [115,97,105,100],.i (n:Int)]
theorem Cp {K:Za1}{H:Hp}{l:Addr}{cs:List Nat}{tt:TT}{te:TE}{fv:St}{Q:VK}(P:Nat->Bool)(f:Nat->List Int)(hl:H l=some (.lst (ao (nI cs))))(hm:cs.length<=100000)
 (ht:∀(c:Nat) (H2:Hp) (Rr:Bool->Hp->Prop),au H H2->(∀H3,au H2 H3->Rr (P c) H3)->tt (some (.int (c:Int))::fv) H2 Rr)
 (he:∀(c:Nat) (H2:Hp) (Rr:VK),(∀t H3,au H2 H3->H3 t=some (.tup (ao (f c)))->Rr (.ref t) H3)->te (some (.int (c:Int))::fv) H2 Rr)
 (k:∀D H2 qs ws,au H H2->H2 D=none->dZ H2 qs ws->(ws=[]↔∀c∈cs,P c=false)->Q (.ref D) (upd H2 D (.lst (qs.map V.ref)))):yb tt te fv Q (yP K l) H:=by
 have el:(ao (nI cs)).length=cs.length:=by rw[bh,cy]
 refine⟨λi m ys H2=>m=cs.length - i/\i<=cs.length/\au H H2/\∃(qs:List Addr) (ws:Za3),ys=qs.map V.ref/\dZ H2 qs ws/\ws.length<=i/\(ws=[]↔∀c∈cs.take i,P c=false),⟨cs.length,by simp,ahT _,λ_ _ e=>e,[],[],rfl,⟨rfl,λi p w h=>by simp at h⟩,ahi _,by simp⟩,?_⟩;rintro i m ys H2 ⟨rfl,hi,s2,qs,ws,rfl,hq,jS,K5⟩;have hlen:(qs.map V.ref).length<=i:=by rw[ahl,hq.1];exact jS
 by_cases bU:i<cs.length
 ·refine .inr ⟨vt (aM.of (s2 _ _ hl)) i (by omega),ahr (ahC hlen (show i<=100000 by omega)) (by decide),λx H3 jm=>?_⟩;obtain⟨rfl,hx⟩:=sZ (aM.of (s2 _ _ hl)) i x H3 (by omega) jm;obtain⟨z,rfl,hz⟩:=dN hx
  obtain⟨c,hc,rfl⟩:∃c,cs[i]?=some c/\z=(c:Int):=by
   unfold nI at hz;rw[ahw]at hz
   cases q:cs[i]? with
   |none=>rw[q]at hz;cases hz
   |some c=>rw[q]at hz;exact⟨c,rfl,(Za0 hz).symm⟩
  have rJ:cs.take (i+ 1)=cs.take i++[c]:=by rw[List.take_add_one,hc];rfl
  refine ht c _ _ s2 λH3 s3=>?_
  cases hP:P c with
  |false=>
   refine⟨cs.length - (i+ 1),by omega,rfl,bU,s2.trans s3,qs,ws,rfl,hq.same s3,by omega,?_⟩;rw[K5,rJ];constructor
   ·intro h d hd;rcases ahx.mp hd with q|q
    ·exact h d q
    ·rw[ahg.mp q];exact hP
   ·exact λh d hd=>h d (ahF _ hd)
  |true=>
   refine he c _ _ λt H4 s4 tY=>⟨cs.length - (i+ 1),by omega,rfl,bU,(s2.trans s3).trans s4,qs++[t],ws++[f c],by rw[ahO];rfl,((hq.same s3).same s4).snoc tY,by rw[ahe];show _+ 1<=_;omega,?_⟩
   constructor
   ·intro h;have:=ah6 List.length h;rw[ahe]at this;simp at this
   ·intro h;have:=h c (by rw[rJ];exact ahn _ ahv);rw[hP]at this;cases this
 ·have e:i=cs.length:=by omega
  subst e;rw[aik]at K5;refine .inl ⟨?_,ahC hlen (ahC hm (by decide)),λD hD=>k D H2 qs ws s2 hD hq K5⟩;have:=qt (K:=K) (aM.of (K:=K) (s2 _ _ hl));rw[el]at this;exact this
def Hm (d:Dt):Prop:=(∃n,d=.i n)\/∃l,d=.s l
theorem Hm.low {H:Hp}{k k':Nat}{v:V}{d:Dt}(h:Hm d)(q:bN H k v d):bN H k' v d:=by
 rcases h with ⟨n,rfl⟩|⟨l,rfl⟩
 ·cases q;exact .i
 ·cases q;exact .s
theorem Rw {H:Hp}{k k':Nat}{v:V}{ds:List Dt}(h:∀x∈ds,Hm x)(q:bN H (k+ 1) v (.t ds)):bN H (k'+ 1) v (.t ds):=by
 cases q with
 |t h1 h2 h3=>exact .t h1 h2 λj v d e1 e2=>(h d (ahf e2)).low (h3 j v d e1 e2)
def Dp (d:Dt):Prop:=∃ds,d=.t ds/\∀x∈ds,Hm x\/∃as,x=.t as/\∀y∈as,Hm y
theorem Dp.low {H:Hp}{v:V}{d:Dt}(h:Dp d)(q:bN H 4 v d):bN H 2 v d:=by
 obtain⟨ds,rfl,h⟩:=h
 cases q with
 |t h1 h2 h3=>
  refine .t h1 h2 λj v d e1 e2=>?_
  have q:=h3 j v d e1 e2;rcases h d (ahf e2) with a|⟨as,rfl,a⟩
  ·exact a.low q
  ·exact Rw a q
theorem A6 {ds:List Dt}(h:∀x∈ds,Hm x):Dp (.t ds):=⟨ds,rfl,λx hx=>.inl (h x hx)⟩
theorem Rx (n:Nat):Dp (said n):=A6 λx hx=>by
 simp only[ahp,ah5,ajt]at hx;rcases hx with rfl|rfl
 ·exact .inr ⟨_,rfl⟩
 ·exact .inl ⟨_,rfl⟩
theorem Wc (c:Nat)(z:Int)(n:Nat):Dp (oJ c z n):=A6 λx hx=>by
 simp only[ahp,ah5,ajt]at hx;rcases hx with rfl|rfl|rfl|rfl
 ·exact .inr ⟨_,rfl⟩
 all_goals exact .inl ⟨_,rfl⟩
theorem Wd {ws:Za3}{nr:Nat}{E E':List Nat}{W W':Za2}{row:Dt}(h:One ws nr E W row E' W'):Dp row:=by
 cases h with
 |meet=>
  refine A6 λx hx=>?_
  simp only[ahp,ah5,ajt]at hx;rcases hx with rfl|rfl|rfl|rfl|rfl
  ·exact .inr ⟨_,rfl⟩
  all_goals exact .inl ⟨_,rfl⟩
 |rule=>
  refine⟨_,rfl,λx hx=>?_⟩;simp only[ahp,ah5,ajt]at hx;rcases hx with rfl|rfl|rfl|rfl
  ·exact .inl (.inr ⟨_,rfl⟩)
  ·exact .inl (.inl ⟨_,rfl⟩)
  ·refine .inr ⟨_,rfl,λy hy=>?_⟩;obtain⟨c,_,rfl⟩:=ah0.mp hy;exact .inl ⟨_,rfl⟩
  ·exact .inl (.inl ⟨_,rfl⟩)
theorem Qc {ws:Za3}{nr:Nat}{E E':List Nat}{W W':Za2}{ms:List Dt}(h:Go ws nr E W ms E' W'):∀x∈ms,Dp x:=by
 induction h with
 |nil=>exact λx hx=>by cases hx
 |cons o _ ih=>
  intro x hx;rcases ahp.mp hx with rfl|hx
  ·exact Wd o
  ·exact ih x hx
structure Dn (C:Addr) (H:Hp) (r:Addr) (S:RS) (a:RA) (R:Za2) (L n B:Nat):Prop where
 rm:kc C H r S a R (cV (2* L)) B
 m0:0<S.made
 m:S.made<=n+ 1
 l:S.L=L
 w:S.bE.length+ S.stand<=n+ 1
 d:∀x∈S.rows,Dp x
section
variable {C:Addr}{H H':Hp}{r t:Addr}{S S':RS}{a a':RA}{R:Za2}{L n B:Nat}
theorem Dn.keep (h:Dn C H r S a R L n B)(k:∀b o,a.own r b->H b=some o->H' b=some o)(kt:∀b xs,H b=some (.tup xs)->H' b=some (.tup xs)):Dn C H' r S a R L n B:=⟨h.rm.keep k kt,h.m0,h.m,h.l,h.w,h.d⟩
theorem Dn.same (h:Dn C H r S a R L n B)(s:au H H'):Dn C H' r S a R L n B:=h.keep (λb o _ e=>s _ _ e) (λb o e=>s _ _ e)
theorem Dn.up (h:Dn C H r S a R L n B):Dn C H r S a R L (n+ 1) (B+ 2):=by
 have:=h.m;have:=h.w;have:=h.rm.rb;exact⟨⟨h.rm.at_,h.rm.g,h.rm.w,h.rm.k,h.rm.m,h.rm.l,by omega,h.rm.wb⟩,h.m0,by omega,h.l,by omega,h.d⟩
theorem Dn.fits (h:Dn C H r S a R L n B)(hL:L<=3):∀l∈S.ways,l.length<=100000:=λl hl=>by
 obtain⟨c,hc⟩:=aih hl;have:S.way c=l:=by unfold RS.way;rw[ahh,hc];rfl
 rw[←this];have:=h.rm.g.DS h.rm.k c;rw[nS]at this;omega
theorem Dn.lay (h:Dn C H r S a R L n B)(ws:Za3)(nr:Nat)(xQ:L<=3)(hn:n<=60)(hB:B<=5000)(at':Nat){c d:Nat}{z:Int}(nt:H t=none)(hc:c<S.made)(hd:d<S.made)(h1:z≠0)(h2:z.natAbs<=L):
 ∃(I:RS->List Way->Prop) (μ:RS->List Way->Nat),ax C (upd H t (.tup [.str (tx [115,97,105,100]),.int (at':Int)])) r S a/\S.rows.length<=1000000/\bN (upd H t (.tup [.str (tx [115,97,105,100]),.int (at':Int)])) 2 (.ref t) (said at')/\ig (said at')/\I { S with rows:=S.rows++[said at'] } [(c,z,d)]/\(∀S pend w,I S (pend++[w])->vW S/\w.1<S.made/\w.2.2<S.made/\pend.length<=1000000/\I (S.takeIn pend w).1 (S.takeIn pend w).2/\μ (S.takeIn pend w).1 (S.takeIn pend w).2 < μ S (pend++[w]))/\
  ∀S' a' H',ax C H' r S' a'->I S' []->Dn C H' r S' a' (et R c z d) L (n+ 1) (B+ 2)/\S'.made=S.made/\∃ms,S'.rows=S.rows++(said at'::ms)/\Go ws nr S.aB (qN (et R c z d) S.aB) ms S'.aB (qN (et R c z d) S'.aB):=by
 have hm:=h.m;have hr:=h.rm.rb;have hw:=h.w;have sl:=uK S;have pK:=Hh (L:=L) (c:=c) (d:=d) h.rm.k h1 h2;have st:=au.upd (o:=.tup [.str (tx [115,97,105,100]),.int (at':Int)]) nt
 have K2:mu (cV (2* L)).length { S with rows:=S.rows++[said at'] } [(c,z,d)]<=1000000:=by
  unfold mu;have:S.stand* ((cV (2* L)).length+ 1)<=101* 201:=Nat.mul_le_mul (by omega) (by rw[nS];omega);show S.stand* ((cV (2* L)).length+ 1)+ 1<=_;omega
 have gl:=h.rm.g.lay z hc hd (S.rows++[said at']);refine⟨Pn (et R c z d) S.made S.L (B+ 1) (n+ 1) 1000000 (cV (2* L)) { S with rows:=S.rows++[said at'] } [(c,z,d)],mu (cV (2* L)).length,h.rm.at_.same st,by omega,.t aj rfl λj v x e1 e2=>?_,.t (by show 2<=100000;decide) λx hx=>?_,⟨gl,rfl,rfl,?_,hw,K2,λ_ q=>q⟩,E5 pK (by omega) (by rw[nS];omega) (by omega) (by omega) (by decide),λS' a' H' q i=>?_⟩
 ·match j,e1,e2 with
  |0,e1,e2=>cases e1;cases e2;exact .s
  |1,e1,e2=>cases e1;cases e2;exact .i
  |j+ 2,e1,e2=>simp at e1
 ·simp only[ahp,ah5,ajt]at hx;rcases hx with rfl|rfl
  ·exact .s
  ·exact .i
 ·show (S.rows++[_]).length+ S.stand<=_;rw[ahe];show _+ 1+ _<=_;omega
 ·obtain⟨g',em,eL,rb,wb,_,re⟩:=i;have lay:=re S' (.nil S');obtain⟨_,w',_⟩:=lay.all gl pK ⟨h.rm.w.a,h.rm.w.b,h.rm.w.c⟩;obtain⟨ms,er,go⟩:=Kr (ws:=ws) (nr:=nr) lay gl pK;have er:S'.rows=S.rows++(said at'::ms):=by rw[er];show (S.rows++[_])++ms=_;rw[aia];rfl
  refine⟨⟨⟨q,g',w',pK,by rw[em];omega,h.rm.l,by omega,by omega⟩,by rw[em];exact h.m0,by omega,by rw[eL];exact h.l,by omega,λx hx=>?_⟩,em,ms,er,go⟩;rw[er]at hx;rcases ahx.mp hx with p|p
  ·exact h.d x p
  ·rcases ahp.mp p with rfl|p
   ·exact Rx _
   ·exact Qc go x p
theorem Dn.made (h:Dn C H r S a R L n B)(xQ:L<=3)(hn:n<=60)(hB:B<=5000){c:Nat}{z:Int}(hc:c<S.made)(ec:S.ay c=c)(hb:S.by c z=none)(h1:z≠0)(h2:z.natAbs<=L)(q:ax C H' r (S.make c z (cV (2* S.L))) a'):
 Dn C H' r (S.make c z (cV (2* S.L))) a' (et R c z S.made) L (n+ 1) (B+ 2):=by
 have hm:=h.m;have hr:=h.rm.rb;have hw:=h.w;have sl:=uK S;have es:=IX (c:=c) (z:=z) (g:=cV (2* S.L)) h.rm.g.wf
 have rl:(S.make c z (cV (2* S.L))).rows.length=S.rows.length+ 1:=by
  show (S.rows++[_]).length=_;rw[ahe];rfl
 refine⟨⟨q,h.rm.g.make hc ec hb _,Lk h.rm.w h.rm.g.wf _ _ _,Hh h.rm.k h1 h2,by show S.made+ 1<=_;omega,h.rm.l,by omega,?_⟩,Nat.succ_pos _,by show S.made+ 1<=_;omega,h.l,?_,λx hx=>?_⟩
 ·show S.bE.length+ _<=_;omega
 ·show S.bE.length+ _<=_;omega
 ·have hx:x∈S.rows++[oJ c z S.made]:=hx;rcases ahx.mp hx with p|p
  ·exact h.d x p
  ·rw[ahg.mp p];exact Wc _ _ _
end
theorem Hn {S:RS}(h:0<(du S).length)(n:Int):∃c:Nat,c∈du S/\kT (ao (nI (du S))) (n % ((du S).length:Int))=some (.int (c:Int)):=by
 have h1:=aj5 n (show ((du S).length:Int)≠0 by omega);have h2:=ajC n (show (0:Int)<(du S).length by omega);obtain⟨k,hk⟩:∃k:Nat,n % ((du S).length:Int)=(k:Int):=⟨(n % ((du S).length:Int)).toNat,by omega⟩;have vB:k<(du S).length:=by omega
 have e:=ahc vB;exact⟨_,ahf e,by rw[hk];exact cf (bZ (fj e))⟩
theorem Ry {t:TT}{A B:TS}{D:Ends}{σ:St}{H:Hp}(ht:∀K:Bool->Hp->Prop,(∀b,K b H)->t σ H K)(hA:A D σ H)(hB:B D σ H):R6 t A B D σ H:=ht _ λb=>by
 cases b with
 |true=>exact fQ hA
 |false=>exact b8 hB
theorem LC {ws:Za3}{nr:Nat}{E E1:List Nat}{W W1 W2:Za2}{ms:List Dt}(h:Go ws nr E W ms E1 W1)(e:∀a z b,W1 a z b↔W2 a z b):Go ws nr E W ms E1 W2:=by
 have:=h.app (.nil e);rw[ahU]at this;exact this
theorem NK {W W':Za2}(h:∀a z b,W a z b↔W' a z b){c d:Nat}{z:Int}(a:Nat)(y:Int)(b:Nat):et W c z d a y b↔et W' c z d a y b:=by
 unfold et;rw[h]
theorem Rz {S:RS}{R:Za2}(g:Good S [] R){c:Nat}{z:Int}{ks:List Int}(hc:c<S.made)(hb:S.by c z=none)(a:Nat)(y:Int)(b:Nat):et (λa z b=>S.by a z=some b) c z S.made a y b↔(S.make c z ks).by a y=some b:=by
 rw[Nu g.wf hc];unfold et;dsimp only;constructor
 ·rintro (h|⟨rfl,rfl,rfl⟩|⟨rfl,rfl,rfl⟩)
  ·have:=(g.st _ _ _ h).1;rw[ahq (by omega),ahq (λq=>by rw[q.1,q.2,hb]at h;cases h)];exact h
  ·rw[ahq (by omega),ahu ⟨rfl,rfl⟩]
  ·rw[ahu ⟨rfl,rfl⟩]
 ·intro h;by_cases q1:a=S.made/\y= -z
  ·rw[ahu q1]at h;exact .inr (.inr ⟨q1.1,q1.2,(Za0 h).symm⟩)
  ·rw[ahq q1]at h;by_cases q2:a=c/\y=z
   ·rw[ahu q2]at h;exact .inr (.inl ⟨q2.1,q2.2,(Za0 h).symm⟩)
   ·rw[ahq q2]at h;exact .inl h
theorem Ho (c:Nat)(z:Int)(n:Nat):ig (oJ c z n):=.t (by show 4<=100000;decide) λd hd=>by
 simp only[ahp,ah5,ajt]at hd;rcases hd with rfl|rfl|rfl|rfl
 ·exact .s
 ·exact .i
 ·exact .i
 ·exact .i
theorem Hq {S:RS}{R:Za2}(g:Good S [] R){c:Nat}{z:Int}:(∀d∈du S,decide (S.by c z=some d)=false)↔S.by c z=none:=by
 constructor
 ·intro h
  cases q:S.by c z with
  |none=>rfl
  |some d=>
   obtain⟨_,h1,_,h2⟩:=g.st _ _ _ q;have:=of_decide_eq_false (h d ((qb g.wf).mpr ⟨h1,h2⟩));exact absurd q this
 ·exact λh d _=>ah1 (by rw[h];intro z;cases z)
def Qd (C:Addr)(H:Hp)(r st d e:Addr)(S:RS)(a:RA)(L n B:Nat)(kl:Nat)(ws:Za3)(nr:Nat)(Q:VK):Prop:=
 (∀t H',au H H'->H' t=some (.tup [.non,.ref st])->Q (.ref t) H')/\
 ∀t q cU e' cN E' W' row ms S' a' R' H',(∀b u,¬a.own r b->b≠d->H b=some u->H' b=some u)->H' t=some (.tup [.ref q,.ref cU])->bN H' 4 (.ref q) row->ig row->H' cU=some (.tup [.ref d,.ref e'])->H' d=some (.dT cN)->H' e'=some (.lst (ao (nI E')))->¬a'.own r e'->(e'=e\/H e'=none)->WD cN W'->cN.length<=kl+ 2->Dn C H' r S' a' R' L (n+ 1) (B+ 2)->(∀b,a'.own r b->a.own r b\/H b=none)->S'.rows=S.rows++(row::ms)->Go ws nr E' W' ms S'.aB (λa z b=>S'.by a z=some b)->E'.length<=100->Q (.ref t) H'
inductive A7 (C:Addr) (vs:List V) (H:Hp) (Q:VK) (E_:XK):Prop
 |mk (r st d e:Addr) (L:Nat) (z0:Int) (i0:Nat) (S:RS) (a:RA) (R:Za2) (n B:Nat) (kvs:List (List Key×V)) (ws:Za3) (nr:Nat) (e9:vs=[.ref r,.int L,.ref st,.int z0,.int i0]) (fb:Dn C H r S a R L n B) (fm:H st=some (.tup [.ref d,.ref e])) (fq:H d=some (.dT kvs)) (fZ:WD kvs (λa z b=>S.by a z=some b)) (hX:kvs.length<=9000) (iW:H e=some (.lst (ao (nI S.aB)))) (jC:¬a.own r e) (lu:1<=L) (rV:L<=3) (sS:n<=60) (yt:B<=5000) (AV:Qd C H r st d e S a L n B kvs.length ws nr Q):A7 C vs H Q E_
theorem FC (T:Txt K mg A):aL P w K mg base bB 6 A.sL A.sM ["_law_rooms","_law_letters","_law_state","_law_number","_law_at"] (A7 A.ak):=by
 have i6:aL P w K mg base bB 1 A.j2 A.j3 ["_law_number","_law_letters"] wy:=rE T;have uX:aL P w K mg base bB 6 A.km A.ko ["self","going"] (zY A.ak A.aF A.az):=tT T;have om:aL P w K mg base bB 5 A.j4 A.j5 ["self","room","step","other","row"] (zM A.ak):=rq T;have FD:aL P w K mg base bB 3 A.qV A.qW ["self","room","step"] (Eu A.ak):=CB T;refine T._law_deed.F.ok cP (λvs H Q E h=>?_) (λbR AA outer s H vs Q E hr h=>?_)
 ·obtain⟨r,st,d,e,L,z0,i0,S,a,R,n,B,kvs,ws,nr,rfl,_⟩:=h;rfl
 ·obtain⟨r,st,d,e,L,z0,i0,S,a,R,n,B,kvs,ws,nr,rfl,h,cI,hd,hW,vB,he,Zy,j7,xQ,hn,hB,k⟩:=h;have dE:=gM hr
  refine⟨_,(ai (oy (pv 2) (jX rfl (cz (bQ (i:=5) cP.nd rfl (Or.inr rfl)) (cz (bQ (i:=6) cP.nd rfl (Or.inr rfl)) iX))))
   (ai (Cw (iy:=7) cP.nd rfl (Or.inl rfl) (fns:=["_law_elders"]) (ixs:=[6]) (cl:=_) rfl (gu rfl T.hJ (ae (bq bA rfl T.cQ ahJ (ae (pv 6) ah)) ah)) (fe rfl rfl (by decide +kernel) rfl (by decide +kernel) rfl (by decide +kernel) (by decide +kernel) rfl rfl rfl rfl) (λC s H ex=>(aZ fF (aS (yc (K:=K) rfl) (pv 1) (pv 0) (λ_ _=>rfl)) (pv 0) (bj _))) (λC s H ex=>(pv 0)))
   (ai (aY (i:=8) cP.nd rfl (Or.inr rfl) (aS ck (pv 7) (bD dy (pv 3) (bq bA rfl T.cQ ahJ (ae (pv 7) ah))) (λ_ _=>rfl)))
   (ai (aY (i:=9) cP.nd rfl (Or.inr rfl) (bx (i6) hr.Za5 rfl T._law_step.m T._law_step.F.kp T._law_step.b .nil aO (ae (bD iY (pv 3) aw) (ae (pv 1) ah))))
   (ai (aY (i:=10) cP.nd rfl (Or.inr rfl) (aS ck (pv 7) (bD dy (bD dy (bD qm (pv 3) aw) aw) (bq bA rfl T.cQ ahJ (ae (pv 7) ah))) (λ_ _=>rfl)))
   (ai (aY (i:=11) cP.nd rfl (Or.inl rfl) (mQ (Gy dE) (pQ (fns:=["_law_ways","_law_step_here","_law_room"]) (ixs:=[5,9,8]) (cl:=_) rfl (eJ (pv 7)) (zm rfl rfl rfl rfl (by decide +kernel) rfl (by decide +kernel) rfl (by decide +kernel) (by decide +kernel) rfl rfl rfl rfl rfl rfl rfl rfl rfl rfl) (λC s H ex=>(qi (qx dE (bS (ae (pv 3) (ae (pv 2) (ae (pv 0) ah)))) (pv 1)))) (λC s H ex=>(bS (ae (pv 3) (ae (pv 2) (ae (pv 0) ah)))))) (dX ah) (bj _)))
   (ai (aY (i:=12) cP.nd rfl (Or.inl rfl) (mQ (Gy dE) (pQ (fns:=["_law_ways","_law_step_here","_law_other"]) (ixs:=[5,9,10]) (cl:=_) rfl (eJ (pv 7)) (zm rfl rfl rfl rfl (by decide +kernel) rfl (by decide +kernel) rfl (by decide +kernel) (by decide +kernel) rfl rfl rfl rfl rfl rfl rfl rfl rfl rfl) (λC s H ex=>(qi (qx dE (bS (ae (pv 3) (ae (fW eP (pv 2)) (ae (pv 0) ah)))) (pv 1)))) (λC s H ex=>(bS (ae (pv 3) (ae (fW eP (pv 2)) (ae (pv 0) ah)))))) (dX ah) (bj _)))
   (ai (bX (bP (PW.pt (fE (aZ fF (bD dy (pv 4) aw) aw (bj _)) (iT (PW.pt (lC (aZ fF (bD dy (pv 4) aw) aw (bj _)) (lC (cD (pv 11)) (kS (cD (pv 12)))))))))
    (ai (aY (i:=13) cP.nd rfl (Or.inl rfl) (bS (ae (jF (l:=[115,97,105,100]) rfl) (ae (pv 4) ah))))
    (aq (bH (bT (pv 0) (aK T) T.oK.m (om) hr.Za5 T.oK.b .nil aO (ae (pv 8) (ae (pv 9) (ae (pv 10) (ae (pv 13) ah))))))))
    (aq (bP (cD (pv 11))
     (ai (aY (i:=10) cP.nd rfl (Or.inr rfl) (bq bA rfl T.cQ ahJ (ae (pv 6) ah)))
     (ai (aY (i:=6) cP.nd rfl (Or.inr rfl) (bD vq (pv 6) (dX (ae (pv 10) ah))))
     (ai (aY (i:=13) cP.nd rfl (Or.inl rfl) (bS (ae (jF (l:=[110,101,119]) rfl) (ae (pv 8) (ae (pv 9) (ae (pv 10) ah))))))
     (aq (bH (bT (pv 0) (aK T) T.uA.m (FD) hr.Za5 T.uA.b .nil aO (ae (pv 8) (ae (pv 9) ah))))))))
     (aq (bz (bS (ae dv (ae (pv 2) ah)))))))))
   (ai (jG dE (pv 5) (bS (ae (pv 8) (ae (pv 9) (ae (pv 10) ah)))) dD rfl)
   (ai (jG dE (pv 5) (bS (ae (pv 10) (ae (fW eP (pv 9)) (ae (pv 8) ah)))) dD rfl)
   (aq (bz (bS (ae (pv 13) (ae (bS (ae (pv 5) (ae (pv 6) ah))) ah))))))))))))))),?_⟩
  try dsimp only[bJ,cx]
  refine Kd ?_;intro acf Zf UN Ez zI uU rX mE gB fD;have hw:=h.rm.g.wf;have hm:=h.m;have Hr:=wX h.rm.at_ hd;have ie:(ao (nI S.aB)).length=S.made:=by rw[bh,cy,hw.e]
  have yJ:((ao (nI S.aB)).length:Int)=(S.made:Int):=by rw[ie]
  refine⟨_,rfl,st,_,rfl,bL.of cI,rfl,_,_,rfl,_,_,rfl,rfl,?_⟩;refine⟨_,rfl,e,_,rfl,.inl (aM.of he),(S.made:Int),ah6 (λx=>[V.int x]) yJ,by omega,by omega,?_⟩;rw[ahZ];refine Fm hw (by omega) (λi q Rr hE hR=>?_) (λi Rr hR=>⟨_,rfl,hR⟩) (λl nl=>?_)
  ·exact⟨_,rfl,_,rfl,e,_,_,_,rfl,rfl,aM.of he,(by rw[ajd];exact cf (bZ (fj hE))),_,rfl,rfl,_,rfl,hR⟩
  have s1:=au.upd (o:=.lst (ao (nI (du S)))) nl;have oQ:upd H l (.lst (ao (nI (du S)))) l=some (.lst (ao (nI (du S)))):=aj;generalize upd H l (.lst (ao (nI (du S))))=H1 at s1 oQ ⊢;have Wg:0<(du S).length:=aj8 ((qb hw).mpr ⟨h.m0,by have:=(h.rm.g.el 0 h.m0).1;omega⟩);have el:((ao (nI (du S))).length:Int)=((du S).length:Int):=by rw[bh,cy]
  have Zz:(du S).length<=100000:=ahC (aiT _ _) (by rw[aiH];omega);obtain⟨c,hc,Qa⟩:=Hn Wg z0;obtain⟨o,ho,acg⟩:=Hn Wg (z0* 40692 % 2147483399);obtain⟨xN,ZC⟩:=(qb hw).mp hc;obtain⟨hom,hoe⟩:=(qb hw).mp ho;refine⟨_,rfl,_,rfl,_,rfl,l,_,rfl,.inl (aM.of oQ),_,_,rfl,rfl,(by rw[el];omega),l,_,_,_,rfl,rfl,aM.of oQ,(by rw[el];exact Qa),?_⟩;refine⟨_,rfl,_,_,rfl,rfl,⟨by decide,by decide⟩,_,rfl,_,L,rfl,j7,by omega,λs B9 vh=>?_⟩;refine⟨_,rfl,_,rfl,_,_,rfl,rfl,.inr ⟨by decide,by decide⟩,_,_,rfl,rfl,(by show (0:Int)<2147483399;decide),_,rfl,l,_,rfl,.inl (aM.of oQ),_,_,rfl,rfl,(by rw[el];omega),l,_,_,_,rfl,rfl,aM.of oQ,(by rw[el];exact acg),?_⟩;refine⟨_,rfl,l,rfl,⟨_,aM.of oQ⟩,?_⟩;refine Cp (λc'=>decide (S.by c s=some c')) (λc'=>[(c:Int),s,(c':Int)]) oQ Zz (λc' H2 Rr s2 hR=>?_) (λc' H2 Rr hR=>?_) (λD H2 qs us s2 nD j0 qq=>?_)
  ·refine⟨_,rfl,_,rfl,_,rfl,(Za4 3),λt3 rF=>?_⟩;have s3:=au.upd (o:=.tup [.int (c:Int),.int s,.int (c':Int)]) rF;refine⟨_,rfl,d,_,rfl,dB.t (k:=k3 c s c') (s3 _ _ (s2 _ _ (s1 _ _ hd))) aj,_,rfl,?_⟩;rw[show (bM kvs (k3 c s c')).isSome=decide (S.by c s=some c') from ah4.mpr ((hW.iff c s c').trans ahQ.symm)];exact hR _ s3
  ·refine⟨_,rfl,_,rfl,_,rfl,(Za4 3),λt3 rF=>?_⟩;exact hR _ _ (au.upd rF) aj
  rw[Hq h.rm.g]at qq;have s3:=s2.trans (au.upd (o:=.lst (qs.map V.ref)) nD);have Hs:b0 (upd H2 D (.lst (qs.map V.ref))) D us:=⟨qs,aj,j0.same (au.upd nD)⟩;generalize upd H2 D (.lst (qs.map V.ref))=H3 at s3 Hs ⊢;refine⟨(Za4 0),λD2 Aj=>⟨D,D2,us,[],rfl,rfl,Hs.same (au.upd Aj),⟨[],aj,rfl,λi p w h=>by simp at h⟩,?_⟩⟩;have s4:=s3.trans (au.upd (o:=.lst []) Aj);generalize upd H3 D2 (.lst [])=H4 at s4 ⊢;rw[show decide (us=[])=(S.by c s).isNone from ah4.mpr (ahQ.trans (qq.trans Option.isNone_iff_eq_none.symm))];clear qq Hs j0 nD Aj;have ZD:=s4 _ _ oQ;have fV:=s1.trans s4;refine⟨_,rfl,l,rfl,⟨_,aM.of ZD⟩,?_⟩;refine Cp (λc'=>decide (S.by o (-s)=some c')) (λc'=>[(o:Int),-s,(c':Int)]) ZD Zz (λc' H5 Rr s5 hR=>?_) (λc' H5 Rr hR=>?_) (λD H5 qs us s5 nD j0 qq=>?_)
  ·refine⟨_,rfl,_,rfl,_,rfl,_,rfl,(Za4 3),λt3 rF=>?_⟩;have s6:=au.upd (o:=.tup [.int (o:Int),.int (-s),.int (c':Int)]) rF;refine⟨_,rfl,d,_,rfl,dB.t (k:=k3 o (-s) c') (s6 _ _ (s5 _ _ (fV _ _ hd))) aj,_,rfl,?_⟩;rw[show (bM kvs (k3 o (-s) c')).isSome=decide (S.by o (-s)=some c') from ah4.mpr ((hW.iff o (-s) c').trans ahQ.symm)];exact hR _ s6
  ·refine⟨_,rfl,_,rfl,_,rfl,_,rfl,(Za4 3),λt3 rF=>?_⟩;exact hR _ _ (au.upd rF) aj
  rw[Hq h.rm.g]at qq;have s6:=s5.trans (au.upd (o:=.lst (qs.map V.ref)) nD);have Hs:b0 (upd H5 D (.lst (qs.map V.ref))) D us:=⟨qs,aj,j0.same (au.upd nD)⟩;generalize upd H5 D (.lst (qs.map V.ref))=H6 at s6 Hs ⊢;refine⟨(Za4 0),λD2 Aj=>⟨D,D2,us,[],rfl,rfl,Hs.same (au.upd Aj),⟨[],aj,rfl,λi p w h=>by simp at h⟩,?_⟩⟩;have s7:=fV.trans (s6.trans (au.upd (o:=.lst []) Aj));generalize upd H6 D2 (.lst [])=H7 at s7 ⊢;generalize decide (us=[])=bf;have ZE:=s7 _ _ he;have h7:=h.same s7
  let uI:St->Hp->Prop:=λ aX H'=>∃(q e':Addr) (ov:Nat) (E':List Nat) (row:Dt) (S':RS) (a':RA) (R':Za2) (ms:List Dt) (v11 Ak:Option V),aX=[some (.ref r),some (.int (L:Int)),some (.ref st),some (.int z0),some (.int (i0:Int)),some (.ref d),some (.ref e'),some (.ref l),some (.int (c:Int)),some (.int s),some (.int (ov:Int)),v11,Ak,some (.ref q)]/\(∀b u,¬a.own r b->H b=some u->H' b=some u)/\H' d=some (.dT kvs)/\bN H' 4 (.ref q) row/\ig row/\H' e'=some (.lst (ao (nI E')))/\¬a'.own r e'/\(e'=e\/H e'=none)/\Dn A.ak H' r S' a' R' L (n+ 1) (B+ 2)/\(∀b,a'.own r b->a.own r b\/H b=none)/\S'.rows=S.rows++(row::ms)/\Go ws nr E' (et (λa z b=>S.by a z=some b) c s ov) ms S'.aB (λa z b=>S'.by a z=some b)/\E'.length<=100
  refine⟨uI,?_,?_⟩
  ·refine cM ?_;intro ik;refine Ry (λK' hK=>?_) ?_ ?_
   ·refine⟨_,rfl,_,_,rfl,rfl,(by show (0:Int)<16;decide),rfl,_,rfl,cS (λ_=>hK true) λ_=>?_⟩;refine⟨_,rfl,_,_,rfl,rfl,(by show (0:Int)<4;decide),rfl,_,rfl,cS (λ_=>?_) λ_=>hK false⟩;exact⟨_,rfl,_,rfl,cS (λ_=>⟨_,rfl,_,rfl,hK _⟩) λ_=>hK false⟩
   ·refine⟨_,rfl,(Za4 2),λt nt=>?_⟩;obtain⟨I,μ,p1,p2,p3,p4,p5,p6,p7⟩:=h7.lay ws nr xQ hn hB i0 nt xN hom B9 vh;have s8:=au.upd (o:=.tup [.str (tx [115,97,105,100]),.int (i0:Int)]) nt;have ZF:=s7.trans s8;refine⟨_,rfl,r,a.dx,_,rfl,p1.ins,cq _ _ _ (by decide +kernel),_,rfl,_,rfl,_,rfl,_,rfl,r,t,S,a,c,o,s,said i0,I,μ,rfl,p1,p2,p3,p4,p5,p6,λS' a' H' b1 b2 b3 b4=>?_⟩;obtain⟨h8,em,ms,er,go⟩:=p7 S' a' H' b2 b3;have o8:∀b,a'.own r b->a.own r b\/H b=none:=λb z=>(b4 b z).imp id (same_none ZF)
    have f8:∀b u,¬a.own r b->H b=some u->H' b=some u:=λb u n e=>b1 b u n (ZF _ _ e)
    refine⟨t,e,o,S.aB,said i0,S',a',_,ms,_,_,rfl,f8,f8 _ _ Hr hd,((p3.up).up).dW (λb xs e=>b1 b _ (p1.nZ e) e) p4,p4,f8 _ _ Zy he,λz=>(o8 _ z).elim Zy (λq=>by rw[q]at he;cases he),.inl rfl,h8,o8,er,LC (go.congr λa y b=>?_) (λa y b=>(Af h8.rm.g a y b).symm),by rw[hw.e];omega⟩;exact(NK (Af h.rm.g) a y b).trans (Ee (R:=R) ZC hoe a y b)
   ·refine⟨_,rfl,_,rfl,?_⟩
    cases hb:S.by c s with
    |some c2=>
     refine b8 ?_;refine⟨_,rfl,(Za4 2),λt nt=>?_⟩;exact k.1 t _ (s7.trans (au.upd nt)) aj
    |none=>
     refine fQ ?_;refine⟨_,rfl,e,_,rfl,.inl (aM.of ZE),?_⟩;rw[yJ];refine⟨_,rfl,_,rfl,(Za4 1),λD nD=>⟨e,D,_,_,rfl,rfl,(au.upd nD) _ _ ZE,aj,ahC (show (ao (nI S.aB)).length+ 1<=1000 by omega) (by decide),λe2 ne2=>?_⟩⟩;have s8:=au.upd (o:=.lst [.int (S.made:Int)]) nD;have s9:=au.upd (o:=.lst (ao (nI S.aB)++[.int (S.made:Int)])) ne2
     have FE:upd (upd H7 D (.lst [.int (S.made:Int)])) e2 (.lst (ao (nI S.aB)++[.int (S.made:Int)])) e2=some (.lst (ao (nI (S.aB++[S.made])))):=by
      rw[aj];unfold ao nI;rw[ahO,ahO];rfl
     have NM:H e2=none:=same_none (s7.trans s8) ne2;generalize upd (upd H7 D (.lst [.int (S.made:Int)])) e2 (.lst (ao (nI S.aB)++[.int (S.made:Int)]))=H9 at s9 FE ⊢;have LD:=(s7.trans s8).trans s9;refine⟨_,rfl,_,rfl,_,rfl,(Za4 4),λq nq=>?_⟩;have Wh:=au.upd (o:=.tup [.str (tx [110,101,119]),.int (c:Int),.int s,.int (S.made:Int)]) nq
     have Wi:bN (upd H9 q (.tup [.str (tx [110,101,119]),.int (c:Int),.int s,.int (S.made:Int)])) 4 (.ref q) (oJ c s S.made):=.t aj rfl λj v x e1 e2=>by
      match j,e1,e2 with
      |0,e1,e2=>cases e1;cases e2;exact .s
      |1,e1,e2=>cases e1;cases e2;exact .i
      |2,e1,e2=>cases e1;cases e2;exact .i
      |3,e1,e2=>cases e1;cases e2;exact .i
      |j+ 4,e1,e2=>simp at e1
     have I8:=Wh _ _ FE;have I9:=LD.trans Wh;generalize upd H9 q (.tup [.str (tx [110,101,119]),.int (c:Int),.int s,.int (S.made:Int)])=uV at Wh Wi I8 I9 ⊢;have xM:=h.same I9;have agd:=h.rm.rb;refine⟨_,rfl,r,a.dx,_,rfl,xM.rm.at_.ins,cq _ _ _ (by decide +kernel),_,rfl,_,rfl,r,S,a,c,s,rfl,xM.rm.at_,hw,by rw[h.l];exact j7,by rw[h.l];omega,xN,by omega,by omega,h.fits xQ,λa' H' b1 b2 b4=>?_⟩;have h8:=xM.made xQ hn hB xN ZC hb B9 vh b2;have o8:∀b,a'.own r b->a.own r b\/H b=none:=λb z=>(b4 b z).imp id (same_none I9)
     have f8:∀b u,¬a.own r b->H b=some u->H' b=some u:=λb u n e=>b1 b u n (I9 _ _ e)
     have ZG:¬a.own r e2:=λz=>by
      obtain⟨o,q⟩:=h.rm.at_.there z;rw[q]at NM;cases NM
     refine⟨q,e2,S.made,S.aB++[S.made],oJ c s S.made,_,a',_,[],_,_,rfl,f8,f8 _ _ Hr hd,Wi.dW (λb xs e=>b1 b _ (xM.rm.at_.nZ e) e) (Ho c s S.made),Ho c s S.made,b1 _ _ ZG I8,λz=>(b4 _ z).elim ZG (λq=>by rw[q]at I8;cases I8),.inr NM,h8,o8,rfl,.nil (Rz h.rm.g xN hb),by rw[ahe,hw.e];show _+ 1<=_;omega⟩
  ·intro σ H8 bV;refine bI ?_;intro q_;obtain⟨q,e',ov,E',row,S',a',R',ms,v11,Ak,rfl,f8,Qe,dt8,ZH,Wj,ne8,oe8,h8,o8,er,go,hE⟩:=bV;dsimp only[q_];clear q_;refine⟨_,rfl,_,rfl,_,rfl,_,rfl,(Za4 3),λt1 nt1=>?_⟩;have s9:=au.upd (o:=.tup [.int (c:Int),.int s,.int (ov:Int)]) nt1;have ZI:upd H8 t1 (.tup [.int (c:Int),.int s,.int (ov:Int)]) t1=some (.tup ((k3 c s ov).map kV)):=aj;generalize upd H8 t1 (.tup [.int (c:Int),.int s,.int (ov:Int)])=H9 at s9 ZI ⊢;refine⟨d,_,rfl,kz.t (k:=k3 c s ov) (s9 _ _ Qe) ZI (ahr vB (by decide)),?_⟩;have NP:upd H9 d (.dT (putK kvs (k3 c s ov) (.bl true))) d=some (.dT (putK kvs (k3 c s ov) (.bl true))):=aj;have zJ:∀b u,b≠d->H8 b=some u->upd H9 d (.dT (putK kvs (k3 c s ov) (.bl true))) b=some u:=λb u n e=>by rw[av n];exact s9 _ _ e
   have AO:=hW.put c s ov (.bl true);have ach:=dH kvs (k3 c s ov) (.bl true);generalize upd H9 d (.dT (putK kvs (k3 c s ov) (.bl true)))=uV at NP zJ ⊢;generalize putK kvs (k3 c s ov) (.bl true)=yK at NP AO ach;refine⟨_,rfl,_,rfl,_,rfl,_,rfl,_,rfl,(Za4 3),λt2 V6=>?_⟩;have rY:=au.upd (o:=.tup [.int (ov:Int),.int (-s),.int (c:Int)]) V6;have Wk:upd uV t2 (.tup [.int (ov:Int),.int (-s),.int (c:Int)]) t2=some (.tup ((k3 ov (-s) c).map kV)):=aj;generalize upd uV t2 (.tup [.int (ov:Int),.int (-s),.int (c:Int)])=BX at rY Wk ⊢;refine⟨d,_,rfl,kz.t (k:=k3 ov (-s) c) (rY _ _ NP) Wk (ahr (show yK.length<=10000 by omega) (by decide)),?_⟩;have NQ:upd BX d (.dT (putK yK (k3 ov (-s) c) (.bl true))) d=some (.dT (putK yK (k3 ov (-s) c) (.bl true))):=aj;have xJ:∀b u,b≠d->H8 b=some u->upd BX d (.dT (putK yK (k3 ov (-s) c) (.bl true))) b=some u:=λb u n e=>by rw[av n];exact rY _ _ (zJ _ _ n e)
   have yq:=AO.put ov (-s) c (.bl true);have aci:=dH yK (k3 ov (-s) c) (.bl true);generalize upd BX d (.dT (putK yK (k3 ov (-s) c) (.bl true)))=GY at NQ xJ ⊢;generalize putK yK (k3 ov (-s) c) (.bl true)=acj at NQ yq aci;refine⟨_,rfl,_,rfl,_,rfl,(Za4 2),λcU Qf=>?_⟩;have j9:=au.upd (o:=.tup [.ref d,.ref e']) Qf;have Qg:upd GY cU (.tup [.ref d,.ref e']) cU=some (.tup [.ref d,.ref e']):=aj;generalize upd GY cU (.tup [.ref d,.ref e'])=GZ at j9 Qg ⊢;refine⟨(Za4 2),λt nt=>?_⟩;have oN:=au.upd (o:=.tup [.ref q,.ref cU]) nt;have Wm:upd GZ t (.tup [.ref q,.ref cU]) t=some (.tup [.ref q,.ref cU]):=aj;generalize upd GZ t (.tup [.ref q,.ref cU])=G0 at oN Wm ⊢;have Qh:∀b u,b≠d->H8 b=some u->G0 b=some u:=λb u n e=>oN _ _ (j9 _ _ (xJ _ _ n e))
   have Wn:∀b xs,H8 b=some (.tup xs)->G0 b=some (.tup xs):=λb xs e=>Qh b _ (λz=>by rw[z,Qe]at e;cases e) e
   have ack:¬a'.own r d:=wX h8.rm.at_ Qe;exact k.2 t q cU e' acj E' _ row ms S' a' R' G0 (λb u n1 n2 e=>Qh b u n2 (f8 b u n1 e)) Wm (dt8.dW Wn ZH) ZH (oN _ _ Qg) (oN _ _ (j9 _ _ NQ)) (Qh _ _ (λz=>by rw[z,Qe]at Wj;cases Wj) Wj) ne8 oe8 (yq.congr λx y b=>or_assoc) (by omega) (h8.keep (λb o hb e=>Qh b o (λz=>ack (z ▸ hb)) e) Wn) o8 er go hE
theorem LJ {α:Type}{P:Addr->α->Prop}{ps:List Addr}{xs ys:List α}(h:Each P ps (xs++ys)):Each P (ps.drop xs.length) ys:=by
 refine⟨by rw[aiA,h.1,ahe];omega,λi p x h1 h2=>?_⟩;rw[List.getElem?_drop]at h1;exact h.2 _ p x h1 (by rw[ahs (by omega),Nat.add_sub_cancel_left];exact h2)
structure LI (C:Addr) (ws:Za3) (nr:Nat) (H0 H:Hp) (r st d e rl:Addr) (S:RS) (a:RA) (R:Za2) (L n B:Nat) (kvs:List (List Key×V)) (E:List Nat) (W:Za2) (gs pre ms:List Dt):Prop where
 s:au H0 H
 dn:Dn C H r S a R L n B
 ow:∀b,a.own r b->H0 b=none
 cI:H st=some (.tup [.ref d,.ref e])
 hd:H d=some (.dT kvs)
 nd:H0 d=none
 hW:WD kvs W
 he:H e=some (.lst (ao (nI E)))
 ne:¬a.own r e
 el:E.length<=100
 go:Go ws nr E W gs S.aB (λa z b=>S.by a z=some b)
 gn:∀x∈gs,ig x
 kl:kvs.length+ 2* gs.length<=2* S.rows.length
 jV:∃qs,H rl=some (.lst (qs.map V.ref))/\Each (λp d=>bN H 4 (.ref p) d) qs pre
 mM:¬a.own r rl
 re:rl≠e
 n0:H0 rl=none
 pr:S.rows=pre++ms
section
variable {C:Addr}{ws:Za3}{nr:Nat}{H0 H H':Hp}{r st d e rl:Addr}{S:RS}{a:RA}{R:Za2}{L n B:Nat}{kvs:List (List Key×V)}{E:List Nat}{W:Za2}{gs pre ms:List Dt}
theorem LI.same (h:LI C ws nr H0 H r st d e rl S a R L n B kvs E W gs pre ms)(s:au H H'):LI C ws nr H0 H' r st d e rl S a R L n B kvs E W gs pre ms:=by
 obtain⟨qs,q1,q2⟩:=h.jV;exact⟨h.s.trans s,h.dn.same s,h.ow,s _ _ h.cI,s _ _ h.hd,h.nd,h.hW,s _ _ h.he,h.ne,h.el,h.go,h.gn,h.kl,⟨qs,s _ _ q1,q2.imp λp x _ _ e=>e.same s⟩,h.mM,h.re,h.n0,h.pr⟩
theorem LI.Qi (h:LI C ws nr H0 H r st d e rl S a R L n B kvs E W gs pre ms){l:Addr}{ps:List Addr}(s:au H H')(nl:H l=none)(hl:H' l=some (.lst (ps.map V.ref)))(jr:Each (λp d=>bN H' 4 (.ref p) d) ps S.rows):LI C ws nr H0 H' r st d e l S a R L n B kvs E W gs S.rows []:=by
 refine⟨h.s.trans s,h.dn.same s,h.ow,s _ _ h.cI,s _ _ h.hd,h.nd,h.hW,s _ _ h.he,h.ne,h.el,h.go,h.gn,h.kl,⟨ps,hl,jr⟩,λz=>?_,λz=>?_,same_none h.s nl,(ahU _).symm⟩
 ·obtain⟨o,q⟩:=h.dn.rm.at_.there z;rw[q]at nl;cases nl
 ·rw[z,h.he]at nl;cases nl
theorem LI.up (h:LI C ws nr H0 H r st d e rl S a R L n B kvs E W gs pre ms):LI C ws nr H0 H r st d e rl S a R L (n+ 1) (B+ 2) kvs E W gs pre ms:=⟨h.s,h.dn.up,h.ow,h.cI,h.hd,h.nd,h.hW,h.he,h.ne,h.el,h.go,h.gn,h.kl,h.jV,h.mM,h.re,h.n0,h.pr⟩
theorem LI.rows (h:LI C ws nr H0 H r st d e rl S a R L n B kvs E W gs pre ms):S.rows.length<=B:=by have:=h.dn.rm.rb;omega
theorem LI.dp (h:LI C ws nr H0 H r st d e rl S a R L n B kvs E W gs pre ms):∀p x,x∈S.rows->bN H 4 (.ref p) x->bN H 2 (.ref p) x:=λp x hx q=>(h.dn.d x hx).low q
end
section
variable {ws:Za3}{nr:Nat}{H0 H H':Hp}{r st d e rl:Addr}{S:RS}{a:RA}{R:Za2}{L n B:Nat}{kvs:List (List Key×V)}{E:List Nat}{W:Za2}{gs pre ms:List Dt}{σ:St}
theorem FG (h:LI A.ak ws nr H0 H r st d e rl S a R L n B kvs E W gs pre ms)(hB:B<=100000)(h6:σ[6]?=some (some (.ref r)))(h8:σ[8]?=some (some (.ref rl))){Rr:Bool->Hp->Prop}(k:∀H',au H H'->Rr false H'):
 N2 (C8 Oi (N7 (HQ K) (CL A.ak (Str.ofString "paper") (tK 2 A.ak) [] E0 (kx 6) lG) Ap (yU (Js (λxs H Q=>∃p ys,xs=[V.ref p]/\(aM K H p ys\/bL K H p ys)/\Q (V.int (ys.length:Int)) H) (gL (kx 8) lG)))) (kx 8)) σ H Rr:=by
 have hr:=h.rows;refine⟨_,h6,r,a.dx,_,rfl,h.dn.rm.at_.ins,cq _ _ _ (by decide +kernel),r,S,a,rfl,h.dn.rm.at_,by omega,h.dp,λl ps H1 s1 nl hl jr=>?_⟩;obtain⟨qs,q1,q2⟩:=(h.same s1).jV;refine⟨_,h8,rl,_,rfl,.inl (aM.of q1),_,rfl,l,_,rfl,aM.of hl,λl2 uW=>?_⟩;have ql:(qs.map V.ref).length=pre.length:=by rw[ahl,q2.1]
 rw[ql,VR,←List.map_take];have s2:=au.upd (o:=.lst ((ps.take pre.length).map V.ref)) uW;have fM:upd H1 l2 (.lst ((ps.take pre.length).map V.ref)) l2=some (.lst ((ps.take pre.length).map V.ref)):=aj;generalize upd H1 l2 (.lst ((ps.take pre.length).map V.ref))=H2 at s2 fM ⊢;rw[h.pr]at jr;exact⟨_,h8,.l pre,l2,rl,rfl,rfl,Lj fM ((Li jr).imp λp x _ _ e=>e.same s2),Lj (s2 _ _ q1) (q2.imp λp x _ _ e=>e.same s2),_,rfl,k _ (s1.trans s2)⟩
theorem Ht {rs ps:Za3}{aR aP:Addr}(h:LI A.ak (rs++ps) rs.length H0 H r st d e rl S a R L n B kvs E W ms pre ms)(hB:B<=4000)(hR:b0 H0 aR rs)(hP:b0 H0 aP ps)(Lz:rs.length+ ps.length<=1000)(h1:σ[1]?=some (some (.int (L:Int))))(h3:σ[3]?=some (some (.ref aR)))(h4:σ[4]?=some (some (.ref aP)))(h6:σ[6]?=some (some (.ref r)))(h7:σ[7]?=some (some (.ref st)))(h8:σ[8]?=some (some (.ref rl))){Q:VK}
 (k:∀cU d' e' cN H',LI A.ak (rs++ps) rs.length H0 H' r cU d' e' rl S a R L n B cN S.aB (λa z b=>S.by a z=some b) [] pre ms->Q (.ref cU) H'):
 HK w6 [] E0 (gL (kx 1) (gL (kx 3) (gL (kx 4) (gL (kx 7) (gL (N7 (HQ K) (CL A.ak (Str.ofString "paper") (tK 2 A.ak) [] E0 (kx 6) lG) (yU (Js (λxs H Q=>∃p ys,xs=[V.ref p]/\(aM K H p ys\/bL K H p ys)/\Q (V.int (ys.length:Int)) H) (gL (kx 8) lG))) Ap) lG))))) σ H Q:=by
 have hr:=h.rows;refine⟨_,h1,_,h3,_,h4,_,h7,?_⟩;refine⟨_,h6,r,a.dx,_,rfl,h.dn.rm.at_.ins,cq _ _ _ (by decide +kernel),r,S,a,rfl,h.dn.rm.at_,by omega,h.dp,λl qp H1 s1 nl hl jr=>?_⟩;obtain⟨qs,q1,q2⟩:=(h.same s1).jV;refine⟨_,h8,rl,_,rfl,.inl (aM.of q1),_,rfl,l,_,rfl,aM.of hl,λl2 uW=>?_⟩;have ql:(qs.map V.ref).length=pre.length:=by rw[ahl,q2.1]
 have dR:pre.length<=(qp.map V.ref).length:=by rw[ahl,jr.1,h.pr,ahe];omega
 rw[ql,Nt _ _ dR,←List.map_drop];have s2:=au.upd (o:=.lst ((qp.drop pre.length).map V.ref)) uW;have fM:upd H1 l2 (.lst ((qp.drop pre.length).map V.ref)) l2=some (.lst ((qp.drop pre.length).map V.ref)):=aj;generalize upd H1 l2 (.lst ((qp.drop pre.length).map V.ref))=H2 at s2 fM ⊢;rw[h.pr]at jr;have li:=h.same (s1.trans s2);have klh:=h.kl;have elh:=h.el;have Wo:∀{x:Addr},(∃o,H0 x=some o)->x≠d:=λ{x} q z=>by obtain⟨o,e⟩:=q;rw[z,h.nd]at e;cases e
 refine⟨(L:Int),aR,aP,st,l2,d,e,rs,ps,kvs,E,S.aB,W,_,qp.drop pre.length,ms,rfl,hR.same li.s,hP.same li.s,Lz,li.cI,li.hd,li.he,h.hW,fM,(LJ jr).imp λp x _ _ e=>e.same s2,h.gn,h.go,by omega,by omega,Wo (by obtain⟨us,q,_⟩:=hR;exact⟨_,q⟩),Wo (by obtain⟨us,q,_⟩:=hP;exact⟨_,q⟩),λcU d' e' cN H3 k3 x3 acm DF he3 od oe hW3 hk3=>?_⟩;have Hr:=wX li.dn.rm.at_ li.hd;have kt:∀b xs,H2 b=some (.tup xs)->H3 b=some (.tup xs):=λb xs e=>k3 b _ (λz=>by rw[z,li.hd]at e;cases e) e
 obtain⟨qs',Qj,q2'⟩:=li.jV;refine k cU d' e' cN H3 ⟨λb o e=>k3 b o (Wo ⟨_,e⟩) (li.s _ _ e),li.dn.keep (λb o hb e=>k3 b o (λz=>Hr (z ▸ hb)) e) kt,h.ow,acm,DF,?_,hW3,he3,?_,?_,.nil λ_ _ _=>Iff.rfl,(λx hx=>by cases hx),?_,⟨qs',k3 _ _ (λz=>by rw[z,li.hd]at Qj;cases Qj) Qj,q2'.imp λp x _ hx e=>e.dW kt (h.dn.rm.at_.flat x (by rw[h.pr];exact ahF _ hx))⟩,h.mM,?_,h.n0,h.pr⟩
 ·rcases od with q|q
  ·rw[q];exact h.nd
  ·exact same_none li.s q
 ·rcases oe with q|q
  ·rw[q];exact h.ne
  ·intro z;obtain⟨o,w⟩:=li.dn.rm.at_.there z;rw[w]at q;cases q
 ·rw[h.dn.rm.g.wf.e];have:=h.dn.rm.g.wf.e;have gl:=Rn h.go;omega
 ·show cN.length+ 2* 0<=_;omega
 ·rcases oe with q|q
  ·rw[q];exact h.re
  ·intro z;rw[←z,Qj]at q;cases q
end
theorem Hu {H:Hp}{l a b:Addr}{x y:Dt}(h:H l=some (.tup [.ref a,.ref b]))(h1:bN H 7 (.ref a) x)(h2:bN H 7 (.ref b) y):bN H 8 (.ref l) (.t [x,y]):=by
 refine .t h rfl λj v d e1 e2=>?_
 match j,e1,e2 with
 |0,e1,e2=>cases e1;cases e2;exact h1
 |1,e1,e2=>cases e1;cases e2;exact h2
 |j+ 2,e1,e2=>simp at e1
def Cq (L:Nat)(w:List Int):Prop:=w.length<=100/\∀s∈w,s≠0/\s.natAbs<=L
theorem Wq {L:Nat}(hL:L<=100){w:List Int}(h:Cq L w):w.length<=1000/\∀z∈w,(-1000<=z/\z<=1000)/\z∈cV (2* L)/\-z∈cV (2* L):=⟨by have:=h.1;omega,λz hz=>by
 obtain⟨a,b⟩:=h.2 z hz;exact⟨by omega,tS.mpr ⟨a,b⟩,tS.mpr ⟨by omega,by rw[Int.natAbs_neg];exact b⟩⟩⟩
theorem ub (ns:List Int)(lo hi:Option Int):∃zs,i7 (ao ns) lo hi=ao zs/\zs.length<=ns.length:=by
 refine⟨(ns.drop (HT.cw ns.length 0 lo)).take (HT.cw ns.length ns.length hi - HT.cw ns.length 0 lo),?_,by rw[ah2,aiA];omega⟩;unfold i7 ao;rw[List.map_take,List.map_drop,ahl]
theorem all_ints {P:Int->Prop}:∀{ys:List V},(∀(i:Nat) (v:V),ys[i]?=some v->∃z,v=.int z/\P z)->∃w,ys=ao w/\∀s∈w,P s
 |[],_=>⟨[],rfl,(λs hs=>by cases hs)⟩
 |y::ys,h=>by
  obtain⟨z,rfl,hz⟩:=h 0 y rfl;obtain⟨w,rfl,hw⟩:=all_ints (P:=P) (ys:=ys) λi v e=>h (i+ 1) v e
  refine⟨z::w,rfl,λs hs=>?_⟩;rcases ahp.mp hs with rfl|hs
  ·exact hz
  ·exact hw s hs
theorem FH {H:Hp}{D:Ends}{a aR b3 b4:Addr}{ns:List Int}{L mn ix:Nat}{lo hi:Int}{pR:List Addr}(ha:aM K H a (ao ns))(Gq:ns.length<=63)(j7:1<=L)(xQ:L<=3)(hR:H aR=some (.lst (pR.map V.ref)))(dR:pR.length<=100)(hix:[some (V.ref a),some (.int (L:Int)),some (.int (mn:Int)),some (.ref b3),some (.ref b4),none,none,none,none,none,none,none,none][ix]?=some (some (.ref aR)))
 (k:∀t w H',(∀b u,b≠aR->H b=some u->H' b=some u)->H' aR=some (.lst ((pR++[t]).map V.ref))->H' t=some (.tup (ao w))->Cq L w->D.nx [some (V.ref a),some (.int (L:Int)),some (.int (mn:Int)),some (.ref b3),some (.ref b4),none,none,none,none,none,none,none,none] H'):
 NZ (XO K "list" Gp (kx ix) (gL (Js (λxs H Q=>∃p ys,xs=[V.ref p]/\((aM K H p ys/\∀(l:Addr),H l=none->Q (V.ref l) (upd H l (HO.tup ys)))\/bL K H p ys/\Q (V.ref p) H)) (gL (HV (N1 K (N7 (HQ K) (kx 0) (yU (tC (V.int lo))) (yU (tC (V.int hi))))) (jl [1]) (HK wy [] E0 (gL (C8 (rI (λx j=>0<j) λi j=>V.int (i % j)) (C8 (rI Hz λi j=>V.int (i* j)) (kx 0) (tC (V.int 48271))) (tC (V.int 2147483647))) (gL (kx 1) lG)))) lG)) lG)) D [some (V.ref a),some (.int (L:Int)),some (.int (mn:Int)),some (.ref b3),some (.ref b4),none,none,none,none,none,none,none,none] H:=by
 refine⟨_,hix,.inl ⟨rfl,_,aM.of hR⟩,?_⟩;refine⟨_,rfl,_,rfl,_,rfl,a,_,rfl,ha,λp np=>?_⟩;obtain⟨zs,ez,hzl⟩:=ub ns (some lo) (some hi);rw[ez];have s1:=au.upd (o:=.lst (ao zs)) np;have xP:upd H p (.lst (ao zs)) p=some (.lst (ao zs)):=aj;generalize upd H p (.lst (ao zs))=H1 at s1 xP ⊢;have el:(ao zs).length=zs.length:=bh _;refine⟨p,rfl,⟨_,aM.of xP⟩,?_⟩;refine jq (α:=Unit) zs.length (λi=>(ao zs).getD i .non) (λH2 v i=>∃z,v=.int z/\z≠0/\z.natAbs<=L) (λ_ _ _ _ _ q=>q) (ahC (show zs.length<=1000 by omega) (by decide)) (λi H2 s2 hi=>vt (aM.of (s2 _ _ xP)) i (by omega)) (λi x H2 H3 s2 hi y=>?_) (λH2 s2=>?_) (λi H2 Rr hi s2 kk=>?_) (λaD H2 ys s2 nD jm hr=>?_)
 ·obtain⟨e1,e2⟩:=sZ (aM.of (s2 _ _ xP)) i x H3 (by omega) y;exact⟨e1,by rw[ahh,e2];rfl⟩
 ·have:=qt (K:=K) (aM.of (K:=K) (s2 _ _ xP));rw[el]at this;exact this
 ·have e:(ao zs).getD i .non=.int (zs[i]'hi):=by
   rw[ahh,bZ (ahc hi)];rfl
  rw[e];exact⟨_,rfl,_,_,rfl,rfl,.inr ⟨by decide,by decide⟩,_,_,rfl,rfl,(by show (0:Int)<2147483647;decide),_,rfl,_,L,rfl,j7,by omega,λs B9 vh=>kk _ _ (λ_ _ e=>e) ⟨s,rfl,B9,vh⟩⟩
 obtain⟨w,rfl,hw⟩:=all_ints (P:=λz=>z≠0/\z.natAbs<=L) λi v e=>hr i v e
 rw[bh]at jm;refine⟨aD,_,rfl,.inl ⟨aM.of aj,λt nt=>?_⟩⟩;have s3:=(s1.trans s2).trans ((au.upd (o:=.lst (ao w)) nD).trans (au.upd (o:=.tup (ao w)) nt));have ht:upd (upd H2 aD (.lst (ao w))) t (.tup (ao w)) t=some (.tup (ao w)):=aj;generalize upd (upd H2 aD (.lst (ao w))) t (.tup (ao w))=H3 at s3 ht ⊢;refine⟨aR,_,_,rfl,rfl,s3 _ _ hR,ahr (show (pR.map V.ref).length<=1000 by rw[ahl];omega) (by decide),?_⟩;refine k t w _ (λb u n e=>by rw[av n];exact s3 _ _ e) (by rw[aj,ahO];rfl) (by rw[av (λz=>by rw[z,s3 _ _ hR]at ht;cases ht)];exact ht) ⟨by omega,hw⟩
def Qk (C:Addr)(H:Hp)(r st d e:Addr)(S:RS)(a:RA)(L n B:Nat)(kl:Nat)(ws:Za3)(nr:Nat)(v:V)(H':Hp):Prop:=
 (∃t,v=.ref t/\au H H'/\H' t=some (.tup [.non,.ref st]))\/
 ∃t q cU e' cN E' W' row ms S' a' R',v=.ref t/\(∀b u,¬a.own r b->b≠d->H b=some u->H' b=some u)/\H' t=some (.tup [.ref q,.ref cU])/\bN H' 4 (.ref q) row/\ig row/\H' cU=some (.tup [.ref d,.ref e'])/\H' d=some (.dT cN)/\H' e'=some (.lst (ao (nI E')))/\¬a'.own r e'/\(e'=e\/H e'=none)/\WD cN W'/\cN.length<=kl+ 2/\Dn C H' r S' a' R' L (n+ 1) (B+ 2)/\(∀b,a'.own r b->a.own r b\/H b=none)/\S'.rows=S.rows++(row::ms)/\Go ws nr E' W' ms S'.aB (λa z b=>S'.by a z=some b)/\E'.length<=100
theorem NR {C:Addr}{H:Hp}{r st d e:Addr}{S:RS}{a:RA}{L n B kl:Nat}{ws:Za3}{nr:Nat}{Q:VK}(k:∀v H',Qk C H r st d e S a L n B kl ws nr v H'->Q v H'):Qd C H r st d e S a L n B kl ws nr Q:=
 ⟨λt H' h1 h2=>k _ _ (.inl ⟨t,rfl,h1,h2⟩),λt q cU e' cN E' W' row ms S' a' R' H' h1 h2 h3 h4 h5 h6 h7 h8 h9 xM UX h12 h13 h14 h15 h16=>k _ _ (.inr ⟨t,q,cU,e',cN,E',W',row,ms,S',a',R',rfl,h1,h2,h3,h4,h5,h6,h7,h8,h9,xM,UX,h12,h13,h14,h15,h16⟩)⟩
section
variable {C:Addr}{ws:Za3}{nr:Nat}{H0 H H':Hp}{r st d e rl:Addr}{S:RS}{a:RA}{R:Za2}{L n B:Nat}{kvs:List (List Key×V)}{E:List Nat}{W:Za2}{gs pre ms:List Dt}
theorem LI.nil (h:LI C ws nr H0 H r st d e rl S a R L n B kvs E W [] pre ms):E=S.aB/\LI C ws nr H0 H r st d e rl S a R L n B kvs S.aB (λa z b=>S.by a z=some b) [] pre ms:=by
 have g:=h.go
 cases g with
 |nil hw=>exact⟨rfl,h.s,h.dn,h.ow,h.cI,h.hd,h.nd,h.hW.congr hw,h.he,h.ne,h.el,.nil λ_ _ _=>Iff.rfl,h.gn,h.kl,h.jV,h.mM,h.re,h.n0,h.pr⟩
theorem LI.acn (h:LI C ws nr H0 H r st d e rl S a R L n B kvs S.aB W [] S.rows []){v:V}(p:Qk C H r st d e S a L n B kvs.length ws nr v H'):∃t x cU d' e' S' a' R' cN E' W' mI Wr,v=.ref t/\H' t=some (.tup [x,.ref cU])/\LI C ws nr H0 H' r cU d' e' rl S' a' R' L (n+ 1) (B+ 2) cN E' W' mI S.rows Wr/\((x=.non/\mI=[]/\Wr=[])\/∃q row,x=.ref q/\Wr=row::mI/\bN H' 4 (.ref q) row/\ig row):=by
 rcases p with ⟨t,rfl,s,ht⟩|⟨t,q,cU,e',cN,E',W',row,ms,S',a',R',rfl,f,ht,hq,nq,cI,hd,he,ne,oe,hW,hk,dn,ow,er,go,el⟩
 ·exact⟨t,.non,st,d,e,S,a,R,kvs,S.aB,W,[],[],rfl,ht,(h.same s).up,.inl ⟨rfl,rfl,rfl⟩⟩
 ·obtain⟨qs,q1,q2⟩:=h.jV;have kt:∀b xs,H b=some (.tup xs)->H' b=some (.tup xs):=λb xs e=>f b _ (h.dn.rm.at_.nZ e) (λz=>by rw[z,h.hd]at e;cases e) e
  have kl:=h.kl;refine⟨t,.ref q,cU,d,e',S',a',R',cN,E',W',ms,row::ms,rfl,ht,⟨λb o e=>?_,dn,λb z=>(ow b z).elim (h.ow b) (same_none h.s),cI,hd,h.nd,hW,he,ne,el,go,λx hx=>?_,?_,⟨qs,f _ _ h.mM (λz=>by rw[z,h.hd]at q1;cases q1) q1,q2.imp λp x _ hx e=>e.dW kt (h.dn.rm.at_.flat x hx)⟩,λz=>?_,λz=>?_,h.n0,er⟩,.inr ⟨q,row,rfl,rfl,hq,nq⟩⟩
  ·exact f b o (λz=>by rw[h.ow b z]at e;cases e) (λz=>by rw[z,h.nd]at e;cases e) (h.s _ _ e)
  ·exact dn.rm.at_.flat x (by rw[er];exact ahn _ (ahL _ hx))
  ·rw[er,ahe,ahE];have:kvs.length+ 2* 0<=2* S.rows.length:=kl;omega
  ·rcases ow _ z with w|w
   ·exact h.mM w
   ·rw[w]at q1;cases q1
  ·rcases oe with w|w
   ·exact h.re (z.trans w)
   ·rw[←z,q1]at w;cases w
theorem LI.append {qs:List Addr}{q:Addr}{row:Dt}(h:LI C ws nr H0 H r st d e rl S a R L n B kvs E W gs pre (row::gs))(q1:H rl=some (.lst (qs.map V.ref)))(q2:Each (λp d=>bN H 4 (.ref p) d) qs pre)(hq:bN H 4 (.ref q) row)(nq:ig row):LI C ws nr H0 (upd H rl (.lst (qs.map V.ref++[.ref q]))) r st d e rl S a R L n B kvs E W gs (pre++[row]) gs:=by
 have k:∀b u,b≠rl->H b=some u->upd H rl (.lst (qs.map V.ref++[.ref q])) b=some u:=λb u n e=>by rw[av n];exact e
 have kt:∀b xs,H b=some (.tup xs)->upd H rl (.lst (qs.map V.ref++[.ref q])) b=some (.tup xs):=λb xs e=>k b _ (λz=>by rw[z,q1]at e;cases e) e
 refine⟨λb o e=>k b o (λz=>by rw[z,h.n0]at e;cases e) (h.s _ _ e),h.dn.keep (λb o hb e=>k b o (λz=>h.mM (z ▸ hb)) e) kt,h.ow,kt _ _ h.cI,k _ _ (λz=>by rw[←z,h.hd]at q1;cases q1) h.hd,h.nd,h.hW,k _ _ (ail h.re) h.he,h.ne,h.el,h.go,h.gn,h.kl,⟨qs++[q],by rw[aj,ahO];rfl,?_⟩,h.mM,h.re,h.n0,by rw[h.pr,aia];rfl⟩;refine⟨by rw[ahe,ahe,q2.1];rfl,λi p x e1 e2=>?_⟩;by_cases hi:i<pre.length
 ·rw[aht (by rw[q2.1];exact hi)]at e1;rw[aht hi]at e2;exact(q2.2 i p x e1 e2).dW kt (h.dn.rm.at_.flat x (by rw[h.pr];exact ahF _ (ahf e2)))
 ·rw[ahs (by rw[q2.1];omega),q2.1]at e1;rw[ahs (by omega)]at e2;have hx:=ahg.mp (ahf e2);have hp:=ahg.mp (ahf e1);rw[hx,hp];exact hq.dW kt nq
theorem LI.close {rs ps:Za3}{S':RS}{a':RA}{R':Za2}{B':Nat}(h:LI C (rs++ps) rs.length H0 H r st d e rl S a R L n B kvs S.aB (λa z b=>S.by a z=some b) [] S.rows [])(pK:∀w∈rs++ps,∀z∈w,z∈cV (2* L)/\-z∈cV (2* L))(f:∀b o,¬a.own r b->H b=some o->H' b=some o)(rm:kc C H' r S' a' R' (cV (2* L)) B')(ow:∀b,a'.own r b->a.own r b\/H b=none)(em:S'.made=S.made)(eL:S'.L=S.L)(tr:Tr (rs++ps) rs.length S S'):
 ∃R'' ms,LI C (rs++ps) rs.length H0 H' r st d e rl S' a' R'' L n B' kvs S.aB (λa z b=>S.by a z=some b) ms S.rows ms:=by
 obtain⟨R2,g2,w2,k2,ms,er,go⟩:=Xr tr pK h.dn.rm.g h.dn.rm.w h.dn.rm.k;obtain⟨_,_,_,wsl⟩:=XC tr pK h.dn.rm.g h.dn.rm.k;have hw:=h.dn.w;have kl:kvs.length+ 2* 0<=2* S.rows.length:=h.kl;have go2:Go (rs++ps) rs.length S.aB (λa z b=>S.by a z=some b) ms S'.aB (λa z b=>S'.by a z=some b):=LC (go.congr λa z b=>Af h.dn.rm.g a z b) λa z b=>(Af g2 a z b).symm
 obtain⟨qs,q1,q2⟩:=h.jV;have Hr:=wX h.dn.rm.at_ h.hd;have kt:∀b xs,H b=some (.tup xs)->H' b=some (.tup xs):=λb xs e=>f b _ (h.dn.rm.at_.nZ e) e
 have nw:∀{b o},H b=some o->¬a.own r b->¬a'.own r b:=λ{b o} e n z=>(ow b z).elim n (λq=>by rw[q]at e;cases e)
 refine⟨R2,ms,λb o e=>f b o (λz=>by rw[h.ow b z]at e;cases e) (h.s _ _ e),⟨⟨rm.at_,g2,w2,k2,rm.m,rm.l,rm.rb,rm.wb⟩,by rw[em];exact h.dn.m0,by rw[em];exact h.dn.m,by rw[eL];exact h.dn.l,by omega,λx hx=>?_⟩,λb z=>(ow b z).elim (h.ow b) (same_none h.s),kt _ _ h.cI,f _ _ Hr h.hd,h.nd,h.hW,f _ _ h.ne h.he,nw h.he h.ne,h.el,go2,λx hx=>rm.at_.flat x (by rw[er];exact ahn _ hx),by rw[er,ahe];omega,⟨qs,f _ _ h.mM q1,q2.imp λp x _ hx e=>e.dW kt (h.dn.rm.at_.flat x hx)⟩,nw q1 h.mM,h.re,h.n0,er⟩;rw[er]at hx;rcases ahx.mp hx with q|q
 ·exact h.dn.d x q
 ·exact Qc go2 x q
theorem LI.inn (h:LI C ws nr H0 H r st d e rl S a R L n B kvs E W gs pre ms):∀x z y,S.by x z=some y->x∈du S/\z≠0/\z.natAbs<=L:=λx z y q=>by
 obtain⟨h1,_,h2,_⟩:=h.dn.rm.g.st _ _ _ q;obtain⟨_,_,hr,_⟩:=h.dn.rm.g.so _ _ _ q;exact⟨(qb h.dn.rm.g.wf).mpr ⟨h1,h2⟩,tS.mp (h.dn.rm.k _ _ _ hr)⟩
end
theorem Ws (T:Txt K mg A):aL P w K mg base bB 10 A.Ow A.Ox ["_law_script"] (CW K):=by
 have yL:aL P w K mg base bB 3 A.iE A.kL ["self","letters"] (IC A.ak):=xk T;have xR:aL P w K mg base bB 2 A.sI A.sJ ["_law_number","_law_letters"] Lg:=Fj T;have F4:aL P w K mg base bB 6 A.sL A.sM ["_law_rooms","_law_letters","_law_state","_law_number","_law_at"] (A7 A.ak):=FC T;have gp:aL P w K mg base bB 5 A.pB A.pC ["self"] (tK 2 A.ak):=AQ T;have uZ:aL P w K mg base bB 5 A.pz A.pA ["_law_letters","_law_rules","_law_part","_law_state","_law_rows"] w6:=A3 T;have dU:aL P w K mg base bB 1 A.nh A.ni ["_law_script","_law_k"] (Fi K):=Ad T;have CF:aL P w K mg base bB 2 A.pj A.pw ["_law_ways","_law_elders","_law_rules","_law_part"] wA:=A5 T;have RB:aL P w K mg base bB 9 A.AF A.AG ["rooms","rules","part"] (A1 A.ak A.aF A.az):=Nr T;have A8:aL P w K mg base bB 2 A.nB A.nF ["_law_rooms","_law_letters","_law_state"] (Fw A.ak):=Ai T;have i6:aL P w K mg base bB 1 A.j2 A.j3 ["_law_number","_law_letters"] wy:=rE T;refine T.law.F.ok eQ (λvs H Q E h=>?_) (λbR AA outer s H vs Q E hr h=>?_)
 ·obtain⟨a,ns,rfl,_⟩:=h;rfl
 ·obtain⟨a,ns,rfl,ha,Gq,k⟩:=h;have Wt:=ahr (Nat.add_le_add_left (by decide:8<=64) _) hr.units
  refine⟨_,(ai (aY (i:=1) eQ.nd rfl (Or.inr rfl) (bD dG aw (bD dy (bx (dU) hr.Za5 rfl T._law_cell_at.m T._law_cell_at.F.kp T._law_cell_at.b .nil aO (ae (pv 0) (ae aw ah))) aw)))
   (ai (aY (i:=2) eQ.nd rfl (Or.inl rfl) (bD dy (bD iY (bx (dU) hr.Za5 rfl T._law_cell_at.m T._law_cell_at.F.kp T._law_cell_at.b .nil aO (ae (pv 0) (ae aw ah))) aw) aw))
   (ai (xH (iy:=3) eQ.nd rfl (Or.inl rfl) (fns:=["_law_script","_law_letters"]) (ixs:=[0,1]) (cl:=_) rfl (gu rfl T.hJ (ae (pv 2) ah)) (zc rfl rfl rfl (by decide +kernel) rfl (by decide +kernel) rfl (by decide +kernel) (by decide +kernel) rfl rfl rfl rfl rfl rfl rfl) (λC s H ex=>(bx (xR) hr.Za5 rfl T._law_word.m T._law_word.F.kp T._law_word.b .nil aO (ae (bD dy (bD qm (bx (dU) hr.Za5 rfl T._law_cell_at.m T._law_cell_at.F.kp T._law_cell_at.b .nil aO (ae (pv 1) (ae (bD dG aw (bD dy (pv 0) aw)) ah))) (bD dG (pv 0) aw)) aw) (ae (pv 2) ah)))))
   (ai (xH (iy:=4) eQ.nd rfl (Or.inl rfl) (fns:=["_law_script","_law_letters"]) (ixs:=[0,1]) (cl:=_) rfl (gu rfl T.hJ (ae (bD dy (bD iY (bx (dU) hr.Za5 rfl T._law_cell_at.m T._law_cell_at.F.kp T._law_cell_at.b .nil aO (ae (pv 0) (ae aw ah))) aw) aw) ah)) (zc rfl rfl rfl (by decide +kernel) rfl (by decide +kernel) rfl (by decide +kernel) (by decide +kernel) rfl rfl rfl rfl rfl rfl rfl) (λC s H ex=>(bx (xR) hr.Za5 rfl T._law_word.m T._law_word.F.kp T._law_word.b .nil aO (ae (bD dy (bx (dU) hr.Za5 rfl T._law_cell_at.m T._law_cell_at.F.kp T._law_cell_at.b .nil aO (ae (pv 1) (ae (bD dG aw (pv 0)) ah))) aw) (ae (pv 2) ah)))))
   (ai (bX (bP (aZ fF (bD dy (bD iY (bx (dU) hr.Za5 rfl T._law_cell_at.m T._law_cell_at.F.kp T._law_cell_at.b .nil aO (ae (pv 0) (ae aw ah))) aw) aw) aw (bj _))
    (aq (bH (fG ahD ahH ahI cT (pv 3) (ae (cZ gf rfl T.hU ah3 (ae (dQ (fns:=["_law_letters"]) (ixs:=[1]) (cl:=_) rfl (eJ (jk pZ (pv 0) (iZ aw) (iZ aw))) (fe rfl rfl (by decide +kernel) rfl (by decide +kernel) rfl (by decide +kernel) (by decide +kernel) rfl rfl rfl rfl) (λC s H ex=>(bx (i6) hr.Za5 rfl T._law_step.m T._law_step.F.kp T._law_step.b .nil aO (ae (bD dy (bD qm (pv 0) aw) aw) (ae (pv 1) ah))))) ah)) ah))))
    bC))
   (ai (bX (bP (aZ fF (bD dy (bD iY (bx (dU) hr.Za5 rfl T._law_cell_at.m T._law_cell_at.F.kp T._law_cell_at.b .nil aO (ae (pv 0) (ae aw ah))) aw) aw) aw (bj _))
    (aq (bH (fG ahD ahH ahI cT (pv 4) (ae (cZ gf rfl T.hU ah3 (ae (dQ (fns:=["_law_letters"]) (ixs:=[1]) (cl:=_) rfl (eJ (jk pZ (pv 0) (iZ aw) (iZ aw))) (fe rfl rfl (by decide +kernel) rfl (by decide +kernel) rfl (by decide +kernel) (by decide +kernel) rfl rfl rfl rfl) (λC s H ex=>(bx (i6) hr.Za5 rfl T._law_step.m T._law_step.F.kp T._law_step.b .nil aO (ae (bD dy (bD qm (pv 0) aw) aw) (ae (pv 1) ah))))) ah)) ah))))
    bC))
   (ai (aY (i:=5) eQ.nd rfl (Or.inl rfl) (bS (ae (cZ vp rfl T.mB aid (ae (pv 3) ah)) (ae (cZ vp rfl T.mB aid (ae (pv 4) ah)) ah))))
   (ai (aY (i:=6) eQ.nd rfl (Or.inl rfl) (Ao (yn T) (yL) hr.Za5 rfl T.Q8 T.jO.b .nil aO (ae (pv 1) ah)))
   (ai (aY (i:=7) eQ.nd rfl (Or.inl rfl) (bS (ae uc (ae (dX (ae aw ah)) ah))))
   (ai (aY (i:=8) eQ.nd rfl (Or.inl rfl) (dX ah))
   (ai (aY (i:=9) eQ.nd rfl (Or.inl rfl) (bq (Bg rfl) rfl T.Oz PyProof.Rows.boot_max (ae aw (ae (bq (Bh rfl) rfl T.Oy PyProof.Rows.boot_min (ae aw (ae (bD qk (bq bA rfl T.cQ ahJ (ae (pv 0) ah)) aw) ah))) ah))))
   (ai (dw ahK rfl (gu rfl T.hJ (ae (pv 9) ah)) (bQ (i:=10) eQ.nd rfl (Or.inl rfl))
    (ai (aY (i:=11) eQ.nd rfl (Or.inl rfl) (bD dy (bD qm (bD dG (bx (dU) hr.Za5 rfl T._law_cell_at.m T._law_cell_at.F.kp T._law_cell_at.b .nil aO (ae (pv 0) (ae (bD dG aw (pv 10)) ah))) (bD qm (pv 10) (pv 10))) aw) aw))
    (ai (oy (bx (F4) hr.Za5 rfl T._law_deed.m T._law_deed.F.kp T._law_deed.b .nil aO (ae (pv 6) (ae (pv 1) (ae (pv 7) (ae (pv 11) (ae (pv 10) ah)))))) (jX rfl (cz (bQ (i:=12) eQ.nd rfl (Or.inl rfl)) (cz (bQ (i:=7) eQ.nd rfl (Or.inl rfl)) iX))))
    (ai (bX (bP (aZ wF (pv 12) dv (bj _))
     (ai (bH (fG ahD ahH ahI cT (pv 8) (ae (pv 12) ah)))
     (aq (aY (i:=7) eQ.nd rfl (Or.inl rfl) (bx (uZ) hr.Za5 rfl T._law_walked.m T._law_walked.F.kp T._law_walked.b .nil aO (ae (pv 1) (ae (pv 3) (ae (pv 4) (ae (pv 7) (ae (jk pZ (fP (pv 6) (aK T) T.cY.m (gp) hr.Za5 T.cY.b .nil aO) (iZ (bq bA rfl T.cQ ahJ (ae (pv 8) ah))) pY) ah)))))))))
     bC))
    (ai (bX (bP (PW.pt (fE (aZ oB (pv 7) dv (bj _)) (iT (aZ (GA Wt) (jk pZ (fP (pv 6) (aK T) T.cY.m (gp) hr.Za5 T.cY.b .nil aO) pY (iZ (bq bA rfl T.cQ ahJ (ae (pv 8) ah)))) (pv 8) (bj _)))))
     (aq (bz dD))
     bC))
    (ai (aY (i:=8) eQ.nd rfl (Or.inl rfl) (fP (pv 6) (aK T) T.cY.m (gp) hr.Za5 T.cY.b .nil aO))
    (ai (bP (aZ lF (bD dy (pv 10) (bD iY (pv 9) aw)) (bD qk (bD iY (pv 9) aw) aw) (bj _))
     (aq FL)
     bC)
    (ai (bX (bP (PW.pt (fE (aZ wF (bx (RB) hr.Za5 rfl T.close.m T.close.F.kp T.close.b .nil aO (ae (pv 6) (ae (aS bp (pv 5) aw (λ_ _=>rfl)) (ae (aS bp (pv 5) aw (λ_ _=>rfl)) ah)))) dv (bj _)) (iT (aZ (GA Wt) (jk pZ (fP (pv 6) (aK T) T.cY.m (gp) hr.Za5 T.cY.b .nil aO) pY (iZ (bq bA rfl T.cQ ahJ (ae (pv 8) ah)))) (pv 8) (bj _)))))
     (aq (bz dD))
     bC))
    (ai (aY (i:=7) eQ.nd rfl (Or.inl rfl) (bx (uZ) hr.Za5 rfl T._law_walked.m T._law_walked.F.kp T._law_walked.b .nil aO (ae (pv 1) (ae (pv 3) (ae (pv 4) (ae (pv 7) (ae (jk pZ (fP (pv 6) (aK T) T.cY.m (gp) hr.Za5 T.cY.b .nil aO) (iZ (bq bA rfl T.cQ ahJ (ae (pv 8) ah))) pY) ah)))))))
    (ai (bX (bP (PW.pt (fE (aZ oB (pv 7) dv (bj _)) (iT (gq (cD (bx (A8) hr.Za5 rfl T._law_as_told.m T._law_as_told.F.kp T._law_as_told.b .nil aO (ae (pv 6) (ae (pv 1) (ae (pv 7) ah)))))))))
     (aq (bz dD))
     bC))
    (ai (bP (gq (cD (bx (CF) hr.Za5 rfl T._law_closed.m T._law_closed.F.kp T._law_closed.b .nil aO (ae (aS bp (pv 7) aw (λ_ _=>rfl)) (ae (aS bp (pv 7) aw (λ_ _=>rfl)) (ae (pv 3) (ae (pv 4) ah)))))))
     (aq (bz dD))
     bC)
    (aq (aY (i:=8) eQ.nd rfl (Or.inl rfl) (fP (pv 6) (aK T) T.cY.m (gp) hr.Za5 T.cY.b .nil aO))))))))))))))
   (aq (bz (mQ (QH Wt) (pv 5) (bS (ae (pv 3) (ae (pv 4) ah))) (bj _)))))))))))))))),?_⟩
  try dsimp only[bJ,cx]
  refine Ke ?_;intro age agf acf Zf UN Ez zI uU rX mE gB fD;have ha:aM K H a (ao ns):=ha;have Ql:=ha;refine⟨_,rfl,a,ns,0,rfl,ha,by decide,λy=>⟨_,_,rfl,rfl,(by show (0:Int)<3;decide),_,_,rfl,rfl,?_⟩⟩;have y1:=aj5 y (show (3:Int)≠0 by decide);have y2:=ajC y (show (0:Int)<3 by decide);obtain⟨L,eL⟩:∃L:Nat,1+ y % 3=(L:Int):=⟨(1+ y % 3).toNat,by omega⟩;have j7:1<=L:=by omega
  have xQ:L<=3:=by omega
  rw[show (λ(i j:Int)=>V.int (i+ j)) 1 (y % 3)=V.int (L:Int) from ah6 V.int eL];clear eL y1 y2;refine⟨_,rfl,a,ns,0,rfl,ha,by decide,λy3=>⟨_,_,rfl,rfl,⟨by decide,by decide⟩,_,_,rfl,rfl,(by show (0:Int)<5;decide),?_⟩⟩;obtain⟨mn,ZJ,hmn⟩:=PQ (y3 / 3) (n:=5) (by decide);rw[show (λ(i j:Int)=>V.int (i % j)) (y3 / 3) 5=V.int (mn:Int) from ah6 V.int ZJ];clear ZJ;refine⟨_,rfl,(mn:Int),rfl,by omega,by omega,?_⟩;rw[ahZ];refine jq (α:=Unit) mn (λi=>.int (0+ (i:Int))) (λH2 v i=>∃p,v=.ref p/\∃w,H2 p=some (.tup (ao w))/\Cq L w) (λH1 H2 v i s ⟨p,e,w,q,o⟩=>⟨p,e,w,s _ _ q,o⟩) (ahC (show mn<=1000 by omega) (by decide)) (λi H2 s2 hi=>hi) (λi x H2 H3 s2 hi y=>y) (λH2 s2=>ahi _) (λi H2 Rr hi s2 kk=>?_) (λaR H1 ys s1 nR jm hr=>?_)
  ·refine⟨_,rfl,_,rfl,_,_,rfl,rfl,(by show (0:Int)<5;decide),_,_,rfl,rfl,a,ns,1+ i % 5,?_,s2.seq ha,by omega,λy4=>?_⟩
   ·show [V.ref a,V.int (1+ (0+ (i:Int)) % 5)]=[V.ref a,V.int ((1+ i % 5:Nat):Int)];rw[show 1+ (0+ (i:Int)) % 5=((1+ i % 5:Nat):Int) by omega]
   exact⟨_,rfl,_,_,rfl,rfl,_,_,rfl,rfl,.inr ⟨by omega,by omega⟩,_,_,rfl,rfl,(by show (0:Int)<2147483629;decide),_,rfl,_,L,rfl,j7,by omega,λl w H3 s3 h3 hl hw=>kk _ _ s3 ⟨l,rfl,w,h3,by omega,hw⟩⟩
  obtain⟨pR,rfl,j0⟩:=tE (P:=λ_ p=>∃w,H1 p=some (.tup (ao w))/\Cq L w) ys 0 (λi v hv=>hr i v hv);obtain⟨rs,tR,oR⟩:=words_of λi p e=>j0 i p e
  have lR:rs.length<=4:=by rw[←tR.1];rw[ahl]at jm;omega
  clear j0 hr jm;have s2:=au.upd (o:=.lst (pR.map V.ref)) nR;have hR:upd H1 aR (.lst (pR.map V.ref)) aR=some (.lst (pR.map V.ref)):=aj;replace tR:=tR.same s2;generalize upd H1 aR (.lst (pR.map V.ref))=H2 at s2 hR tR ⊢;have oS:=s1.trans s2;refine⟨_,rfl,a,ns,0,rfl,oS.seq ha,by decide,λy5=>⟨_,_,rfl,rfl,⟨by decide,by decide⟩,_,_,rfl,rfl,(by show (0:Int)<3;decide),?_⟩⟩;obtain⟨pn,ZK,hpn⟩:=PQ (y5 / 15) (n:=3) (by decide);refine⟨(pn:Int),ah6 (λq=>[V.int q]) ZK,by omega,by omega,?_⟩;rw[ahZ];refine jq (α:=Unit) pn (λi=>.int (0+ (i:Int))) (λH2 v i=>∃p,v=.ref p/\∃w,H2 p=some (.tup (ao w))/\Cq L w) (λH1 H2 v i s ⟨p,e,w,q,o⟩=>⟨p,e,w,s _ _ q,o⟩) (ahC (show pn<=1000 by omega) (by decide)) (λi H2 s2 hi=>hi) (λi x H2 H3 s2 hi y=>y) (λH2 s2=>ahi _) (λi H3 Rr hi s3 kk=>?_) (λaP H3 ys s3 nP jm hr=>?_)
  ·refine⟨_,rfl,_,rfl,_,_,rfl,rfl,a,ns,5+ i,?_,(oS.trans s3).seq ha,by omega,λy4=>?_⟩
   ·show [V.ref a,V.int (5+ (0+ (i:Int)))]=[V.ref a,V.int ((5+ i:Nat):Int)];rw[show 5+ (0+ (i:Int))=((5+ i:Nat):Int) by omega]
   exact⟨_,_,rfl,rfl,(by show (0:Int)<1000003;decide),_,rfl,_,L,rfl,j7,by omega,λl w H4 s4 h4 hl hw=>kk _ _ s4 ⟨l,rfl,w,h4,by omega,hw⟩⟩
  obtain⟨pP,rfl,j0⟩:=tE (P:=λ_ p=>∃w,H3 p=some (.tup (ao w))/\Cq L w) ys 0 (λi v hv=>hr i v hv);obtain⟨ps,tP,oP⟩:=words_of λi p e=>j0 i p e
  have lP:ps.length<=2:=by rw[←tP.1];rw[ahl]at jm;omega
  clear j0 hr jm ZK;have s4:=au.upd (o:=.lst (pP.map V.ref)) nP;have hP:upd H3 aP (.lst (pP.map V.ref)) aP=some (.lst (pP.map V.ref)):=aj;replace tP:=tP.same s4;have LK:=s3.trans s4;replace tR:=tR.same LK;have Wu:aP≠aR:=λz=>by rw[z,s3 _ _ hR]at nP;cases nP
  replace hR:=LK _ _ hR;have fV:=oS.trans LK;generalize upd H3 aP (.lst (pP.map V.ref))=H4 at s4 hP tP tR hR fV LK ⊢;replace ha:=fV.seq ha;have ZL:=same_none s1 nR;have ZM:=same_none (oS.trans s3) nP;clear s1 s2 oS s3 s4 LK nR nP;refine⟨λ aX H'=>∃rs pR,aX=[some (V.ref a),some (.int (L:Int)),some (.int (mn:Int)),some (.ref aR),some (.ref aP),none,none,none,none,none,none,none,none]/\(∀b u,b≠aR->H4 b=some u->H' b=some u)/\H' aR=some (.lst (pR.map V.ref))/\dZ H' pR rs/\(∀w∈rs,Cq L w)/\rs.length<=5,?_,?_⟩
  ·refine⟨_,rfl,a,ns,0,rfl,ha,by decide,λy6=>⟨_,_,rfl,rfl,⟨by decide,by decide⟩,_,_,rfl,rfl,(by show (0:Int)<4;decide),rfl,_,rfl,cS (λ_=>?_) λ_=>⟨rs,pR,rfl,λ_ _ _ e=>e,hR,tR,oR,by omega⟩⟩⟩;refine FH ha Gq j7 xQ hR (by rw[tR.1];omega) rfl λt w H' f h1 h2 h3=>⟨rs++[w],pR++[t],rfl,f,h1,(tR.keep λp xs e=>f p _ (λz=>by rw[z,hR]at e;cases e) e).snoc h2,λu hu=>?_,by rw[ahe];show _+ 1<=_;omega⟩
   rcases ahx.mp hu with q|q
   ·exact oR u q
   ·rw[ahg.mp q];exact h3
  obtain⟨u4,GU⟩:∃u,H4 aR=some (.lst u):=⟨_,hR⟩;clear hR tR oR lR rs pR;intro σ H5 bV;refine bI ?_;intro q_;obtain⟨rs,pR,rfl,f5,hR,tR,oR,lR⟩:=bV;dsimp only[q_];clear q_;replace hP:=f5 _ _ Wu hP;replace tP:=tP.keep λp xs e=>f5 p _ (λz=>by rw[z,GU]at e;cases e) e
  replace fV:au H H5:=λb u e=>f5 b u (λz=>by rw[z,ZL]at e;cases e) (fV _ _ e)
  clear f5 GU ha H4;refine⟨λ aX H'=>∃ps pP,aX=[some (V.ref a),some (.int (L:Int)),some (.int (mn:Int)),some (.ref aR),some (.ref aP),none,none,none,none,none,none,none,none]/\(∀b u,b≠aP->H5 b=some u->H' b=some u)/\H' aP=some (.lst (pP.map V.ref))/\dZ H' pP ps/\(∀w∈ps,Cq L w)/\ps.length<=3,?_,?_⟩
  ·refine⟨_,rfl,a,ns,0,rfl,fV.seq Ql,by decide,λy6=>⟨_,_,rfl,rfl,⟨by decide,by decide⟩,_,_,rfl,rfl,(by show (0:Int)<4;decide),rfl,_,rfl,cS (λ_=>?_) λ_=>⟨ps,pP,rfl,λ_ _ _ e=>e,hP,tP,oP,by omega⟩⟩⟩;refine FH (fV.seq Ql) Gq j7 xQ hP (by rw[tP.1];omega) rfl λt w H' f h1 h2 h3=>⟨ps++[w],pP++[t],rfl,f,h1,(tP.keep λp xs e=>f p _ (λz=>by rw[z,hP]at e;cases e) e).snoc h2,λu hu=>?_,by rw[ahe];show _+ 1<=_;omega⟩
   rcases ahx.mp hu with q|q
   ·exact oP u q
   ·rw[ahg.mp q];exact h3
  obtain⟨u5,OY⟩:∃u,H5 aP=some (.lst u):=⟨_,hP⟩;clear hP tP oP lP ps pP;intro σ H6 bV;refine bI ?_;intro q_;obtain⟨ps,pP,rfl,f6,hP,tP,oP,lP⟩:=bV;dsimp only[q_];clear q_;replace hR:=f6 _ _ (ail Wu) hR;replace tR:=tR.keep λp xs e=>f6 p _ (λz=>by rw[z,OY]at e;cases e) e
  replace fV:au H H6:=λb u e=>f6 b u (λz=>by rw[z,ZM]at e;cases e) (fV _ _ e)
  clear f6 OY H5;refine⟨_,rfl,aR,_,rfl,.inl (aM.of hR),λxS n1=>?_⟩;have s7:=au.upd (o:=.lst (pR.map V.ref)) n1;have w1:b0 (upd H6 xS (.lst (pR.map V.ref))) xS rs:=⟨pR,aj,tR.same s7⟩;generalize upd H6 xS (.lst (pR.map V.ref))=H7 at s7 w1 ⊢;refine⟨_,rfl,aP,_,rfl,.inl (aM.of (s7 _ _ hP)),λxT n2=>?_⟩;have s8:=au.upd (o:=.lst (pP.map V.ref)) n2;have w2:b0 (upd H7 xT (.lst (pP.map V.ref))) xT ps:=⟨pP,aj,(tP.same s7).same s8⟩;generalize upd H7 xT (.lst (pP.map V.ref))=H8 at s8 w2 ⊢;refine⟨(Za4 2),λjZ n3=>?_⟩;have s9:=au.upd (o:=.tup [.ref xS,.ref xT]) n3;have Wv:upd H8 jZ (.tup [.ref xS,.ref xT]) jZ=some (.tup [.ref xS,.ref xT]):=aj;have FI:=s7.trans (s8.trans s9);replace w1:=w1.same (s8.trans s9);replace w2:=w2.same s9;have w3:b0 (upd H8 jZ (.tup [.ref xS,.ref xT])) aR rs:=⟨pR,FI _ _ hR,tR.same FI⟩;have w4:b0 (upd H8 jZ (.tup [.ref xS,.ref xT])) aP ps:=⟨pP,FI _ _ hP,tP.same FI⟩;have LD:=fV.trans FI;generalize upd H8 jZ (.tup [.ref xS,.ref xT])=H0 at s9 Wv w1 w2 w3 w4 LD FI ⊢;clear s7 s8 s9 FI fV n1 n2 n3 hR hP tR tP H6 H7 H8;have ha:=LD.seq Ql;clear LD Ql ZL ZM Wu;refine⟨_,rfl,λr dx nx Ca uR=>⟨r,dx,L,rfl,aj,j7,by omega,λra H5 k5 h5 ZN=>⟨rfl,?_⟩⟩⟩;obtain⟨s5,Ww⟩:=Rk (C:=A.ak) (S:=RS.new L (cV (2* L))) nx Ca uR k5 ZN;clear k5 ZN nx Ca uR;intro d nd;refine⟨(Za4 1),λe ne=>⟨(Za4 2),λst Qf=>?_⟩⟩;have z1:=au.upd (o:=.dT []) nd;have z2:=au.upd (o:=.lst [.int 0]) ne;have z3:=au.upd (o:=.tup [.ref d,.ref e]) Qf;have Wx:upd (upd (upd H5 d (.dT [])) e (.lst [.int 0])) st (.tup [.ref d,.ref e]) d=some (.dT []):=z3 _ _ (z2 _ _ aj);have FE:upd (upd (upd H5 d (.dT [])) e (.lst [.int 0])) st (.tup [.ref d,.ref e]) e=some (.lst (ao (nI [0]))):=z3 _ _ aj;have NS:upd (upd (upd H5 d (.dT [])) e (.lst [.int 0])) st (.tup [.ref d,.ref e]) st=some (.tup [.ref d,.ref e]):=aj;have Hv:=z1.trans (z2.trans z3);have ne5:=same_none z1 ne;generalize upd (upd (upd H5 d (.dT [])) e (.lst [.int 0])) st (.tup [.ref d,.ref e])=H9 at Wx FE NS Hv ⊢;refine⟨(Za4 0),λrl mM=>?_⟩;have z4:=au.upd (o:=.lst []) mM
  have Qm:LI A.ak (rs++ps) rs.length H0 (upd H9 rl (.lst [])) r st d e rl (RS.new L (cV (2* L))) ra (λ_ _ _=>False) L 0 1 [] (RS.new L (cV (2* L))).aB (λa z b=>(RS.new L (cV (2* L))).by a z=some b) [] (RS.new L (cV (2* L))).rows []:=by
   have h9:ax A.ak (upd H9 rl (.lst [])) r (RS.new L (cV (2* L))) ra:=h5.same (Hv.trans z4);have th:∀b,ra.own r b->∃o,H5 b=some o:=λb z=>h5.there z
   have sl:0+ (RS.new L (cV (2* L))).stand<=1:=by rw[akf];exact uK (RS.new L (cV (2* L)))
   refine⟨s5.trans (Hv.trans z4),⟨⟨h9,DT L _,⟨(λc hc e=>?_),(λc hc=>by cases hc),(λc hc=>by cases hc)⟩,(λ_ _ _ z=>z.elim),by show 1<=2000;decide,by rw[nS];omega,sl,ahC sl (by decide)⟩,Nat.one_pos,ahi _,rfl,sl,(λx hx=>by cases hx)⟩,Ww,z4 _ _ NS,z4 _ _ Wx,same_none s5 nd,⟨(λp hp=>by cases hp),(λa z b q=>?_),ais⟩,z4 _ _ FE,(λz=>by obtain⟨o,q⟩:=th e z;rw[q]at ne5;cases ne5),by show 1<=100;decide,.nil λ_ _ _=>Iff.rfl,(λx hx=>by cases hx),ahi _,⟨[],aj,rfl,(λi p x q=>by simp at q)⟩,(λz=>by obtain⟨o,q⟩:=th rl z;rw[Hv _ _ q]at mM;cases mM),(λz=>by rw[z,FE]at mM;cases mM),same_none (s5.trans Hv) mM,rfl⟩
   ·have:c=0:=by have:c<1:=hc;omega
    subst this;exact absurd rfl e
   ·exact absurd ((DT L (cV (2* L))).so a z b q) (λ⟨_,_,r,_⟩=>r)
  generalize upd H9 rl (.lst [])=uV at Qm ⊢;clear z1 z2 z3 z4 Hv Wx FE NS ne5 mM Qf ne nd h5 s5 Ww;refine⟨_,rfl,a,_,rfl,.inl (Qm.s.seq ha),_,_,rfl,rfl,_,_,rfl,_,_,rfl,?_⟩
  obtain⟨sz,ZO,B9,vh⟩:∃sz:Nat,(if (if ((ao ns).length:Int) - 6<40 then ((ao ns).length:Int) - 6 else 40) > 12 then (if ((ao ns).length:Int) - 6<40 then ((ao ns).length:Int) - 6 else 40) else 12)=(sz:Int)/\12<=sz/\sz<=40:=by
   by_cases q:((ao ns).length:Int) - 6<40
   ·rw[ahu q];by_cases q2:((ao ns).length:Int) - 6 > 12
    ·rw[ahu q2];exact⟨(((ao ns).length:Int) - 6).toNat,by omega,by omega,by omega⟩
    ·rw[ahq q2];exact⟨12,rfl,by decide,by decide⟩
   ·rw[ahq q,ahu (by decide)];exact⟨40,rfl,by decide,by decide⟩
  rw[ZO];clear ZO;refine⟨_,rfl,(sz:Int),rfl,by omega,by omega,?_⟩;rw[ahZ];refine oz (lo:=0) (n:=sz) (λi σ H'=>∃st d e rl S ra R B t kvs v10 v11 Ak,σ=[some (V.ref a),some (.int (L:Int)),some (.int (mn:Int)),some (.ref aR),some (.ref aP),some (.ref jZ),some (.ref r),some (.ref st),some (.ref rl),some (.int (sz:Int)),v10,v11,Ak]/\LI A.ak (rs++ps) rs.length H0 H' r st d e rl S ra R L i B kvs S.aB (λa z b=>S.by a z=some b) [] S.rows []/\B<=2* i+ 700* t+ 1/\t* (sz / 3)<=i) ⟨st,d,e,rl,_,ra,_,1,0,[],none,none,none,rfl,Qm,by omega,by omega⟩ ?_ ?_
  ·clear Qm st d e rl ra uV H9 H5;intro i σ H5 hi bV;refine bI ?_;intro q_;obtain⟨st,d,e,rl,S,ra,R,B,t,kvs,v10,v11,Ak,rfl,li,hB,ht⟩:=bV;dsimp only[q_];clear q_;rw[ajd];dsimp only[eM];refine Kx ?_;intro ik agg w_9 w_8 w_7 w_6 w_5 w_4 w_3 UZ GR;have kl:=li.kl;have hrw:=li.rows;have hq4:4<=sz / 3:=by omega
   have rA:t<=3:=by
    rcases ajJ t 4 with q|q
    ·omega
    ·have:=aji (sz / 3) q;omega
   have ZP:(sz:Int) / 3=((sz / 3:Nat):Int):=by omega
   have Ja:¬(i % (sz / 3)<sz / 3 - 1)->(t+ 1)* (sz / 3)<=i+ 1:=λhn=>by
    have h1:t<=i / (sz / 3):=(Nat.le_div_iff_mul_le (by omega)).mpr ht;have h2:=Nat.div_add_mod i (sz / 3);have h3:=Nat.mul_le_mul_left (sz / 3) h1;rw[aki,Nat.one_mul,Nat.mul_comm];omega
   generalize ZQ:sz / 3=q3 at hq4 ZP ht Ja;refine⟨_,rfl,_,rfl,_,_,rfl,rfl,a,ns,6+ i,ah6 (λq=>[V.ref a,V.int q]) (show (6:Int)+ (i:Int)=((6+ i:Nat):Int) by omega),li.s.seq ha,by omega,λy6=>?_⟩;refine⟨_,rfl,_,rfl,_,_,rfl,rfl,.inl ⟨by omega,by omega⟩,_,_,rfl,rfl,_,_,rfl,rfl,.inr ⟨by decide,by decide⟩,_,_,rfl,rfl,(by show (0:Int)<2147483629;decide),?_⟩;generalize Wy:(y6+ (i:Int)* (i:Int))* 69621 % 2147483629=num;rw[show (λ(i j:Int)=>V.int (i % j)) ((y6+ (i:Int)* (i:Int))* 69621) 2147483629=V.int num from ah6 V.int Wy];clear Wy;refine⟨_,rfl,_,rfl,_,rfl,_,rfl,_,rfl,r,st,d,e,L,num,i,S,ra,R,i,B,kvs,rs++ps,rs.length,rfl,li.dn,li.cI,li.hd,li.hW,by omega,li.he,li.ne,j7,xQ,by omega,by omega,NR λv H6 p=>?_⟩;refine bI ?_;intro q_;obtain⟨tt,x,vi,d2,e2,S2,ZR,R2,EY,E2,W2,ji,ms2,rfl,ZS,wC,hx⟩:=li.acn p;dsimp only[q_];clear q_;clear p;refine⟨tt,_,rfl,bL.of ZS,rfl,_,_,rfl,_,_,rfl,rfl,?_⟩;refine⟨λ aX H'=>∃st d e S ra R kvs pre ms Ak,aX=[some (V.ref a),some (.int (L:Int)),some (.int (mn:Int)),some (.ref aR),some (.ref aP),some (.ref jZ),some (.ref r),some (.ref st),some (.ref rl),some (.int (sz:Int)),some (.int (i:Int)),some (.int num),Ak]/\LI A.ak (rs++ps) rs.length H0 H' r st d e rl S ra R L (i+ 1) (B+ 2) kvs S.aB (λa z b=>S.by a z=some b) [] pre ms,?_,?_⟩
   ·rcases hx with ⟨rfl,rfl,rfl⟩|⟨q,row,rfl,rfl,hq,nq⟩
    ·refine⟨_,rfl,rfl,_,rfl,jE rfl ?_⟩;obtain⟨rfl,hW2⟩:=wC.nil;exact⟨vi,d2,e2,S2,ZR,R2,EY,S.rows,[],_,rfl,hW2⟩
    ·refine⟨_,rfl,rfl,_,rfl,cS (λ_=>?_) (λh=>absurd rfl h)⟩;obtain⟨qs,q1,q2⟩:=wC.jV;have agh:=wC.rows;refine⟨_,rfl,.inl ⟨rfl,_,aM.of q1⟩,_,rfl,rl,_,_,rfl,rfl,q1,ahr (show (qs.map V.ref).length<=10000 by rw[ahl,q2.1];omega) (by decide),?_⟩;have gJ:=wC.append q1 q2 hq nq;exact Ht gJ (by omega) w3 w4 (by omega) rfl rfl rfl rfl rfl rfl λcU d' e' cN H' li4=>⟨cU,d',e',S2,ZR,R2,cN,_,_,_,rfl,li4⟩
   clear hx wC ZS li;intro σ H7 bV;refine bI ?_;intro q_;obtain⟨st,d,e,S,ra,R,kvs,pre,ms,Ak,rfl,li⟩:=bV;dsimp only[q_];clear q_;have hrw:=li.rows;have kl:=li.kl;refine⟨_,?_,λ_ _ h=>h⟩;refine⟨_,rfl,rfl,_,rfl,cS (λh=>by have:=ahB h;cases this) λ_=>FG li (by omega) rfl rfl λH8 s8=>b8 ?_⟩;replace li:=li.same s8;refine⟨_,rfl,r,ra.dx,_,rfl,li.dn.rm.at_.ins,cq _ _ _ (by decide +kernel),r,S,ra,rfl,li.dn.rm.at_,by omega,li.dp,λl qp H9 s9 nl hl jr=>?_⟩;replace li:=li.Qi s9 nl hl jr;clear jr hl nl s9 s8;refine⟨_,rfl,_,rfl,_,_,rfl,rfl,⟨by decide,by decide⟩,_,_,rfl,rfl,(by show (0:Int)<(sz:Int) / 3;omega),_,rfl,_,_,rfl,rfl,⟨by decide,by decide⟩,_,_,rfl,rfl,_,_,rfl,rfl,_,rfl,?_⟩;refine cS (λ_=>⟨st,d,e,l,S,ra,R,B+ 2,t,kvs,_,_,_,rfl,li,by omega,by rw[ZQ];omega⟩) λvK=>?_
   have vK:¬(i % q3<q3 - 1):=λq=>vK (ahy (by
    rw[ZP,←Int.natCast_emod];omega))
   have aco:=Ja vK;clear Ja vK;have m0:=li.dn.m0;have mm:=li.dn.m;have hmul:S.made* rs.length<=41* 5:=Nat.mul_le_mul (by omega) lR;have ZT:∀u∈rs++ps,u.length<=1000/\∀z∈u,(-1000<=z/\z<=1000)/\z∈cV (2* L)/\-z∈cV (2* L):=λu hu=>Wq (by omega) ((ahx.mp hu).elim (oR u) (oP u))
   have ZU:=li.s _ _ Wv;refine⟨_,?_,λ_ _ h=>h⟩;refine⟨_,rfl,_,rfl,jZ,_,_,_,rfl,rfl,bL.of ZU,rfl,_,rfl,jZ,_,_,_,rfl,rfl,bL.of ZU,rfl,r,xS,xT,S,ra,R,cV (2* L),B+ 2,rs,ps,rfl,li.dn.rm,m0,by omega,w1.same li.s,w2.same li.s,by omega,by omega,by omega,ZT,λS' Qn R' B' uV zK Wz WB _ em eL tr cl agi=>⟨rfl,_,rfl,jE rfl ?_⟩⟩;obtain⟨R2,ms2,wC⟩:=li.close (λw hw z hz=>((ZT w hw).2 z hz).2) zK Wz WB em eL tr;clear li zK Wz WB;refine FG wC (by omega) rfl rfl λBX rY=>b8 ?_
   replace wC:=wC.same rY;refine Ht wC (by omega) w3 w4 (by omega) rfl rfl rfl rfl rfl rfl λcU d' e' cN GY gJ=>?_
   clear wC;have wf:=gJ.dn.rm.g.wf;have mm3:=gJ.dn.m;have kl3:cN.length+ 2* 0<=2* S'.rows.length:=gJ.kl;have agj:=gJ.rows;refine⟨_,?_,λ_ _ h=>h⟩;refine⟨_,rfl,rfl,_,rfl,cS (λh=>by have:=ahB h;cases this) λ_=>?_⟩;refine⟨_,rfl,_,rfl,_,rfl,r,cU,d',e',L,S',Qn,cN,rfl,gJ.dn.rm.at_,wf,by omega,by omega,gJ.cI,gJ.hd,gJ.hW,gJ.he,gJ.inn,λGZ j9=>⟨true,rfl,b8 ?_⟩⟩;replace gJ:=gJ.same j9;refine⟨_,rfl,cU,_,_,_,rfl,rfl,bL.of gJ.cI,rfl,_,rfl,cU,_,_,_,rfl,rfl,bL.of gJ.cI,rfl,_,rfl,_,rfl,d',e',aR,aP,cN,S',R2,rs,ps,rfl,gJ.hd,gJ.hW,by omega,gJ.he,w3.same gJ.s,w4.same gJ.s,wf,gJ.dn.rm.g,cl,by omega,λG0 oN=>⟨true,rfl,b8 ?_⟩⟩;replace gJ:=gJ.same oN;refine⟨_,rfl,r,Qn.dx,_,rfl,gJ.dn.rm.at_.ins,cq _ _ _ (by decide +kernel),r,S',Qn,rfl,gJ.dn.rm.at_,by omega,gJ.dp,λl' qp' UL s15 nl hl jr=>?_⟩;exact⟨cU,d',e',l',S',Qn,R2,B',t+ 1,cN,_,_,_,rfl,gJ.Qi s15 nl hl jr,by omega,by rw[ZQ];exact aco⟩
  ·intro σ H5 bV;refine bI ?_;intro q_;obtain⟨st,d,e,rl,S,ra,R,B,t,kvs,v10,v11,Ak,rfl,li,hB,ht⟩:=bV;dsimp only[q_];clear q_;refine⟨_,rfl,_,rfl,_,rfl,(Za4 2),λt nt=>?_⟩;have s6:=li.s.trans (au.upd (o:=.tup [.ref aR,.ref aP]) nt);exact⟨_,jZ,t,rfl,rfl,Hu (s6 _ _ Wv) ((uL (w1.same s6)).le (by decide)) ((uL (w2.same s6)).le (by decide)),Hu aj ((uL (w3.same s6)).le (by decide)) ((uL (w4.same s6)).le (by decide)),k _⟩
end
theorem all_mk {l:PySem.W.OpenLaw}{w:World}{K:Za1}{mg:Str->Option Value}{fa:Addr}(hfa:mg "law"=some (.ref fa))
 {cu dF bY:Addr}
 {f1 f2 f3 f4 f5 f6 f7 f8 f9 zK ZV GX ZW ZX KQ ZY ZZ Z0 Z1 Z2 Z3 f22 Z4 Z5 Z6 Z7 Z8 Z9 f29 f30 f31 f32 f33 f34 f35 f36 f37 f38 f39 f40 f41 f42 f43 f44 f45 f46:Addr} {d1 d2 d3 d4 d5 d6 d7 d8 d9 d10 d11 d12 d13 d14 d15 d16 d17 d18 d19 d20 d21 d22 d23 d24 d25 d26 d27 d28 d29 d30 d31 d32 d33 d34 d35 d36 d37 d38 d39 d40 d41 d42 d43 d44 d45 d46:FuncData}
 (y_Rooms:mg "Rooms"=some (.ref cu))
 (y_Going:mg "Going"=some (.ref dF))
 (y_Closing:mg "Closing"=some (.ref bY))
 (D1:Def K mg "close" AB ["rooms","rules","part"] f1 d1)
 (D2:Def K mg "walked" yk ["rooms","room","word"] f2 d2)
 (D3:Def K mg "first_places" mX ["rules"] f3 d3)
 (D4:Def K mg "steps_of" uo ["letters"] f4 d4)
 (D5:Def K mg "all_gaps" uq ["letters"] f5 d5)
 (D6:Def K mg "own" Iu ["value"] f6 d6)
 (D7:Def K mg "_law_cell_at" mY ["_law_script","_law_k"] f7 d7)
 (D8:Def K mg "_law_whole" qP ["_law_found"] f8 d8)
 (D9:Def K mg "_law_step" sj ["_law_number","_law_letters"] f9 d9)
 (D10:Def K mg "_law_renamed" mZ ["_law_room","_law_less","_law_more"] zK d10)
 (D11:Def K mg "_law_stands" oX ["_law_elders","_law_room"] ZV d11)
 (D12:Def K mg "_law_new" zz ["_law_letters","_law_ways","_law_elders","_law_row"] GX d12)
 (D13:Def K mg "_law_rule" sk ["_law_words","_law_many","_law_ways","_law_elders","_law_row"] ZW d13)
 (D14:Def K mg "_law_meet" sr ["_law_ways","_law_elders","_law_row"] ZX d14)
 (D15:Def K mg "_law_on" vO ["_law_letters","_law_rules","_law_part","_law_state","_law_row"] KQ d15)
 (D16:Def K mg "_law_word" su ["_law_number","_law_letters"] ZY d16)
 (D17:Def K mg "_law_as_told" m4 ["_law_rooms","_law_letters","_law_state"] ZZ d17)
 (D18:Def K mg "_law_round" qQ ["_law_known","_law_word_here","_law_room"] Z0 d18)
 (D19:Def K mg "_law_closed" oY ["_law_ways","_law_elders","_law_rules","_law_part"] Z1 d19)
 (D20:Def K mg "_law_deed" sv ["_law_rooms","_law_letters","_law_state","_law_number","_law_at"] Z2 d20)
 (D21:Def K mg "_law_walked" oZ ["_law_letters","_law_rules","_law_part","_law_state","_law_rows"] Z3 d21)
 (D22:Def K mg "law" Iv ["_law_script"] f22 d22)
 (D23:MDef K dF "__init__" "Going.__init__" kB ["self","which","word","start"] Z4 d23)
 (D24:MDef K dF "advance" "Going.advance" lU ["self","rooms"] Z5 d24)
 (D25:MDef K dF "row" "Going.row" sA ["self","rooms"] Z6 d25)
 (D26:MDef K bY "__init__" "Closing.__init__" jv ["self","rooms","rules","part"] Z7 d26)
 (D27:MDef K bY "begin_rules" "Closing.begin_rules" gW ["self","room"] Z8 d27)
 (D28:MDef K bY "begin" "Closing.begin" lV ["self","which","word","room"] Z9 d28)
 (D29:MDef K bY "settle" "Closing.settle" kD ["self"] f29 d29)
 (D30:MDef K bY "go_on" "Closing.go_on" lW ["self","number"] f30 d30)
 (D31:MDef K bY "wait" "Closing.wait" m5 ["self","number","room","step"] f31 d31)
 (D32:MDef K bY "lay" "Closing.lay" pe ["self","going"] f32 d32)
 (D33:MDef K bY "wake" "Closing.wake" m6 ["self","room","step"] f33 d33)
 (D34:MDef K bY "hear" "Closing.hear" m7 ["self"] f34 d34)
 (D35:MDef K bY "wake_all" "Closing.wake_all" jw ["self","room"] f35 d35)
 (D36:MDef K cu "__init__" "Rooms.__init__" kF ["self","letters"] f36 d36)
 (D37:MDef K cu "make" "Rooms.make" qR ["self","room","step"] f37 d37)
 (D38:MDef K cu "lay" "Rooms.lay" sC ["self","room","step","other","row"] f38 d38)
 (D39:MDef K cu "by" "Rooms.by" ur ["self","room","step"] f39 d39)
 (D40:MDef K cu "elder" "Rooms.elder" pf ["self","room"] f40 d40)
 (D41:MDef K cu "standing" "Rooms.standing" kH ["self"] f41 d41)
 (D42:MDef K cu "paper" "Rooms.paper" ph ["self"] f42 d42)
 (D43:MDef K cu "keep" "Rooms.keep" qS ["self","room","step","other"] f43 d43)
 (D44:MDef K cu "take_in" "Rooms.take_in" lX ["self","way","pending"] f44 d44)
 (D45:MDef K cu "put_together" "Rooms.put_together" iC ["self","room","step","one","other","pending"] f45 d45)
 (D46:MDef K cu "put_off" "Rooms.put_off" lY ["self","room","pending"] f46 d46)
 (z1:mg "enumerate"=none)
 (z2:mg "min"=none)
 (z3:mg "max"=none)
 (z4:mg "range"=none)
 (z5:mg "len"=none)
 (z6:mg "tuple"=none)
 (z7:mg "list"=none)
 (z8:mg "isinstance"=none)
 (z9:mg "bool"=none)
 (z10:mg "int"=none)
 (z11:mg "dict"=none)
 (z12:mg "str"=none)
 (w_pg_Rooms:PySem.W.plainGet K cu Str.empty=true)
 (w_hd_Rooms:PySem.W.hasDictIn K cu=true)
 (w_po_Rooms:PySem.W.plainOver K cu=true)
 (w_sa_Rooms:PySem.W.findIn K (.ref cu) "__setattr__"=some (some (.builtin "object.__setattr__")))
 (w_mk_Rooms:PySem.W.makesIn K cu=true)
 (w_kc_Rooms:PySem.W.keepIn K (.ref cu)=true)
 (w_n_letters:PySem.W.findIn K (.ref cu) "letters"=some none)
 (w_n_made:PySem.W.findIn K (.ref cu) "made"=some none)
 (w_n_rows:PySem.W.findIn K (.ref cu) "rows"=some none)
 (w_n_ways:PySem.W.findIn K (.ref cu) "ways"=some none)
 (w_n_gaps:PySem.W.findIn K (.ref cu) "gaps"=some none)
 (w_n_elders:PySem.W.findIn K (.ref cu) "elders"=some none)
 (w_n_called:PySem.W.findIn K (.ref cu) "called"=some none)
 (w_n_went:PySem.W.findIn K (.ref cu) "went"=some none)
 (w_pg_Going:PySem.W.plainGet K dF Str.empty=true)
 (w_hd_Going:PySem.W.hasDictIn K dF=true)
 (w_po_Going:PySem.W.plainOver K dF=true)
 (w_sa_Going:PySem.W.findIn K (.ref dF) "__setattr__"=some (some (.builtin "object.__setattr__")))
 (w_mk_Going:PySem.W.makesIn K dF=true)
 (w_kc_Going:PySem.W.keepIn K (.ref dF)=true)
 (w_nG_which:PySem.W.findIn K (.ref dF) "which"=some none)
 (w_nG_word:PySem.W.findIn K (.ref dF) "word"=some none)
 (w_nG_start:PySem.W.findIn K (.ref dF) "start"=some none)
 (w_nG_front:PySem.W.findIn K (.ref dF) "front"=some none)
 (w_nG_first:PySem.W.findIn K (.ref dF) "first"=some none)
 (w_nG_rear:PySem.W.findIn K (.ref dF) "rear"=some none)
 (w_nG_last:PySem.W.findIn K (.ref dF) "last"=some none)
 (w_pg_Closing:PySem.W.plainGet K bY Str.empty=true)
 (w_hd_Closing:PySem.W.hasDictIn K bY=true)
 (w_po_Closing:PySem.W.plainOver K bY=true)
 (w_sa_Closing:PySem.W.findIn K (.ref bY) "__setattr__"=some (some (.builtin "object.__setattr__")))
 (w_mk_Closing:PySem.W.makesIn K bY=true)
 (w_kc_Closing:PySem.W.keepIn K (.ref bY)=true)
 (w_nC_rooms:PySem.W.findIn K (.ref bY) "rooms"=some none)
 (w_nC_rules:PySem.W.findIn K (.ref bY) "rules"=some none)
 (w_nC_goings:PySem.W.findIn K (.ref bY) "goings"=some none)
 (w_nC_agenda:PySem.W.findIn K (.ref bY) "agenda"=some none)
 (w_nC_waiting:PySem.W.findIn K (.ref bY) "waiting"=some none)
 (w_nC_heard:PySem.W.findIn K (.ref bY) "heard"=some none)
 :∃fd:FuncData,(∀(s:Shared) (v:Value),BindsTo s fd ⟨[v],[]⟩ [("_law_script",v)])/\∀base:Heap,K.In base->base.Ns mainGlobals mg->aL l.prog w K mg base bB 10 fa fd ["_law_script"] (CW K):=by
 have e:=hfa.symm.trans D22.m;cases e;have T:Txt K mg ⟨f1,d1,f2,d2,f3,d3,f4,d4,f5,d5,f6,d6,f7,d7,f8,d8,f9,d9,zK,d10,ZV,d11,GX,d12,ZW,d13,ZX,d14,KQ,d15,ZY,d16,ZZ,d17,Z0,d18,Z1,d19,Z2,d20,Z3,d21,fa,d22,Z4,d23,Z5,d24,Z6,d25,Z7,d26,Z8,d27,Z9,d28,f29,d29,f30,d30,f31,d31,f32,d32,f33,d33,f34,d34,f35,d35,f36,d36,f37,d37,f38,d38,f39,d39,f40,d40,f41,d41,f42,d42,f43,d43,f44,d44,f45,d45,f46,d46,cu,dF,bY⟩:=⟨D1,D2,D3,D4,D5,D6,D7,D8,D9,D10,D11,D12,D13,D14,D15,D16,D17,D18,D19,D20,D21,D22,D23,D24,D25,D26,D27,D28,D29,D30,D31,D32,D33,D34,D35,D36,D37,D38,D39,D40,D41,D42,D43,D44,D45,D46,z1,z2,z3,z4,z5,z6,z7,z8,z9,z10,z11,z12,y_Rooms,y_Going,y_Closing,w_pg_Rooms,w_hd_Rooms,w_po_Rooms,w_sa_Rooms,w_mk_Rooms,w_kc_Rooms,w_n_letters,w_n_made,w_n_rows,w_n_ways,w_n_gaps,w_n_elders,w_n_called,w_n_went,w_pg_Going,w_hd_Going,w_po_Going,w_sa_Going,w_mk_Going,w_kc_Going,w_nG_which,w_nG_word,w_nG_start,w_nG_front,w_nG_first,w_nG_rear,w_nG_last,w_pg_Closing,w_hd_Closing,w_po_Closing,w_sa_Closing,w_mk_Closing,w_kc_Closing,w_nC_rooms,w_nC_rules,w_nC_goings,w_nC_agenda,w_nC_waiting,w_nC_heard⟩;obtain⟨kV,doc,pm,an,bR,ct,e⟩:=D22.fd;exact⟨_,λs v=>by rw[e];exact .of_eq rfl,λbase _ _=>Ws T⟩
theorem walk {l:PySem.W.OpenLaw}{q:Program}{loose:List Str}{XP:(Str->Option Value)->Heap->Prop}{YP:World->Heap->Prop}{d:DefRec}{K:Params->Za1}(hn:l.most=some 63)(Jz:d.params.defaults=[])
 (hY:∀(w:World) (h:Heap),YP w h->(K w.params).In h)
 (F:∀(w:World) (mg:Str->Option Value) (fa:Addr) (h:Heap),(K w.params).In h->h.Ns mainGlobals mg->mg d.name=some (.ref fa)->
  ∃fd:FuncData,(∀(s:Shared) (u:Value),BindsTo s fd ⟨[u],[]⟩ [("_law_script",u)])/\∀base:Heap,(K w.params).In base->base.Ns mainGlobals mg->aL l.prog w (K w.params) mg base bB 10 fa fd ["_law_script"] (CW (K w.params))):
 PySem.W.WalkO q loose XP YP l.row.toRowW d [] (λf vs=>PySem.call f vs):=
 L2.Qx (n:=63) (k:=10) (x:="_law_script") (CX:=λw=>bB) (sp:=λw=>CW (K w.params)) hn (by decide) Jz ⟨rfl,by decide,by decide⟩ hY F (λ_ _ a ns hl _ hS=>⟨a,ns,rfl,hS,hl,λ_=>rfl⟩) λ_ _ _ _ _ z=>z
end K21
open PySem PySem.W PyProof.Rows
namespace PySem.W.Fast
def tw855698592629705980:=0
def tw13371598106373357331:=0
def tw4494686135423101872:=0
def tw8797646673044294098:=0
def tw2592161486227535035:=0
def tw9622741188147194990:=0
def tw10864959112789640917:=0
def tw879793018476834217:=0
def tw18402959703199090628:=0
def tw15902286843491000182:=0
def tw17589849993453697892:=0
def tw6391232188443443608:=0
def tw7751114261164691668:=0
def tw1091370022034475582:=0
def tw9916438796648896060:=0
def tw2331458995121002456:=0
def tw15984015270760223544:=0
def tw14114715003198586594:=0
def tw16696409157266877686:=0
def tw9925796251244703979:=0
def tw14130160533796761168:=0
def tw4720695091562408040:=0
def tw4814340190175319240:=0
def tw2616288004662783452:=0
def tw901910315055938335:=0
def tw17379641304650520878:=0
def tw12983885030125645662:=0
def tw13462360892477902551:=0
def tw3103417616367889176:=0
def tw5743750996402420015:=0
def tw12300676502698313770:=0
def tw3675913329306950814:=0
def tw7198464077820401217:=0
def tw17554862291040935253:=0
def tw5930014570202972228:=0
def tw17745733848513084536:=0
def tw5661131990696858622:=0
def tw10160869700188699026:=0
def tw7885080795028863213:=0
def tw5140630033651098228:=0
def tw5995814286113636101:=0
def tw11692182835330482561:=0
def tw7733135106792668483:=0
def tw7236985948643086198:=0
def tw8268440162748264829:=0
def tw4515561632331372729:=0
def tw16605771765025329183:=0
def tw12020456248764379713:=0
def tw15279486206159572248:=0
def tw3764347465549218787:=0
def tw17486185622698463850:=0
def tw12416387365857445804:=0
def tw15566637218896561819:=0
def tw9576791352104061504:=0
def tw15506541220713598700:=0
def tw5723917854739898251:=0
def tw13477962587199463215:=0
def tw3113789827674774593:=0
def tw9712916278193152295:=0
def tw11521698030504833885:=0
def tw13682434700433028612:=0
def tw4722503499601795630:=0
def tw13944166027383261943:=0
def tw1662841888756674947:=0
def tw7846725192449478246:=0
def tw13967908928887240335:=0
def tw5751108595780150998:=0
def tw15246086452777202788:=0
def tw797444296716862886:=0
def tw16838479917576291124:=0
def tw8358681935063821162:=0
def tw5430566166894158973:=0
def tw7875340755953298860:=0
def tw6334940700400895792:=0
def tw18439313611867784070:=0
def tw449453535487460856:=0
def tw9445898385107096181:=0
def tw1094452643984688885:=0
def tw10787643492435465047:=0
def tw4169984985432253520:=0
end PySem.W.Fast
set_option maxRecDepth 100000 in
set_option maxHeartbeats 0 in
theorem PySem.Challenge.cw_cosetyard_k21_nothing_more_follows_holds : PySem.Challenge.rw_cosetyard_k21_nothing_more_follows.Holds := by
  w_on; o_law; k_head; (case hw => w_witness2)
  k_fill
  refine K21.walk (l := PySem.Challenge.rw_cosetyard_k21_nothing_more_follows) rfl rfl (fun w h Y => PySem.W.kIn_of Y) ?F
  case F =>
    intro w mg fa h KX G hmg
    refine' K21.all_mk hmg ?y_Rooms ?y_Going ?y_Closing ?D1 ?D2 ?D3 ?D4 ?D5 ?D6 ?D7 ?D8 ?D9 ?D10 ?D11 ?D12 ?D13 ?D14 ?D15 ?D16 ?D17 ?D18 ?D19 ?D20 ?D21 ?D22 ?D23 ?D24 ?D25 ?D26 ?D27 ?D28 ?D29 ?D30 ?D31 ?D32 ?D33 ?D34 ?D35 ?D36 ?D37 ?D38 ?D39 ?D40 ?D41 ?D42 ?D43 ?D44 ?D45 ?D46 ?z1 ?z2 ?z3 ?z4 ?z5 ?z6 ?z7 ?z8 ?z9 ?z10 ?z11 ?z12 ?w_pg_Rooms ?w_hd_Rooms ?w_po_Rooms ?w_sa_Rooms ?w_mk_Rooms ?w_kc_Rooms ?w_n_letters ?w_n_made ?w_n_rows ?w_n_ways ?w_n_gaps ?w_n_elders ?w_n_called ?w_n_went ?w_pg_Going ?w_hd_Going ?w_po_Going ?w_sa_Going ?w_mk_Going ?w_kc_Going ?w_nG_which ?w_nG_word ?w_nG_start ?w_nG_front ?w_nG_first ?w_nG_rear ?w_nG_last ?w_pg_Closing ?w_hd_Closing ?w_po_Closing ?w_sa_Closing ?w_mk_Closing ?w_kc_Closing ?w_nC_rooms ?w_nC_rules ?w_nC_goings ?w_nC_agenda ?w_nC_waiting ?w_nC_heard
    (case y_Rooms | y_Going | y_Closing => refine' PySem.W.mg_of KX G ?a; (case a => k_is))
    (case D1 | D2 | D10 | D14 | D17 | D18 => refine' L2.Def.of KX G ?a ?l ?c ?k (fun _ _ _ _ _ _ _ hl => by obtain ⟨_, _, _, rfl⟩ := L2.args_is3 hl; rfl); (case a => k_is); (case l => k_is); (case c => k_is); (case k => k_is))
    (case D3 | D4 | D5 | D6 | D8 | D22 => refine' L2.Def.of KX G ?a ?l ?c ?k (fun _ _ _ _ _ _ _ hl => by obtain ⟨_, rfl⟩ := L2.args_is1 hl; rfl); (case a => k_is); (case l => k_is); (case c => k_is); (case k => k_is))
    (case D7 | D9 | D11 | D16 => refine' L2.Def.of KX G ?a ?l ?c ?k (fun _ _ _ _ _ _ _ hl => by obtain ⟨_, _, rfl⟩ := L2.args_is2 hl; rfl); (case a => k_is); (case l => k_is); (case c => k_is); (case k => k_is))
    (case D12 | D19 => refine' L2.Def.of KX G ?a ?l ?c ?k (fun _ _ _ _ _ _ _ hl => by obtain ⟨_, _, _, _, rfl⟩ := L2.args_is4 hl; rfl); (case a => k_is); (case l => k_is); (case c => k_is); (case k => k_is))
    (case D13 | D15 | D20 | D21 => refine' L2.Def.of KX G ?a ?l ?c ?k (fun _ _ _ _ _ _ _ hl => by obtain ⟨_, _, _, _, _, rfl⟩ := L2.args_is5 hl; rfl); (case a => k_is); (case l => k_is); (case c => k_is); (case k => k_is))
    (case D23 | D26 | D28 | D31 | D43 => refine' L2.MDef.of ?a ?i ?l ?c ?k (fun _ _ _ _ _ _ _ hl => by obtain ⟨_, _, _, _, rfl⟩ := L2.args_is4 hl; rfl); (case a => k_is); (case i => k_is); (case l => k_is); (case c => k_is); (case k => k_is))
    (case D24 | D25 | D27 | D30 | D32 | D35 | D36 | D40 => refine' L2.MDef.of ?a ?i ?l ?c ?k (fun _ _ _ _ _ _ _ hl => by obtain ⟨_, _, rfl⟩ := L2.args_is2 hl; rfl); (case a => k_is); (case i => k_is); (case l => k_is); (case c => k_is); (case k => k_is))
    (case D29 | D34 | D41 | D42 => refine' L2.MDef.of ?a ?i ?l ?c ?k (fun _ _ _ _ _ _ _ hl => by obtain ⟨_, rfl⟩ := L2.args_is1 hl; rfl); (case a => k_is); (case i => k_is); (case l => k_is); (case c => k_is); (case k => k_is))
    (case D33 | D37 | D39 | D44 | D46 => refine' L2.MDef.of ?a ?i ?l ?c ?k (fun _ _ _ _ _ _ _ hl => by obtain ⟨_, _, _, rfl⟩ := L2.args_is3 hl; rfl); (case a => k_is); (case i => k_is); (case l => k_is); (case c => k_is); (case k => k_is))
    (case D38 => refine' L2.MDef.of ?a ?i ?l ?c ?k (fun _ _ _ _ _ _ _ hl => by obtain ⟨_, _, _, _, _, rfl⟩ := L2.args_is5 hl; rfl); (case a => k_is); (case i => k_is); (case l => k_is); (case c => k_is); (case k => k_is))
    (case D45 => refine' L2.MDef.of ?a ?i ?l ?c ?k (fun _ _ _ _ _ _ _ hl => by obtain ⟨_, _, _, _, _, _, rfl⟩ := L2.args_is6 hl; rfl); (case a => k_is); (case i => k_is); (case l => k_is); (case c => k_is); (case k => k_is))
    (case z1 | z2 | z3 | z4 | z5 | z6 | z7 | z8 | z9 | z10 | z11 | z12 => refine' PySem.W.mg_none_of KX G ?a; (case a => k_is))
    (case w_pg_Rooms | w_hd_Rooms | w_po_Rooms | w_sa_Rooms | w_mk_Rooms | w_kc_Rooms | w_n_letters | w_n_made | w_n_rows | w_n_ways | w_n_gaps | w_n_elders | w_n_called | w_n_went | w_pg_Going | w_hd_Going | w_po_Going | w_sa_Going | w_mk_Going | w_kc_Going | w_nG_which | w_nG_word | w_nG_start | w_nG_front | w_nG_first | w_nG_rear | w_nG_last | w_pg_Closing | w_hd_Closing | w_po_Closing | w_sa_Closing | w_mk_Closing | w_kc_Closing | w_nC_rooms | w_nC_rules | w_nC_goings | w_nC_agenda | w_nC_waiting | w_nC_heard => first | k_is | kit_is | kts_exm | kernel_rfl)
