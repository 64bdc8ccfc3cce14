import PyProof.Rows.All
import Wide.All
import OpenK.AllK
import Wide.FinOn
import Lean
import PyProof.EqAt
import PyProof.EqKinds
import PyProof.TupleCall
import PyProof.FString
import OpenK.KOwn
import KE.KTryMore
import PyProof.NsDelKeeps
import PyProof.StrBlock2
import PyProof.AutoListH
import KE.KIntText
import PyProof.Rows.StrIntSpec
import KE.KRevIter
import PyProof.StrWalks
import PyProof.CompUse
import PyProof.NeKinds
import PyProof.Rows.Range3
import PyProof.Rows.EnumRows
import PyProof.ConsumeWalk
import PyProof.Rows.SeqGen
import PyProof.StrLawsRepr
import PyProof.ZipIter
import PyProof.Rows.FactsT2
import PyProof.EnumMake
import PyProof.DictWalks
import PyProof.DictTruth
import PyProof.ListRange
import PyProof.ListStr
import PyProof.TupleOfGen
import PyProof.TupleOfSeq
import PyProof.MinMaxWalk
import PyProof.WalkInts
import KE.KSortAsk
import PyProof.MeetsSeq3
import KE.KRevSl
import PyProof.Rows.SeqMore
import PyProof.ListMulRoad
import PyProof.Rows.SumAny
import PyProof.SeqI3
import PyProof.AttrMissSeq
import KE.KDictOf
import PyProof.Rows.StrCut
import PyProof.Rows.StrSplitCount
import PyProof.DictItems
import PyProof.Rows.SortWalk
import PySem.Challenge.RW_cosetyard_k55_whole_alike_from_each_room
set_option Elab.async false
set_option linter.all false
set_option maxRecDepth 100000
set_option maxHeartbeats 4000000
section
local macro_rules|`(tactic|decide)=>`(tactic|decide +kernel)
local macro_rules|`(tactic|ac_rfl)=>`(tactic|exact⟨rfl,rfl,rfl,by decide,rfl,by decide,by decide⟩)
abbrev Za0:=@Option.some.inj
abbrev Za1:=PySem.W.Frag
abbrev Za2:=Nat->Int->Nat->Prop
abbrev Za3:=List (List Int)
theorem Za4 (n:Nat)(h:n<=PySem.sizeLine:=by decide):n<=PySem.sizeLine:=h
abbrev abi:=@PySem.wpAny_bind
abbrev abj:=@List.length_append
abbrev abk:=@List.getElem?_eq_some_iff
abbrev abl:=@PySem.Heap.get?_push_of_some
abbrev abm:=@List.getElem?_eq_getElem
abbrev abn:=@List.mem_of_getElem?
abbrev abo:=@List.length_map
abbrev abp:=@List.mem_singleton
abbrev abq:=@PySem.wpAny_pure
abbrev abr:=@Nat.le_refl
abbrev abt:=@List.getD_eq_getElem?_getD
abbrev abu:=@List.getElem?_append_left
abbrev abv:=@List.mem_append_right
abbrev abw:=@List.getElem?_append_right
abbrev abx:=@List.mem_append
abbrev aby:=@List.getElem?_map
abbrev abz:=@Nat.lt_of_le_of_lt
abbrev abA:=@List.mem_cons_self
abbrev abB:=@Nat.le_trans
abbrev abC:=@PySem.F.plainAttrs_list
abbrev abD:=@List.mem_cons
abbrev abE:=@PySem.Heap.lt_size
abbrev abF:=@PySem.Heap.get?_push_size
abbrev abG:=@beq_eq_false_iff_ne
abbrev abH:=@if_neg
abbrev abI:=@PySem.F.slot_list_append
abbrev abJ:=@PySem.F.type_list_append
abbrev abK:=@List.size_toArray
abbrev abL:=@List.length_cons
abbrev abM:=@List.mem_append_left
abbrev abN:=@if_pos
abbrev abO:=@List.append_nil
abbrev abP:=@List.length_set
abbrev abQ:=@PySem.PassesOwn.never
abbrev abR:=@List.mem_cons_of_mem
abbrev abS:=@Nat.zero_le
abbrev abT:=@List.getElem?_eq_none
abbrev abU:=@List.map_append
abbrev abV:=@Nat.ne_of_lt
abbrev abW:=@Nat.lt_of_lt_of_le
abbrev abX:=@decide_eq_true
abbrev abY:=@List.length_range
abbrev abZ:=@List.length_take
abbrev ab0:=@List.nodup_cons
abbrev ab1:=@List.map_map
abbrev ab2:=@Int.toNat_natCast
abbrev ab3:=@PyProof.Rows.slot_tuple_getitem
abbrev ab4:=@PySem.wpAny_newObj_type
abbrev ab5:=@List.nodup_append
abbrev ab6:=@PySem.boot_len
abbrev ab7:=@Bool.false_ne_true
abbrev ab8:=@PyProof.Rows.boot_isinstance
abbrev ab9:=@of_decide_eq_true
abbrev aca:=@List.mem_range
abbrev acb:=@PySem.Heap.get?_update_self
abbrev acd:=@List.not_mem_nil
abbrev ace:=@PySem.wpAny_field
abbrev acf:=@PySem.wpAny_callSpecial?_slot
abbrev acg:=@List.map_cons
abbrev ach:=@List.mem_map
abbrev aci:=@List.append_assoc
abbrev acj:=@decide_eq_false
abbrev ack:=@List.length_nil
abbrev acm:=@List.getElem?_set_self
abbrev acn:=@PySem.Heap.get?_update_other
abbrev aco:=@List.getElem?_of_mem
abbrev acp:=@PySem.wpAny_call_entry
abbrev acq:=@PySem.Calls.spliced_cons
abbrev acr:=@List.length_singleton
abbrev acs:=@decide_eq_true_iff
abbrev acu:=@PySem.Calls.callWith_builtin
abbrev acv:=@PySem.wpAny_mono
abbrev acw:=@PyProof.Rows.callWith_type1
abbrev acx:=@List.map_congr_left
abbrev acy:=@List.length_drop
abbrev acz:=@Option.map_eq_some_iff
abbrev acA:=@PyProof.Rows.boot_list
abbrev acB:=@PySem.wpAny_setField_rec
abbrev acC:=@Nat.sub_self
abbrev acD:=@PySem.wpAny_holding
abbrev acE:=@PySem.F.plainAttrs_dict
abbrev acF:=@PyProof.Rows.boot_tuple
abbrev acG:=@Nat.mul_le_mul_right
abbrev acH:=@Nat.ne_of_gt
abbrev acI:=@PySem.wpAny_Call_Name_kw
abbrev acJ:=@PySem.W.kia_one
abbrev acK:=@Nat.lt_irrefl
abbrev acL:=@Nat.lt_succ_self
abbrev acM:=@Bool.and_eq_true
abbrev acN:=@List.take_length
abbrev acO:=@PySem.F.slot_dict_itemiterator_next
abbrev acP:=@PySem.mem_of_lookup
abbrev acQ:=@List.getElem?_range
abbrev acR:=@PySem.Heap.SameBut.update
abbrev acS:=@Nat.lt_succ_of_lt
abbrev acT:=@PySem.F.slot_dict_keyiterator_next
abbrev acU:=@Ne.symm
abbrev acV:=@Bool.eq_iff_iff
abbrev acW:=@PySem.Obj.data_mapFields
abbrev acX:=@Int.neg_neg
abbrev acY:=@List.range_succ
abbrev acZ:=@List.getElem?_set_ne
abbrev ac0:=@PySem.Calls.evalArgs_plain
abbrev ac1:=@List.cons_append
abbrev ac2:=@List.mem_flatMap
abbrev ac3:=@Array.getElem?_eq_some_iff
abbrev ac4:=@Array.length_toList
abbrev ac5:=@PySem.Calls.spliced_nil
abbrev ac6:=@List.nodup_nil
abbrev ac7:=@List.mem_filter
abbrev ac8:=@PySem.F.slot_dict_get
abbrev ac9:=@PySem.wpAny_typeNameOfWhole_itemiter
abbrev ada:=@Int.zero_add
abbrev adb:=@Int.emod_nonneg
abbrev ade:=@congrArg
abbrev adf:=@Int.emod_lt_of_pos
abbrev adg:=@PySem.wpAny_typeNameOfWhole_keyiter
abbrev adh:=@List.dropLast_concat_getLast
abbrev adi:=@PySem.F.slot_dict_setdefault
abbrev adj:=@List.take_succ
abbrev adk:=@List.ext_getElem?
abbrev adl:=@PySem.wpAny_dictEntries
abbrev adn:=@List.pairwise_map
abbrev ado:=@Nat.le_succ
abbrev adp:=@List.mem_map_of_mem
abbrev adq:=@List.filter_sublist
abbrev ads:=@Nat.min_eq_left
abbrev adt:=@PySem.F.slot_tuple_iterator_next
abbrev adu:=@PySem.F.excBase_ValueError
abbrev adv:=@List.lookup_cons
abbrev adw:=@PySem.wpAny_typeOf
abbrev adx:=@PySem.tupleKind_room_in1
abbrev ady:=@PySem.Obj.isFreed_of_fields
abbrev adz:=@List.take_append_drop
abbrev adA:=@PySem.Heap.size_push
abbrev adB:=@PySem.wpAny_setField
abbrev adC:=@List.mem_or_eq_of_mem_set
abbrev adD:=@PySem.wpAny_typeNameOf_itemiter
abbrev adE:=@Classical.byContradiction
abbrev adF:=@PySem.codeAny_call_builtin
abbrev adG:=@PySem.wpAny_truthy_bool
abbrev adH:=@PySem.wpAny_passesOwn
abbrev adI:=@PySem.wpAny_Call_method
abbrev adJ:=@PySem.wpAny_loadPart'
abbrev adK:=@PySem.wpAny_typeNameOf_keyiter
abbrev adL:=@not_false_eq_true
abbrev adM:=@List.length_erase_of_mem
abbrev adN:=@PySem.call_meetsIn
abbrev adO:=@or_false
abbrev adP:=@List.eq_nil_of_length_eq_zero
abbrev adQ:=@Nat.min_eq_right
abbrev adR:=@PySem.F.entry_dict_get
abbrev adS:=@List.take_of_length_le
abbrev adT:=@List.find?_cons_of_neg
abbrev adU:=@PySem.W.callWith_K
abbrev adV:=@PySem.wpAny_execs_nil
abbrev adW:=@PySem.codeAny_mono
abbrev adX:=@Array.getElem?_toList
abbrev adY:=@List.nil_append
abbrev adZ:=@List.find?_cons
abbrev ad0:=@List.length_filter_le
abbrev ad1:=@PySem.F.slot_dict_pop
abbrev ad2:=@PySem.F.slot_enumerate_next
abbrev ad3:=@PySem.F.slot_enumerate_iter
abbrev ad4:=@PySem.wpAny_notOrdered_dict
abbrev ad5:=@PySem.wpAny_dictEpoch
abbrev ad6:=@Nat.add_mul
abbrev ad7:=@Nat.zero_add
abbrev ad8:=@PySem.wpAny_standAt
abbrev ad9:=@PySem.wpAny_pyIter_list
abbrev aea:=@if_false
abbrev aeb:=@Decidable.not_not
abbrev aec:=@PySem.wpAny_loadPart_at
abbrev aed:=@List.drop_eq_getElem_cons
abbrev aee:=@List.getElem?_eq_none_iff
abbrev aef:=@PySem.W.hideAll_get
abbrev aeg:=@List.length_reverse
abbrev aeh:=@List.flatMap_append
abbrev aei:=@Nat.le_of_eq
abbrev aej:=@Option.isSome_iff_exists
abbrev aek:=@List.getElem?_take_of_lt
abbrev ael:=@PySem.F.args_tuple_add_2
abbrev aem:=@Nat.lt_trans
abbrev aen:=@Nat.lt_or_ge
abbrev aeo:=@PySem.F.entry_tuple_add
abbrev aep:=@Bool.or_eq_true
abbrev aeq:=@Bool.false_eq_true
abbrev aer:=@PySem.wpAny_ite_split
abbrev aes:=@Nat.max_eq_left
abbrev aeu:=@List.filter_cons_of_pos
abbrev aev:=@List.getElem?_drop
abbrev aew:=@PySem.F.slot_tuple_add
abbrev aex:=@List.find?_cons_of_pos
abbrev aey:=@Array.getElem?_eq_none
abbrev aez:=@Option.map_eq_none_iff
abbrev aeA:=@PyProof.Rows.boot_dict
abbrev aeB:=@List.pairwise_lt_range
abbrev aeC:=@beq_iff_eq
abbrev aeD:=@PySem.wpAny_call
abbrev aeE:=@List.foldl_append
abbrev aeF:=@List.filter_congr
abbrev aeG:=@List.getElem?_inj
abbrev aeH:=@List.findIdx_cons
abbrev aeI:=@PySem.wpAny_seqItems
abbrev aeJ:=@Nat.mul_le_mul
abbrev aeK:=@Nat.le_of_lt
abbrev aeL:=@Nat.mul_comm
abbrev aeM:=@Nat.le_total
abbrev aeN:=@Nat.max_eq_right
abbrev aeO:=@List.drop_length
abbrev aeP:=@if_true
namespace L2
open PySem PySem.Spec PyProof.Rows
abbrev Key:=Sum Int Str
def rB:Key->Value->Bool
 |.inl k,v=>Value.isInt k v
 |.inr x,v=>Value.isStrOf x v
def Um (w:World):Key->Int
 |.inl k=>hashInt k
 |.inr x=>hashStr w x
theorem dy:∀{k:Key} {v:Value},rB k v=true->(∃i t,k=Sum.inl i/\v=Value.int i t)\/(∃x t,k=Sum.inr x/\v=Value.str x t)
 |.inl i,v,h=>by
  obtain⟨t,e⟩:=Value.isInt_shape (k:=i) (v:=v) h;exact .inl ⟨i,t,rfl,e⟩
 |.inr x,v,h=>by
  obtain⟨t,e⟩:=Value.isStrOf_shape (x:=x) (v:=v) h;exact .inr ⟨x,t,rfl,e⟩
theorem CB (i:Int)(t:Tok):rB (.inl i) (.int i t)=true:=by simp[rB,Value.isInt]
theorem CD (x:Str)(t:Tok):rB (.inr x) (.str x t)=true:=by simp[rB,Value.isStrOf]
theorem Ld (a b:Int):decide ((Sum.inl a:Key)=Sum.inl b)=(a==b):=by
 grind
theorem Le (a b:Str):decide ((Sum.inr a:Key)=Sum.inr b)=decide (a=b):=by
 grind
theorem Lf (a:Int)(b:Str):decide ((Sum.inl a:Key)=Sum.inr b)=false:=acj (λq=>nomatch q)
theorem Lg (a:Str)(b:Int):decide ((Sum.inr a:Key)=Sum.inl b)=false:=acj (λq=>nomatch q)
def bR (c:Program)(w:World):PySem.KeyKind c w Key where
 is:=rB
 hash:=Um w
 inj:=λv a b m f=>by
  rcases dy m with ⟨i,t,rfl,rfl⟩|⟨x,t,rfl,rfl⟩
  ·rcases dy f with ⟨j,u,rfl,e⟩|⟨y,u,rfl,e⟩
   ·grind
   grind
  ·rcases dy f with ⟨j,u,rfl,e⟩|⟨y,u,rfl,e⟩
   ·exact nomatch e
   grind
 byValue:=λk v h=>by
  rcases dy h with ⟨i,t,rfl,rfl⟩|⟨x,t,rfl,rfl⟩ <;> rfl
 pyHash:=λd h=>by
  rcases dy d with ⟨i,t,rfl,rfl⟩|⟨x,t,rfl,rfl⟩
  ·exact wpAny_pyHash_int h
  ·exact wpAny_pyHash_str h
 eqBool:=λg d h=>by
  rcases dy g with ⟨i,t,rfl,rfl⟩|⟨x,t,rfl,rfl⟩
  ·rcases dy d with ⟨j,u,rfl,rfl⟩|⟨y,u,rfl,rfl⟩
   ·rw[Ld]at h;exact wpAny_eqBool_int h
   ·rw[Lf]at h;exact SeqAt.EqAt.int_str i t y u _ _ _ _ h
  ·rcases dy d with ⟨j,u,rfl,rfl⟩|⟨y,u,rfl,rfl⟩
   ·rw[Lg]at h;exact SeqAt.EqAt.str_int x t j u _ _ _ _ h
   ·rw[Le]at h;exact wpAny_eqBool_str h
 «strs»:=λk x t v h=>by
  rcases dy h with ⟨i,u,rfl,e⟩|⟨y,u,rfl,e⟩
  ·exact nomatch e
  ·injection e with l _
   subst l;cases v <;> rfl
theorem zO (a:Program)(w:World)(i:Int)(t:Tok):(bR a w).is (.inl i) (.int i t)=true:=CB i t
theorem zP (a:Program)(w:World)(x:Str)(t:Tok):(bR a w).is (.inr x) (.str x t)=true:=CD x t
end L2
variable {n m i j:Nat}{a b c d:PySem.Addr}{z y:Int}{v u:PySem.Value}{x f:PySem.Str}{e:PySem.Expr}{p:PySem.Pos}{K:Za1}{Q E:PySem.Value->PySem.Shared->Prop}{s t:PySem.Shared}{P:PySem.Program}{w:PySem.World}{h g:PySem.Heap}{R:Za2}{A:PySem.Around}{o:List (PySem.Addr×PySem.Obj)}{M:PySem.Str->Option PySem.Value}{l:List Int}{N:List PySem.Value}{B:List Nat}{W:Za3}{U:Unit->PySem.Shared->Prop}{C:List PySem.Expr}{F:List PySem.Addr}{Z:List PySem.Str}
namespace L2
open PySem PySem.Spec PyProof.Rows
inductive V where
 |non|bl (b:Bool)|int (i:Int)|str (x:Str)|lP (b:Array UInt8)|xZ (b:UInt64)|ref (a:Addr)|ty (n:String)
 deriving DecidableEq
def RelV:V->Value->Prop
 |.non,u=>u=Value.none
 |.bl b,u=>u=Value.bool b
 |.int i,u=>∃t,u=Value.int i t
 |.str x,u=>∃t,u=Value.str x t
 |.lP b,u=>∃t,u=Value.bytes b t
 |.xZ b,u=>∃t,u=Value.float b t
 |.ref a,u=>u=Value.ref a
 |.ty n,u=>u=Value.type n
abbrev Vals:List V->List Value->Prop:=Paired RelV
theorem Vals.length {xs:List V}{us:List Value}(r:Vals xs us):xs.length=us.length:=Paired.length r
theorem Vals.get:∀{a:List V} {b:List Value} {i:Nat} {x:V},Vals a b->a[i]?=some x->∃u,b[i]?=some u/\RelV x u
 |_,_,_,_,.nil,e=>by simp at e
 |_,_,0,_,.cons r _,e=>by simp at e;subst e;exact⟨_,rfl,r⟩
 |_,_,i+ 1,x,.cons _ t,e=>by
  obtain⟨u,c,d⟩:=Vals.get (i:=i) (x:=x) t (by simpa using e);exact⟨u,by simpa using c,d⟩
theorem Vals.set {x:V}(r:RelV x u):∀{xs:List V} {us:List Value} (i:Nat),Vals xs us->Vals (xs.set i x) (us.set i u)
 |_,_,_,.nil=>.nil
 |_,_,0,.cons _ t=>.cons r t
 |_,_,i+ 1,.cons q t=>.cons q (Vals.set r i t)
theorem Vals.append:∀{a ys:List V} {b ws:List Value},Vals a b->Vals ys ws->Vals (a++ys) (b++ws)
 |_,_,_,_,.nil,s=>s
 |_,_,_,_,.cons r t,s=>.cons r (Vals.append t s)
theorem Vals.take:∀{xs:List V} {us:List Value} (n:Nat),Vals xs us->Vals (xs.take n) (us.take n)
 |_,_,0,_=>.nil
 |_,_,_+ 1,.nil=>.nil
 |_,_,n+ 1,.cons r t=>.cons r (Vals.take n t)
theorem Vals.drop:∀{xs:List V} {us:List Value} (n:Nat),Vals xs us->Vals (xs.drop n) (us.drop n)
 |_,_,0,r=>r
 |_,_,_+ 1,.nil=>.nil
 |_,_,n+ 1,.cons _ t=>Vals.drop n t
def dU:Option V->Option Value->Prop
 |some v,some u=>RelV v u
 |none,none=>True
 |_,_=>False
def KV {a:Type}:List (a×V)->List (a×Value)->Prop:=Paired λ(p:a×V) (q:a×Value)=>p.1=q.1/\RelV p.2 q.2
def kV:Key->V
 |.inl i=>.int i
 |.inr x=>.str x
inductive HO where
 /-- a list -/
 |lst (xs:List V)
 /-- a tuple (never changes) -/
 |tup (xs:List V)
 /-- a dict whose keys are ints and texts;one whose keys are tuples of ints and texts (the empty one is both) -/
 |dK (kvs:List (Key×V))|dT (kvs:List (List Key×V))
 /-- a set of ints:its members,its size -/
 |set (S:Int->Bool) (n:Nat)
 /-- an instance of the class at C,its dict at dx,its attributes -/
 |ins (C dx:Addr) (fs:List (Str×V))
 /-- the dict of the instance at x -/
 |own (x:Addr)
 /-- the dict of an exception -/
 |xd (fs:List (Str×V))
 /-- a bound method,f of x -/
 |met (f x:Addr)
 /-- a range object lo,lo+ 1,.. below hi -/
 |gb (lo hi:Int)
 /-- a thing that is known to the object (the script;a dict while a loop walks it):read,never written while it is so -/
 |cQ (o:Obj) (u:HO)
 /-- a code object's table -/
 |lQ (ps:Array Value)
 /-- any other thing,by what is true of its one object (a def of aah own:aar a S n:=HO.ext λh=>..) -/
 |ext (φ:Heap->Prop)
abbrev Hp:=Addr->Option HO
def upd (H:Hp)(a:Addr)(o:HO):Hp:=λb=>if b=a then some o else H b
theorem ai {H:Hp}{o:HO}:upd H a o a=some o:=by unfold upd;grind
theorem ak {H:Hp}{o:HO}(h:b≠a):upd H a o b=H b:=by unfold upd;rw[abH h]
theorem JH {H:Hp}{o u:HO}:upd (upd H a o) a u=upd H a u:=by
 funext b;unfold upd;grind
theorem bW {H:Hp}{o u:HO}(h:H a=some o)(c:H b=some u)(d:o≠u):a≠b:=by
 grind
theorem aw {H:Hp}{o:HO}(h:H a=some o)(c:H b=none):a≠b:=by
 grind
section
variable (P:Program) (w:World)
def bU (H:Hp)(h:Heap)(a:Addr):HO->Prop
 |.lst xs=>xs.length<=sizeLine/\∃(b:List Value) (n:Nat),Vals xs b/\h.get? a=some { cls:=.type "list",data:=.seq b.toArray n }
 |.tup xs=>xs.length<=sizeLine/\∃b:List Value,Vals xs b/\IsTup h a b.toArray
 |.dK c=>c.length<=sizeLine/\(a==sysModules)=false/\∃i,KV c i/\h.DictOf (bR P w) a i
 |.dT c=>c.length<=sizeLine/\(a==sysModules)=false/\∃xs:List (List Key×Addr×Value),
  Paired (λ(p:List Key×V) (q:List Key×Addr×Value)=>p.1=q.1/\H q.2.1=some (.tup (p.1.map kV))/\RelV p.2 q.2.2) c xs/\
  ∃o j m,h.get? a=some o/\o.ExactDict/\o.data=.dict j m/\j.toList=xs.map (entryOfKey (tupleKind (bR P w)))/\(xs.map (·.1)).Nodup
 |.set S n=>h.SetOf (intKind P w) a S n
 |.ins C e fs=>H e=some (.own a)/\fs.length<=1000/\e≠a/\h.get? a=some (PySem.W.instObj C e)/\
  ∃d,h.Ns1 e d/\(∀f,dU (fs.lookup f) (d f))/\PySem.Within d (fs.map (·.1))
 |.own _=>∃o,h.get? a=some o
 |.xd fs=>∃d,h.Ns1 a d/\∀f,dU (fs.lookup f) (d f)
 |.gb lo r=>∃t u v,h.get? a=some { cls:=.type "range",data:=.fields #[.int lo t,.int r u,.int 1 v] }
 |.cQ o u=>h.get? a=some o/\bU H h a u
 |.lQ s=>h.get? a=some { cls:=.none,data:=.fields s }
 |.met f x=>h.get? a=some (PySem.W.methodObj (.ref f) (.ref x))
 |.ext g=>g h/\(∃o,h.get? a=some o)/\∀l k:Heap,g l->(∀o,l.get? a=some o->k.get? a=some o)->g k
def dg (H:Hp)(h:Heap):Prop:=∀a o,H a=some o->bU P w H h a o
end
section
variable {P:Program}{w:World}{H H':Hp}{h h':Heap}{a:Addr}{o:HO}
theorem bU.lt (x:bU P w H h a o):a<h.objs.size:=by
 cases o with
 |lst c=>obtain⟨_,_,_,_,e⟩:=x;exact abE e
 |tup c=>obtain⟨_,_,_,p⟩:=x;exact p.lt
 |dK b=>obtain⟨_,_,_,_,o,_,_,e,_⟩:=x;exact abE e
 |dT b=>obtain⟨_,_,_,_,o,_,_,e,_⟩:=x;exact abE e
 |set S n=>obtain⟨o,_,_,_,e,_⟩:=x;exact abE e
 |ins C dx fs=>obtain⟨_,_,_,e,_⟩:=x;exact abE e
 |own y=>obtain⟨_,e⟩:=x;exact abE e
 |xd fs=>obtain⟨_,⟨_,_,_,e,_⟩,_⟩:=x;exact abE e
 |gb lo g=>obtain⟨_,_,_,e⟩:=x;exact abE e
 |cQ i u=>obtain⟨e,_⟩:=x;exact abE e
 |lQ j=>exact abE (show h.get? a=some _ from x)
 |met f y=>exact abE (show h.get? a=some _ from x)
 |ext d=>obtain⟨_,⟨_,e⟩,_⟩:=x;exact abE e
theorem Paired.Fs {e g:Type}{F G:e->g->Prop}:∀{d:List e} {c:List g},Paired F d c->(∀a b,F a b->G a b)->Paired G d c
 |_,_,.nil,_=>.nil
 |_,_,.cons r t,f=>.cons (f _ _ r) (Paired.Fs t f)
theorem bU.fV (x:bU P w H h a o)(k:∀b u,(b=a\/H b=some (.own a))->h.get? b=some u->h'.get? b=some u)
 (E:∀b,H b=some (.own a)->H' b=some (.own a)) (J:∀b m,H b=some (.tup m)->H' b=some (.tup m)):bU P w H' h' a o:=by
 induction o with
 |lst m=>obtain⟨z,l,n,r,e⟩:=x;exact⟨z,l,n,r,k _ _ (.inl rfl) e⟩
 |tup m=>obtain⟨z,l,r,g,e,c⟩:=x;exact⟨z,l,r,g,k _ _ (.inl rfl) e,c⟩
 |dK s=>obtain⟨z,y,F,r,g,j,i,e,c⟩:=x;exact⟨z,y,F,r,g,j,i,k _ _ (.inl rfl) e,c⟩
 |dT s=>
  obtain⟨z,y,m,r,g,j,i,e,c⟩:=x;exact⟨z,y,m,Paired.Fs r λp q z=>⟨z.1,J _ _ z.2.1,z.2.2⟩,g,j,i,k _ _ (.inl rfl) e,c⟩
 |set S n=>obtain⟨g,j,i,t,e,c⟩:=x;exact⟨g,j,i,t,k _ _ (.inl rfl) e,c⟩
 |ins C dx fs=>
  obtain⟨d,z,ne,e,A,⟨B,j,i,G,c⟩,r⟩:=x;exact⟨E _ d,z,ne,k _ _ (.inl rfl) e,A,⟨B,j,i,k _ _ (.inr d) G,c⟩,r⟩
 |own y=>obtain⟨g,e⟩:=x;exact⟨g,k _ _ (.inl rfl) e⟩
 |xd fs=>obtain⟨A,⟨B,j,i,e,c⟩,r⟩:=x;exact⟨A,⟨B,j,i,k _ _ (.inl rfl) e,c⟩,r⟩
 |gb lo L=>obtain⟨t,u,v,e⟩:=x;exact⟨t,u,v,k _ _ (.inl rfl) e⟩
 |cQ g u I=>obtain⟨e,q⟩:=x;exact⟨k _ _ (.inl rfl) e,I q⟩
 |lQ D=>
  have e:h.get? a=some { cls:=.none,data:=.fields D }:=x;show h'.get? a=some { cls:=.none,data:=.fields D };exact k a _ (.inl rfl) e
 |met f y=>
  have e:h.get? a=some (PySem.W.methodObj (.ref f) (.ref y)):=x;show h'.get? a=some (PySem.W.methodObj (.ref f) (.ref y));exact k a _ (.inl rfl) e
 |ext M=>obtain⟨p,⟨o,e⟩,st⟩:=x;exact⟨st _ _ p λo q=>k _ _ (.inl rfl) q,⟨o,k _ _ (.inl rfl) e⟩,st⟩
theorem dg.lt (x:dg P w H h)(e:H a=some o):a<h.objs.size:=(x a o e).lt
theorem dg.fresh (x:dg P w H h)(e:h.objs.size<=a):H a=none:=by
 cases q:H a with
 |none=>rfl
 |some u=>exact absurd (abW (x.lt q) e) (acK _)
theorem dg.kept (x:dg P w H h)(k:∀b u,h.get? b=some u->h'.get? b=some u):dg P w H h':=λa o e=>
 (x a o e).fV (λb u _ q=>k b u q) (λ_ q=>q) λ_ _ q=>q
theorem dg.laid (x:dg P w H h)(k:∀b u,h.get? b=some u->h'.get? b=some u)(g:h.objs.size<=a)(new:bU P w (upd H a o) h' a o):dg P w (upd H a o) h':=λb u e=>by
 have f:=x.fresh g;by_cases d:b=a
 ·subst d;rw[ai]at e;grind
 ·rw[ak d]at e;exact(x b u e).fV (λc v _ q=>k c v q) (λc q=>by rw[ak (aw q f)];exact q) λc i q=>by rw[ak (aw q f)];exact q
end
def Rd (H:Hp)(a:Addr)(u:HO):Prop:=H a=some u\/∃o,H a=some (.cQ o u)
theorem Rd.ok {H:Hp}{u:HO}(r:Rd H a u)(x:dg P w H h):bU P w H h a u:=by
 rcases r with r|⟨o,r⟩
 ·exact x a u r
 ·obtain⟨_,q⟩:=x a _ r;exact q
def sx:Option HO->Prop
 |some (.lst _)=>True
 |some (.dK _)=>True
 |some (.dT _)=>True
 |some (.set _ _)=>True
 |some (.ins _ _ _)=>True
 |some (.ext _)=>True
 |_=>False
section
variable {P:Program}{w:World}{H:Hp}{h h':Heap}{x e:Addr}{o':HO}
theorem dg.write (ok:dg P w H h)(mu:sx (H x))(l:e=x\/H e=some (.own x))(k:∀b u,b≠e->h.get? b=some u->h'.get? b=some u)(g:∃u,h'.get? e=some u)
 (new:bU P w (upd H x o') h' x o'):dg P w (upd H x o') h':=λb u q=>by
 have a:∀c y,H c=some (.own y)->c≠x:=λc y r z=>by subst z;rw[r]at mu;exact mu
 have hY:∀c d,H c=some (.tup d)->c≠x:=λc d r z=>by subst z;rw[r]at mu;exact mu
 by_cases i:b=x
 ·subst i;rw[ai]at q;grind
 ·rw[ak i]at q;by_cases f:b=e
  ·have j:H b=some (.own x):=by
    rcases l with z|z
    ·grind
    ·rw[f];exact z
   rw[q]at j;cases j;obtain⟨v,m⟩:=g;exact⟨v,by grind⟩
  ·refine(ok b u q).fV (λc v hc r=>k c v ?_ r) (λc r=>by rw[ak (a c b r)];exact r) λc d r=>by rw[ak (hY c d r)];exact r
   grind
end
structure Un (fs ex:List Addr) (H H':Hp) (h h':Heap):Prop where
 keep:∀b o,h.get? b=some o->H b=none->b∉fs->b∉ex->h'.get? b=some o
 slot:∀b o,h.get? b=some o->H b=none->b∈fs->b∉ex->∃sl,h'.get? b=some { o with slots:=sl }
 free:∀b o,h.get? b=some o->H b=none->b∉ex->H' b=none
 there:∀b o,h.get? b=some o->b∉ex->∃o',h'.get? b=some o'
 jo:∀b xs,H b=some (.tup xs)->H' b=some (.tup xs)
 ia:∀b o u,H b=some (.cQ o u)->H' b=some (.cQ o u)
 j4:∀b ps,H b=some (.lQ ps)->∃more,H' b=some (.lQ (ps++more))
section
variable {fs ex:List Addr}{H H1:Hp}{h h1 h':Heap}{a x e:Addr}{o:HO}
theorem Un.any (u:Un fs ex H H1 h h1){b:Addr}{c:Obj}(q:h.get? b=some c)(n:H b=none)(f:b∉ex):∃sl,h1.get? b=some { c with slots:=sl }:=by
 by_cases d:b∈fs
 ·exact u.slot b c q n d f
 ·exact⟨c.slots,u.keep b c q n d f⟩
theorem Un.kept (k:∀b u,h.get? b=some u->h'.get? b=some u):Un fs ex H H h h':=
 ⟨λb c q _ _ _=>k b c q,λb c q _ _ _=>⟨c.slots,k b c q⟩,λ_ _ _ n _=>n,λb c q _=>⟨c,k b c q⟩,λ_ _ q=>q,λ_ _ _ q=>q,λ_ d q=>⟨#[],by rw[q];simp⟩⟩
theorem Un.refl:Un fs ex H H h h:=Un.kept λ_ _ q=>q
theorem Un.laid (k:∀b u,h.get? b=some u->h'.get? b=some u)(f:h.objs.size<=a)(c:H a=none):Un fs ex H (upd H a o) h h' where
 keep:=λb u q _ _ _=>k b u q
 slot:=λb u q _ _ _=>⟨u.slots,k b u q⟩
 free:=λb u q n _=>by rw[ak (abV (abW (abE q) f))];exact n
 there:=λb u q _=>⟨u,k b u q⟩
 jo:=λb d q=>by rw[ak (aw q c)];exact q
 ia:=λb u d q=>by rw[ak (aw q c)];exact q
 j4:=λb g q=>⟨#[],by rw[ak (aw q c),q];simp⟩
theorem Un.write (mu:sx (H x))(l:e=x\/H e=some (.own x))(k:∀b u,b≠e->h.get? b=some u->h'.get? b=some u)(g:∃u,h'.get? e=some u):Un fs ex H (upd H x o) h h':=by
 have i:∀b,H b=none->b≠x:=λb n z=>by subst z;rw[n]at mu;exact mu
 have d:∀b,H b=none->b≠e:=λb n z=>by
  grind
 have c:∀b u,H b=some u->¬sx (some u)->b≠x:=λb u q nm z=>by grind
 refine⟨λb u q n _ _=>k b u (d b n) q,λb u q n _ _=>⟨u.slots,k b u (d b n) q⟩,λb u q n _=>by rw[ak (i b n)];exact n,λb u q _=>?_,
  λb f q=>by rw[ak (c b _ q λz=>z)];exact q,λb u f q=>by rw[ak (c b _ q λz=>z)];exact q,λb j q=>⟨#[],by rw[ak (c b _ q λz=>z),q];simp⟩⟩
 grind
end
def Hv (h:Heap)(H:Hp):List Addr:=(List.range h.objs.size).filter λa=>(H a).isSome
def oB (h:Heap)(H:Hp):Heap:=PySem.W.hideAll h (Hv h H)
theorem CF (h:Heap)(H:Hp):(oB h H).objs.size=h.objs.size:=PySem.W.hideAll_size _ _
theorem Ft {H:Hp}{o:Obj}(e:h.get? b=some o)(n:H b=none):(oB h H).get? b=some o:=
 aef _ e λa=>by
  have q:(H b).isSome=true:=(ac7.mp a).2
  grind
theorem JK {H:Hp}{o:Obj}(e:(oB h H).get? b=some o):h.get? b=some o/\H b=none:=by
 have a:h.get? b=some o:=PySem.W.of_hideAll (Hv h H) e;refine⟨a,?_⟩
 cases q:H b with
 |none=>rfl
 |some x=>
  have c:b∈Hv h H:=ac7.mpr ⟨aca.mpr (abE a),by simp[q]⟩;have z:(oB h H).get? b=none:=PySem.W.hideAll_none (Hv h H) c
  grind
def JL (g h:Heap)(L:Addr):List (Addr×Obj):=(List.range h.objs.size).filterMap λa=>if a=L\/(g.get? a).isSome=true then none else (h.get? a).map λo=>(a,o)
def rest (g h:Heap)(L d:Addr):List (Addr×Obj):=(JL g h L).filter λp=>decide (p.1≠d)
end L2
variable {H I J:L2.Hp}{q:L2.V}{L:List L2.V}
namespace L2
open PySem PySem.Spec PyProof.Rows
structure Mod (K:Za1) (mg:Str->Option Value) (base:Heap):Prop where
 uc:K.In base
 glob:base.Ns mainGlobals mg
 blt:∃mb,base.Ns builtinsNs mb/\∀x:Str,x≠"__name__"->mb x=bootBuiltins x
 nolimit:base.NoLimit
structure Cx where
 prog:Program
 w:World
 K:Za1
 mg:Str->Option Value
 base:Heap
 A:Around
 N:List Str
 dP:Shared
 tj:Hp
 env:Env
 outer:List Env
 stack:List Env
 ex:List Addr
 fn:Str->Bool
 calm:Bool
 pn:List (Addr×Obj)
 xe:Value->Shared->Prop
def cH (l:List Env):List Addr:=l.filterMap (·.frame)
abbrev Cx.fs (X:Cx):List Addr:=cH X.outer
def Lh (sc:Scope)(x:Str):Prop:=sc.names.lookup x=some .local\/sc.names.lookup x=some .cell\/sc.names.lookup x=some .free
def Loc (sc:Scope)(x:Str):Prop:=sc.names.lookup x=some .local\/sc.names.lookup x=some .cell
def Look (env:Env)(h:Heap)(m:Str->Option Value)(x:Str)(u:Value):Prop:=
 (env.kindOf x=some .local/\m x=some u)\/((env.kindOf x=some .cell\/env.kindOf x=some .free)/\∃c,env.cells.lookup x=some c/\h.IsCell c (some u))
structure Cx.Ok (X:Cx):Prop where
 mod:Mod X.K X.mg X.base
 kind:X.env.scope.kind=.function
 glob:X.env.globals=mainGlobals
 blt:X.env.builtins=builtinsNs
 above:X.dP.heap.objs.size<=X.env.locals
 inj:∀x y c,X.env.cells.lookup x=some c->X.env.cells.lookup y=some c->x=y
 has:∀x,(X.env.kindOf x=some .cell\/X.env.kindOf x=some .free)->∃c,X.env.cells.lookup x=some c
 x6:∀x c,X.fn x=true->X.env.cells.lookup x=some c->X.dP.heap.objs.size<=c
 hd:X.calm=true->X.A.handled=none
 frames:X.A.frames=some X.stack
 Ag:X.stack=X.outer\/(X.stack=X.env::X.outer/\X.env.frame=some X.env.locals)
 Hw:∀b∈X.ex,b≠X.env.locals/\∀x c,X.env.cells.lookup x=some c->c≠b
 bs:∀b o,X.base.get? b=some o->X.dP.heap.get? b=some o/\X.tj b=none
 sC:X.base.objs.size<=X.dP.heap.objs.size
 tm:∀b o,X.base.get? b=some o->b∉X.ex
 vC:∀b∈X.ex,b∉X.fs
 iY:X.dP.heap.FunFrames X.base X.outer
 ud:∀b∈X.fs,X.tj b=none
structure Inv (X:Cx) (pins:List (Addr×Obj)) (σ:List (Option V)) (H:Hp) (s:Shared):Prop where
 ok:X.Ok
 os:s.os=X.dP.os
 bare:AllBare s.gens
 base:Un X.fs X.ex X.tj H X.dP.heap s.heap
 loc:∃m,s.heap.Ns X.env.locals m/\∀(i:Nat) (x:Str) (v:V),X.N[i]?=some x->σ[i]?=some (some v)->Lh X.env.scope x->∃u,RelV v u/\Look X.env s.heap m x u
 cell:∀x c,X.env.cells.lookup x=some c->∃v,s.heap.IsCell c v
 free:H X.env.locals=none
 fW:∀x c,X.env.cells.lookup x=some c->H c=none
 pin:∀p∈X.pn++pins,s.heap.get? p.1=some p.2/\H p.1=none/\p.1≠X.env.locals/\p.1∉X.fs/\∀v,p.2.data≠.cell v
 aO:dg X.prog X.w H s.heap
 len:σ.length=X.N.length
section
variable {X:Cx}{pins:List (Addr×Obj)}{σ:List (Option V)}{H H':Hp}{s:Shared}{h':Heap}
theorem Cx.Ok.Uo (ok:X.Ok){b:Addr}{o:Obj}(e:X.base.get? b=some o):b∉X.fs:=λa=>by
 have:=(ok.iY.mem a).1
 grind
theorem Inv.bs (I:Inv X pins σ H s):∀b o,X.base.get? b=some o->s.heap.get? b=some o/\H b=none:=λb o e=>
 ⟨I.base.keep b o (I.ok.bs b o e).1 (I.ok.bs b o e).2 (I.ok.Uo e) (I.ok.tm b o e),I.base.free b o (I.ok.bs b o e).1 (I.ok.bs b o e).2 (I.ok.tm b o e)⟩
theorem Inv.bk (I:Inv X pins σ H s):∀b o,X.base.get? b=some o->s.heap.get? b=some o:=λb o e=>(I.bs b o e).1
theorem Inv.mod (I:Inv X pins σ H s):Mod X.K X.mg X.base:=I.ok.mod
theorem Inv.da (I:Inv X pins σ H s):X.K.In s.heap:=I.ok.mod.uc.keeps I.bk
theorem Inv.lt (I:Inv X pins σ H s):X.env.locals<s.heap.objs.size:=let ⟨_,a,_⟩:=I.loc;a.lt
theorem Inv.sz (I:Inv X pins σ H s):X.dP.heap.objs.size<=s.heap.objs.size:=abB I.ok.above (aeK I.lt)
theorem Inv.Li (I:Inv X pins σ H s){a:Addr}(h:s.heap.objs.size<=a):a∉X.fs:=λb=>by
 obtain⟨_,o,c,_⟩:=I.ok.iY.mem b;exact absurd (abW (abE c) (abB I.sz h)) (acK _)
theorem Inv.p6 (I:Inv X pins σ H s):∀x c,X.env.cells.lookup x=some c->c≠X.env.locals:=λx c e z=>by
 obtain⟨v,o,g,hd⟩:=I.cell x c e;obtain⟨m,⟨f,d,h,a,b,_⟩,_⟩:=I.loc
 grind
theorem Inv.iY (I:Inv X pins σ H s):s.heap.FunFrames X.base X.outer:=by
 have all:∀(l:List Env),(∀b∈cH l,b∈X.fs)->X.dP.heap.FunFrames X.base l->s.heap.FunFrames X.base l:=by
  intro l
  induction l with
  |nil=>intro _ _;trivial
  |cons env r j=>
   intro d h;obtain⟨k,⟨L,o,f,i,g,hd⟩,m⟩:=h;have c:L∈X.fs:=d L (by unfold cH;grind);obtain⟨sl,e⟩:=I.base.slot L o g (I.ok.ud L c) c λz=>I.ok.vC L z c
   exact⟨k,⟨L,_,f,i,e,hd⟩,j (λb a=>d b (by unfold cH;rw[List.filterMap_cons,f];exact abR _ a)) m⟩
 exact all X.outer (λ_ a=>a) I.ok.iY
theorem Inv.stack (I:Inv X pins σ H s):s.heap.FunFrames X.base X.stack:=by
 rcases I.ok.Ag with e|⟨e,b⟩
 ·rw[e];exact I.iY
 ·rw[e];obtain⟨m,a,_⟩:=I.loc;refine .cons (by rw[I.ok.kind];decide) b a ?_ I.iY;exact Heap.get?_none_of_le (abB I.ok.sC I.ok.above)
theorem Inv.x8 (I:Inv X pins σ H s):∀b∈cH X.stack,b∈X.env.locals::X.fs:=λb a=>by
 rcases I.ok.Ag with e|⟨e,c⟩
 ·grind
 ·rw[e]at a;unfold cH at a;rw[List.filterMap_cons,c]at a;exact a
theorem Inv.rD (I:Inv X pins σ H s):∀b∈cH X.stack,H b=none:=λb a=>by
 rcases abD.mp (I.x8 b a) with e|a
 ·rw[e];exact I.free
 ·obtain⟨_,o,c,_⟩:=I.ok.iY.mem a;exact I.base.free b o c (I.ok.ud b a) λz=>I.ok.vC b z a
theorem Inv.step {g':Array GenState}{d':Drawn}{ch:List Addr}(I:Inv X pins σ H s)
 (h:∀b∈ch,(b∈X.ex\/X.dP.heap.objs.size<=b)/\b≠X.env.locals/\(∀x c,X.env.cells.lookup x=some c->c≠b)/\∀p∈X.pn++pins,p.1≠b)
 (keep:∀b o,b≠X.env.locals->b∉X.fs->b∉ch->s.heap.get? b=some o->H b=none->h'.get? b=some o)
 (slot:∀b o,b≠X.env.locals->b∈X.fs->b∉ch->s.heap.get? b=some o->H b=none->∃sl,h'.get? b=some { o with slots:=sl }) (free:∀b o,b∉ch->s.heap.get? b=some o->H b=none->H' b=none)
 (there:∀b o,b∉ch->s.heap.get? b=some o->∃C,h'.get? b=some C)
 (jo:∀b t,H b=some (.tup t)->H' b=some (.tup t)) (ia:∀b o u,H b=some (.cQ o u)->H' b=some (.cQ o u)) (j4:∀b D,H b=some (.lQ D)->∃more,H' b=some (.lQ (D++more)))
 (ns:∀m,s.heap.Ns X.env.locals m->h'.Ns X.env.locals m) (aO:dg X.prog X.w H' h') (O:AllBare g'):
 Inv X pins σ H' { s with heap:=h',gens:=g',drawn:=d',toks:=n }:=by
 have B:∀b o,X.dP.heap.get? b=some o->b≠X.env.locals:=λb o e=>abV (abW (abE e) I.ok.above)
 have j:∀b o,X.dP.heap.get? b=some o->b∉X.ex->b∉ch:=λb o e f y=>by
  rcases (h b y).1 with z|z
  ·exact f z
  ·exact absurd (abW (abE e) z) (acK _)
 have cellK:∀x c,X.env.cells.lookup x=some c->∀v,s.heap.IsCell c v->h'.IsCell c v:=λx c e v ⟨o,A,hd⟩=>by
  have g:c∉ch:=λz=>(h c z).2.2.1 x c e rfl
  by_cases hc:c∈X.fs
  ·obtain⟨sl,q⟩:=slot c o (I.p6 x c e) hc g A (I.fW x c e);exact⟨_,q,hd⟩
  ·exact⟨o,keep c o (I.p6 x c e) hc g A (I.fW x c e),hd⟩
 refine⟨I.ok,I.os,O,⟨λb o e a y f=>?_,λb o e a y f=>?_,λb o e a f=>?_,λb o e f=>?_,λb t e=>jo b t (I.base.jo b t e),λb o t e=>ia b o t (I.base.ia b o t e),λb D e=>?_⟩,?_,λx c e=>?_,?_,λx c e=>?_,λp G=>?_,aO,I.len⟩
 ·exact keep b o (B b o e) y (j b o e f) (I.base.keep b o e a y f) (I.base.free b o e a f)
 ·obtain⟨sl,w⟩:=I.base.slot b o e a y f;obtain⟨F,E⟩:=slot b _ (B b o e) y (j b o e f) w (I.base.free b o e a f);exact⟨F,E⟩
 ·obtain⟨C,w⟩:=I.base.there b o e f;exact free b C (j b o e f) w (I.base.free b o e a f)
 ·obtain⟨C,w⟩:=I.base.there b o e f;exact there b C (j b o e f) w
 ·obtain⟨P,w⟩:=I.base.j4 b D e
  grind
 ·obtain⟨m,L,N⟩:=I.loc;refine⟨m,ns m L,λi x v w E M=>?_⟩;obtain⟨u,r,l⟩:=N i x v w E M;refine⟨u,r,?_⟩;rcases l with l|⟨k,c,e,z⟩
  ·exact .inl l
  ·exact .inr ⟨k,c,e,cellK x c e _ z⟩
 ·obtain⟨v,z⟩:=I.cell x c e;exact⟨v,cellK x c e v z⟩
 ·obtain⟨m,⟨o,_,_,A,_⟩,_⟩:=I.loc;exact free _ o (λz=>(h _ z).2.1 rfl) A I.free
 ·obtain⟨v,o,A,hd⟩:=I.cell x c e;exact free c o (λz=>(h c z).2.2.1 x c e rfl) A (I.fW x c e)
 ·obtain⟨e,a,ne,J,d⟩:=I.pin p G;have g:p.1∉ch:=λz=>(h p.1 z).2.2.2 p G rfl
  exact⟨keep p.1 p.2 ne J g e a,free p.1 p.2 g e a,ne,J,d⟩
theorem Inv.un {t':Nat}(I:Inv X pins σ H s)(u:Un X.fs [] H H' s.heap h')(aO:dg X.prog X.w H' h'):Inv X pins σ H' { s with heap:=h',toks:=t' }:=by
 obtain⟨m,⟨o,l,k,g,r⟩,_⟩:=id I.loc;obtain⟨sl,i⟩:=u.any g I.free (by simp)
 exact I.step (g':=s.gens) (d':=s.drawn) (ch:=[]) (λ_ z=>nomatch z) (λb o _ d _ e n=>u.keep b o e n d (by simp)) (λb o _ d _ e n=>u.slot b o e n d (by simp)) (λb o _ e n=>u.free b o e n (by simp)) (λb o _ e=>u.there b o e (by simp)) u.jo u.ia u.j4 (λv h=>by
  obtain⟨t,f,c,a,j⟩:=h;rw[g]at a;cases a;exact⟨_,f,c,i,j⟩) aO I.bare
theorem Inv.call {g':Array GenState}{t':Nat}{d':Drawn}{ch:List Addr}(I:Inv X pins σ H s)(u:Un (cH X.stack) ch H H' s.heap h')(aO:dg X.prog X.w H' h')(q:AllBare g')
 (d:∀b∈ch,(b∈X.ex\/X.dP.heap.objs.size<=b)/\b≠X.env.locals/\(∀x c,X.env.cells.lookup x=some c->c≠b)/\∀p∈X.pn++pins,p.1≠b):
 Inv X pins σ H' { s with heap:=h',gens:=g',drawn:=d',toks:=t' }:=by
 obtain⟨m,⟨o,v,t,i,r⟩,_⟩:=id I.loc;obtain⟨sl,f⟩:=u.any i I.free λz=>(d _ z).2.1 rfl
 exact I.step (ch:=ch) d (λb o f l hc e n=>u.keep b o e n (λz=>(abD.mp (I.x8 b z)).elim f l) hc) (λb o _ _ hc e n=>u.any e n hc) (λb o hc e n=>u.free b o e n hc) (λb o hc e=>u.there b o e hc) u.jo u.ia u.j4 (λy j=>by
  obtain⟨w,h,g,a,k⟩:=j;rw[i]at a;cases a;exact⟨_,h,g,f,k⟩) aO q
theorem Inv.turned {t':Nat}{it:Addr}(I:Inv X pins σ H s)(k:∀b o,b≠it->s.heap.get? b=some o->h'.get? b=some o)(y:H it=none)(a:it≠X.env.locals)
 (w:it∈X.ex\/X.dP.heap.objs.size<=it) (l:∀x c,X.env.cells.lookup x=some c->c≠it) (t:∀p∈X.pn++pins,p.1≠it):Inv X pins σ H { s with heap:=h',toks:=t' }:=by
 have j:∀b u,H b=some u->b≠it:=λb u e z=>by grind
 refine I.step (g':=s.gens) (d':=s.drawn) (ch:=[it]) (λb i=>?_) (λb o _ _ hc e _=>k b o (λz=>hc (by simp[z])) e) (λb o _ _ hc e _=>⟨o.slots,k b o (λz=>hc (by simp[z])) e⟩) (λ_ _ _ _ n=>n)
  (λb o hc e=>⟨o,k b o (λz=>hc (by simp[z])) e⟩) (λ_ _ e=>e) (λ_ _ _ e=>e) (λb C e=>⟨#[],by rw[e];simp⟩) (λm d=>?_) (λb u e=>?_) I.bare
 ·have e:b=it:=by simpa using i
  subst e;exact⟨w,a,l,t⟩
 ·obtain⟨o,h,g,f,r⟩:=d;exact⟨o,h,g,k _ o (acU a) f,r⟩
 ·refine(I.aO b u e).fV (λc v hc q=>k c v ?_ q) (λ_ q=>q) λ_ _ q=>q
  grind
theorem Inv.tok (I:Inv X pins σ H s)(t:Nat):Inv X pins σ H { s with toks:=t }:=I.un (h':=s.heap) (t':=t) Un.refl I.aO
theorem Inv.kept {t':Nat}(I:Inv X pins σ H s)(k:∀b u,s.heap.get? b=some u->h'.get? b=some u):Inv X pins σ H { s with heap:=h',toks:=t' }:=I.un (Un.kept k) (I.aO.kept k)
theorem Inv.laid {o:HO}{t':Nat}(I:Inv X pins σ H s)(k:∀b u,s.heap.get? b=some u->h'.get? b=some u)(c:s.heap.objs.size<=a)(new:bU X.prog X.w (upd H a o) h' a o):
 Inv X pins σ (upd H a o) { s with heap:=h',toks:=t' }:=I.un (Un.laid k c (I.aO.fresh c)) (I.aO.laid k c new)
theorem Inv.write {x e:Addr}{o:HO}{t':Nat}(I:Inv X pins σ H s)(mu:sx (H x))(c:e=x\/H e=some (.own x))(k:∀b u,b≠e->s.heap.get? b=some u->h'.get? b=some u)(a:∃u,h'.get? e=some u)
 (new:bU X.prog X.w (upd H x o) h' x o):Inv X pins σ (upd H x o) { s with heap:=h',toks:=t' }:=I.un (Un.write mu c k a) (I.aO.write mu c k a new)
theorem Inv.mZ (I:Inv X pins σ H s)(h:∀p∈o,s.heap.get? p.1=some p.2/\H p.1=none/\p.1≠X.env.locals/\p.1∉X.fs/\∀v,p.2.data≠.cell v):Inv X o σ H s:=
 ⟨I.ok,I.os,I.bare,I.base,I.loc,I.cell,I.free,I.fW,λp a=>(abx.mp a).elim (λz=>I.pin p (abM _ z)) (h p),I.aO,I.len⟩
theorem ya (e:Z.Nodup){i j:Nat}{x:Str}(a:Z[i]?=some x)(b:Z[j]?=some x):i=j:=by
 obtain⟨f,d⟩:=abk.mp a;obtain⟨g,c⟩:=abk.mp b;exact(List.getElem_inj e).mp (d.trans c.symm)
theorem wj {M:Model}{v:V}(I:Inv X pins σ H s)(hN:X.N.Nodup)(J:X.N[i]?=some x)(l:Loc X.env.scope x)(r:RelV v u)
 (h:∀s',Inv X pins (σ.set i (some v)) H s'->(∃a,Heap.SameBut a s.heap s'.heap/\(a=X.env.locals\/X.env.cells.lookup x=some a))->U () s') (hf:X.fn x=true\/X.env.scope.names.lookup x=some .local:=by first|exact .inl rfl|exact .inr rfl|assumption):wpAny M A (storeName X.env x u) U E s:=by
 obtain⟨m,P,hl⟩:=id I.loc;have L:(X.env.scope.kind==.class || (X.env.scope.kind==.module && X.env.locals !=X.env.globals))=false:=by rw[I.ok.kind];rfl
 have B:i < σ.length:=by rw[I.len];exact(abk.mp J).1
 have p6:=I.p6
 have tracked:∀{a:Addr} {h':Heap},(∃o,s.heap.get? a=some o/\H a=none)->Heap.SameBut a s.heap h'->dg X.prog X.w H h':=λ{a h'} ha f b ob e=>by
  obtain⟨_,_,aai⟩:=ha;refine(I.aO b ob e).fV (λc w' t q=>(f.2 c ?_).trans q) (λ_ q=>q) λ_ _ q=>q
  grind
 rcases l with G|G
 ·refine wpAny_storeName_local G P (λh' O f=>?_) L;obtain⟨oL,_,_,Vx,_⟩:=id P;refine h _ ⟨I.ok,I.os,I.bare,⟨λb o e n C l=>?_,λb o e n C l=>?_,I.base.free,λb o e l=>?_,I.base.jo,I.base.ia,I.base.j4⟩,⟨_,O,λj y v' g w R=>?_⟩,λy c e=>?_,I.free,I.fW,λp Q=>?_,tracked ⟨oL,Vx,I.free⟩ f,by simpa using I.len⟩ ⟨_,f,.inl rfl⟩
  ·exact(f.2 b (abV (abW (abE e) I.ok.above))).trans (I.base.keep b o e n C l)
  ·obtain⟨Y,g⟩:=I.base.slot b o e n C l;exact⟨Y,(f.2 b (abV (abW (abE e) I.ok.above))).trans g⟩
  ·obtain⟨o',g⟩:=I.base.there b o e l;exact⟨o',(f.2 b (abV (abW (abE e) I.ok.above))).trans g⟩
  ·by_cases F:j=i
   ·subst F;rw[J]at g;cases g;rw[acm B]at w;cases w;exact⟨u,r,.inl ⟨G,by simp⟩⟩
   ·rw[acZ (acU F)]at w;obtain⟨W,Z,q⟩:=hl j y v' g w R;refine⟨W,Z,?_⟩;rcases q with ⟨k,e⟩|⟨k,c,e,z⟩
    ·refine .inl ⟨k,?_⟩;have:y≠x:=λe=>F (ya hN g (e ▸ J))
     simp[this,e]
    ·exact .inr ⟨k,c,e,z.sameBut f (p6 y c e)⟩
  ·obtain⟨w',z⟩:=I.cell y c e;exact⟨w',z.sameBut f (p6 y c e)⟩
  ·obtain⟨e,n,ne,T,d⟩:=I.pin p Q;exact⟨(f.2 p.1 ne).trans e,n,ne,T,d⟩
 ·have D:X.fn x=true:=by
   rcases hf with z|z
   ·exact z
   ·grind
  obtain⟨c,t⟩:=I.ok.has x (.inl G);obtain⟨w',z⟩:=I.cell x c t;refine wpAny_storeName_cell I.ok.kind G t z (λh' Lj f=>?_);obtain⟨oc,Vy,aas⟩:=id z;refine h { s with heap:=h' } ⟨I.ok,I.os,I.bare,⟨λb o e n C l=>?_,λb o e n C l=>?_,I.base.free,λb o e l=>?_,I.base.jo,I.base.ia,I.base.j4⟩,⟨m,P.sameBut f (acU (p6 x c t)),λj y v' g w R=>?_⟩,λy N e=>?_,I.free,I.fW,λp Q=>?_,tracked ⟨oc,Vy,I.fW x c t⟩ f,by simpa using I.len⟩ ⟨c,f,.inr t⟩
  ·exact(f.2 b (abV (abW (abE e) (I.ok.x6 x c D t)))).trans (I.base.keep b o e n C l)
  ·obtain⟨Y,g⟩:=I.base.slot b o e n C l;exact⟨Y,(f.2 b (abV (abW (abE e) (I.ok.x6 x c D t)))).trans g⟩
  ·obtain⟨o',g⟩:=I.base.there b o e l;exact⟨o',(f.2 b (abV (abW (abE e) (I.ok.x6 x c D t)))).trans g⟩
  ·by_cases F:j=i
   ·subst F;rw[J]at g;cases g;rw[acm B]at w;cases w;exact⟨u,r,.inr ⟨.inl G,c,t,Lj⟩⟩
   ·rw[acZ (acU F)]at w;obtain⟨W,Z,q⟩:=hl j y v' g w R;refine⟨W,Z,?_⟩;rcases q with q|⟨k,N,e,z'⟩
    ·exact .inl q
    ·refine .inr ⟨k,N,e,z'.sameBut f ?_⟩;rintro rfl;exact F (ya hN g (I.ok.inj _ _ _ e t ▸ J))
  ·by_cases S:N=c
   ·grind
   ·obtain⟨w2,z2⟩:=I.cell y N e;exact⟨w2,z2.sameBut f S⟩
  ·obtain⟨e,n,ne,T,d⟩:=I.pin p Q;refine⟨(f.2 p.1 ?_).trans e,n,ne,T,d⟩
   grind
theorem tq {M:Model}(I:Inv X pins σ H s)(c:X.N.Nodup)(b:X.N[i]?=some x)(f:Loc X.env.scope x)(r:RelV q u)
 (h:∀a,Inv X pins (σ.set i (some q)) H a->U () a) (e:X.fn x=true\/X.env.scope.names.lookup x=some .local:=by first|exact .inl rfl|exact .inr rfl|assumption):wpAny M A (storeName X.env x u) U E s:=
 wj I c b f r (λa d _=>h a d) e
theorem Inv.Hx {s':Shared}{ch:List Addr}(I:Inv X pins σ H s)(j:s'.os=s.os)(u:Un (cH X.stack) ch H H' s.heap s'.heap)(aO:dg X.prog X.w H' s'.heap)(h:AllBare s'.gens)
 (a:∀b∈ch,(b∈X.ex\/X.dP.heap.objs.size<=b)/\b≠X.env.locals/\(∀x c,X.env.cells.lookup x=some c->c≠b)/\∀p∈X.pn++pins,p.1≠b):Inv X pins σ H' s':=by
 obtain⟨h',f,g,d,i⟩:=s';have e:i=s.os:=j;subst e;exact I.call (g':=f) (t':=d) (d':=g) u aO h a
end
abbrev XK:=Value->Option Addr->Hp->Prop
abbrev St:=List (Option V)
abbrev VK:=V->Hp->Prop
abbrev TE:=St->Hp->VK->Prop
abbrev TT:=St->Hp->(Bool->Hp->Prop)->Prop
abbrev TA:=St->Hp->(List V->Hp->Prop)->Prop
structure Ends where
 nx:St->Hp->Prop
 rt:VK
 bk:St->Hp->Prop:=λ_ _=>False
 ct:St->Hp->Prop:=λ_ _=>False
abbrev TS:=Ends->St->Hp->Prop
def EP (X:Cx)(a:List (Addr×Obj))(c:St)(Q:VK)(u:Value)(d:Shared):Prop:=∃v b,Inv X a c b d/\RelV v u/\Q v b
def TP (X:Cx)(a:List (Addr×Obj))(d:St)(Q:Bool->Hp->Prop)(b:Bool)(e:Shared):Prop:=∃c,Inv X a d c e/\Q b c
def AP (X:Cx)(a:List (Addr×Obj))(d:St)(Q:List V->Hp->Prop)(e:List Value)(f:Shared):Prop:=∃c b,Inv X a d b f/\Vals c e/\Q c b
def SP (X:Cx)(b:List (Addr×Obj))(D:Ends)(f:Flow)(d:Shared):Prop:=
 match f with
 |.next=>∃ a c,Inv X b a c d/\D.nx a c
 |.brk=>∃ a c,Inv X b a c d/\D.bk a c
 |.cont=>∃ a c,Inv X b a c d/\D.ct a c
 |.ret u=>∃v a c,Inv X b a c d/\RelV v u/\D.rt v c
def PE (X:Cx)(e:Expr)(t:TE):Prop:=
 ∀(a:List (Addr×Obj)) (s:Shared) (b:St) (H:Hp) (Q:VK),Inv X a b H s->t b H Q->wpAny (model X.prog X.w) X.A (eval e X.env) (EP X a b Q) X.xe s
def PT (X:Cx)(e:Expr)(t:TT):Prop:=
 ∀(a:List (Addr×Obj)) (s:Shared) (b:St) (H:Hp) (Q:Bool->Hp->Prop),Inv X a b H s->t b H Q->wpAny (model X.prog X.w) X.A (isTrue e X.env (eval e X.env)) (TP X a b Q) X.xe s
def PW (X:Cx)(e:Expr)(t:TT):Prop:=
 ∀(whole:Sem Value) (a:List (Addr×Obj)) (s:Shared) (b:St) (H:Hp) (Q:Bool->Hp->Prop),Inv X a b H s->t b H Q->wpAny (model X.prog X.w) X.A (isTrue e X.env whole) (TP X a b Q) X.xe s
theorem PW.pt {X:Cx}{t:TT}(h:PW X e t):PT X e t:=h _
def PA (X:Cx)(d:List Expr)(t:TA):Prop:=
 ∀(c:Pos) (a:List (Addr×Obj)) (s:Shared) (b:St) (H:Hp) (Q:List V->Hp->Prop),Inv X a b H s->t b H Q->wpAny (model X.prog X.w) X.A (spliced (backTo c (starEach d X.env))) (AP X a b Q) X.xe s
def PS (X:Cx)(st:Stmt)(t:TS):Prop:=
 ∀(a:List (Addr×Obj)) (s:Shared) (b:St) (H:Hp) (D:Ends),Inv X a b H s->t D b H->wpAny (model X.prog X.w) X.A (exec st X.env) (SP X a D) X.xe s
def kH (X:Cx)(st:List Stmt)(t:TS):Prop:=
 ∀(a:List (Addr×Obj)) (s:Shared) (b:St) (H:Hp) (D:Ends),Inv X a b H s->t D b H->wpAny (model X.prog X.w) X.A (execs st X.env) (SP X a D) X.xe s
theorem a8 {c:Type}{t:Sem c}{Q b:c->Shared->Prop}{M:Model}(h:wpAny M A t Q E s)(d:∀a s,Q a s->b a s):wpAny M A t b E s:=acv h d λ_ _ x=>x
end L2
variable {D:L2.St}{r:L2.TE}{G:L2.Ends}{X:L2.Cx}
namespace L2
open PySem PySem.Spec PyProof.Rows
section
variable {X:Cx}
theorem bin {b:Expr}{m:TE}(z:PE X e r)(B:PE X b m){a:List (Addr×Obj)}{s:Shared}{d:St}{H:Hp}{R:V->V->Hp->Prop}(I:Inv X a d H s)(h:r d H λx k=>m d k λy c=>R x y c)
 {l:Type} {Q:l->Shared->Prop} {f:Value->Value->Sem l}
 (o:∀v u j x y c,Inv X a d c j->RelV x v->RelV y u->R x y c->wpAny (model X.prog X.w) X.A (f v u) Q X.xe j):
 wpAny (model X.prog X.w) X.A (eval e X.env) (λv g=>wpAny (model X.prog X.w) X.A (eval b X.env) (λu i=>wpAny (model X.prog X.w) X.A (f v u) Q X.xe i) X.xe g) X.xe s:=by
 refine a8 (z a s d H _ I h) λv q ⟨x,k,w,A,p⟩=>?_
 refine a8 (B a q d k _ w p) λu j ⟨y,c,t,C,n⟩=>?_
 exact o v u j x y c t A C n
inductive yb (i:Nat) (σ:St) (H:Hp) (Q:VK):Prop
 |mk (v:V):σ[i]?=some (some v)->Q v H->yb i σ H Q
def tC (v:V):TE:=λ_ H Q=>Q v H
theorem Lk (t:X.N[i]?=some x)(o:Lh X.env.scope x)(g:(x==("__debug__":Str))=false:=by decide)(f:(x==("__classdict__":Str))=false:=by decide):PE X (.Name x p) (yb i):=by
 intro d s w H Q I h;obtain⟨v,e,h⟩:=h;obtain⟨m,n,q⟩:=I.loc;obtain⟨u,r,l⟩:=q i x v t e o;have fin:EP X d w Q u s:=⟨v,H,I,r,h⟩;rcases l with ⟨b,k⟩|⟨b,c,j,a⟩
 ·exact wpAny_Name (wpAny_loadName_local I.ok.kind b n k fin) g
 ·rcases b with b|b
  ·exact wpAny_Name (wpAny_loadName_cell I.ok.kind b j a fin) g
  ·exact wpAny_Name (wpAny_loadName_free I.ok.kind b j a fin f) g
theorem ay {i j a}:PE X (.Constant (.int i) j a) (tC (.int i)):=λ_ _ _ H _ I h=>wpAny_Constant_int ⟨.int i,H,I.tok _,⟨_,rfl⟩,h⟩
theorem lS {b j a}:PE X (.Constant (.bool b) j a) (tC (.bl b)):=λ_ _ _ H _ I h=>Constant_bool ⟨.bl b,H,I,rfl,h⟩
theorem dh {j a}:PE X (.Constant .none j a) (tC .non):=λ_ _ _ H _ I h=>Constant_none ⟨.non,H,I,rfl,h⟩
theorem Ln {x j a}:PE X (.Constant (.str x) j a) (tC (.str x)):=λ_ _ _ H _ I h=>Calls.Constant_str ⟨.str x,H,I.tok _,⟨_,rfl⟩,h⟩
def Gl (X:Cx)(x:Str):Prop:=X.env.kindOf x=some .globalImplicit
theorem jq (I:Inv X o D H s)(c:Gl X x)(a:X.mg x=some u)(h:Q u s)
 (b:(x==("__debug__":Str))=false:=by decide):wpAny (model X.prog X.w) X.A (eval (.Name x p) X.env) Q E s:=
 Calls.Name_function_global I.ok.kind c (Calls.loadGlobal_global (by rw[I.ok.glob];exact I.mod.glob.keeps I.bk) a h) b
theorem gU (I:Inv X o D H s)(g:Gl X x)(a:X.mg x=none)(d:bootBuiltins x=some u)(h:Q u s)
 (c:x≠"__name__":=by decide) (b:(x==("__debug__":Str))=false:=by decide):wpAny (model X.prog X.w) X.A (eval (.Name x p) X.env) Q E s:=by
 obtain⟨i,e,f⟩:=I.mod.blt;exact Calls.Name_function_global I.ok.kind g (Calls.loadGlobal_builtin (by rw[I.ok.glob];exact I.mod.glob.keeps I.bk) a (by rw[I.ok.blt];exact e.keeps I.bk) ((f x c).trans d) h) b
theorem gy {v:V}(e:Gl X x)(a:X.mg x=none)(d:bootBuiltins x=some u)(r:RelV v u)(c:x≠"__name__":=by decide)(b:(x==("__debug__":Str))=false:=by decide):PE X (.Name x p) (tC v):=
 λ_ _ _ H _ I h=>gU I e a d ⟨v,H,I,r,h⟩ c b
variable {a b:Expr}{ta tb:TE}{pos:Pos}
def PC (X:Cx)(g:CmpOp)(a b:Expr)(t:TE):Prop:=
 ∀(c:List (Addr×Obj)) (s:Shared) (f:St) (H:Hp) (Q:VK),Inv X c f H s->t f H Q->
  wpAny (model X.prog X.w) X.A (eval a X.env) (λv d=>wpAny (model X.prog X.w) X.A (eval b X.env) (λu e=>wpAny (model X.prog X.w) X.A (compareOp g v u) (EP X c f Q) X.xe e) X.xe d) X.xe s
theorem Fu (b:Expr){c:CmpOp}(h:c≠.In)(f:c≠.NotIn):behindInMarks c b=false:=by
 have e:(c==CmpOp.In)=false:=by grind
 have d:(c==CmpOp.NotIn)=false:=by grind
 cases b <;> simp[behindInMarks,e,d]
def tB (t:TE):TT:=λ d H Q=>t d H λx e=>∃c,x=.bl c/\Q c e
theorem CH {f:CmpOp}(h:PC X f a b r)(g:behindInMarks f b=false:=by first|exact Fu _ (by decide) (by decide)|rfl):PT X (.Compare a [f] [b] pos) (tB r):=by
 intro e s o H Q I m;refine wpAny_isTrue_Compare1 (a8 (h e s o H _ I m) λv p g=>a8 g λu t n=>a8 n λc w ⟨x,l,j,k,i⟩=>?_) g;obtain⟨d,rfl,q⟩:=i;cases k;exact adG ⟨l,j,q⟩
theorem iZ (h:PE X e r)(m:∀whole,isTrue e X.env whole=(do let v <-whole;standAt e.pos;holding [v] (truthy v)):=by intro _;rfl):PT X e (tB r):=by
 intro c s l H Q I k;refine isTrue_plain (a8 (h c s l H _ I k) λv n ⟨x,j,g,i,f⟩=>?_) (m _);obtain⟨d,rfl,q⟩:=f;cases i;exact adG ⟨j,g,q⟩
variable {tA Rl:TT}{rest:List Expr}
def Vz (t u:TT):TT:=λ d H Q=>t d H λc e=>if c=true then Q true e else u d e Q
def Uq (t:TT):TT:=λ d H Q=>t d H λc e=>Q (!c) e
theorem Lp (g:PT X a tA):PW X (.BoolOp .Or [a] pos) tA:=by
 intro j d s f H Q I h;refine isTrue_or (a8 (g d s f H Q I h) λc i e=>?_)
 cases c with
 |false=>exact isTrue_or_nil e
 |true=>exact e
theorem Hy (m:PT X a tA)(j:PW X (.BoolOp .Or (b::rest) pos) Rl):PW X (.BoolOp .Or (a::b::rest) pos) (Vz tA Rl):=by
 intro l d s f H Q I h;refine isTrue_or (a8 (m d s f H _ I h) λc k ⟨g,e,i⟩=>?_)
 cases c with
 |true=>exact⟨g,e,i⟩
 |false=>exact j l d k f g Q e i
theorem yc (g:PT X a tA):PT X (.UnaryOp .Not a pos) (Uq tA):=by
 intro d s e H Q I h;exact isTrue_not (g d s e H (λc f=>Q (!c) f) I h)
def P9 (ta tb:TE):TE:=λ d H Q=>ta d H λx e=>∃c,x=.bl c/\if c=true then tb d e Q else Q (.bl false) e
def Qa (ta:TE):TE:=λ d H Q=>ta d H λx e=>∃c,x=.bl c/\Q (.bl (!c)) e
theorem Lq {d}(h:PE X a r):PE X (.BoolOp d [a] pos) r:=λc s e H Q I f=>BoolOp_one (h c s e H Q I f)
theorem Ls (m:PE X a ta)(j:PE X (.BoolOp .And (b::rest) pos) tb):PE X (.BoolOp .And (a::b::rest) pos) (P9 ta tb):=by
 intro d s g H Q I h;refine BoolOp_and (a8 (m d s g H _ I h) λv k ⟨x,i,f,l,e⟩=>?_);obtain⟨c,rfl,e⟩:=e;cases l;refine adG ?_
 cases c with
 |true=>exact j d k g i Q f e
 |false=>exact⟨.bl false,i,f,rfl,e⟩
theorem Lv (k:PE X a ta):PE X (.UnaryOp .Not a pos) (Qa ta):=by
 intro d s g H Q I h;refine UnaryOp_ (a8 (k d s g H _ I h) λv l ⟨x,j,f,i,e⟩=>?_);obtain⟨c,rfl,e⟩:=e;cases i;exact not_of (adG ⟨.bl (!c),j,f,rfl,e⟩)
end
def aD (K:Za1)(H:Hp)(a:Addr)(c:List V):Prop:=
 Rd H a (.lst c)\/
  ∃(o:Obj) (b:Array Value) (n:Nat),K.lookup a=some o/\o.cls=.type "list"/\o.dict=none/\o.data=.seq b n/\b.size<=sizeLine/\Vals c b.toList
def bQ (K:Za1)(H:Hp)(a:Addr)(c:List V):Prop:=
 Rd H a (.tup c)\/
  ∃(o:Obj) (b:Array Value) (n:Nat),K.lookup a=some o/\o.cls=.type "tuple"/\o.data=.seq b n/\b.size<=sizeLine/\Vals c b.toList
def Ur:Value->Option V
 |.none=>some .non
 |.bool b=>some (.bl b)
 |.int i _=>some (.int i)
 |.str x _=>some (.str x)
 |.bytes b _=>some (.lP b)
 |.float b _=>some (.xZ b)
 |.ref a=>some (.ref a)
 |.type n=>some (.ty n)
 |_=>none
theorem RelV.abs {x:V}(r:RelV x u):Ur u=some x:=by
 cases x with
 |non=>cases r;rfl
 |bl _=>cases r;rfl
 |int _=>obtain⟨t,rfl⟩:=r;rfl
 |str _=>obtain⟨t,rfl⟩:=r;rfl
 |lP _=>obtain⟨t,rfl⟩:=r;rfl
 |xZ _=>obtain⟨t,rfl⟩:=r;rfl
 |ref _=>cases r;rfl
 |ty _=>cases r;rfl
theorem RelV.inj {x:V}(r:RelV x u)(a:RelV q u):x=q:=Za0 (r.abs.symm.trans a.abs)
theorem Vals.inj:∀{a ys:List V} {b:List Value},Vals a b->Vals ys b->a=ys
 |_,_,_,.nil,.nil=>rfl
 |_,_,_,.cons r t,.cons d c=>by rw[r.inj d,Vals.inj t c]
section
variable {X:Cx}{pins:List (Addr×Obj)}{σ:St}{H:Hp}{s:Shared}{a:Addr}{xs ys:List V}
theorem aD.of (h:H a=some (.lst xs)):aD K H a xs:=.inl (.inl h)
theorem bQ.of (h:H a=some (.tup xs)):bQ K H a xs:=.inl (.inl h)
theorem Inv.list (I:Inv X pins σ H s)(h:aD X.K H a xs):∃b:List Value,Vals xs b/\PlainL s.heap a b.toArray/\xs.length<=sizeLine:=by
 rcases h with h|⟨o,b,n,c,hc,hd,d,hz,r⟩
 ·obtain⟨z,b,n,r,e⟩:=h.ok I.aO;exact⟨b,r,⟨_,n,e,rfl,rfl,rfl⟩,z⟩
 ·refine⟨b.toList,r,⟨o,n,I.da a o c,hc,hd,by omega⟩,?_⟩;have e:=r.length;simp only[ac4]at e;omega
theorem Inv.tuple (I:Inv X pins σ H s)(h:bQ X.K H a xs):∃b:List Value,Vals xs b/\IsTup s.heap a b.toArray/\xs.length<=sizeLine:=by
 rcases h with h|⟨o,b,n,c,hc,d,hz,r⟩
 ·obtain⟨z,b,r,p⟩:=h.ok I.aO;exact⟨b,r,p,z⟩
 ·refine⟨b.toList,r,⟨o,I.da a o c,hc,n,by omega⟩,?_⟩;have e:=r.length;simp only[ac4]at e;omega
theorem Inv.kI (I:Inv X pins σ H s)(h:aD X.K H a xs)(i:aD X.K H a ys):xs=ys:=by
 obtain⟨c,r,⟨o,n,e,_,_,d⟩,_⟩:=I.list h;obtain⟨b,j,⟨k,l,g,_,_,f⟩,_⟩:=I.list i;rw[e]at g;cases g;rw[d]at f;injection f with d1 _
 have:c=b:=by simpa using ade Array.toList d1
 subst this;exact r.inj j
theorem Inv.CJ (I:Inv X pins σ H s)(h:bQ X.K H a xs)(i:bQ X.K H a ys):xs=ys:=by
 obtain⟨c,r,⟨o,e,_,n,d⟩,_⟩:=I.tuple h;obtain⟨b,j,⟨k,g,_,l,f⟩,_⟩:=I.tuple i;rw[e]at g;cases g;rw[d]at f;injection f with d1 _
 have:c=b:=by simpa using ade Array.toList d1
 subst this;exact r.inj j
end
abbrev Cx.wish (X:Cx) (E:Value->Shared->Prop):Cx:={ X with xe:=E }
abbrev Cx.CK (X:Cx):Cx:=X.wish λ_ _=>False
theorem Cx.Ok.wish (ok:X.Ok)(E:Value->Shared->Prop):(X.wish E).Ok:=
 ⟨ok.mod,ok.kind,ok.glob,ok.blt,ok.above,ok.inj,ok.has,ok.x6,ok.hd,ok.frames,ok.Ag,ok.Hw,ok.bs,ok.sC,ok.tm,ok.vC,ok.iY,ok.ud⟩
theorem Cx.Ok.i3 (ok:(X.wish E).Ok):X.Ok:=
 ⟨ok.mod,ok.kind,ok.glob,ok.blt,ok.above,ok.inj,ok.has,ok.x6,ok.hd,ok.frames,ok.Ag,ok.Hw,ok.bs,ok.sC,ok.tm,ok.vC,ok.iY,ok.ud⟩
section
variable {X:Cx}{pins:List (Addr×Obj)}{σ:St}{H:Hp}{s:Shared}{E:Value->Shared->Prop}
theorem Inv.wish (I:Inv X pins σ H s)(E:Value->Shared->Prop):Inv (X.wish E) pins σ H s:=⟨I.ok.wish E,I.os,I.bare,I.base,I.loc,I.cell,I.free,I.fW,I.pin,I.aO,I.len⟩
theorem Inv.i3 (I:Inv (X.wish E) pins σ H s):Inv X pins σ H s:=⟨I.ok.i3,I.os,I.bare,I.base,I.loc,I.cell,I.free,I.fW,I.pin,I.aO,I.len⟩
theorem SP.i3 {f:Flow}(h:SP (X.wish E) pins G f t):SP X pins G f t:=by
 cases f with
 |next=>obtain⟨a,b,I,q⟩:=h;exact⟨a,b,I.i3,q⟩
 |brk=>obtain⟨a,b,I,q⟩:=h;exact⟨a,b,I.i3,q⟩
 |cont=>obtain⟨a,b,I,q⟩:=h;exact⟨a,b,I.i3,q⟩
 |ret u=>obtain⟨v,a,b,I,r,q⟩:=h;exact⟨v,a,b,I.i3,r,q⟩
theorem kH.CK {st:List Stmt}{t:TS}(h:kH X.CK st t):kH X st t:=λpins s σ H D I a=>
 acv (h pins s σ H D (I.wish _) a) (λ_ _ q=>q.i3) λ_ _ z=>False.elim z
end
section
variable {X:Cx}{st:Stmt}{rest:List Stmt}{t u:TS}{e:Expr}{te:TE}{pos:Pos}
def Qb:TS:=λD a H=>D.nx a H
def aP (t u:TS):TS:=λD a H=>t { D with nx:=u D } a H
theorem bq:kH X [] Qb:=λ_ _ a H _ I h=>adV ⟨a,H,I,h⟩
theorem ah (i:PS X st t)(j:kH X rest u):kH X (st::rest) (aP t u):=by
 intro a s d H D I h;refine wpAny_execs_cons (a8 (i a s d H { D with nx:=u D } I h) λf c q=>?_)
 cases f with
 |next=>
  obtain⟨b,k,g,q⟩:=q;exact j a c b k D g q
 |ret v=>exact q
 |brk=>exact q
 |cont=>exact q
theorem au (c:PS X st t):kH X [st] t:=by
 intro a s b H D I h;refine wpAny_execs_cons (a8 (c a s b H D I h) λf d q=>?_)
 cases f with
 |next=>exact adV q
 |ret v=>exact q
 |brk=>exact q
 |cont=>exact q
def Lx:TS:=λD a H=>D.bk a H
theorem tu:PS X (.Break pos) Lx:=λ_ _ a H _ I h=>wpAny_Break ⟨a,H,I,h⟩
theorem Inv.quiet (I:Inv X o D H s):interactive X.env=false:=by simp[interactive,I.ok.kind]
def Qc (te:TE):TS:=λD a H=>te a H λ_ b=>D.nx a b
theorem aV (f:PE X e te)(c:swapsWith e none pos.line X.env=pure false:=by rfl):PS X (.Expr e pos) (Qc te):=by
 intro a s b H D I h;exact wpAny_Expr_any (a8 (f a s b H _ I h) λv j ⟨x,g,d,k,i⟩=>⟨b,g,d,i⟩) I.quiet c
def Ut (te:TE):TS:=λD a H=>te a H D.rt
theorem bf (f:PE X e te):PS X (.Return (some e) pos) (Ut te):=by
 intro a s b H D I h;exact wpAny_Return_some (a8 (f a s b H _ I h) λv j ⟨x,g,c,d,i⟩=>⟨x,b,g,c,d,i⟩)
def Qd:TS:=λD _ H=>D.rt .non H
theorem vD:PS X (.Return none pos) Qd:=λ_ _ a H _ I h=>wpAny_Return_none ⟨.non,a,H,I,rfl,h⟩
def Uu (c:TT)(t u:TS):TS:=λD a H=>c a H λb d=>if b=true then t D a d else u D a d
theorem bO {c:Expr}{a b:List Stmt}{m:TT}(n:PT X c m)(p:kH X a t)(o:kH X b u):PS X (.If c a b pos) (Uu m t u):=by
 intro f s g H D I h;refine wpAny_If (a8 (n f s g H _ I h) λd j ⟨l,k,i⟩=>?_)
 cases d with
 |true=>exact p f j g l D k i
 |false=>exact o f j g l D k i
def Ly:TS:=λ_ _ _=>False
theorem ib:PS X st Ly:=λ_ _ _ _ _ _ h=>h.elim
end
abbrev TG:=V->St->Hp->(St->Hp->Prop)->Prop
abbrev Ah:=List V->St->Hp->(St->Hp->Prop)->Prop
def PG (X:Cx)(target:Expr)(t:TG):Prop:=
 ∀(a:List (Addr×Obj)) (s:Shared) (c:St) (H:Hp) (v:V) (u:Value) (Q:St->Hp->Prop),Inv X a c H s->RelV v u->t v c H Q->
  wpAny (model X.prog X.w) X.A (assign target X.env u) (λ_ e=>∃ b d,Inv X a b d e/\Q b d) X.xe s
def Hz (X:Cx)(h:List Expr)(t:Ah):Prop:=
 ∀(a:List (Addr×Obj)) (s:Shared) (c:St) (H:Hp) (f:List V) (d:List Value) (Q:St->Hp->Prop),Inv X a c H s->Vals f d->t f c H Q->
  wpAny (model X.prog X.w) X.A (assignInOrder ((assignEach h X.env).map (·.2)) d) (λ_ g=>∃ b e,Inv X a b e g/\Q b e) X.xe s
abbrev Fv:=V->V->V->Hp->(Hp->Prop)->Prop
def Lz (X:Cx)(t:Fv):Prop:=
 ∀(a:List (Addr×Obj)) (s:Shared) (b:St) (H:Hp) (o i v:V) (e d u:Value) (Q:Hp->Prop),Inv X a b H s->RelV o e->RelV i d->RelV v u->t o i v H Q->
  wpAny (model X.prog X.w) X.A (setItem e d u) (λ_ f=>∃c,Inv X a b c f/\Q c) X.xe s
section
variable {X:Cx}{pos:Pos}
def uf (i:Nat):TG:=λv a H Q=>Q (a.set i (some v)) H
theorem bK (c:X.N.Nodup)(b:X.N[i]?=some x)(f:Loc X.env.scope x)(e:X.fn x=true\/X.env.scope.names.lookup x=some .local:=by first|exact .inl rfl|exact .inr rfl|assumption):PG X (.Name x pos) (uf i):=by
 intro a s g H v u Q I r h;exact wpAny_assign_Name (tq I c b f r (λj d=>⟨_,H,d,h⟩) e)
def Uv:Ah:=λb a H Q=>b=[]/\Q a H
inductive HB (t:TG) (u:Ah) (vs:List V) (σ:St) (H:Hp) (Q:(St->Hp->Prop)):Prop
 |mk (v:V) (r:List V):vs=v::r->(t v σ H λ iG H'=>u r iG H' Q)->HB t u vs σ H Q
theorem kA:Hz X [] Uv:=by
 intro a s b H d c Q I r h;obtain⟨e,h⟩:=h;subst e;exact assignInOrder_nil ⟨b,H,I,h⟩
theorem dF {t:TG}{u:Ah}(m:PG X e t)(k:Hz X C u)
 (f:(assignEach (e::C) X.env).map (·.2)=assign e X.env::(assignEach C X.env).map (·.2):=by rfl):Hz X (e::C) (HB t u):=by
 intro a s l H p o Q I r h;obtain⟨v,q,j,h⟩:=h;subst j
 cases r with
 |cons r n=>
  rw[f];refine assignInOrder_cons (a8 (m a s l H _ _ _ I r h) λ_ d ⟨b,i,g,c⟩=>?_);exact k a d b i _ _ Q g n c
inductive LC (K:Za1) (n:Nat) (t:Ah) (v:V) (σ:St) (H:Hp) (Q:(St->Hp->Prop)):Prop
 |mk (a:Addr) (xs:List V):v=.ref a->bQ K H a xs->xs.length=n->t xs σ H Q->LC K n t v σ H Q
theorem m3 {k:Nat}{t:Ah}(x:X.calm=true)(h:Hz X C t)
 (j:(assignEach C X.env).length=n:=by rfl) (d:(assignEach C X.env).findIdx? (·.1)=none:=by rfl):PG X (.Tuple C k pos) (LC X.K n t):=by
 intro c s g H v u Q I r f;obtain⟨a,i,z,q,p,f⟩:=f;subst z;cases r;obtain⟨A,l,B,E⟩:=I.tuple q;refine assign_Tuple_tuple (I.ok.hd x) B (by simp[j,<-p,l.length]) d λm y=>?_
 have w:Inv X c g H { s with heap:=m }:=I.kept (t':=s.toks) λb o e=>y b o (abV (abE e)) e
 exact h c _ g H i _ Q w (by omega) f
def Uw (to c:TE)(t:Fv):TG:=λv a H Q=>to a H λo e=>c a e λi b=>t o i v b λd=>Q a d
theorem ug {i:Expr}{to:TE}{t:Fv}(k:PE X e to)(p:PE X i r)(o:Lz X t)
 (G:∀v,assign (.Subscript e i pos) X.env v=(do
  let c <-holding [v] (eval e X.env)
  let d <-holding [v,c] (eval i X.env)
  standAt pos
  holding [v,c,d] (setItem c d v)
  release [v,c,d] []):=by intro _;rfl):PG X (.Subscript e i pos) (Uw to r t):=by
 intro b s f H v u Q I a h;refine abi (acD (a8 (k b s f H _ I h) λc m ⟨x,A,q,w,l⟩=>?_));refine abi (acD (a8 (p b m f A _ q l) λd B ⟨y,z,n,D,g⟩=>?_));refine abi (ad8 (abi (acD (a8 (o b B f z x y v c d u _ n w D a g) λ_ F ⟨j,E,C⟩=>?_))));exact wpAny_release ⟨f,j,E,C⟩
def Bk (b:TE)(g:TG):TS:=λD a H=>b a H λx c=>g x a c D.nx
theorem p7 {a:Expr}{g:TG}(n:PE X a r)(p:PG X e g)(i:swapsWithSole [e] a pos.line X.env=pure false:=by rfl)(m:swappedStores [e] a X.env=pure none:=by rfl)
 (o:(assignEach [e] X.env).map (·.2)=[assign e X.env]:=by rfl):PS X (.Assign [e] a pos) (Bk r g):=by
 intro b s c H D I h;refine wpAny_Assign_stores (a8 (n b s c H _ I h) λv f ⟨x,l,j,k,d⟩=>?_) i m;rw[o];exact a8 (p b f c l x v _ j k d) λ_ t q=>q
theorem aZ {pos':Pos}(n:X.N.Nodup)(g:X.N[i]?=some x)(m:Loc X.env.scope x)(p:PE X e r)(f:swapsWith e (some (.Name x pos')) pos.line X.env=pure false:=by rfl)(b:X.fn x=true\/X.env.scope.names.lookup x=some .local:=by first|exact .inl rfl|exact .inr rfl|assumption):
 PS X (.Assign [.Name x pos'] e pos) (Bk r (uf i)):=by
 intro a s o H D I h;refine wpAny_Assign_Name (a8 (p a s o H _ I h) λv q ⟨y,l,j,k,c⟩=>?_) f;exact tq j n g m k (λt d=>⟨_,l,d,c⟩) b
inductive VA (f:Int->Int->Int) (x:V) (y:V) (H:Hp) (Q:VK):Prop
 |mk (i j:Int):x=.int i->y=.int j->Q (.int (f i j)) H->VA f x y H Q
end
section
variable {X:Cx}{pos:Pos}
def LD (c:TT)(h:TS):TS:=λD a H=>∃W:Nat->St->Hp->Prop,(∃m,W m a H)/\∀m a H,W m a H->
 c a H λb g=>if b=true then ∃N:St->Hp->Prop,(∀ d e,N d e->∃f,f<m/\W f d e)/\h { D with nx:=N,ct:=N,bk:=D.nx } a g else D.nx a g
theorem ic {body:List Stmt}{z:TT}{y:TS}(r:PassesOwn (model X.prog X.w) X.A X.env X.xe)(F:PT X e z)(G:kH X body y):PS X (.While e body [] pos) (LD z y):=by
 intro c s O H D I h;obtain⟨W,⟨M,B⟩,turn⟩:=h;refine wpAny_While (codeAny_whileLoop (λn P=>∃ g A,Inv X c g A P/\W n g A) ?_ M ⟨O,H,I,B⟩);rintro n C ⟨d,w,E,L⟩;refine adH r (a8 (F c C d w _ E (turn n d w L)) λb J ⟨u,t,j⟩=>?_)
 cases b with
 |true=>
  obtain⟨N,x,j⟩:=j;refine adH r (a8 (G c J d u _ t j) λf Q k=>?_)
  cases f with
  |next=>
   obtain⟨a,i,q,o⟩:=k;obtain⟨p,l,m⟩:=x a i o;exact⟨p,l,a,i,q,m⟩
  |cont=>
   obtain⟨a,i,q,o⟩:=k;obtain⟨p,l,m⟩:=x a i o;exact⟨p,l,a,i,q,m⟩
  |brk=>exact k
  |ret v=>exact k
 |false=>
  exact adV ⟨d,u,t,j⟩
end
structure It where
 go:Nat->Hp->Prop
 kc:Nat->Hp->V->Hp->Prop
 stop:Nat->Hp->Prop
def oC (X:Cx)(a:List (Addr×Obj))(H:Hp)(b:Addr):Prop:=
 H b=none/\b≠X.env.locals/\b∉X.fs/\(b∈X.ex\/X.dP.heap.objs.size<=b)/\(∀x c,X.env.cells.lookup x=some c->c≠b)/\∀p∈X.pn++a,p.1≠b
theorem Inv.mP (a:Inv X o D H s)(d:s.heap.objs.size<=b)(f:I b=none):oC X o I b:=by
 refine⟨f,acH (abW a.lt d),a.Li d,.inr (abB a.sz d),λx c e z=>?_,λp g z=>?_⟩
 ·obtain⟨v,q⟩:=a.cell x c e;exact absurd (abW q.lt (by rw[z];exact d)) (acK _)
 ·exact absurd (abW (abE (a.pin p g).1) (by rw[z];exact d)) (acK _)
structure Turn (P:Program) (w:World) (K:Za1) (tg:Expr) (J:It) (fp:List Addr) (it:Addr) (tn:Nat->Heap->Prop):Prop where
 mem:it∈fp
 obj:∀i h,tn i h->∀b∈fp,∃o,h.get? b=some o/\∀v,o.data≠.cell v
 keep:∀i h h',tn i h->(∀b∈fp,∀o,h.get? b=some o->h'.get? b=some o)->tn i h'
 item:∀(X:Cx),X.prog=P->X.w=w->X.K=K->X.calm=true->∀(i:Nat) (pins:List (Addr×Obj)) (s:Shared) (σ:St) (H:Hp) (E:Value->Shared->Prop),Inv X pins σ H s->(∀b∈fp,oC X pins H b)->tn i s.heap->J.go i H->
  wpAny (model P w) X.A (pyNext (.ref it)) (λr s1=>∃u,r=some u/\
   wpAny (model P w) X.A (letOwnedTupleGo tg (.ref it) u) (λ_ s2=>∃x H',Inv X pins σ H' s2/\RelV x u/\J.kc i H x H'/\tn (i+ 1) s2.heap/\∀b∈fp,H' b=none) E s1) E s
 done:∀(X:Cx),X.prog=P->X.w=w->X.K=K->X.calm=true->∀(i:Nat) (pins:List (Addr×Obj)) (s:Shared) (σ:St) (H:Hp) (E:Value->Shared->Prop),Inv X pins σ H s->(∀b∈fp,oC X pins H b)->tn i s.heap->J.stop i H->
  wpAny (model P w) X.A (pyNext (.ref it)) (λr s1=>r=none/\Inv X pins σ H s1) E s
 self:∀(A:Around) (i:Nat) (s:Shared) (Q:Value->Shared->Prop) (E:Value->Shared->Prop),tn i s.heap->Q (.ref it) s->wpAny (model P w) A (pyIter (.ref it)) Q E s
abbrev TI:=St->Hp->(It->Hp->Prop)->Prop
def Rm (X:Cx)(a:List (Addr×Obj))(g:St)(h:Expr)(R:It->Hp->Prop)(c:Value)(s2:Shared):Prop:=
 ∃(it:Addr) (f:List Addr) (e:Nat->Heap->Prop) (J:It) (d:Hp),c=.ref it/\Inv X a g d s2/\Turn X.prog X.w X.K h J f it e/\e 0 s2.heap/\(∀b∈f,oC X a d b)/\R J d
def PI (X:Cx)(d iter:Expr)(e:TI):Prop:=
 ∀(a:List (Addr×Obj)) (s:Shared) (b:St) (H:Hp) (R:It->Hp->Prop),Inv X a b H s->e b H R->
  wpAny (model X.prog X.w) X.A (eval iter X.env) (λv c=>wpAny (model X.prog X.w) X.A (pyIter v) (Rm X a b d R) X.xe c) X.xe s
theorem xV {M:Model}{it:Addr}{o:Obj}{n:String}{b:Array Value}(f:s.heap.get? it=some o)(c:o.cls=.type n)(d:o.data=.fields b)
 (g:["enumerate","zip","dict_itemiterator","dict_reverseitemiterator","odict_iterator","itertools.zip_longest","itertools.pairwise"].contains n=false) (a:U () s):wpAny M A (letOwnedTupleGo e (.ref it) u) U E s:=by
 cases e <;> first
  |exact abq a
  |(cases u <;> first
   |exact abq a
   |(refine abi (wpAny_load f ?_)
     rw[c,d];show wpAny M A (if (["enumerate","zip","dict_itemiterator","dict_reverseitemiterator","odict_iterator","itertools.zip_longest","itertools.pairwise"].contains n && b[0]?==some (rawInt _))=true then _ else _) U E s;rw[abH (by grind)];exact abq a))
def wm (K:Za1)(a:Addr):It:=
 ⟨λi H=>∃xs x,aD K H a xs/\xs[i]?=some x,λi H x b=>b=H/\∀xs,aD K H a xs->xs[i]?=some x,λi H=>∃xs,aD K H a xs/\xs.length<=i⟩
def wq (K:Za1)(a:Addr):It:=
 ⟨λi H=>∃xs x,bQ K H a xs/\xs[i]?=some x,λi H x b=>b=H/\∀xs,bQ K H a xs->xs[i]?=some x,λi H=>∃xs,bQ K H a xs/\xs.length<=i⟩
def wu (lo:Int)(n:Nat):It:=⟨λi _=>i<n,λi H x a=>a=H/\x=.int (lo+ i),λi _=>n<=i⟩
theorem CL (a it:Addr):Turn P w K e (wm K a) [it] it (λi h=>h.IsListIter it a i) where
 mem:=by simp
 obj:=λi h st b j=>by
  have f:b=it:=by simpa using j
  subst f;obtain⟨o,f,c,d⟩:=st
  grind
 keep:=λi h m st k=>st.at λo f=>k it (by simp) o f
 item:=by
  intro X B A y L i g s M H E I n st J;subst B A y;obtain⟨O,x,q,z⟩:=J;obtain⟨D,t,p,N⟩:=I.list q;obtain⟨u,S,W⟩:=t.get z;obtain⟨v,F,U,r,G,C⟩:=n it (by simp);refine wpAny_pyNext_list_item st p.isList (x:=u) (by simpa using S) λm l Y=>?_
  have R:Inv X g M H { s with heap:=m }:=I.turned (t':=s.toks) (λb o j f=>(Y.2 b j).trans f) v F r G C;obtain⟨o,f,c,d⟩:=id l;exact⟨u,rfl,xV (s:={ s with heap:=m }) f c d (by decide) ⟨x,H,R,W,⟨rfl,λys T=>by rw[I.kI T q];exact z⟩,l,λb j=>(n b j).1⟩⟩
 done:=by
  intro X B A y L i g s M H E I n st J;subst B A y;obtain⟨O,q,z⟩:=J;obtain⟨D,t,p,N⟩:=I.list q;obtain⟨v,F,U,r,G,C⟩:=n it (by simp);have Z:=t.length;exact wpAny_pyNext_list_end (I.ok.hd L) st p.isList (by simp;omega) λm V=>⟨rfl,I.turned (t':=s.toks) (λb o j f=>V b o j f) v F r G C⟩
 self:=λ_ _ _ _ _ st h=>wpAny_pyIter_listiter st h
theorem Bl (a it:Addr):Turn P w K e (wq K a) [it] it (λi h=>h.IsTupleIter it a i) where
 mem:=by simp
 obj:=λi h st b j=>by
  have f:b=it:=by simpa using j
  subst f;obtain⟨o,f,c,d⟩:=st
  grind
 keep:=λi h n st k=>st.at λo f=>k it (by simp) o f
 item:=by
  intro X C B z L i g s M H E I q st J;subst C B z;obtain⟨O,x,r,A⟩:=J;obtain⟨l,v,p,N⟩:=I.tuple r;obtain⟨u,S,W⟩:=v.get A;obtain⟨y,F,U,t,G,D⟩:=q it (by simp);refine wpAny_pyNext_tuple_item st (show s.heap.IsTuple a l.toArray from p) (x:=u) (by simpa using S) λn m Y=>?_
  have R:Inv X g M H { s with heap:=n }:=I.turned (t':=s.toks) (λb o j f=>(Y.2 b j).trans f) y F t G D;obtain⟨o,f,c,d⟩:=id m;exact⟨u,rfl,xV (s:={ s with heap:=n }) f c d (by decide) ⟨x,H,R,W,⟨rfl,λys T=>by rw[I.CJ T r];exact A⟩,m,λb j=>(q b j).1⟩⟩
 done:=by
  intro X C B z L i g s M H E I q st J;subst C B z;obtain⟨O,r,A⟩:=J;obtain⟨l,v,p,N⟩:=I.tuple r;obtain⟨y,F,U,t,G,D⟩:=q it (by simp);have Z:=v.length;exact wpAny_pyNext_tuple_end (I.ok.hd L) st (show s.heap.IsTuple a l.toArray from p) (by simp;omega) λn V=>⟨rfl,I.turned (t':=s.toks) (λb o j f=>V b o j f) y F t G D⟩
 self:=λ_ _ _ _ _ st h=>wpAny_pyIter_tupleiter st h
theorem Bm (it:Addr)(lo:Int)(n:Nat):Turn P w K e (wu lo n) [it] it (λi h=>IsRangeIter h it (lo+ (i:Nat)* 1) ((n:Int) - (i:Nat)) 1) where
 mem:=by simp
 obj:=λi h st b f=>by
  grind
 keep:=λi h g st k=>k it (by simp) _ st
 item:=by
  intro X B A y p i c s D H E I j st x;subst B A y;obtain⟨m,r,L,l,u,q⟩:=j it (by simp);have W:=Walks.range (prog:=X.prog) (w:=X.w) (I.ok.hd p) it lo 1 n;refine W.item i s _ _ x st λv g z F d J=>?_
  obtain⟨t,rfl⟩:=F;have G:Inv X c D H { s with heap:=g,toks:=z }:=I.turned (λb o f a=>J b o (by grind) a) m r l u q;refine⟨_,rfl,xV (s:={ s with heap:=g,toks:=z }) (n:="range_iterator") d rfl rfl (by decide) ⟨.int (lo+ i),H,G,⟨t,?_⟩,⟨rfl,rfl⟩,d,λb f=>(j b f).1⟩⟩
  grind
 done:=by
  intro X B A y p i c s D H E I j st x;obtain⟨m,r,L,l,u,q⟩:=j it (by simp);exact wpAny_pyNext_range_end (I.ok.hd p) st (by have:n<=i:=x;omega) λg M=>⟨rfl,I.turned (t':=s.toks) (λb o f a=>M b o f a) m r l u q⟩
 self:=λ_ _ _ _ _ st h=>wpAny_pyIter_rangeiter st h
section
variable {X:Cx}{tg:Expr}
def Qe (K:Za1)(tl:TE):TI:=λ d H R=>tl d H λx b=>∃a,x=.ref a/\(∃c,aD K b a c)/\R (wm K a) b
def Ux (K:Za1)(tl:TE):TI:=λ d H R=>tl d H λx b=>∃a,x=.ref a/\(∃c,bQ K b a c)/\R (wq K a) b
theorem cS {tl:TE}(i:PE X e tl):PI X tg e (Qe X.K tl):=by
 intro d s r H R I h;refine a8 (i d s r H _ I h) λv s1 ⟨x,l,f,k,g⟩=>?_
 obtain⟨a,c,⟨t,j⟩,q⟩:=g;subst c;cases k;obtain⟨n,w,p,y⟩:=f.list j;refine ad9 p.isList ?_;refine⟨s1.heap.objs.size,[s1.heap.objs.size],_,_,l,rfl,f.kept (t':=s1.toks) λb o c=>abl _ c,CL a _,⟨_,abF _ rfl,rfl,rfl⟩,λb m=>?_,q⟩;have c:b=s1.heap.objs.size:=by simpa using m
 subst c;exact f.mP (abr _) (f.aO.fresh (abr _))
theorem m5 {tl:TE}(j:PE X e tl):PI X tg e (Ux X.K tl):=by
 intro d s r H R I h;refine a8 (j d s r H _ I h) λv s1 ⟨x,m,f,l,i⟩=>?_
 obtain⟨a,c,⟨t,k⟩,q⟩:=i;subst c;cases l;obtain⟨g,w,p,y⟩:=f.tuple k;refine wpAny_pyIter_tuple (show s1.heap.IsTuple a g.toArray from p) ?_;refine⟨s1.heap.objs.size,[s1.heap.objs.size],_,_,m,rfl,f.kept (t':=s1.toks) λb o c=>abl _ c,Bl a _,⟨_,abF _ rfl,rfl,rfl⟩,λb n=>?_,q⟩;have c:b=s1.heap.objs.size:=by simpa using n
 subst c;exact f.mP (abr _) (f.aO.fresh (abr _))
theorem yd {R:It->Hp->Prop}{lo:Int}{t u v:Tok}(I:Inv X o D H s)(k: -(2 ^ 62)<=lo)(i:lo<2 ^ 62)(j: -(2 ^ 62)<=z)(f:z<2 ^ 62)
 (q:R (wu lo (z - lo).toNat) H):wpAny (model X.prog X.w) X.A (pyIter (.ref s.heap.objs.size)) (Rm X o D tg R) E { s with heap:=s.heap.push { cls:=.type "range",data:=.fields #[.int lo t,.int z u,.int 1 v] },toks:=n }:=by
 refine wpAny_pyIter_range (IsRange.new ..) (small_one k i j f) ?_;have c:Inv X o D H { s with heap:=s.heap.push { cls:=.type "range",data:=.fields #[.int lo t,.int z u,.int 1 v] },toks:=n }:=I.kept λb a e=>abl _ e
 refine⟨(s.heap.push { cls:=.type "range",data:=.fields #[.int lo t,.int z u,.int 1 v] }).objs.size,[(s.heap.push { cls:=.type "range",data:=.fields #[.int lo t,.int z u,.int 1 v] }).objs.size],_,_,H,rfl,
  c.kept (t':=n) λb a e=>abl _ e,Bm _ lo (z - lo).toNat,?_,λb g=>?_,q⟩
 ·have h:lo+ ((0:Nat):Int)* 1=lo:=by simp
  have d:(((z - lo).toNat:Nat):Int) - ((0:Nat):Int)=Builtin.Range.rangeSize lo z 1:=by rw[rangeSize_one];split <;> omega
  rw[h,d];exact abF _ rfl
 ·have e:b=(s.heap.push { cls:=.type "range",data:=.fields #[.int lo t,.int z u,.int 1 v] }).objs.size:=by simpa using g
  subst e;exact c.mP (abr _) (c.aO.fresh (abr _))
def Qf (c:TA):TI:=λ a H R=>c a H λd b=>∃j:Int,d=[.int j]/\-(2 ^ 62)<=j/\j<2 ^ 62/\R (wu 0 j.toNat) b
def Qg (c:TA):TI:=λ a H R=>c a H λd b=>∃i j:Int,d=[.int i,.int j]/\(-(2 ^ 62)<=i/\i<2 ^ 62/\-(2 ^ 62)<=j/\j<2 ^ 62)/\R (wu i (j - i).toNat) b
theorem iH {f:TA}{a:Pos}(v:Gl X "range")(g:X.mg "range"=none)(n:PA X [e] f)(l:starEach [e] X.env=[(false,eval e X.env)]:=by rfl):PI X tg (.Call (.Name "range" p) [e] [] a) (Qf f):=by
 intro c s u H R I h;refine Call_ (gU I v g boot_range (acw (a8 (n a c s u H _ I h) λw y ⟨x,z,m,o,d⟩=>?_) l rfl));obtain⟨j,b,d,i,q⟩:=d;subst b
 cases o with
 |cons r k=>
  cases k;obtain⟨t,rfl⟩:=r;exact call_range_1 (yd m (by omega) (by omega) d i (by simpa using q))
theorem CM {b:Expr}{l:TA}{a:Pos}(B:Gl X "range")(m:X.mg "range"=none)(v:PA X [e,b] l)(o:starEach [e,b] X.env=[(false,eval e X.env),(false,eval b X.env)]:=by rfl)(d:starEach [b] X.env=[(false,eval b X.env)]:=by rfl):
 PI X tg (.Call (.Name "range" p) [e,b] [] a) (Qg l):=by
 intro f s A H R I h;refine Call_ (gU I B m boot_range (acw (a8 (v a f s A H _ I h) λD F ⟨E,G,u,w,k⟩=>?_) (by rw[o,d]) (by rw[d];rfl)));obtain⟨i,j,c,⟨k,n,y,z⟩,q⟩:=k;subst c
 cases w with
 |cons r g=>
  cases g with
  |cons x g=>
   cases g;obtain⟨t,rfl⟩:=r;obtain⟨C,rfl⟩:=x;exact call_range_2 (yd u k n y z q)
def Uy (k:TI)(g:TG)(h:TS):TS:=λD a H=>k a H λJ j=>∃W:Nat->Nat->St->Hp->Prop,(∃m,W 0 m a j)/\∀i m a H,W i m a H->
 (J.stop i H/\D.nx a H)\/(J.go i H/\∃N:St->Hp->Prop,(∀ b c,N b c->∃e,e<m/\W (i+ 1) e b c)/\∀x c,J.kc i H x c->g x a c λ d f=>h { D with nx:=N,ct:=N,bk:=D.nx } d f)
def uh (a:List Addr)(h:Heap):List (Addr×Obj):=a.filterMap λb=>(h.get? b).map λo=>(b,o)
theorem gA {o:Obj}(a:b∈F)(e:h.get? b=some o):(b,o)∈uh F h:=List.mem_filterMap.mpr ⟨b,a,by rw[e];rfl⟩
theorem CN {p:Addr×Obj}(a:p∈uh F h):p.1∈F/\h.get? p.1=some p.2:=by
 obtain⟨b,c,e⟩:=List.mem_filterMap.mp a
 cases q:h.get? b with
 |none=>rw[q]at e;cases e
 |some o=>
  grind
theorem Inv.pinned (I:Inv X o D H s)(f:∀b∈F,oC X o H b)(i:∀b∈F,∃a,s.heap.get? b=some a/\∀v,a.data≠.cell v):Inv X (o++uh F s.heap) D H s:=
 I.mZ λp d=>(abx.mp d).elim (λz=>I.pin p (abv _ z)) λz=>by
  obtain⟨c,e⟩:=CN z;obtain⟨g,f1,h,_⟩:=f p.1 c
  grind
theorem Inv.tD {pl:List (Addr×Obj)}(I:Inv X (o++pl) D H s):Inv X o D H s:=I.mZ λp a=>I.pin p (abv _ (abM _ a))
theorem cz {iter:Expr}{body:List Stmt}{V:TI}{g:TG}{Z:TS}(E:PassesOwn (model X.prog X.w) X.A X.env X.xe)(hc:X.calm=true)(hi:PI X tg iter V)(hg:PG X tg g)(l:kH X body Z)
 (hs:∀x,foldedSetIterable iter X.env x=pure x:=by intro _;rfl):PS X (.For tg iter body [] p) (Uy V g Z):=by
 intro c s σ H D I h;refine wpAny_For (a8 (hi c s σ H _ I h) λv s1 h1=>a8 h1 λVB s2 h2=>?_) hs;obtain⟨it,F,tn,J,H2,e,I2,T,M,S,W,⟨m0,w0⟩,turn⟩:=h2;subst e
 have stat:∀{w:Hp},(∀b∈F,w b=none)->∀b∈F,oC X c w b:=λhn b l=>⟨hn b l,(S b l).2⟩
 refine codeAny_forLoop_any (λn Y=>∃i k w,Inv X c k w Y/\tn i Y.heap/\(∀b∈F,w b=none)/\W i n k w) ?_ m0 ⟨0,σ,H2,I2,M,λb l=>(S b l).1,w0⟩;rintro n s3 ⟨i,t,G,I3,B,A,w3⟩;rcases turn i n t G w3 with ⟨stop,qn⟩|⟨go,N,hN,step⟩
 ·refine adH E (a8 (T.done X rfl rfl rfl hc i c s3 t G X.xe I3 (stat A) B stop) λr s4 ⟨O,I4⟩=>?_);subst O;exact adV ⟨t,G,I4,qn⟩
 ·refine adH E (a8 (T.item X rfl rfl rfl hc i c s3 t G X.xe I3 (stat A) B go) λr s4 ⟨u,O,h4⟩=>?_);subst O;refine adH E (a8 h4 λ_ s5 ⟨x,U,I5,r5,y5,z,Q⟩=>?_);have P:=I5.pinned (stat Q) (T.obj _ _ z);refine adH E (a8 (hg _ s5 t U x u _ P r5 (step x U y5)) λ_ s6 ⟨R,H6,I6,q6⟩=>?_);refine adH E (a8 (l _ s6 R H6 _ I6 q6) λf L y=>?_)
  have again:∀{a:St} {q:Hp},Inv X (c++uh F s5.heap) a q L->N a q->∃m,m<n/\∃i k w,Inv X c k w L/\tn i L.heap/\(∀b∈F,w b=none)/\W i m k w:=λ{a q} j C=>by
   obtain⟨m',hm,w7⟩:=hN a q C;refine⟨m',hm,i+ 1,a,q,j.tD,T.keep _ _ _ z λb l o e=>(j.pin (b,o) (abv _ (abv _ (gA l e)))).1,λb l=>?_,w7⟩;obtain⟨o,e,d⟩:=T.obj _ _ z b l;exact(j.pin (b,o) (abv _ (abv _ (gA l e)))).2.1
  cases f with
  |next=>obtain⟨a,q,j,C⟩:=y;exact again j C
  |cont=>obtain⟨a,q,j,C⟩:=y;exact again j C
  |brk=>obtain⟨a,q,j,y⟩:=y;exact⟨a,q,j.tD,y⟩
  |ret v=>obtain⟨x7,a,q,j,r7,y⟩:=y;exact⟨x7,a,q,j.tD,r7,y⟩
end
theorem eR {xs:List V}{g:TG}{k:TS}(b:Nat->St->Hp->Prop)(v:b 0 D H)(o:∀i D H,i<=xs.length->b i D H->aD K H a xs)
 (r:∀i x D H,xs[i]?=some x->b i D H->g x D H λ c j=>k { G with nx:=b (i+ 1),ct:=b (i+ 1),bk:=G.nx } c j) (u:∀ D H,b xs.length D H->G.nx D H):
 ∃W:Nat->Nat->St->Hp->Prop,(∃m,W 0 m D H)/\∀i m D H,W i m D H->
  ((wm K a).stop i H/\G.nx D H)\/((wm K a).go i H/\∃N:St->Hp->Prop,(∀ d f,N d f->∃l,l<m/\W (i+ 1) l d f)/\∀x f,(wm K a).kc i H x f->g x D f λ c j=>k { G with nx:=N,ct:=N,bk:=G.nx } c j):=by
 refine⟨λi m D H=>m=xs.length - i/\i<=xs.length/\b i D H,⟨xs.length,by simp,abS _,v⟩,?_⟩;rintro i m D H ⟨rfl,s,p⟩;have q:=o i D H s p;by_cases h:i<xs.length
 ·refine .inr ⟨⟨xs,xs[i],q,by simp[h]⟩,b (i+ 1),λ d f n=>⟨xs.length - (i+ 1),by omega,rfl,h,n⟩,λx f y=>?_⟩;obtain⟨e,y⟩:=y;subst e;exact r i x D _ (y xs q) p
 ·have e:i=xs.length:=by omega
  subst e;exact .inl ⟨⟨xs,q,abr _⟩,u D H p⟩
theorem vE {xs:List V}{g:TG}{k:TS}(b:Nat->St->Hp->Prop)(v:b 0 D H)(o:∀i D H,i<=xs.length->b i D H->bQ K H a xs)
 (r:∀i x D H,xs[i]?=some x->b i D H->g x D H λ c j=>k { G with nx:=b (i+ 1),ct:=b (i+ 1),bk:=G.nx } c j) (u:∀ D H,b xs.length D H->G.nx D H):
 ∃W:Nat->Nat->St->Hp->Prop,(∃m,W 0 m D H)/\∀i m D H,W i m D H->
  ((wq K a).stop i H/\G.nx D H)\/((wq K a).go i H/\∃N:St->Hp->Prop,(∀ d f,N d f->∃l,l<m/\W (i+ 1) l d f)/\∀x f,(wq K a).kc i H x f->g x D f λ c j=>k { G with nx:=N,ct:=N,bk:=G.nx } c j):=by
 refine⟨λi m D H=>m=xs.length - i/\i<=xs.length/\b i D H,⟨xs.length,by simp,abS _,v⟩,?_⟩;rintro i m D H ⟨rfl,s,p⟩;have q:=o i D H s p;by_cases h:i<xs.length
 ·refine .inr ⟨⟨xs,xs[i],q,by simp[h]⟩,b (i+ 1),λ d f n=>⟨xs.length - (i+ 1),by omega,rfl,h,n⟩,λx f y=>?_⟩;obtain⟨e,y⟩:=y;subst e;exact r i x D _ (y xs q) p
 ·have e:i=xs.length:=by omega
  subst e;exact .inl ⟨⟨xs,q,abr _⟩,u D H p⟩
theorem jK {lo:Int}{g:TG}{j:TS}(b:Nat->St->Hp->Prop)(s:b 0 D H)
 (o:∀i D H,i<n->b i D H->g (.int (lo+ i)) D H λ c h=>j { G with nx:=b (i+ 1),ct:=b (i+ 1),bk:=G.nx } c h) (r:∀ D H,b n D H->G.nx D H):
 ∃W:Nat->Nat->St->Hp->Prop,(∃m,W 0 m D H)/\∀i m D H,W i m D H->
  ((wu lo n).stop i H/\G.nx D H)\/((wu lo n).go i H/\∃N:St->Hp->Prop,(∀ d f,N d f->∃k,k<m/\W (i+ 1) k d f)/\∀x f,(wu lo n).kc i H x f->g x D f λ c h=>j { G with nx:=N,ct:=N,bk:=G.nx } c h):=by
 refine⟨λi m D H=>m=n - i/\i<=n/\b i D H,⟨n,by simp,abS _,s⟩,?_⟩;rintro i m D H ⟨rfl,t,p⟩;by_cases a:i<n
 ·refine .inr ⟨a,b (i+ 1),λ d f l=>⟨n - (i+ 1),by omega,rfl,a,l⟩,λx f y=>?_⟩;obtain⟨e,y⟩:=y;subst e y;exact o i D _ a p
 ·have e:i=n:=by omega
  subst e;exact .inl ⟨abr _,r D H p⟩
abbrev R2:=V->V->Hp->VK->Prop
def fy (X:Cx)(f:Value->Value->Sem Value)(r:R2):Prop:=
 ∀(a:List (Addr×Obj)) (s:Shared) (b:St) (H:Hp) (x y:V) (v u:Value) (Q:VK),Inv X a b H s->RelV x v->RelV y u->r x y H Q->
  wpAny (model X.prog X.w) X.A (f v u) (EP X a b Q) X.xe s
def LJ (X:Cx)(f:Value->Sem Value)(r:V->Hp->VK->Prop):Prop:=
 ∀(a:List (Addr×Obj)) (s:Shared) (b:St) (H:Hp) (x:V) (v:Value) (Q:VK),Inv X a b H s->RelV x v->r x H Q->
  wpAny (model X.prog X.w) X.A (f v) (EP X a b Q) X.xe s
def fX (X:Cx)(f:Value)(r:List V->Hp->VK->Prop):Prop:=
 ∀(a:List (Addr×Obj)) (s:Shared) (c:St) (H:Hp) (b:List V) (d:List Value) (Q:VK),Inv X a c H s->Vals b d->r b H Q->
  wpAny (model X.prog X.w) X.A (call f d) (EP X a c Q) X.xe s
def Uz (X:Cx)(r:V->Hp->(Bool->Hp->Prop)->Prop):Prop:=
 ∀(a:List (Addr×Obj)) (s:Shared) (b:St) (H:Hp) (x:V) (v:Value) (Q:Bool->Hp->Prop),Inv X a b H s->RelV x v->r x H Q->
  wpAny (model X.prog X.w) X.A (truthy v) (TP X a b Q) X.xe s
def HC (r:R2)(e c:TE):TE:=λ a H Q=>e a H λx d=>c a d λy b=>r x y b Q
def VC (r:V->Hp->VK->Prop)(c:TE):TE:=λ a H Q=>c a H λx b=>r x b Q
inductive rI (C:Int->Int->Prop) (g:Int->Int->V) (x:V) (y:V) (H:Hp) (Q:VK):Prop
 |mk (i j:Int):x=.int i->y=.int j->C i j->Q (g i j) H->rI C g x y H Q
inductive wx (g:Int->Int->V) (x:V) (y:V) (H:Hp) (Q:VK):Prop
 |mk (i j:Int):x=.int i->y=.int j->Q (g i j) H->wx g x y H Q
inductive rU (g:Int->V) (x:V) (H:Hp) (Q:VK):Prop
 |mk (i:Int):x=.int i->Q (g i) H->rU g x H Q
section
variable {X:Cx}{a b:Expr}{ta tb:TE}{pos:Pos}
theorem Fw (t:PE X a ta)(z:PE X b tb){d:List (Addr×Obj)}{s:Shared}{g:St}{H:Hp}{R:V->V->Hp->Prop}(I:Inv X d g H s)
 (h:ta g H λx l=>tb g l λy e=>R x y e) {Q:Value->Shared->Prop} {f:Value->Value->Sem Value}
 (n:∀v u k x y e,Inv X d g e k->RelV x v->RelV y u->R x y e->wpAny (model X.prog X.w) X.A (f v u) Q X.xe k):
 wpAny (model X.prog X.w) X.A (eval a X.env) (λv i=>wpAny (model X.prog X.w) X.A (eval b X.env) (λu j=>wpAny (model X.prog X.w) X.A (f v u) Q X.xe j) X.xe i) X.xe s:=by
 refine a8 (t d s g H _ I h) λv p ⟨x,l,r,w,o⟩=>?_
 refine a8 (z d p g l _ r o) λu k ⟨y,e,q,A,m⟩=>?_
 exact n v u k x y e q w A m
theorem aT {e:Operator}{r:R2}(f:fy X (binaryOp e) r)(o:PE X a ta)(j:PE X b tb):PE X (.BinOp a e b pos) (HC r ta tb):=by
 intro d s n H Q I h;exact wpAny_BinOp (Fw o j I h λv u k x y i g l m q=>f d k n i x y v u Q g l m q)
theorem fB {e:UnaryOp}{r:V->Hp->VK->Prop}(l:LJ X (unaryOp e) r)(m:PE X a ta):PE X (.UnaryOp e a pos) (VC r ta):=by
 intro d s f H Q I h;exact UnaryOp_ (a8 (m d s f H _ I h) λv g ⟨x,i,j,k,n⟩=>l d g f i x v Q j k n)
theorem CP {f:Value->Value->Sem Value}{C:Int->Int->Prop}{g:Int->Int->Int}
 (rule:∀(i j:Int) (t u:Tok) (s:Shared) (Q:Value->Shared->Prop) (E:Value->Shared->Prop),C i j->Q (.int (g i j) s.toks) { s with toks:=s.toks+ 1 }->wpAny (model X.prog X.w) X.A (f (.int i t) (.int j u)) Q E s):
 fy X f (rI C λi j=>.int (g i j)):=by
 intro d s n H x y v u Q I l m h;obtain⟨i,j,rfl,rfl,k,q⟩:=h;obtain⟨t,rfl⟩:=l;obtain⟨e,rfl⟩:=m;exact rule i j t e s _ _ k ⟨.int (g i j),H,I.tok _,⟨_,rfl⟩,q⟩
theorem LK {f:Value->Value->Sem Value}{g:Int->Int->Int}
 (rule:∀(i j:Int) (t u:Tok) (s:Shared) (Q:Value->Shared->Prop) (E:Value->Shared->Prop),Q (.int (g i j) s.toks) { s with toks:=s.toks+ 1 }->wpAny (model X.prog X.w) X.A (f (.int i t) (.int j u)) Q E s):
 fy X f (wx λi j=>.int (g i j)):=by
 intro d s m H x y v u Q I k l h;obtain⟨i,j,rfl,rfl,q⟩:=h;obtain⟨t,rfl⟩:=k;obtain⟨e,rfl⟩:=l;exact rule i j t e s _ _ ⟨.int (g i j),H,I.tok _,⟨_,rfl⟩,q⟩
theorem Fx {f:Value->Value->Sem Value}{g:Int->Int->Bool}
 (rule:∀(i j:Int) (t u:Tok) (s:Shared) (Q:Value->Shared->Prop) (E:Value->Shared->Prop),Q (.bool (g i j)) s->wpAny (model X.prog X.w) X.A (f (.int i t) (.int j u)) Q E s):
 fy X f (wx λi j=>.bl (g i j)):=by
 intro d s m H x y v u Q I k l h;obtain⟨i,j,rfl,rfl,q⟩:=h;obtain⟨t,rfl⟩:=k;obtain⟨e,rfl⟩:=l;exact rule i j t e s _ _ ⟨.bl (g i j),H,I,rfl,q⟩
def UA (i j:Int):Prop:=0<j/\j<1073741824
def UB (i j:Int):Prop:=0<=j/\j<=1000000/\i.natAbs<2 ^ 64
def Fy (i j:Int):Prop:=(-(2 ^ 64)<i/\i<2 ^ 64)\/(-(2 ^ 64)<j/\j<2 ^ 64)
theorem Fy.ok (h:Fy z y):IntMulOk z y:=by
 rcases h with ⟨d,e⟩|⟨d,e⟩
 ·exact .of_left (intBits_le_64 d e)
 ·exact .of_right (intBits_le_64 d e)
theorem dM:fy X (binaryOp .Add) (wx λi j=>.int (i+ j)):=LK λ_ _ _ _ _ _ _ q=>add_int q
theorem jL:fy X (binaryOp .Sub) (wx λi j=>.int (i - j)):=LK λ_ _ _ _ _ _ _ q=>sub_int q
theorem gW:fy X (binaryOp .Mult) (rI Fy λi j=>.int (i* j)):=CP λ_ _ _ _ _ _ _ d q=>mul_int q d.ok
theorem iI:fy X (binaryOp .FloorDiv) (rI UA λi j=>.int (i / j)):=CP λi j _ _ _ _ _ d q=>by
 have e:(0:Int)<j:=d.1;have f:j<1073741824:=d.2;exact floordiv_int (by omega) (by rw[Int.fdiv_eq_ediv_of_nonneg i (by omega)];exact q) (.inl (PyProof.noPylong_small (by omega)))
theorem cK:fy X (binaryOp .Mod) (rI (λ_ j=>0<j) λi j=>.int (i % j)):=CP λi j _ _ _ _ _ d q=>by
 exact mod_int' (by omega) (by rw[Int.fmod_eq_emod_of_nonneg i (by omega)];exact q)
theorem CQ:fy X (binaryOp .Pow) (rI UB λi j=>.int (i ^ j.toNat)):=CP λ_ _ _ _ _ _ _ d q=>pow_int_small d.1 d.2.1 d.2.2 q
theorem VD {f:Value->Sem Value}{g:Int->Int}
 (rule:∀(i:Int) (t:Tok) (s:Shared) (Q:Value->Shared->Prop) (E:Value->Shared->Prop),Q (.int (g i) s.toks) { s with toks:=s.toks+ 1 }->wpAny (model X.prog X.w) X.A (f (.int i t)) Q E s):
 LJ X f (rU λi=>.int (g i)):=by
 intro d s j H x v Q I e h;obtain⟨i,rfl,q⟩:=h;obtain⟨t,rfl⟩:=e;exact rule i t s _ _ ⟨.int (g i),H,I.tok _,⟨_,rfl⟩,q⟩
theorem dW:LJ X (unaryOp .USub) (rU λi=>.int (-i)):=VD λ_ _ _ _ _ q=>neg_int q
end
def Fz:V->V->Bool
 |.non,.non=>true|.non,.int _=>true|.int _,.non=>true|.non,.bl _=>true|.bl _,.non=>true|.non,.str _=>true|.str _,.non=>true
 |.int _,.int _=>true|.bl _,.bl _=>true|.str _,.str _=>true|.lP _,.lP _=>true
 |.int _,.str _=>true|.str _,.int _=>true|.bl _,.str _=>true|.str _,.bl _=>true
 |_,_=>false
inductive Rn (x:V) (y:V) (H:Hp) (Q:VK):Prop
 |mk:Fz x y=true->Q (.bl (decide (x=y))) H->Rn x y H Q
inductive Ro (x:V) (y:V) (H:Hp) (Q:VK):Prop
 |mk:Fz x y=true->Q (.bl (!decide (x=y))) H->Ro x y H Q
theorem Ai:decide (V.int z=V.int y)=(z==y):=by
 rw[acV];simp
theorem CT {i j:Bool}:decide (V.bl i=V.bl j)=(i==j):=by
 rw[acV];simp
theorem Aj:decide (V.str x=V.str f)=(x==f):=by
 rw[acV];simp
theorem Ak {i j:Array UInt8}:decide (V.lP i=V.lP j)=(i.toList==j.toList):=by
 rw[acV];cases i;cases j;simp
section
variable {X:Cx}{a b:Expr}{ta tb:TE}{pos:Pos}
theorem bT {Q:VK}{k d:Bool}(I:Inv X o D H s)(q:Q (.bl k) H)(e:k=d):EP X o D Q (.bool d) s:=by
 subst e;exact⟨.bl k,H,I,rfl,q⟩
theorem i5:fy X (compareOp .Eq) Rn:=by
 intro k s l H x y v u Q I g d h;obtain⟨f,q⟩:=h
 cases x with
 |non=>
  cases g
  cases y with
  |non=>cases d;exact PySem.EqNone.eq_none_none (bT I q (by simp))
  |bl j=>cases d;exact PySem.EqNone.eq_none_bool (bT I q (by simp))
  |int j=>obtain⟨e,rfl⟩:=d;exact PySem.EqNone.eq_none_int (bT I q (by simp))
  |str j=>obtain⟨e,rfl⟩:=d;exact PySem.EqNone.eq_none_str (bT I q (by simp))
  |_=>exact absurd (show false=true from f) ab7
 |bl i=>
  cases g
  cases y with
  |non=>cases d;exact PySem.EqNone.eq_bool_none (bT I q (by simp))
  |bl j=>cases d;exact eq_bool (bT I q CT)
  |str j=>obtain⟨e,rfl⟩:=d;exact PySem.EqMixed.eq_bool_str (bT I q (by simp))
  |_=>exact absurd (show false=true from f) ab7
 |int i=>
  obtain⟨t,rfl⟩:=g
  cases y with
  |non=>cases d;exact PySem.EqNone.eq_int_none (bT I q (by simp))
  |int j=>obtain⟨e,rfl⟩:=d;exact eq_int (bT I q Ai)
  |str j=>obtain⟨e,rfl⟩:=d;exact PySem.EqMixed.eq_int_str (bT I q (by simp))
  |_=>exact absurd (show false=true from f) ab7
 |str i=>
  obtain⟨t,rfl⟩:=g
  cases y with
  |non=>cases d;exact PySem.EqNone.eq_str_none (bT I q (by simp))
  |bl j=>cases d;exact PySem.EqMixed.eq_str_bool (bT I q (by simp))
  |int j=>obtain⟨e,rfl⟩:=d;exact PySem.EqMixed.eq_str_int (bT I q (by simp))
  |str j=>obtain⟨e,rfl⟩:=d;exact eq_str (bT I q Aj)
  |_=>exact absurd (show false=true from f) ab7
 |lP i=>
  obtain⟨t,rfl⟩:=g
  cases y with
  |lP j=>obtain⟨e,rfl⟩:=d;exact PySem.W.eq_bytes (bT I q Ak)
  |_=>exact absurd (show false=true from f) ab7
 |_=>cases y <;> exact absurd (show false=true from f) ab7
theorem oD:fy X (compareOp .NotEq) Ro:=by
 intro k s l H x y v u Q I g d h;obtain⟨f,q⟩:=h
 cases x with
 |non=>
  cases g
  cases y with
  |non=>cases d;exact PySem.EqNone.ne_none_none (bT I q (by simp))
  |bl j=>cases d;exact PySem.EqNone.ne_none_bool (bT I q (by simp))
  |int j=>obtain⟨e,rfl⟩:=d;exact PySem.EqNone.ne_none_int (bT I q (by simp))
  |str j=>obtain⟨e,rfl⟩:=d;exact PySem.EqNone.ne_none_str (bT I q (by simp))
  |_=>exact absurd (show false=true from f) ab7
 |bl i=>
  cases g
  cases y with
  |non=>cases d;exact PySem.EqNone.ne_bool_none (bT I q (by simp))
  |bl j=>cases d;exact ne_bool (bT I q (ade not CT))
  |str j=>obtain⟨e,rfl⟩:=d;exact PySem.EqMixed.ne_bool_str (bT I q (by simp))
  |_=>exact absurd (show false=true from f) ab7
 |int i=>
  obtain⟨t,rfl⟩:=g
  cases y with
  |non=>cases d;exact PySem.EqNone.ne_int_none (bT I q (by simp))
  |int j=>obtain⟨e,rfl⟩:=d;exact ne_int (bT I q (ade not Ai))
  |str j=>obtain⟨e,rfl⟩:=d;exact PySem.EqMixed.ne_int_str (bT I q (by simp))
  |_=>exact absurd (show false=true from f) ab7
 |str i=>
  obtain⟨t,rfl⟩:=g
  cases y with
  |non=>cases d;exact PySem.EqNone.ne_str_none (bT I q (by simp))
  |bl j=>cases d;exact PySem.EqMixed.ne_str_bool (bT I q (by simp))
  |int j=>obtain⟨e,rfl⟩:=d;exact PySem.EqMixed.ne_str_int (bT I q (by simp))
  |str j=>obtain⟨e,rfl⟩:=d;exact ne_str (bT I q (ade not Aj))
  |_=>exact absurd (show false=true from f) ab7
 |lP i=>
  obtain⟨t,rfl⟩:=g
  cases y with
  |lP j=>obtain⟨e,rfl⟩:=d;exact PySem.W.ne_bytes (bT I q (ade not Ak))
  |_=>exact absurd (show false=true from f) ab7
 |_=>cases y <;> exact absurd (show false=true from f) ab7
theorem lT:fy X (compareOp .Lt) (wx λi j=>.bl (decide (i<j))):=Fx λ_ _ _ _ _ _ _ q=>lt_int q
theorem HD:fy X (compareOp .Gt) (wx λi j=>.bl (decide (j<i))):=Fx λ_ _ _ _ _ _ _ q=>gt_int q
theorem HF:fy X (compareOp .GtE) (wx λi j=>.bl (decide (j<=i))):=Fx λ_ _ _ _ _ _ _ q=>ge_int q
theorem m6:fy X (compareOp .Is) (λx y H Q=>y=.non/\Q (.bl (decide (x=.non))) H):=by
 intro e s g H x y v u Q I d f h;obtain⟨rfl,q⟩:=h;cases f;refine is_none_gen (bT I q ?_)
 cases x <;> first
  |(cases d;rfl)
  |(obtain⟨t,rfl⟩:=d;rfl)
theorem vF:fy X (compareOp .IsNot) (λx y H Q=>y=.non/\Q (.bl (!decide (x=.non))) H):=by
 intro e s g H x y v u Q I d f h;obtain⟨rfl,q⟩:=h;cases f;refine isnot_none_gen (bT I q ?_)
 cases x <;> first
  |(cases d;rfl)
  |(obtain⟨t,rfl⟩:=d;rfl)
theorem bD (b:Expr){d:CmpOp}(h:d≠.In:=by decide)(g:d≠.NotIn:=by decide):behindInMarks d b=false:=by
 have f:(d==CmpOp.In)=false:=by grind
 have e:(d==CmpOp.NotIn)=false:=by grind
 cases b <;> simp[behindInMarks,f,e]
theorem vG {e:CmpOp}{r:R2}(g:fy X (compareOp e) r)(p:PE X a ta)(k:PE X b tb)(f:behindInMarks e b=false):PE X (.Compare a [e] [b] pos) (HC r ta tb):=by
 intro d s o H Q I h;exact wpAny_Compare1 (Fw p k I h λv u l x y j i m n q=>g d l o j x y v u Q i m n q) f
inductive LN (x:V) (H:Hp) (Q:Bool->Hp->Prop):Prop
 |mk (k:Bool):x=.bl k->Q k H->LN x H Q
def Qh (t:TE):TT:=λ d H Q=>t d H λx e=>LN x e Q
theorem bu {f:CmpOp}{r:R2}(l:fy X (compareOp f) r)(G:PE X a ta)(A:PE X b tb)(i:behindInMarks f b=false):PT X (.Compare a [f] [b] pos) (Qh (HC r ta tb)):=by
 intro d s g H Q I h
 refine wpAny_isTrue_Compare1 (a8 (G d s g H _ I h) λv n ⟨x,w,p,q,m⟩=>a8 (A d n g w _ p m) λu B ⟨y,t,o,E,j⟩=>
  a8 (l d B g t x y v u _ o q E j) λc L ⟨z,F,J,D,k,e,C⟩=>?_) i
 subst e;cases D;exact adG ⟨F,J,C⟩
def LQ (K:Za1)(x:V)(H:Hp)(k:Bool):Prop:=
 match x with
 |.non=>k=false
 |.bl b=>k=b
 |.int i=>k=(i !=0)
 |.str y=>y.length<=sizeLine/\k=((y.length:Int) !=0)
 |.lP y=>y.size<=sizeLine/\k=((y.size:Int) !=0)
 |.ref p=>(∃xs,aD K H p xs/\k=!xs.isEmpty)\/(∃xs,bQ K H p xs/\k=!xs.isEmpty)\/∃d,H p=some (.dK d)/\k=!d.isEmpty
 |_=>False
theorem Bn {e:Type}{d:List (e×V)}{f:List (e×Value)}(r:KV d f):(!f.isEmpty)=!d.isEmpty:=by
 cases r <;> rfl
theorem ui {xs:List V}(r:Vals xs N):(!N.toArray.isEmpty)=!xs.isEmpty:=by
 cases r <;> simp
theorem p8:(sizeLine:Nat)<2 ^ 63:=by decide
theorem LR:Uz X (λx H Q=>∃k,LQ X.K x H k/\Q k H):=by
 intro o s C H x v Q I g h;obtain⟨k,e,q⟩:=h;have A:=p8;have B:sizeLine=16777216:=sizeLine_eq
 cases x with
 |non=>
  cases g;have d:k=false:=e;subst d;exact truthy_none ⟨H,I,q⟩
 |bl b=>
  cases g;have d:k=b:=e;subst d;exact adG ⟨H,I,q⟩
 |int i=>
  obtain⟨t,rfl⟩:=g;have d:k=(i !=0):=e;subst d;exact PySem.P.truthy_int ⟨H,I,q⟩
 |str y=>
  obtain⟨t,rfl⟩:=g;obtain⟨z,d⟩:y.length<=sizeLine/\k=((y.length:Int) !=0):=e;subst d;exact PySem.P.truthy_str (by omega) ⟨H,I.tok _,q⟩
 |lP y=>
  obtain⟨t,rfl⟩:=g;obtain⟨z,d⟩:y.size<=sizeLine/\k=((y.size:Int) !=0):=e;subst d;exact PySem.W.truthy_bytes (by omega) ⟨H,I.tok _,q⟩
 |ref p=>
  cases g;have d:(∃xs,aD X.K H p xs/\k=!xs.isEmpty)\/(∃xs,bQ X.K H p xs/\k=!xs.isEmpty)\/∃f,H p=some (.dK f)/\k=!f.isEmpty:=e;rcases d with ⟨xs,j,d⟩|⟨xs,j,d⟩|⟨f,j,d⟩
  ·subst d;obtain⟨n,r,pl,u⟩:=I.list j;have hlen:=r.length;exact wpAny_truthy_list pl.isList (by simp only[abK];omega) ⟨H,I.tok _,by rw[ui r];exact q⟩
  ·subst d;obtain⟨n,r,pl,u⟩:=I.tuple j;have hlen:=r.length;exact truthy_tuple pl (by simp only[abK];omega) ⟨H,I.tok _,by rw[ui r];exact q⟩
  ·subst d;obtain⟨u,w,l,r,m⟩:f.length<=sizeLine/\(p==sysModules)=false/\∃l,KV f l/\s.heap.DictOf (bR X.prog X.w) p l:=I.aO p _ j;have hlen:f.length=l.length:=Paired.length r;exact wpAny_truthy_dict w m (by omega) ⟨H,I.tok _,by rw[Bn r];exact q⟩
 |_=>exact(show False from e).elim
theorem ye (n:PE X a ta)(m:∀whole,isTrue a X.env whole=(do let v <-whole;standAt a.pos;holding [v] (truthy v))):
 PT X a (λ e H Q=>ta e H λx f=>∃k,LQ X.K x f k/\Q k f):=by
 intro d s e H Q I h;exact isTrue_plain (a8 (n d s e H _ I h) λv g ⟨x,i,j,l,o⟩=>LR d g e i x v Q j l o) (m _)
theorem vals1 {x:V}(r:Vals [x] N):∃u,N=[u]/\RelV x u:=by
 cases r with
 |cons d e=>cases e;exact⟨_,rfl,d⟩
theorem vals2 {x:V}(r:Vals [x,q] N):∃u d,N=[u,d]/\RelV x u/\RelV q d:=by
 cases r with
 |cons e g=>
  cases g with
  |cons f h=>cases h;exact⟨_,_,rfl,e,f⟩
theorem FC:fX X (.builtin "abs") (λd H Q=>∃i,d=[.int i]/\Q (.int (if i<0 then -i else i)) H):=by
 intro e s f H d g Q I r h;obtain⟨i,rfl,q⟩:=h;obtain⟨u,rfl,t,rfl⟩:=vals1 r;exact call_abs_int λu j=>⟨.int (if i<0 then -i else i),H,I.tok _,⟨_,rfl⟩,q⟩
theorem CV (g:X.calm=true):fX X (.builtin "max") (λe H Q=>∃i j,e=[.int i,.int j]/\Q (.int (if j > i then j else i)) H):=by
 intro f s v H e l Q I r h;obtain⟨i,j,rfl,q⟩:=h;obtain⟨u,p,rfl,⟨t,rfl⟩,⟨m,rfl⟩⟩:=vals2 r;refine max_two_ints (I.ok.hd g) λn o k=>⟨_,H,I.kept k,?_,q⟩
 by_cases d:j > i
 ·rw[abN d,abN d];exact⟨_,rfl⟩
 ·rw[abH d,abH d];exact⟨_,rfl⟩
theorem CW (g:X.calm=true):fX X (.builtin "min") (λe H Q=>∃i j,e=[.int i,.int j]/\Q (.int (if j<i then j else i)) H):=by
 intro f s v H e l Q I r h;obtain⟨i,j,rfl,q⟩:=h;obtain⟨u,p,rfl,⟨t,rfl⟩,⟨m,rfl⟩⟩:=vals2 r;refine min_two_ints (I.ok.hd g) λn o k=>⟨_,H,I.kept k,?_,q⟩
 by_cases d:j<i
 ·rw[abN d,abN d];exact⟨_,rfl⟩
 ·rw[abH d,abH d];exact⟨_,rfl⟩
end
structure tE (h:Heap) (x dx C:Addr) (mA:Str->Option Value):Prop where
 obj:h.get? x=some (PySem.W.instObj C dx)
 ns:h.Ns1 dx mA
 ne:dx≠x
theorem CY (n:h.Ns1 a M):∃d,h.get? a=some d/\∀name,PySem.W.lookIn name d=some (M name):=by
 obtain⟨o,i,m,g,k,l,_,f⟩:=n;refine⟨o,g,λname=>?_⟩;have e:=f name;unfold nsFind findBy at e;rw[<-Array.find?_toList]at e;unfold PySem.W.lookIn;rw[k];dsimp only;split
 ·grind
 ·rename_i q;rw[q]at e
  have b:i.toList.any (·.refKey)=false:=by
   rw[List.any_eq_false];intro y j;obtain⟨z,t,c⟩:=l y (Array.mem_toList_iff.mp j);simp[DictEntry.refKey,c]
  grind
theorem tE.look {x dx:Addr}(I:tE h x dx a M):∃b,PySem.W.InstAt h x (PySem.W.instObj a dx) a (some b)/\∀name,PySem.W.lookIn name b=some (M name):=
 let ⟨b,d,c⟩:=CY I.ns
 ⟨b,⟨I.obj,rfl,rfl,d⟩,c⟩
section
variable {prog:Program}{w:World}{A:Around}{E:Value->Shared->Prop}{s:Shared}{K:Za1}{x dx C f:Addr}{mA:Str->Option Value}{name:Str}{v:Value}
theorem get_map {expr:Bool}(X:K.In s.heap)(I:tE s.heap x dx C mA)(e:PySem.W.plainGet K C name=true)(d:PySem.W.hasDictIn K C=true)
 (g:PySem.W.findIn K (.ref C) name=some none) (c:mA name=some v) (a:PySem.W.handedIn v=true) (h:Q v { s with toks:=s.toks+ 1 }):
 wpAny (model prog w) A (getAttr (.ref x) name expr) Q E s:=by
 obtain⟨i,J,b⟩:=I.look;exact PySem.W.get_value X J (PySem.W.plainGet_of e).1 (PySem.W.findObj_own d g rfl (by rw[b,c])) a h
theorem FD {pl:Sem Bool}{Q:Value×List Value->Shared->Prop}(X:K.In s.heap)(I:tE s.heap x dx C mA)(a:PySem.W.plainGet K C name=true)
 (g:PySem.W.findIn K (.ref C) name=some (some (.ref f))) (c:PySem.W.isFn K (.ref f)=true) (d:mA name=none) (h:Q (.ref f,[.ref x]) s):
 wpAny (model prog w) A (getMethod (.ref x) name pl) Q E s:=by
 obtain⟨e,J,b⟩:=I.look;exact PySem.W.method_fn X J (PySem.W.plainGet_of a).1 (PySem.W.plainGet_of a).2 g (aeC.mp c) (by show (PySem.W.lookIn name e).map (·.isSome)=some false;rw[b,d];rfl) h
theorem JM {ns:List Str}(X:K.In s.heap)(I:tE s.heap x dx C mA)
 (o:PySem.W.findIn K (.ref C) "__setattr__"=some (some (.builtin "object.__setattr__"))) (l:PySem.W.plainOver K C=true) (B:PySem.W.takerIn K C name=some none) (n:PySem.W.hasDictIn K C=true)
 (z:PySem.Within mA ns) (p:ns.length<=sizeLine)
 (h:∀e,tE e x dx C (λy=>if y=name then some v else mA y)->Heap.SameBut dx s.heap e->U () { s with heap:=e,toks:=s.toks+ 2 }):
 wpAny (model prog w) A (setAttr (.ref x) name v) U E s:=by
 obtain⟨G,J,F⟩:=I.look;refine PySem.W.set_plain X J o (PySem.W.osa_open (s:={ s with toks:=s.toks+ 1 }) (r:=none) X J l B λb=>?_);obtain⟨H,t,k⟩:=PySem.W.any_some n;have u:s.heap.get? x=some ⟨.ref C,some dx,.plain,#[]⟩:=I.obj;refine abi (abq (abi (abi (wpAny_loadPart u (abi (PySem.W.Looks.here (s:={ s with toks:=s.toks+ 1 }) (PySem.W.looks_clsIn X t) ?_))))));rw[k];refine abq (a:=some dx) (abi (abq (abi ?_)));refine wpAny_nsSet1 (s:={ s with toks:=s.toks+ 1 }) I.ns λe c d=>?_
 obtain⟨D,m,q,g,j,i⟩:=c.count (PySem.Within.cons name v z);refine abi (wpAny_lookBehind g (by rw[j];exact pastItsLine_dict (abB i (by rw[abL];omega))) ?_);exact abq (h _ ⟨(d.2 _ (acU I.ne)).trans I.obj,c,I.ne⟩ d)
theorem FE {R:Result->Shared->Prop}{a:List (Str×Value)}(X:K.In s.heap)(b:PySem.W.makesIn K C=true)
 (c:PySem.W.findIn K (.ref C) "__init__"=some (some (.ref f))) (d:PySem.W.typeIn K (.ref f)=some (.type "function"))
 (h:codeAny (model prog w) (A.under (.builtin "type.__call__" ⟨.ref C::N,a⟩)) (.call (.ref f) ⟨.ref (s.heap.objs.size+ 1)::N,a⟩) (PySem.W.InitBack (s.heap.objs.size+ 1) R)
  { s with heap:=(s.heap.push PySem.W.emptyDict).push (PySem.W.instObj C s.heap.objs.size) }):
 codeAny (model prog w) A (.call (.ref C) ⟨N,a⟩) R s:=by
 exact PySem.W.make_core (PySem.W.makes_of X b) (PySem.W.looks_findIn X c) (λself=>PySem.W.bind_fn X self d) (.inl rfl) h
theorem CZ {R:Result->Shared->Prop}(X:K.In s.heap)(a:PySem.W.makesIn K C=true)
 (c:PySem.W.findIn K (.ref C) "__init__"=some (some (.builtin "object.__init__")))
 (b:∀self,PySem.W.Looks (model prog w) s.heap (bindSpecial (.builtin "object.__init__") self) (.builtin "object.__init__",[self]))
 (h:codeAny (model prog w) (A.under (.builtin "type.__call__" ⟨[.ref C],[]⟩)) (.call (.builtin "object.__init__") ⟨[.ref (s.heap.objs.size+ 1)],[]⟩) (PySem.W.InitBack (s.heap.objs.size+ 1) R)
  { s with heap:=(s.heap.push PySem.W.emptyDict).push (PySem.W.instObj C s.heap.objs.size) }):
 codeAny (model prog w) A (.call (.ref C) ⟨[],[]⟩) R s:=by
 exact PySem.W.make_core (PySem.W.makes_of X a) (PySem.W.looks_findIn X c) b (.inr ⟨rfl,rfl⟩) h
end
def bJ (f:Str)(v:V):List (Str×V)->List (Str×V)
 |[]=>[(f,v)]
 |(g,x)::r=>if g=f then (g,v)::r else (g,x)::bJ f v r
theorem mQ (f g:Str)(v:V):∀fs:List (Str×V),(bJ f v fs).lookup g=if g=f then some v else fs.lookup g
 |[]=>by
  show List.lookup g [(f,v)]=_
  grind
 |(k,x)::r=>by
  have a:=mQ f g v r;rw[show bJ f v ((k,x)::r)=(if k=f then (k,v)::r else (k,x)::bJ f v r) from rfl]
  grind
theorem jM (f:Str)(v:V):∀fs:List (Str×V),f∈(bJ f v fs).map (·.1)/\∀g,g∈fs.map (·.1)->g∈(bJ f v fs).map (·.1)
 |[]=>⟨by simp[bJ],λg h=>by simp at h⟩
 |(k,x)::r=>by
  obtain⟨a,b⟩:=jM f v r;rw[show bJ f v ((k,x)::r)=(if k=f then (k,v)::r else (k,x)::bJ f v r) from rfl]
  grind
theorem sD (f:Str)(v:V):∀fs:List (Str×V),(bJ f v fs).length<=fs.length+ 1
 |[]=>by simp[bJ]
 |(k,x)::r=>by
  have a:=sD f v r;rw[show bJ f v ((k,x)::r)=(if k=f then (k,v)::r else (k,x)::bJ f v r) from rfl]
  grind
theorem dU.some_of {v:V}{o:Option Value}(r:dU (some v) o):∃u,o=some u/\RelV v u:=by
 cases o with
 |none=>exact(show False from r).elim
 |some u=>exact⟨u,rfl,r⟩
theorem dU.none_of {o:Option Value}(r:dU none o):o=none:=by
 cases o with
 |none=>rfl
 |some u=>exact(show False from r).elim
theorem C0 (r:RelV q u):PySem.W.handedIn u=true:=by
 cases q with
 |non=>cases (show u=Value.none from r);rfl
 |bl b=>cases (show u=Value.bool b from r);rfl
 |int i=>obtain⟨t,e⟩:=(show ∃t,u=Value.int i t from r);cases e;rfl
 |str x=>obtain⟨t,e⟩:=(show ∃t,u=Value.str x t from r);cases e;rfl
 |lP b=>obtain⟨t,e⟩:=(show ∃t,u=Value.bytes b t from r);cases e;rfl
 |xZ b=>obtain⟨t,e⟩:=(show ∃t,u=Value.float b t from r);cases e;rfl
 |ref a=>cases (show u=Value.ref a from r);rfl
 |ty n=>cases (show u=Value.type n from r);rfl
section
variable {P:Program}{w:World}{H:Hp}{h:Heap}{a C dx:Addr}{fs:List (Str×V)}
theorem rE (c:dg P w H h)(e:H a=some (.ins C dx fs)):∃b,tE h a dx C b/\(∀f,dU (fs.lookup f) (b f))/\PySem.Within b (fs.map (·.1))/\fs.length<=1000/\H dx=some (.own a):=by
 obtain⟨d,z,ne,g,b,n,r,q⟩:=(show bU P w H h a (.ins C dx fs) from c a _ e);exact⟨b,⟨g,n,ne⟩,r,q,z,d⟩
end
structure lU (K:Za1) (C:Addr):Prop where
 pg:PySem.W.plainGet K C Str.empty=true
 hd:PySem.W.hasDictIn K C=true
 po:PySem.W.plainOver K C=true
 sa:PySem.W.findIn K (.ref C) "__setattr__"=some (some (.builtin "object.__setattr__"))
theorem lU.get (c:lU K a)(f:Str):PySem.W.plainGet K a f=true:=c.pg
def jN (K:Za1)(C:Addr)(f:Str):Prop:=PySem.W.findIn K (.ref C) f=some none
theorem jN.Bo (n:jN K a f):PySem.W.takerIn K a f=some none:=by
 unfold PySem.W.takerIn;rw[show PySem.W.findIn K (.ref a) f=some none from n];rfl
structure Con (K:Za1) (C:Addr) (f:Str) (v:V) (u:Value):Prop where
 at_:PySem.W.findIn K (.ref C) f=some (some u)
 rel:RelV v u
 get:PySem.W.specialIn K u "__get__"=some none
 cp:PySem.W.copiedNames.contains f=false
structure Meth (K:Za1) (C:Addr) (m:Str) (f:Addr):Prop where
 at_:PySem.W.findIn K (.ref C) m=some (some (.ref f))
 fn:PySem.W.isFn K (.ref f)=true
 kp:PySem.W.keepIn K (.ref f)=true
section
variable {X:Cx}{pins:List (Addr×Obj)}{σ:St}{H:Hp}{s:Shared}{a C dx:Addr}{fs:List (Str×V)}{f:Str}{v:V}{A:Around}{E:Value->Shared->Prop}
theorem Bp {b:Bool}(I:Inv X pins σ H s)(e:H a=some (.ins C dx fs))(c:lU X.K C)(n:jN X.K C f)(l:fs.lookup f=some v)
 (h:∀u d,Inv X pins σ H d->RelV v u->Q u d):wpAny (model X.prog X.w) A (getAttr (.ref a) f b) Q E s:=by
 obtain⟨i,O,r,_,_,_⟩:=rE I.aO e;obtain⟨u,j,g⟩:=dU.some_of (v:=v) (o:=i f) (by rw[<-l];exact r f);exact get_map I.da O (c.get f) c.hd n j (C0 g) (h u _ (I.tok _) g)
theorem uj {pl:Sem Bool}{Q:Value×List Value->Shared->Prop}(I:Inv X pins σ H s)(e:H a=some (.ins C dx fs))(c:lU X.K C)(k:Meth X.K C x b)(l:fs.lookup x=none)
 (h:Q (.ref b,[.ref a]) s):wpAny (model X.prog X.w) A (getMethod (.ref a) x pl) Q E s:=by
 obtain⟨g,O,r,_,_,_⟩:=rE I.aO e;have d:g x=none:=dU.none_of (by grind);exact FD I.da O (c.get x) k.at_ k.fn d h
theorem Bq (I:Inv X pins σ H s)(e:H a=some (.ins C dx fs))(c:lU X.K C)(n:jN X.K C f)(J:fs.length<1000)(w:RelV q u)
 (h:∀l,Inv X pins σ (upd H a (.ins C dx (bJ f q fs))) l->U () l):wpAny (model X.prog X.w) A (setAttr (.ref a) f u) U E s:=by
 obtain⟨y,O,r,k,_,j⟩:=rE I.aO e;have G:(fs.map (·.1)).length<=sizeLine:=by rw[abo,sizeLine_eq];omega
 refine JM I.da O c.sa c.po n.Bo c.hd k G λm i D=>h _ ?_
 have B:∃o,m.get? dx=some o:=let ⟨o,_,_,p,_⟩:=i.ns;⟨o,p⟩
 refine I.write (x:=a) (e:=dx) (by rw[e];exact True.intro) (.inr j) (λb d t z=>(D.2 b t).trans z) B ?_;refine⟨by rw[ak O.ne];exact j,?_,O.ne,i.obj,_,i.ns,λg=>?_,λg F=>?_⟩
 ·have:=sD f q fs;omega
 ·show dU ((bJ f q fs).lookup g) (if g=f then some u else y g);rw[mQ];by_cases d:g=f
  ·rw[abN d,abN d];exact w
  grind
 ·by_cases d:g=f
  ·rw[d];exact(jM f q fs).1
  ·refine(jM f q fs).2 g (k g λz=>F ?_)
   grind
theorem Inv.made (I:Inv X pins σ H s):Inv X pins σ (upd (upd H s.heap.objs.size (.own (s.heap.objs.size+ 1))) (s.heap.objs.size+ 1) (.ins C s.heap.objs.size []))
 { s with heap:=(s.heap.push PySem.W.emptyDict).push (PySem.W.instObj C s.heap.objs.size) }:=by
 have c:(s.heap.push PySem.W.emptyDict).get? s.heap.objs.size=some PySem.W.emptyDict:=abF s.heap rfl
 have d:((s.heap.push PySem.W.emptyDict).push (PySem.W.instObj C s.heap.objs.size)).get? (s.heap.objs.size+ 1)=some (PySem.W.instObj C s.heap.objs.size):=by
  have:=abF (s.heap.push PySem.W.emptyDict) (o:=PySem.W.instObj C s.heap.objs.size) rfl
  rwa [adA]at this
 have k:(s.heap.push PySem.W.emptyDict).Ns s.heap.objs.size (λ_=>none):=⟨PySem.W.emptyDict,#[],_,c,rfl,(λe i=>absurd i (by simp)),λ_=>rfl⟩;have g:=I.laid (a:=s.heap.objs.size) (o:=.own (s.heap.objs.size+ 1)) (h':=s.heap.push PySem.W.emptyDict) (t':=s.toks) (λb u q=>abl _ q) (abr _) ⟨_,c⟩;refine g.laid (a:=s.heap.objs.size+ 1) (o:=.ins C s.heap.objs.size []) (t':=s.toks) (λb u q=>abl _ q) (aei (adA _ _)) ?_;have ne:s.heap.objs.size≠s.heap.objs.size+ 1:=abV (acL _);refine⟨by rw[ak ne,ai],abS _,ne,d,λ_=>none,(Heap.Ns1.of_empty k).at λo q=>abl _ q,λ_=>True.intro,λy j=>absurd rfl j⟩
theorem JN {env:Env}{f:Str}{s:Shared}(c:attributeBase e f env (eval e env)=eval e env)
 (h:wpAny (model P w) A (eval e env) (λo b=>wpAny (model P w) A (getAttr o f true) Q E b) E s):wpAny (model P w) A (eval (.Attribute e f p) env) Q E s:=
 Attribute_any_ h (by rw[arm_eval_Attribute,c])
end
inductive LV (K:Za1) (f:Str) (x:V) (H:Hp) (Q:VK):Prop
 |mk (a C dx:Addr) (fs:List (Str×V)) (v:V):x=.ref a->H a=some (.ins C dx fs)->lU K C->jN K C f->fs.lookup f=some v->Q v H->LV K f x H Q
def LX (K:Za1)(c:TE)(f:Str):TE:=λ a H Q=>c a H λx b=>LV K f x b Q
inductive LY (K:Za1) (f:Str) (y x:V) (H:Hp) (N:Hp->Prop):Prop
 |mk (a C dx:Addr) (fs:List (Str×V)):x=.ref a->H a=some (.ins C dx fs)->lU K C->jN K C f->fs.length<1000->N (upd H a (.ins C dx (bJ f y fs)))->LY K f y x H N
def UC (K:Za1)(e c:TE)(f:Str):TS:=λD a H=>c a H λy d=>e a d λx b=>LY K f y x b (D.nx a)
section
variable {X:Cx}{o e value:Expr}{f:Str}{pos pos':Pos}{ta tv:TE}
theorem aF (t:PE X e ta)(j:attributeBase e f X.env (eval e X.env)=eval e X.env):PE X (.Attribute e f pos) (LX X.K ta f):=by
 intro b s p H Q I h;refine JN j (a8 (t b s p H _ I h) λu y ⟨x,i,g,k,a,C,w,fs,v,ex,m,c,n,l,q⟩=>?_);subst ex;obtain rfl:u=Value.ref a:=k;exact Bp g m c n l λz A d r=>⟨v,i,d,r,q⟩
theorem bY (A:PE X o ta)(i:PE X value tv)(m:swapsWith value (some (.Attribute o f pos')) pos.line X.env=pure false):PS X (.Assign [.Attribute o f pos'] value pos) (UC X.K ta tv f):=by
 intro b s d H D I h;refine plainObj_wpAny_Assign_Attribute (a8 (i b s d H _ I h) λu j ⟨y,r,p,w,q⟩=>a8 (A b j d r _ p q) λt G ⟨x,F,k,v,a,C,E,fs,ex,z,c,n,l,g⟩=>?_) m;subst ex;obtain rfl:t=Value.ref a:=v;exact Bq k z c n l w λJ B=>⟨d,_,B,g⟩
inductive UE (x:V) (y:V) (H:Hp) (Q:VK):Prop
 |mk (i j:Int):x=.int i->y=.int j->Q (.int (i+ j)) H->UE x y H Q
inductive UG (x:V) (y:V) (H:Hp) (Q:VK):Prop
 |mk (i j:Int):x=.int i->y=.int j->Q (.int (i - j)) H->UG x y H Q
end
section
variable {X:Cx}{pins:List (Addr×Obj)}{σ:St}{H:Hp}{s:Shared}{A:Around}{E:Value->Shared->Prop}{Q:Value->Shared->Prop}{c:Value}{b:Bool}
inductive i6 (K:Za1) (H:Hp):V->Value->Prop where
 |non:i6 K H .non (.type "NoneType")
 |bl (x:Bool):i6 K H (.bl x) (.type "bool")
 |int (i:Int):i6 K H (.int i) (.type "int")
 |str (x:Str):i6 K H (.str x) (.type "str")
 |xZ (x:UInt64):i6 K H (.xZ x) (.type "float")
 |lst {a:Addr} {xs:List V} (e:H a=some (.lst xs)):i6 K H (.ref a) (.type "list")
 |cQ {a:Addr} {o:Obj} {xs:List V} (e:H a=some (.cQ o (.lst xs))):i6 K H (.ref a) (.type "list")
 |tup {a:Addr} {xs:List V} (e:H a=some (.tup xs)):i6 K H (.ref a) (.type "tuple")
 |dK {a:Addr} {kvs:List (Key×V)} (e:H a=some (.dK kvs)):i6 K H (.ref a) (.type "dict")
 |dT {a:Addr} {kvs:List (List Key×V)} (e:H a=some (.dT kvs)):i6 K H (.ref a) (.type "dict")
 |ins {a C dx:Addr} {fs:List (Str×V)} (e:H a=some (.ins C dx fs)) (cl:lU K C) (ha:PySem.W.findIn K (.ref C) "__class__"=some (some (.builtin "object.__class__")))
  (hn:PySem.W.specialIn K (.builtin "object.__class__") "__get__"=some (some (.builtin "getset_descriptor.__get__"))) (htk:PySem.W.takesIn K (.builtin "object.__class__")=some true)
  (hm:PySem.W.mroIn K C (.type "object")=some true):i6 K H (.ref a) (.ref C)
theorem C1 {x:V}(I:Inv X pins σ H s)(d:RelV x u)(G:i6 X.K H x v)(e:PySem.W.kitOne X.K v c=some b)(h:∀F,Q (.bool b) { s with toks:=F }):
 wpAny (model X.prog X.w) A (call (.builtin "isinstance") [u,c]) Q E s:=by
 cases G with
 |non=>cases (show u=Value.none from d);exact acJ PySem.W.kitx_none I.da True.intro e (λz=>nomatch z) h
 |bl y=>cases (show u=Value.bool y from d);exact acJ PySem.W.kitx_bool I.da True.intro e (λz=>nomatch z) h
 |int i=>obtain⟨v,q⟩:=(show ∃v,u=Value.int i v from d);cases q;exact acJ PySem.W.kitx_int I.da True.intro e (λz=>nomatch z) h
 |str y=>obtain⟨v,q⟩:=(show ∃v,u=Value.str y v from d);cases q;exact acJ PySem.W.kitx_str I.da True.intro e (λz=>nomatch z) h
 |xZ y=>obtain⟨v,q⟩:=(show ∃v,u=Value.float y v from d);cases q;exact acJ PySem.W.kitx_float I.da True.intro e (λz=>nomatch z) h
 | @lst a k f=>
   cases (show u=Value.ref a from d);obtain⟨_,_,n,_,g⟩:=(show bU X.prog X.w H s.heap a (.lst k) from I.aO a _ f);exact acJ PySem.W.kitx_list I.da ⟨_,g,rfl⟩ e (λz=>nomatch z) h
 | @cQ a w k f=>
   cases (show u=Value.ref a from d);obtain⟨_,_,_,n,_,g⟩:=(show bU X.prog X.w H s.heap a (.cQ w (.lst k)) from I.aO a _ f);exact acJ PySem.W.kitx_list I.da ⟨_,g,rfl⟩ e (λz=>nomatch z) h
 | @tup a k f=>
   cases (show u=Value.ref a from d);obtain⟨_,_,_,p⟩:=(show bU X.prog X.w H s.heap a (.tup k) from I.aO a _ f);obtain⟨o,g,l,_⟩:=p;exact acJ PySem.W.kitx_tuple I.da ⟨o,g,l⟩ e (λz=>nomatch z) h
 | @dK a j f=>
   cases (show u=Value.ref a from d);obtain⟨_,_,N,_,p⟩:=(show bU X.prog X.w H s.heap a (.dK j) from I.aO a _ f);obtain⟨o,D,B,g,l,_⟩:=p;exact acJ PySem.W.kitx_dict I.da ⟨o,g,l.1⟩ e (λz=>nomatch z) h
 | @dT a j f=>
   cases (show u=Value.ref a from d);obtain⟨_,_,k,_,o,D,B,g,l,_⟩:=(show bU X.prog X.w H s.heap a (.dT j) from I.aO a _ f);exact acJ PySem.W.kitx_dict I.da ⟨o,g,l.1⟩ e (λz=>nomatch z) h
 | @ins a C M fs f cl L t m r=>
   cases (show u=Value.ref a from d);obtain⟨P,O,_⟩:=rE I.aO f;obtain⟨R,J,_⟩:=O.look;exact acJ (PySem.W.kitx_own (cl.get _) cl.hd L t m r) I.da J e (λz=>nomatch z) h
end
structure df (k:Nat) (A:Around):Prop where
 hd:A.handled=none
 dp:A.depth+ 3* k+ 5<recursionLimit
 un:A.units+ 16* k+ 200<cLine
theorem df.mono {k:Nat}(r:df k A)(h:j<=k):df j A:=⟨r.hd,by have:=r.dp;omega,by have:=r.un;omega⟩
theorem df.Za5 {j k:Nat}{A:Around}(r:df k A)(h:j<=k:=by decide):df j A:=r.mono h
theorem df.deeper {k:Nat}(r:df (k+ 1) A)(env:Env):df k (A.deeper env):=
 ⟨r.hd,by have:=r.dp;show A.depth+ 1+ 3* k+ 5<_;omega,by have:=r.un;show A.units+ 3+ 16* k+ 200<_;omega⟩
theorem Br {b:List (Str×Value)}:(A.under (.builtin "type.__call__" ⟨.ref a::N,b⟩)).depth=A.depth+ 1:=by
 first|rfl|simp[Around.under,Code.weight,Code.isCreation,Code.isGuard,Code.isCaller,Code.frames,Code.isFrame,guardIds]
theorem Bs {b:List (Str×Value)}:(A.under (.builtin "type.__call__" ⟨.ref a::N,b⟩)).units=A.units+ 1:=by
 first|rfl|simp[Around.under,Code.cUnits,Code.frames,Code.isFrame]
theorem df.make {k:Nat}(r:df (k+ 1) A)(C:Addr)(b:List Value)(a:List (Str×Value)):df k (A.under (.builtin "type.__call__" ⟨.ref C::b,a⟩)):=
 ⟨r.hd,by have:=r.dp;rw[Br];omega,by have:=r.un;rw[Bs];omega⟩
theorem df.depth {k:Nat}(r:df k A):A.depth<recursionLimit:=by have:=r.dp;omega
theorem df.units {k:Nat}(r:df k A):A.units+ 64<cLine:=by have:=r.un;omega
def vH:TA:=λ_ H Q=>Q [] H
def uk (e:TE)(tr:TA):TA:=λ a H Q=>e a H λx d=>tr a d λb c=>Q (x::b) c
section
variable {X:Cx}{e:Expr}{es:List Expr}{te:TE}{t:TA}{pos:Pos}
theorem aj:PA X [] vH:=λ_ _ _ _ H Q I h=>ac5 ⟨[],H,I,.nil,h⟩
theorem ae (q:PE X e te)(o:PA X es t)(j:starEach (e::es) X.env=(false,eval e X.env)::starEach es X.env:=by rfl):PA X (e::es) (uk te t):=by
 intro pos a s b H Q I h;rw[j];refine acq (a8 (q a s b H _ I h) λu g ⟨x,n,k,l,f⟩=>?_);exact a8 (o pos a g b n _ k f) λr v ⟨d,m,i,p,c⟩=>⟨x::d,m,i,.cons l p,c⟩
inductive LZ (xs:List V) (H:Hp) (Q:VK):Prop
 |mk:xs.length<=sizeLine->(∀p,H p=none->Q (.ref p) (upd H p (.tup xs)))->LZ xs H Q
def UH (t:TA):TE:=λ b H Q=>t b H λa c=>LZ a c Q
inductive L0 (xs:List V) (H:Hp) (Q:VK):Prop
 |mk:xs.length<=sizeLine->(∀p,H p=none->Q (.ref p) (upd H p (.lst xs)))->L0 xs H Q
def UI (t:TA):TE:=λ b H Q=>t b H λa c=>L0 a c Q
theorem cV {i}(h:PA X es t):PE X (.Tuple es i pos) (UH t):=by
 intro a s l H Q I k;refine wpAny_Tuple_spliced (a8 (h pos a s l H _ I k) λg s1 ⟨f,d,c,r,z,q⟩=>⟨by rw[<-r.length];exact z,?_⟩);have j:d s1.heap.objs.size=none:=c.aO.fresh (abr _);refine⟨.ref s1.heap.objs.size,upd d s1.heap.objs.size (.tup f),c.laid (t':=s1.toks) (λb u e=>abl _ e) (abr _) ?_,rfl,q _ j⟩;exact⟨z,g,r,⟨_,abF _ rfl,rfl,_,rfl⟩⟩
theorem cD (h:PA X es t):PE X (.List es pos) (UI t):=by
 intro a s k H Q I j;refine wpAny_List_spliced (a8 (h pos a s k H _ I j) λg s1 ⟨f,d,c,r,z,q⟩=>⟨by rw[<-r.length];exact z,?_⟩);have i:d s1.heap.objs.size=none:=c.aO.fresh (abr _);refine⟨.ref s1.heap.objs.size,upd d s1.heap.objs.size (.lst f),c.laid (t':=s1.toks) (λb u e=>abl _ e) (abr _) ?_,rfl,q _ i⟩;exact⟨z,g,0,r,abF _ rfl⟩
end
abbrev Sp:=List V->Hp->VK->XK->Prop
abbrev lV:=List Env->Hp->Shared->XK->Value->Shared->Prop
structure tF (P:Program) (w:World) (K:Za1) (mg:Str->Option Value) (base:Heap) (A:Around) (outer:List Env) (s:Shared) (H:Hp):Prop where
 frames:A.frames=some outer
 mod:Mod K mg base
 bs:∀b o,base.get? b=some o->s.heap.get? b=some o/\H b=none
 sC:base.objs.size<=s.heap.objs.size
 iY:s.heap.FunFrames base outer
 ud:∀b∈cH outer,H b=none
 aO:dg P w H s.heap
 bare:AllBare s.gens
def CE (a:List Env)(P:Program)(w:World)(H:Hp)(s:Shared)(Q:VK)(u:Value)(b:Shared):Prop:=
 ∃v c,b.os=s.os/\AllBare b.gens/\Un (cH a) [] H c s.heap b.heap/\dg P w c b.heap/\RelV v u/\Q v c
def CR (c:lV)(a:List Env)(P:Program)(w:World)(H:Hp)(s:Shared)(Q:VK)(E:XK)(r:Result)(b:Shared):Prop:=
 match r with
 |.ok (.ret u)=>CE a P w H s Q u b
 |.ok _=>False
 |.error e=>c a H s E e b
structure bj (P:Program) (w:World) (K:Za1) (mg:Str->Option Value) (base:Heap) (CX:lV) (k:Nat) (f:Addr) (fd:FuncData) (ps:List Str) (sp:Sp):Prop where
 len:∀vs H Q E,sp vs H Q E->vs.length=ps.length
 run:∀(A:Around) (outer:List Env) (s:Shared) (H:Hp) (args:Args) (us:List Value) (vs:List V) (Q:VK) (E:XK),df k A->tF P w K mg base A outer s H->BindsTo s fd args (ps.zip us)->Vals vs us->sp vs H Q E->
  codeAny (model P w) A (.call (.ref f) args) (CR CX outer P w H s Q E) s
theorem tF.make {mg:Str->Option Value}{base:Heap}{outer:List Env}(e:tF P w K mg base A outer s H)(C:Addr)(b:List Value)(a:List (Str×Value)):
 tF P w K mg base (A.under (.builtin "type.__call__" ⟨.ref C::b,a⟩)) outer s H:=⟨by first|exact e.frames|(simpa [Around.under,Code.envs,Code.isFrame,pushEnvs] using e.frames),e.mod,e.bs,e.sC,e.iY,e.ud,e.aO,e.bare⟩
section
variable {X:Cx}{pins:List (Addr×Obj)}{σ:St}{H:Hp}{s s':Shared}
theorem Inv.Bu (I:Inv X pins σ H s):tF X.prog X.w X.K X.mg X.base X.A X.stack s H:=
 ⟨I.ok.frames,I.ok.mod,I.bs,abB I.ok.sC I.sz,I.stack,I.rD,I.aO,I.bare⟩
theorem Inv.after {Q:VK}(I:Inv X pins σ H s)(h:CE X.stack X.prog X.w H s Q u s'):EP X pins σ Q u s':=by
 obtain⟨v,e,os,bare,un,aO,r,q⟩:=h;obtain⟨c,g,d,t,a⟩:=s';obtain rfl:a=s.os:=os;exact⟨v,e,I.call (h':=c) (g':=g) (d':=d) (t':=t) (ch:=[]) un aO bare (λb z=>absurd z (by simp)),r,q⟩
end
def Qi (e:Sp)(a:List V)(E:XK)(t:TA):TE:=λ b H Q=>t b H λd c=>e (d++a) c Q E
inductive L1 (C:Addr) (m:Str) (sp:Sp) (dvs:List V) (E:XK) (t:TA) (σ:St) (x:V) (H:Hp) (Q:VK):Prop
 |mk (a dx:Addr) (fs:List (Str×V)):x=.ref a->H a=some (.ins C dx fs)->fs.lookup m=none->t σ H (λvs H2=>sp (x::(vs++dvs)) H2 Q E)->L1 C m sp dvs E t σ x H Q
def Bv (C:Addr)(m:Str)(e:Sp)(a:List V)(E:XK)(c:TE)(t:TA):TE:=λ b H Q=>c b H λx d=>L1 C m e a E t b x d Q
def Qj (C:Addr)(g:Sp)(c:List V)(E:XK)(t:TA):TE:=λ d H Q=>t d H λf b=>∀x a,b x=none->b a=none->a≠x->
 g (.ref x::(f++c)) (upd (upd b a (.own x)) x (.ins C a [])) (λv e=>v=.non/\Q (.ref x) e) E
def Binds (K:Za1)(fd:FuncData)(c:List Str)(b:List Value):Prop:=
 ∀(s:Shared) (a:List Value),K.In s.heap->(a++b).length=c.length->BindsTo s fd ⟨a,[]⟩ (c.zip (a++b))
theorem Binds.all {fd:FuncData}(h:∀us:List Value,us.length=Z.length->bindArgs fd ⟨us,[]⟩=pure (Z.zip us)):Binds K fd Z []:=λs us _ a=>by
 rw[abO]at a ⊢;exact .of_eq (h us a)
def Passes (d:lV)(X:Cx)(E:XK):Prop:=∀(a:List (Addr×Obj)) (c:St) (H:Hp) (s:Shared) (e:Value) (b:Shared),Inv X a c H s->d X.stack H s E e b->X.xe e b
section
variable {X:Cx}{CX:lV}{k:Nat}{f C:Addr}{fd:FuncData}{ps:List Str}{sp:Sp}{dvs:List V}{ds:List Value}{E:XK}{x m:Str}{p pos apos:Pos}{e o:Expr}{es:List Expr}{ta:TE}{t:TA}
theorem yf {a:List (Addr×Obj)}{Q:VK}{us:List Value}{vs:List V}(F:bj X.prog X.w X.K X.mg X.base CX k f fd ps sp)(i:df k X.A)(j:Binds X.K fd ps ds)(n:Vals dvs ds)(g:Passes CX X E)
 (I:Inv X a D H s) (r:Vals vs us) (h:sp (vs++dvs) H Q E):wpAny (model X.prog X.w) X.A (call (.ref f) us) (EP X a D Q) X.xe s:=by
 have c:Vals (vs++dvs) (us++ds):=r.append n;have d:(us++ds).length=ps.length:=by rw[<-c.length];exact F.len _ _ _ _ h
 refine aeD (adW (F.run X.A X.stack s H ⟨us,[]⟩ (us++ds) (vs++dvs) Q E i I.Bu (j s us I.da d) c h) λr q b=>?_)
 cases r with
 |error e=>exact g a D H s e q I b
 |ok l=>
  cases l with
  |ret u=>exact I.after b
  |next=>exact False.elim b
  |brk=>exact False.elim b
  |cont=>exact False.elim b
theorem bA (F:bj X.prog X.w X.K X.mg X.base CX k f fd ps sp)(l:df k X.A)(y:Gl X x)(i:X.mg x=some (.ref f))(A:PySem.W.keepIn X.K (.ref f)=true)(n:Binds X.K fd ps ds)(u:Vals dvs ds)(j:Passes CX X E)
 (z:PA X (e::es) t) (b:(x==("__debug__":Str))=false:=by decide) (w:starEach (e::es) X.env=(false,eval e X.env)::starEach es X.env:=by rfl) (c:(backTo pos (starEach es X.env)).any (·.1)=false:=by rfl):
 PE X (.Call (.Name x p) (e::es) [] pos) (Qi sp dvs E t):=by
 intro a s v H Q I h;refine acI (jq I y i ?_ b);refine adU (h₀:=X.base) I.ok.mod.uc A (a8 (z pos a s v H _ I h) λB G ⟨D,J,d,r,q⟩=>⟨d.da,?_⟩) w c;exact yf F l n u j d r q
theorem bB {pl:Sem Bool}(R:PE X o ta)(c:lU X.K C)(hm:Meth X.K C m f)(F:bj X.prog X.w X.K X.mg X.base CX k f fd ps sp)(J:df k X.A)(L:Binds X.K fd ps ds)(O:Vals dvs ds)(G:Passes CX X E)(S:PA X (e::es) t)
 (d:starEach (e::es) X.env=(false,eval e X.env)::starEach es X.env:=by rfl) (g:(backTo pos (starEach es X.env)).any (·.1)=false:=by rfl)
 (P:eval (.Call (.Attribute o m apos) (e::es) [] pos) X.env=(do
  let w <-eval o X.env
  standAt apos.atName
  let (f,first) <-holding [w] (getMethod w m pl)
  callWith pos f first (backTo pos (starEach (e::es) X.env)) (backToKw pos (keywordEach [] X.env))):=by rfl):
 PE X (.Call (.Attribute o m apos) (e::es) [] pos) (Bv C m sp dvs E ta t):=by
 intro b s y H Q I h;refine PySem.W.methodCall_KW (pl:=pl) (a8 (R b s y H _ I h) λu B ⟨x,D,v,M,a,T,fs,ex,N,l,q⟩=>?_) P;subst ex;obtain rfl:u=Value.ref a:=M;refine uj v N c hm l ?_;refine adU (first:=[.ref a]) (h₀:=X.base) I.ok.mod.uc hm.kp (a8 (S pos b B y D _ v q) λi W ⟨j,U,n,r,A⟩=>⟨n.da,?_⟩) d g;exact yf (us:=.ref a::i) (vs:=.ref a::j) F J L O G n (.cons rfl r) A
theorem ie {pl:Sem Bool}(A:PE X o ta)(c:lU X.K C)(hm:Meth X.K C m f)(F:bj X.prog X.w X.K X.mg X.base CX k f fd ps sp)(j:df k X.A)(n:Binds X.K fd ps ds)(w:Vals dvs ds)(i:Passes CX X E)
 (z:eval (.Call (.Attribute o m apos) [] [] pos) X.env=(do
  let g <-eval o X.env
  standAt apos.atName
  let (f,first) <-holding [g] (getMethod g m pl)
  callWith pos f first (backTo pos (starEach [] X.env)) (backToKw pos (keywordEach [] X.env))):=by rfl):
 PE X (.Call (.Attribute o m apos) [] [] pos) (Bv C m sp dvs E ta vH):=by
 intro b s y H Q I h;refine PySem.W.methodCall_KW (pl:=pl) (a8 (A b s y H _ I h) λu J ⟨x,L,d,r,a,D,fs,ex,v,l,q⟩=>?_) z;subst ex;obtain rfl:u=Value.ref a:=r;refine uj d v c hm l ?_;exact PySem.W.callWith_K0 (first:=[.ref a]) d.da hm.kp (yf (us:=[.ref a]) (vs:=[.ref a]) F j n w i d (.cons rfl .nil) q)
structure Mk (K:Za1) (C f:Addr):Prop where
 makes:PySem.W.makesIn K C=true
 init:PySem.W.findIn K (.ref C) "__init__"=some (some (.ref f))
 fn:PySem.W.isFn K (.ref f)=true
 kp:PySem.W.keepIn K (.ref C)=true
theorem FG {a:List (Addr×Obj)}{Q:VK}(M:Mk X.K C f)(F:bj X.prog X.w X.K X.mg X.base CX k f fd ps sp)(w:df (k+ 1) X.A)(y:Binds X.K fd ps ds)(G:Vals dvs ds)
 (q:Passes CX X E) (I:Inv X a D H s) (r:Vals L N)
 (h:∀x c,H x=none->H c=none->c≠x->sp (.ref x::(L++dvs)) (upd (upd H c (.own x)) x (.ins C c [])) (λv n=>v=.non/\Q (.ref x) n) E):
 wpAny (model X.prog X.w) X.A (call (.ref C) N) (EP X a D Q) X.xe s:=by
 have g:=h (s.heap.objs.size+ 1) s.heap.objs.size (I.aO.fresh (ado _)) (I.aO.fresh (abr _)) (abV (acL _));have d:=Inv.made (C:=C) I;have i:Vals (V.ref (s.heap.objs.size+ 1)::(L++dvs)) (Value.ref (s.heap.objs.size+ 1)::(N++ds)):=.cons rfl (r.append G)
 have l:(Value.ref (s.heap.objs.size+ 1)::N++ds).length=ps.length:=by
  have e:=i.length;rw[F.len _ _ _ _ g]at e;exact e.symm
 refine aeD (FE (f:=f) I.da M.makes M.init (aeC.mp M.fn) (adW (F.run _ X.stack _ _ ⟨Value.ref (s.heap.objs.size+ 1)::N,[]⟩ (Value.ref (s.heap.objs.size+ 1)::(N++ds)) _ _ E (w.make C N [])
  (d.Bu.make C N []) (y _ (Value.ref (s.heap.objs.size+ 1)::N) d.da l) i g) λr J b=>?_))
 cases r with
 |error e=>exact q a D _ _ e J d b
 |ok z=>
  cases z with
  |ret u=>
   obtain⟨v,O,P,j,A,B⟩:=d.after b;subst A;exact⟨j,⟨V.ref (s.heap.objs.size+ 1),O,P,rfl,B⟩⟩
  |next=>exact False.elim b
  |brk=>exact False.elim b
  |cont=>exact False.elim b
theorem vI (M:Mk X.K C f)(F:bj X.prog X.w X.K X.mg X.base CX k f fd ps sp)(l:df (k+ 1) X.A)(y:Gl X x)(i:X.mg x=some (.ref C))(n:Binds X.K fd ps ds)(u:Vals dvs ds)(j:Passes CX X E)
 (z:PA X (e::es) t) (b:(x==("__debug__":Str))=false:=by decide) (w:starEach (e::es) X.env=(false,eval e X.env)::starEach es X.env:=by rfl) (c:(backTo pos (starEach es X.env)).any (·.1)=false:=by rfl):
 PE X (.Call (.Name x p) (e::es) [] pos) (Qj C sp dvs E t):=by
 intro a s v H Q I h;refine acI (jq I y i ?_ b);refine adU (h₀:=X.base) I.ok.mod.uc M.kp (a8 (z pos a s v H _ I h) λA D ⟨B,G,d,r,q⟩=>⟨d.da,?_⟩) w c;exact FG M F l n u j d r q
end
def PK (X:Cx)(kws:List Keyword)(t:TA):Prop:=
 ∀(c:Pos) (a:List (Addr×Obj)) (s:Shared) (b:St) (H:Hp) (Q:List V->Hp->Prop),Inv X a b H s->t b H Q->wpAny (model X.prog X.w) X.A (evalAll ((backToKw c (keywordEach kws X.env)).map (·.2))) (AP X a b Q) X.xe s
section
variable {X:Cx}{fd:FuncData}{ps ks:List Str}{x:Str}{pos UJ:Pos}{e:Expr}{kws:List Keyword}{te:TE}{t:TA}{nm:Option Str}
theorem L3:PK X [] vH:=λ_ _ _ _ H Q I h=>wpAny_evalAll_nil ⟨[],H,I,.nil,h⟩
theorem JP (y:PE X e te)(v:PK X kws t):PK X (⟨nm,e,UJ⟩::kws) (uk te t):=by
 intro pos a s b H Q I h;refine wpAny_evalAll_cons (abi (a8 (y a s b H _ I h) λu i ⟨x,r,l,n,g⟩=>abi (ad8 (abq ?_))));exact a8 (v pos a i b r _ l g) λz A ⟨d,q,j,w,c⟩=>⟨x::d,q,j,.cons n w,c⟩
structure VF (K:Za1) (fd:FuncData) (ps ks:List Str) (g:List Value->List Value->List Value) (gV:List V->List V->List V):Prop where
 to:∀(s:Shared) (us ws:List Value),K.In s.heap->(g us ws).length=ps.length->BindsTo s fd ⟨us,ks.zip ws⟩ (ps.zip (g us ws))
 rel:∀{vs:List V} {us:List Value} {zs:List V} {ws:List Value},Vals vs us->Vals zs ws->Vals (gV vs zs) (g us ws)
end
structure aX (N P:List Str) (sc:Scope):Prop where
 kind:sc.kind=.function
 co:sc.isCoroutine=false
 gen:sc.isGenerator=false
 nd:N.Nodup
 pre:N.take P.length=P
 par:∀x∈P,sc.names.lookup x=some .local\/sc.names.lookup x=some .cell
 L4:∀y∈sc.names,y.2≠.free
theorem wy {kindOf:Str->Option NameKind}:∀{binds:List (Str×Value)} {m:Str->Option Value},(∀v,(x,v)∉binds)->bindL kindOf binds m x=m x
 |[],_,_=>rfl
 |(n,v)::r,m,h=>by
  unfold bindL;rw[wy λw a=>h w (abR _ a)];split
  ·grind
  ·rfl
theorem wz {kindOf:Str->Option NameKind}:∀{binds:List (Str×Value)} {m:Str->Option Value},(∀v,(x,v)∉binds)->bindC kindOf binds m x=m x
 |[],_,_=>rfl
 |(n,v)::r,m,h=>by
  unfold bindC;rw[wz λw a=>h w (abR _ a)];split
  ·rfl
  grind
theorem wA {kindOf:Str->Option NameKind}{x:Str}{v:Value}:∀{P:List Str} {a:List Value} {i:Nat} {m:Str->Option Value},P.Nodup->P[i]?=some x->a[i]?=some v->kindOf x=some .local->
 bindL kindOf (P.zip a) m x=some v
 |[],_,_,_,_,h,_,_=>by simp at h
 |_::_,[],_,_,_,_,h,_=>by simp at h
 |p::P,w::a,0,m,d,b,c,e=>by
  simp at b c;subst b;subst c;show bindL kindOf ((p,w)::P.zip a) m p=_;unfold bindL;rw[wy λv f=>(ab0.mp d).1 (List.of_mem_zip f).1,abN e];simp
 |p::P,w::a,i+ 1,m,d,b,c,e=>by
  unfold bindL;exact wA (i:=i) (ab0.mp d).2 (by simpa using b) (by simpa using c) e
theorem wB {kindOf:Str->Option NameKind}{x:Str}{v:Value}:∀{P:List Str} {a:List Value} {i:Nat} {m:Str->Option Value},P.Nodup->P[i]?=some x->a[i]?=some v->kindOf x≠some .local->
 bindC kindOf (P.zip a) m x=some v
 |[],_,_,_,_,h,_,_=>by simp at h
 |_::_,[],_,_,_,_,h,_=>by simp at h
 |p::P,w::a,0,m,d,b,c,e=>by
  simp at b c;subst b;subst c;show bindC kindOf ((p,w)::P.zip a) m p=_;unfold bindC;rw[wz λv f=>(ab0.mp d).1 (List.of_mem_zip f).1,abH e];simp
 |p::P,w::a,i+ 1,m,d,b,c,e=>by
  unfold bindC;exact wB (i:=i) (ab0.mp d).2 (by simpa using b) (by simpa using c) e
def start (N:List Str)(a:List V):St:=a.map some++List.replicate (N.length - a.length) none
def dG (c:lV)(P:Program)(w:World)(K:Za1)(mg:Str->Option Value)(base:Heap)(N:List Str)(qual:Str)(scope:Scope)(f:Addr)(b:Value)(A:Around)(outer:List Env)(s:Shared)(H:Hp)(E:XK):Cx where
 prog:=P
 w:=w
 K:=K
 mg:=mg
 base:=base
 A:=A.deeper (envOfC qual scope s.heap.objs.size f b)
 N:=N
 dP:=s
 tj:=H
 env:=envOfC qual scope s.heap.objs.size f b
 outer:=outer
 stack:=envOfC qual scope s.heap.objs.size f b::outer
 ex:=[]
 calm:=true
 fn:=λ_=>true
 pn:=[]
 xe:=λe d=>wpAny (model P w) (A.deeper (envOfC qual scope s.heap.objs.size f b)) (leaving (envOfC qual scope s.heap.objs.size f b) e) (λ_ a=>c outer H s E e a) (λg a=>c outer H s E g a) d
theorem yg {sc:Scope}(h:sc.names.lookup x=some .cell):∃c,(cellsFrom n sc.names []).lookup x=some c:=by
 have q:=PySem.W.cellsFrom_some sc.names n [] (.inl h);exact aej.mp q
theorem C2 {J:lV}{base:Heap}{N:List Str}{qual:Str}{scope:Scope}{f:List Env}{E:XK}{F:List Value}
 (S:aX N Z scope) (T:A.handled=none) (j:tF P w K M base A f s H) (W:L.length=Z.length) (r:Vals L F)
 (x:InCallC s s.heap.objs.size (bindL (envOfC qual scope s.heap.objs.size a v).kindOf (Z.zip F) λ_=>none) (cellsFrom (s.heap.objs.size+ 1) scope.names []) (bindC (envOfC qual scope s.heap.objs.size a v).kindOf (Z.zip F) λ_=>none) t):
 Inv (dG J P w K M base N qual scope a v A f s H E) [] (start N L) H t:=by
 have R:Z.length<=N.length:=by have:=ade List.length S.pre;rw[abZ]at this;omega
 obtain⟨D,X,rfl,O⟩:=x.done;have l:∀b:Addr,b∉(dG J P w K M base N qual scope a v A f s H E).ex:=λb z=>absurd (show b∈([]:List Addr) from z) (by simp)
 refine⟨⟨j.mod,S.kind,rfl,rfl,abr _,λy z c D m=>?_,λy B=>?_,λy c _ h=>?_,λ_=>T,Around.frames_deeper j.frames,.inr ⟨rfl,rfl⟩,λb z=>absurd z (l b),j.bs,j.sC,λb _ _=>l b,λb z=>absurd z (l b),j.iY,j.ud⟩,
  rfl,j.bare,Un.kept O,⟨_,x.toInCall.ns,λi y d D m Y=>?_⟩,λy c h=>⟨_,x.cell y c h⟩,j.aO.fresh (abr _),λy c h=>?_,λp o=>absurd (show p∈([]:List (Addr×Obj)) from o) (by simp),j.aO.kept O,?_⟩
 ·exact name_of_addr x.apart (acP D) (acP m)
 ·rcases B with B|B
  ·exact yg B
  ·exact absurd rfl (S.L4 _ (acP B))
 ·exact aeK (x.above y c (acP h))
 ·have G:i<L.length:=by
   unfold start at m;by_cases G:i<L.length
   ·exact G
   ·grind
  have U:L[i]?=some d:=by
   unfold start at m;rw[abu (by simpa using G),aby]at m
   cases e:L[i]? with
   |none=>rw[e]at m;cases m
   |some g=>grind
  obtain⟨u,I,Q⟩:=r.get U
  have o:Z[i]?=some y:=by
   rw[<-S.pre,aek (by omega)];exact D
  have C:Z.Nodup:=by rw[<-S.pre];exact S.nd.sublist (List.take_sublist _ _)
  refine⟨u,Q,?_⟩;rcases S.par y (abn o) with k|k
  ·exact .inl ⟨k,wA C o I k⟩
  ·obtain⟨c,e⟩:=yg (n:=s.heap.objs.size+ 1) k;refine .inr ⟨.inl k,c,e,?_⟩;have q:=x.cell y c e;rw[wB C o I (by show scope.names.lookup y≠_;grind)]at q;exact q
 ·exact j.aO.fresh (aeK (x.above y c (acP h)))
 ·unfold start;show _=N.length;rw[abj,abo,List.length_replicate];omega
theorem HG {z:lV}{base:Heap}{k:Nat}{name qual:Str}{params:Arguments}{body:List Stmt}{scope:Scope}{R kV doc W d U oc:Value}{X od:Option Addr}
 {G:Array (Option Value)} {N B:List Str} {L:Sp} (lk:K.lookup a=some ⟨oc,od,.func (PySem.W.fnOf name qual params body scope R kV doc W X d U),G⟩) (F:PySem.W.codeIn K d qual=true) (S:aX N B scope)
 (len:∀f H Q E,L f H Q E->f.length=B.length)
 (j:∀(A:Around) (c:List Env) (s:Shared) (H:Hp) (f:List V) (Q:VK) (E:XK),df k (A.deeper (envOfC qual scope s.heap.objs.size a d))->L f H Q E->
  ∃t,kH (dG z P w K M base N qual scope a d A c s H E) body t/\t { nx:=λ_ h=>Q .non h,rt:=Q } (start N f) H):
 bj P w K M base z (k+ 1) a (PySem.W.fnOf name qual params body scope R kV doc W X d U) B L:=by
 refine⟨len,λA c s H Z us f Q E D p hb r m=>?_⟩;have hl:=len _ _ _ _ m;have Y:K.In s.heap:=p.mod.uc.keeps λb o e=>(p.bs b o e).1
 have lim:s.heap.NoLimit:=p.mod.nolimit.keeps λb o e=>(p.bs b o e).1
 have i:∀y∈B.zip us,scope.names.lookup y.1=some .local\/(scope.names.lookup y.1=some .cell/\((cellsFrom (s.heap.objs.size+ 1) scope.names []).lookup y.1).isSome=true):=λ⟨n,v⟩ hy=>by
  rcases S.par n (List.of_mem_zip hy).1 with q|q
  ·exact .inl q
  ·exact .inr ⟨q,PySem.W.cellsFrom_some _ _ _ (.inl q)⟩
 refine codeAny_call_function D.depth (Y _ _ lk) rfl S.co S.gen rfl (PySem.W.codeRec_of Y F) (hb _ _ _ _ ?_);refine wpAny_newFunctionEnv_cells S.kind i λenv he T x=>?_
 subst he;refine⟨lim.keeps x.toInCall.keep,codeAny_func ?_⟩;obtain⟨t,ht,hq⟩:=j A c s H f Q E (D.deeper _) m;have I:Inv (dG z P w K M base N qual scope a d A c s H E) [] (start N f) H T:=C2 S D.hd p hl r x;refine acv (ht [] T (start N f) H _ I hq) (λfl O l=>?_) λe O l=>l
 have fin:∀{g:St} {h:Hp} {v:V} {u:Value},Inv (dG z P w K M base N qual scope a d A c s H E) [] g h O->RelV v u->Q v h->CE c P w H s Q u O:=
  λ{g h v u} J C q=>⟨v,h,J.os,J.bare,J.base,J.aO,C,q⟩
 cases fl with
 |ret u=>
  obtain⟨v,g,h,J,C,q⟩:=l;exact fin J C q
 |next=>
  obtain⟨g,h,J,q⟩:=l;exact fin (v:=V.non) (u:=Value.none) J rfl q
 |brk=>
  obtain⟨_,_,_,q⟩:=l;exact False.elim q
 |cont=>
  obtain⟨_,_,_,q⟩:=l;exact False.elim q
section
variable {X:Cx}{x:Str}{p pos:Pos}{e:Expr}{es:List Expr}{t:TA}{id T:String}{r:List V->Hp->VK->Prop}
def Rp (r:List V->Hp->VK->Prop)(t:TA):TE:=λ a H Q=>t a H λc b=>r c b Q
theorem bx (q:fX X (.builtin id) r)(w:Gl X x)(f:X.mg x=none)(j:bootBuiltins x=some (.builtin id))(y:PA X (e::es) t)(g:x≠"__name__":=by decide)(b:(x==("__debug__":Str))=false:=by decide)
 (v:starEach (e::es) X.env=(false,eval e X.env)::starEach es X.env:=by rfl) (c:(backTo pos (starEach es X.env)).any (·.1)=false:=by rfl):PE X (.Call (.Name x p) (e::es) [] pos) (Rp r t):=by
 intro a s d H Q I h;refine acI (gU I w f j ?_ g b);exact PyProof.Rows.callWith_builtin1 (a8 (y pos a s d H _ I h) λi m ⟨l,u,n,o,k⟩=>q a m d u l i Q n o k) v c
theorem dc (q:fX X (.type T) r)(w:Gl X x)(f:X.mg x=none)(j:bootBuiltins x=some (.type T))(y:PA X (e::es) t)(g:x≠"__name__":=by decide)(b:(x==("__debug__":Str))=false:=by decide)
 (v:starEach (e::es) X.env=(false,eval e X.env)::starEach es X.env:=by rfl) (c:(backTo pos (starEach es X.env)).any (·.1)=false:=by rfl):PE X (.Call (.Name x p) (e::es) [] pos) (Rp r t):=by
 intro a s d H Q I h;refine acI (gU I w f j ?_ g b);exact acw (a8 (y pos a s d H _ I h) λi m ⟨l,u,n,o,k⟩=>q a m d u l i Q n o k) v c
end
end L2
namespace HT
open PySem PyProof.Rows
def lexLt:List Int->List Int->Bool
 |[],[]=>false
 |[],_::_=>true
 |_::_,[]=>false
 |x::a,y::ys=>if x=y then lexLt a ys else decide (x<y)
section
variable {prog:Program}{w:World}{A:Around}{E:Value->Shared->Prop}{s:Shared}
theorem JQ {ws:List Value}(x:IsTup s.heap a N.toArray)(t:IsTup s.heap b ws.toArray)(m:N≠[])
 (y:ws=[]->Q (.ref a) s) (v:ws≠[]->Q (.ref s.heap.objs.size) { s with heap:=s.heap.push { cls:=.type "tuple",data:=.seq (N++ws).toArray } })
 (q:N.length+ ws.length<=sizeLine):wpAny (model prog w) A (binaryOp .Add (.ref a) (.ref b)) Q E s:=by
 obtain⟨⟨cls,k,data,o⟩,g,r,n,u⟩:=id x;obtain⟨⟨l,f,data2,d⟩,c,i,p,j⟩:=id t;subst r u i j;have e:N.toArray++ws.toArray=(N++ws).toArray:=by simp
 by_cases h:ws=[]
 ·exact concat_meets ⟨_,g,rfl⟩ ⟨_,c,rfl⟩ noFill_tuple_add seq_tuple_add aew aeo (ael _ _)
   (tuple_addW1 a b N.toArray ws.toArray n p k f o d (by simpa using m) (by simp[h])) ⟨g,c,y h⟩
 ·refine concat_meets ⟨_,g,rfl⟩ ⟨_,c,rfl⟩ noFill_tuple_add seq_tuple_add aew aeo (ael _ _)
   (tuple_addW2 a b N.toArray ws.toArray n p k f o d (by simpa using m) (by simpa using h) (by omega)) ⟨g,c,?_⟩
  rw[e];exact v h
def bX (n d:Nat):Option Int->Nat
 |none=>d
 |some v=>if v<0 then (v+ (n:Int)).toNat else min v.toNat n
theorem Al (n d k:Nat):bX n d (some (k:Int))=min k n:=by
 show (if (k:Int)<0 then ((k:Int)+ (n:Int)).toNat else min (k:Int).toNat n)=min k n;rw[abH (by omega),ab2]
theorem Am (v:Int)(n d:Nat):(if v<0 then max (v+ (n:Int)) 0 else min v (n:Int))=((bX n d (some v):Nat):Int):=by
 show (if v<0 then max (v+ (n:Int)) 0 else min v (n:Int))=(((if v<0 then (v+ (n:Int)).toNat else min v.toNat n):Nat):Int);by_cases a:v<0
 ·grind
 ·simp only[abH a];omega
theorem Bw (lo a:Option Int)(n:Nat):Builtin.Slice.sliceAdjust lo a 1 (n:Int)=(((bX n 0 lo:Nat):Int),((bX n n a:Nat):Int)):=by
 have b:¬((1:Int)<0):=by omega
 unfold Builtin.Slice.sliceAdjust;refine Prod.ext ?_ ?_
 ·cases lo with
  |none=>rfl
  |some v=>exact Am v n 0
 ·cases a with
  |none=>rfl
  |some v=>exact Am v n n
theorem Bx (i j:Nat):Builtin.Slice.slicePlaces (i:Int) (j:Int) 1=j - i:=by
 unfold Builtin.Slice.slicePlaces;have a:(1:Int) > 0:=by omega
 split <;> omega
theorem um {o:Option Int}{Q:Option Int->Shared->Prop}(p:IsPart v o)(h:Q o s):wpAny (model prog w) A (Builtin.Slice.slicePartIndex v) Q E s:=by
 cases p with
 |none=>exact slicePart_none h
 |int i t=>exact slicePart_int h
theorem kJ {lo b:Option Int}{Q:Int×Int×Nat->Shared->Prop}(e:s.heap.IsSliceOf a v u .none)(pl:IsPart v lo)(g:IsPart u b)
 (h:Q (((bX n 0 lo:Nat):Int),1,bX n n b - bX n 0 lo) s):wpAny (model prog w) A (Builtin.Slice.sliceApplied (.ref a) (pure (n:Int))) Q E s:=by
 obtain⟨os,d,f,c⟩:=id e;refine abi (abi (ace d c (x:=v) rfl (abi (ace d c (x:=u) rfl (abi (ace d c (x:=.none) rfl (abq ?_)))))));refine abi (slicePart_none ?_);refine abi (um pl (abi (um g (abi (abq ?_)))));show wpAny _ _ (match Builtin.Slice.sliceAdjust lo b 1 (n:Int) with|(lo,b)=>pure (lo,(1:Int),Builtin.Slice.slicePlaces lo b 1)) _ _ s;rw[Bw lo b n];show wpAny _ _ (pure (((bX n 0 lo:Nat):Int),(1:Int),Builtin.Slice.slicePlaces ((bX n 0 lo:Nat):Int) ((bX n n b:Nat):Int) 1)) _ _ s;rw[Bx];exact abq h
theorem FH (xs:Array Value)(i k:Nat):((List.range k).filterMap λ(m:Nat)=>xs[((i:Int)+ (m:Int)* 1).toNat]?).toArray=((xs.toList.drop i).take k).toArray:=by
 have e:(λ(m:Nat)=>xs[((i:Int)+ (m:Int)* 1).toNat]?)=λm=>xs[i+ m]?:=by
  funext m
  have:((i:Int)+ (m:Int)* 1).toNat=i+ m:=by omega
  rw[this]
 rw[e];have:=pick_run xs i k;rw[List.filterMap_map]at this;have a:((λx=>xs[x]?) ∘ λx=>i+ x)=λm=>xs[i+ m]?:=rfl
 grind
theorem sf {items:Array Value}{lo d:Option Int}(e:IsTup s.heap a items)(k:s.heap.IsSliceOf b v u .none)(pl:IsPart v lo)(l:IsPart u d)
 (o:¬(bX items.size 0 lo=0/\bX items.size items.size d=items.size))
 (h:Q (.ref s.heap.objs.size) { s with heap:=s.heap.push { cls:=.type "tuple",data:=.seq ((items.toList.drop (bX items.size 0 lo)).take (bX items.size items.size d - bX items.size 0 lo)).toArray } })
 (n:items.size<=sizeLine):wpAny (model prog w) A (getItem (.ref a) (.ref b)) Q E s:=by
 have c:sizeOk (.seq ((items.toList.drop (bX items.size 0 lo)).take (bX items.size items.size d - bX items.size 0 lo)).toArray):=by
  show ((items.toList.drop (bX items.size 0 lo)).take (bX items.size items.size d - bX items.size 0 lo)).toArray.size<=sizeLine;rw[abK,abZ,acy,ac4];omega
 obtain⟨os,i,g,p⟩:=id k;have f:s.TypeIs (.ref b) "slice":=⟨os,i,g⟩;unfold getItem
 try with_reducible refine acD ?_
 refine abi (wpAny_sequenceKey e.typeIs (by decide) ?_)
 refine abi (acf (name:=Str.ofString "__getitem__") e.typeIs ab3
  (acp ab3 e.typeIs entry_tuple_getitem ?_ (args_tuple_getitem _ _)))
 show wpAny _ _ (Builtin.Tuple.tupleItemsOf (.ref a) >>=_) _ _ s;refine abi (tupleItemsOf_ e ?_);refine abi (adw f ?_);refine abi (kJ k pl l ?_)
 have j:¬((((bX items.size 0 lo:Nat):Int)==0 && (1:Int)==1 && (bX items.size items.size d - bX items.size 0 lo)==items.size)=true):=by
  intro q;rw[acM,acM]at q;have t:((bX items.size 0 lo:Nat):Int)=0:=eq_of_beq q.1.1;have r:bX items.size items.size d - bX items.size 0 lo=items.size:=eq_of_beq q.2;exact o ⟨by omega,by omega⟩
 show wpAny _ _ (if (((bX items.size 0 lo:Nat):Int)==0 && (1:Int)==1 && (bX items.size items.size d - bX items.size 0 lo)==items.size)=true then _ else _) _ _ s;rw[abH j,FH]
 first
  |exact abi (m:=Builtin.Tuple.tupleExact _) (ab4 (abq ⟨_,rfl,abq h⟩) c)
  |exact abi (m:=Builtin.Tuple.tupleExact _) (ab4 (abi (abq (abq ⟨_,rfl,abq h⟩))) c)
  |exact abi (abi (m:=Builtin.Tuple.tupleExact _) (ab4 (abq (abq ⟨_,rfl,abq h⟩)) c))
  |exact abi (abi (m:=Builtin.Tuple.tupleExact _) (ab4 (abq ⟨_,rfl,abq h⟩) c))
end
end HT
namespace L2
open PySem PySem.Spec PyProof.Rows
abbrev TO:=St->Hp->(Option Int->Hp->Prop)->Prop
def PO (X:Cx)(e:Option Expr)(t:TO):Prop:=
 ∀(a:List (Addr×Obj)) (s:Shared) (b:St) (H:Hp) (Q:Option Int->Hp->Prop),Inv X a b H s->t b H Q->
  wpAny (model X.prog X.w) X.A (evalPart e X.env) (λu d=>∃o c,Inv X a b c d/\IsPart u o/\Q o c) X.xe s
def JR:TO:=λ_ H Q=>Q none H
def Qk (t:TE):TO:=λ a H Q=>t a H λx b=>∃i,x=.int i/\Q (some i) b
theorem intsAre_of {ns:List Int}:∀{a:List Value},Vals (ns.map V.int) a->IntsAre a ns:=by
 induction ns with
 |nil=>intro a r;cases r;exact .nil
 |cons n ns d=>
  intro a r
  cases r with
  |cons b c=>
   obtain⟨t,e⟩:=b;subst e;exact .cons n t (d c)
section
variable {X:Cx}{e:Expr}{te:TE}{lo hi:Option Expr}{tl th:TO}{pos p2:Pos}
theorem kB:PO X none JR:=by
 intro a s b H Q I h;exact abq ⟨none,H,I,.none,h⟩
theorem fb (h:PE X e te):PO X (some e) (Qk te):=by
 intro a s c H Q I j;refine a8 (h a s c H _ I j) λu k ⟨x,f,b,d,g⟩=>?_
 obtain⟨i,rfl,q⟩:=g;obtain⟨t,rfl⟩:=d;exact⟨some i,f,b,.int i t,q⟩
def HJ (X:Cx)(r:V->Option Int->Option Int->Hp->VK->Prop):Prop:=
 ∀(a:List (Addr×Obj)) (s:Shared) (b:St) (H:Hp) (x:V) (v c d:Value) (lo hi:Option Int) (f:Addr) (Q:VK),Inv X a b H s->RelV x v->s.heap.IsSliceOf f c d .none->IsPart c lo->IsPart d hi->r x lo hi H Q->
  ∃T id,typeLookup (.type T) "__getitem__"=pure (some (.builtin id))/\s.TypeIs v T/\wpAny (model X.prog X.w) X.A (getItem v (.ref f)) (EP X a b Q) X.xe s
def VG (r:V->Option Int->Option Int->Hp->VK->Prop)(te:TE)(tl th:TO):TE:=λ a H Q=>te a H λx d=>tl a d λl b=>th a b λu c=>r x l u c Q
theorem ig {r:V->Option Int->Option Int->Hp->VK->Prop}(A:HJ X r)(G:PE X e te)(n:PO X lo tl)(z:PO X hi th):PE X (.Subscript e (.Slice lo hi none p2) pos) (VG r te tl th):=by
 intro a s c H Q I h;refine Subscript_ (a8 (G a s c H _ I h) λv m ⟨x,y,p,t,j⟩=>?_);refine wpAny_Slice (a8 (n a m c y _ p j) λd B ⟨l,w,o,pl,i⟩=>a8 (z a B c w _ o i) λf s3 ⟨u,g,L,k,D⟩=>?_);refine abq ?_;have E:Inv X a c g { s3 with heap:=s3.heap.push { cls:=.type "slice",data:=.fields #[d,f,.none] } }:=L.kept (t':=s3.toks) λb N q=>abl _ q
 obtain⟨T,id,C,F,J⟩:=A a { s3 with heap:=s3.heap.push { cls:=.type "slice",data:=.fields #[d,f,.none] } } c g x v d f l u s3.heap.objs.size Q E t (Heap.IsSliceOf.new ..) pl k D;exact tail_any (ops:=[.ref s3.heap.objs.size,v]) F C J (by with_unfolding_all rfl)
def gf (xs:List V)(lo hi:Option Int):List V:=(xs.drop (HT.bX xs.length 0 lo)).take (HT.bX xs.length xs.length hi - HT.bX xs.length 0 lo)
theorem sE (xs:List V)(lo hi:Option Int):(gf xs lo hi).length<=xs.length:=by
 unfold gf;rw[abZ,acy];omega
inductive L5 (K:Za1) (x:V) (lo:Option Int) (hi:Option Int) (H:Hp) (Q:VK):Prop
 |mk (a:Addr) (xs:List V):x=.ref a->bQ K H a xs->¬(HT.bX xs.length 0 lo=0/\HT.bX xs.length xs.length hi=xs.length)->(∀p,H p=none->Q (.ref p) (upd H p (.tup (gf xs lo hi))))->L5 K x lo hi H Q
theorem L6:HJ X (L5 X.K):=by
 intro d s w H x v p y lo hi u Q I m j pl i h;obtain⟨a,xs,rfl,k,l,q⟩:=h;cases m;obtain⟨c,r,f,g⟩:=I.tuple k;have hlen:c.toArray.size=xs.length:=by exact r.length.symm
 refine⟨"tuple",_,ab3.lookup,f.typeIs,?_⟩;refine HT.sf f j pl i (by rw[hlen];exact l) ?_ (by rw[hlen];exact g);rw[hlen];refine⟨.ref s.heap.objs.size,_,I.laid (t':=s.toks) (o:=.tup (gf xs lo hi)) (λb t q=>abl _ q) (abr _) ?_,rfl,q _ (I.aO.fresh (abr _))⟩;exact⟨abB (sE xs lo hi) g,_,(r.drop (HT.bX xs.length 0 lo)).take (HT.bX xs.length xs.length hi - HT.bX xs.length 0 lo),IsTup.new _ _⟩
inductive UK (K:Za1) (x:V) (y:V) (H:Hp) (Q:VK):Prop
 |mk (a b:Addr) (ns ms:List Int):x=.ref a->y=.ref b->bQ K H a (ns.map V.int)->bQ K H b (ms.map V.int)->Q (.bl (HT.lexLt ns ms)) H->UK K x y H Q
inductive HK (K:Za1) (x:V) (y:V) (H:Hp) (Q:VK):Prop
 |mk (a b:Addr) (xs ys:List V):x=.ref a->y=.ref b->bQ K H a xs->bQ K H b ys->xs≠[]->xs.length+ ys.length<=sizeLine->(ys=[]->Q (.ref a) H)->(ys≠[]->∀p,H p=none->Q (.ref p) (upd H p (.tup (xs++ys))))->HK K x y H Q
theorem Vals.rF (r:Vals L N):N=[]↔L=[]:=by
 cases r with
 |nil=>simp
 |cons _ _=>simp
theorem JS:fy X (binaryOp .Add) (HK X.K):=by
 intro g s E H x y v u Q I r t h;obtain⟨a,b,l,ys,rfl,rfl,B,p,n,i,m,k⟩:=h;cases r;cases t;obtain⟨A,d,j,_⟩:=I.tuple B;obtain⟨f,c,p2,_⟩:=I.tuple p;refine HT.JQ j p2 (λz=>n (d.rF.mp z)) (λz=>⟨.ref a,H,I,rfl,m (c.rF.mp z)⟩) (λz=>?_) (by rw[<-d.length,<-c.length];exact i);refine⟨.ref s.heap.objs.size,_,I.laid (t':=s.toks) (o:=.tup (l++ys)) (λb D q=>abl _ q) (abr _) ?_,rfl,k (λw=>z (c.rF.mpr w)) _ (I.aO.fresh (abr _))⟩;exact⟨by rw[abj];exact i,_,d.append c,IsTup.new _ _⟩
end
def uo (n:Nat)(i:Int):Option Nat:=if 0<=i then (if i<n then some i.toNat else none) else if -(n:Int)<=i then some (i+ n).toNat else none
def lW {a:Type}(xs:List a)(i:Int):Option a:=(uo xs.length i).bind λj=>xs[j]?
theorem An (h:uo n z=some j):seqIndex? z n=some j/\j<n/\-(n:Int)<=z/\z<n:=by
 unfold uo at h;by_cases b:0<=z
 ·rw[abN b]at h;by_cases a:z<n
  ·rw[abN a]at h;have e:z.toNat=j:=Za0 h;exact⟨by rw[seqIndex_of b a,e],by omega,by omega,a⟩
  ·rw[abH a]at h;cases h
 ·rw[abH b]at h;by_cases a: -(n:Int)<=z
  ·rw[abN a]at h;have e:(z+ n).toNat=j:=Za0 h;exact⟨by rw[seqIndex_neg (by omega) a,e],by omega,a,by omega⟩
  ·rw[abH a]at h;cases h
theorem Ao {a:Type}{xs:List a}{v:a}(h:lW xs z=some v):∃j,seqIndex? z xs.length=some j/\xs[j]?=some v/\j<xs.length/\-(xs.length:Int)<=z/\z<xs.length:=by
 unfold lW at h
 cases e:uo xs.length z with
 |none=>rw[e]at h;cases h
 |some j=>
  rw[e]at h;obtain⟨d,f,b,c⟩:=An e;exact⟨j,d,h,f,b,c⟩
theorem cI {a:Type}{xs:List a}{v:a}(h:xs[j]?=some v):lW xs (j:Int)=some v:=by
 have b:j<xs.length:=(abk.mp h).1
 have e:uo xs.length (j:Int)=some j:=by
  unfold uo;rw[abN (by omega),abN (by omega)];simp
 unfold lW;rw[e];exact h
def JT (b:Expr):Prop:=∀o i,subscripted b false o i=operate [o,i] (getItem o i)
def HL (X:Cx)(r:R2):Prop:=
 ∀(value slice:Expr) (a:List (Addr×Obj)) (s:Shared) (b:St) (H:Hp) (x y:V) (v u:Value) (Q:VK),Inv X a b H s->RelV x v->RelV y u->r x y H Q->
  subscripted slice false v u=operate [v,u] (getItem v u)->wpAny (model X.prog X.w) X.A (subscriptTail value slice v u) (EP X a b Q) X.xe s
def L7 (X:Cx)(id:String)(r:V->List V->Hp->VK->Prop):Prop:=
 ∀(a:List (Addr×Obj)) (s:Shared) (c:St) (H:Hp) (x:V) (b:List V) (v:Value) (d:List Value) (Q:VK),Inv X a c H s->RelV x v->Vals b d->r x b H Q->
  wpAny (model X.prog X.w) X.A (call (.builtin id) (v::d)) (EP X a c Q) X.xe s
section
variable {X:Cx}{a b:Expr}{ta tb:TE}{pos:Pos}
theorem bI {r:R2}(g:HL X r)(n:PE X a ta)(i:PE X b tb)(e:JT b):PE X (.Subscript a b pos) (HC r ta tb):=by
 intro c s m H Q I h;exact Subscript_ (Fw n i I h λv u j x y f d k l q=>g a b c j m f x y v u Q d k l q (e _ _))
inductive FI (K:Za1) (x:V) (y:V) (H:Hp) (Q:VK):Prop
 |mk (p:Addr) (xs:List V) (i:Int) (v:V):x=.ref p->y=.int i->aD K H p xs->lW xs i=some v->Q v H->FI K x y H Q
inductive L8 (K:Za1) (x:V) (y:V) (H:Hp) (Q:VK):Prop
 |mk (p:Addr) (xs:List V) (i:Int) (v:V):x=.ref p->y=.int i->bQ K H p xs->lW xs i=some v->Q v H->L8 K x y H Q
inductive UL (x:V) (y:V) (H:Hp) (Q:VK):Prop
 |mk (z:Str) (i:Int) (c:Nat):x=.str z->y=.int i->z.length<=sizeLine->lW z.cps.toList i=some c->Q (.str ⟨#[c]⟩) H->UL x y H Q
theorem bL:HL X (FI X.K):=by
 intro value slice c s m H x y v u Q I C D h k;obtain⟨p,L,i,z,rfl,rfl,A,G,q⟩:=h;cases C;obtain⟨t,rfl⟩:=D;obtain⟨g,r,pl,O⟩:=I.list A;obtain⟨j,d,E,N,B,J⟩:=Ao G;obtain⟨w,l,e⟩:=r.get E;have o:=r.length;have M:=p8;have fin:EP X c m Q w s:=⟨z,H,I,e,q⟩;by_cases n:0<=i
 ·have f:i.toNat=j:=by
   rw[seqIndex_of n J]at d;exact Za0 d
  exact item_listR pl.isList n (by omega) (by rw[f];simpa using l) fin k
 ·have f:(i+ (g.toArray.size:Int)).toNat=j:=by
   rw[seqIndex_neg (by omega) B]at d;rw[abK,<-o];exact Za0 d
  exact subscriptTail_builtinR (x:=w) pl.isList.typeIs slot_list_getitem.lookup
   (wpAny_getItem_list_neg (Q:=λr F=>r=w/\EP X c m Q r F) pl.isList (by omega) (by rw[abK] <;> omega) (by omega) (by rw[f];simpa using l) ⟨rfl,fin⟩) k
theorem gj:HL X (L8 X.K):=by
 intro value slice c s e H x y v u Q I k l h f;obtain⟨p,C,i,z,rfl,rfl,g,A,q⟩:=h;cases k;obtain⟨t,rfl⟩:=l;obtain⟨B,r,pl,M⟩:=I.tuple g;obtain⟨j,J,m,G,F,L⟩:=Ao A;obtain⟨w,n,d⟩:=r.get m;have E:=r.length;have D:=p8;have fin:EP X c e Q w s:=⟨z,H,I,d,q⟩
 exact subscriptTail_builtinR (x:=w) pl.typeIs slot_tuple_getitem.lookup
  (getItem_tuple (j:=j) (Q:=λr o=>r=w/\EP X c e Q r o) pl (by omega) (by omega) (by grind) (by simpa using n) ⟨rfl,fin⟩) f
theorem By (c:List Value)(n j:Nat)(u:Value):Obj.mapSeq (·.setIfInBounds j u) { cls:=.type "list",data:=.seq c.toArray n }={ cls:=.type "list",data:=.seq (c.set j u).toArray n }:=by
 simp[Obj.mapSeq]
theorem Inv.lst {xs:List V}(I:Inv X o D H s)(h:H c=some (.lst xs)):
 ∃(d:List Value) (n:Nat),Vals xs d/\s.heap.get? c=some { cls:=.type "list",data:=.seq d.toArray n }/\xs.length<=sizeLine:=by
 obtain⟨z,d,n,r,e⟩:=I.aO c _ h;exact⟨d,n,r,e,z⟩
theorem Inv.L9 {ys:List V}{d:List Value}{f:Obj->Obj}(I:Inv X o D H s)(h:H c=some (.lst L))
 (i:s.heap.get? c=some { cls:=.type "list",data:=.seq N.toArray n }) (g:f { cls:=.type "list",data:=.seq N.toArray n }={ cls:=.type "list",data:=.seq d.toArray m }) (r:Vals ys d) (hz:ys.length<=sizeLine) (t:Nat):
 Inv X o D (upd H c (.lst ys)) { s with heap:=s.heap.update c f,toks:=t }:=by
 have e:(s.heap.update c f).get? c=some { cls:=.type "list",data:=.seq d.toArray m }:=by
  rw[acb f i (by rw[g] <;> rfl),g]
 refine I.write (x:=c) (e:=c) (by rw[h];trivial) (.inl rfl) (λb u j q=>(acn _ _ (acU j)).trans q) ⟨_,e⟩ ?_;exact⟨hz,d,m,r,e⟩
inductive HM (o:V) (i:V) (v:V) (H:Hp) (Q:(Hp->Prop)):Prop
 |mk (p:Addr) (xs:List V) (k:Int) (j:Nat):o=.ref p->i=.int k->H p=some (.lst xs)->uo xs.length k=some j->Q (upd H p (.lst (xs.set j v)))->HM o i v H Q
theorem set_list:Lz X HM:=by
 intro c s E H o i v J M u Q I C A B h;obtain⟨p,xs,k,j,rfl,rfl,m,D,q⟩:=h;cases C;obtain⟨t,rfl⟩:=A;obtain⟨d,n,r,f,F⟩:=I.lst m;obtain⟨e,L,y,w⟩:=An D;have g:=r.length;have G:=p8
 have x:Inv X c E (upd H p (.lst (xs.set j v))) { s with heap:=s.heap.update p (Obj.mapSeq (·.setIfInBounds j u)) }:=
  I.L9 m f (By d n j u) (r.set B j) (by rw[abP];exact F) s.toks
 by_cases z:0<=k
 ·have l:k.toNat=j:=by
   rw[seqIndex_of z w]at e;exact Za0 e
  exact PySem.W.ki_setAt f z (by omega) (by rw[abK,<-g];exact w) (by rw[l];exact⟨_,x,q⟩)
 ·have l:(k+ (d.toArray.size:Int)).toNat=j:=by
   rw[seqIndex_neg (by omega) y]at e;rw[abK,<-g];exact Za0 e
  exact PySem.W.ki_setBack f (by omega) (by rw[abK,<-g];exact y) (by omega) (by rw[l];exact⟨_,x,q⟩)
theorem yh (lo c:Option Int)(n:Nat):(sliceBounds lo c none n).1=((HT.bX n 0 lo:Nat):Int)/\(sliceBounds lo c none n).2.1=((HT.bX n n c:Nat):Int)/\(sliceBounds lo c none n).2.2=1:=by
 refine⟨?_,?_,rfl⟩
 ·cases lo with
  |none=>simp[sliceBounds,HT.bX]
  |some i=>
   simp only[sliceBounds,HT.bX,Option.getD_none,show (1:Int) > 0 by decide,aeP];by_cases h:i<0
   ·simp only[h,aeP] <;> omega
   ·simp only[h,aea] <;> omega
 ·cases c with
  |none=>simp[sliceBounds,HT.bX]
  |some i=>
   simp only[sliceBounds,HT.bX,Option.getD_none,show (1:Int) > 0 by decide,aeP];by_cases h:i<0
   ·simp only[h,aeP] <;> omega
   ·simp only[h,aea] <;> omega
theorem xG (c:List Value)(lo d:Option Int):slicePick c.toArray lo d none=((c.drop (HT.bX c.length 0 lo)).take (HT.bX c.length c.length d - HT.bX c.length 0 lo)).toArray:=by
 obtain⟨f,g,e⟩:=yh lo d c.toArray.size;unfold slicePick;rw[f,g,e];simp only[sliceRange_one,pick_run,abK] <;> rfl
inductive Ma (K:Za1) (x:V) (lo:Option Int) (hi:Option Int) (H:Hp) (Q:VK):Prop
 |mk (a:Addr) (xs:List V):x=.ref a->aD K H a xs->(∀p,H p=none->Q (.ref p) (upd H p (.lst (gf xs lo hi))))->Ma K x lo hi H Q
theorem m7:HJ X (Ma X.K):=by
 intro d s u H x v n w lo c t Q I j g pl f h;obtain⟨a,xs,rfl,i,q⟩:=h;cases j;obtain⟨l,r,e,k⟩:=I.list i;have hlen:=r.length;refine⟨"list",_,slot_list_getitem.lookup,e.isList.typeIs,?_⟩;refine wpAny_getItem_list_slice e.isList g pl f .none (by simp) ?_ (by rw[abK] <;> omega);rw[xG,<-hlen];refine⟨.ref s.heap.objs.size,_,I.laid (t':=s.toks) (o:=.lst (gf xs lo c)) (λb p q=>abl _ q) (abr _) ?_,rfl,q _ (I.aO.fresh (abr _))⟩;exact⟨abB (sE xs lo c) k,_,0,(r.drop (HT.bX xs.length 0 lo)).take (HT.bX xs.length xs.length c - HT.bX xs.length 0 lo),abF _ rfl⟩
def HN:V->Bool
 |.non=>true
 |.bl _=>true
 |.int _=>true
 |.str _=>true
 |_=>false
def VH:V->V->Bool
 |.non,.non=>true
 |.bl a,.bl b=>a==b
 |.bl a,.int b=>(if a then 1 else 0)==b
 |.int a,.bl b=>a==(if b then 1 else 0)
 |.int a,.int b=>a==b
 |.str a,.str b=>a==b
 |_,_=>false
def Rq (x:V)(xs:List V):Bool:=xs.any λy=>VH y x
inductive VJ (K:Za1) (neg:Bool) (x:V) (y:V) (H:Hp) (Q:VK):Prop
 |mk (p:Addr) (xs:List V):y=.ref p->(aD K H p xs\/bQ K H p xs)->HN x=true->xs.all HN=true->Q (.bl (if neg then !Rq x xs else Rq x xs)) H->VJ K neg x y H Q
inductive Bz (K:Za1) (xs:List V) (H:Hp) (Q:VK):Prop
 |mk (p:Addr) (ys:List V):xs=[.ref p]->(aD K H p ys\/bQ K H p ys)->Q (.int ys.length) H->Bz K xs H Q
theorem bC:fX X (.builtin "len") (Bz X.K):=by
 intro f s m H j k Q I r h;obtain⟨p,ys,rfl,c,q⟩:=h;obtain⟨u,rfl,g⟩:=vals1 r;cases g;have l:=p8;rcases c with c|c
 ·obtain⟨e,d,pl,i⟩:=I.list c;have hlen:=d.length;exact Calls.call_len_list pl.isList (by simp only[abK] <;> omega) ⟨.int ys.length,H,I.tok _,⟨s.toks+ 1,by grind⟩,q⟩
 ·obtain⟨e,d,pl,i⟩:=I.tuple c;have hlen:=d.length;exact len_tuple pl (by simp only[abK] <;> omega) ⟨.int ys.length,H,I.tok _,⟨s.toks+ 1,by grind⟩,q⟩
theorem yi:fX X (.type "list") (λw H Q=>∃p ys,w=[.ref p]/\(aD X.K H p ys\/bQ X.K H p ys)/\∀l,H l=none->Q (.ref l) (upd H l (.lst ys))):=by
 intro j s z H w A Q I r h;obtain⟨p,ys,rfl,i,q⟩:=h;obtain⟨u,rfl,y⟩:=vals1 r;cases y
 have fin:∀(c:List Value),Vals ys c->ys.length<=sizeLine->∀(d:Heap) (f:Nat),(∀b x,s.heap.get? b=some x->d.get? b=some x)->
  d.get? s.heap.objs.size=some { cls:=.type "list",dict:=none,data:=.seq c.toArray f,slots:=#[] }->EP X j z Q (.ref s.heap.objs.size) { s with heap:=d }:=λc g k d f kp e=>
  ⟨.ref s.heap.objs.size,_,I.laid (t':=s.toks) kp (abr _) (show bU X.prog X.w _ d _ (.lst ys) from ⟨k,c,f,g,e⟩),rfl,q _ (I.aO.fresh (abr _))⟩
 rcases i with i|i
 ·obtain⟨c,g,pl,k⟩:=I.list i;have hlen:=g.length;obtain⟨o,m,t,n,v⟩:=pl.isList;exact call_list_seq p (.inl rfl) m t v (λd f kp e=>fin c g k d f kp e) (by simp only[abK] <;> omega)
 ·obtain⟨c,g,pl,k⟩:=I.tuple i;have hlen:=g.length;obtain⟨o,m,t,n,v⟩:=pl;exact call_list_seq p (.inr rfl) m t v (λd f kp e=>fin c g k d f kp e) (by simp only[abK] <;> omega)
theorem fL:fX X (.type "tuple") (λj H Q=>∃p ys,j=[.ref p]/\((aD X.K H p ys/\∀l,H l=none->Q (.ref l) (upd H l (.tup ys)))\/(bQ X.K H p ys/\Q (.ref p) H))):=by
 intro c s m H j x Q I r h;obtain⟨p,ys,rfl,h⟩:=h;obtain⟨u,rfl,w⟩:=vals1 r;cases w;rcases h with ⟨g,q⟩|⟨g,q⟩
 ·obtain⟨d,i,pl,n⟩:=I.list g;have hlen:=i.length;refine call_tuple_list pl.isList (λf kp=>?_) (by simp only[abK] <;> omega);have k:Inv X c m H { s with heap:=f }:=I.kept (t':=s.toks) kp
  have v:Inv X c m (upd H f.objs.size (.tup ys)) { s with heap:=f.push { cls:=.type "tuple",data:=.seq d.toArray } }:=
   k.laid (t':=s.toks) (λb o e=>abl _ e) (abr _) (show bU X.prog X.w _ _ _ (.tup ys) from ⟨n,d,i,IsTup.new _ _⟩)
  exact⟨.ref f.objs.size,_,v,rfl,q _ (k.aO.fresh (abr _))⟩
 ·obtain⟨d,i,pl,n⟩:=I.tuple g;exact call_tuple_same pl ⟨.ref p,H,I,rfl,q⟩
def Mb (K:Za1)(T:String)(x:V)(H:Hp):Prop:=match x with
 |.str _=>T="str"
 |.int _=>T="int"
 |.ref p=>(T="list"/\∃d,aD K H p d)\/(T="tuple"/\∃o,K.lookup p=some o/\o.cls=.type "tuple"/\o.dict=none)\/
  (T="dict"/\((∃c,H p=some (.dK c))\/∃c,H p=some (.dT c)))\/(T="set"/\∃S n,H p=some (.set S n))
 |_=>False
theorem C3 {T:String}{x:V}(I:Inv X o D H s)(r:RelV x v)(g:Mb X.K T x H):
 s.TypeIs v T/\∀a,v=.ref a->∃l,s.heap.get? a=some l/\l.dict=none:=by
 cases x with
 |str z=>
  obtain⟨t,rfl⟩:=r;cases (show T="str" from g);exact⟨typeIs_str s z t,λ_ e=>nomatch e⟩
 |int i=>
  obtain⟨t,rfl⟩:=r;cases (show T="int" from g);exact⟨typeIs_int s i t,λ_ e=>nomatch e⟩
 |ref p=>
  cases r;rcases g with ⟨rfl,w,m⟩|⟨rfl,d,f,q,k⟩|⟨rfl,f⟩|⟨rfl,S,n,f⟩
  ·obtain⟨u,_,pl,_⟩:=I.list m;refine⟨pl.isList.typeIs,λa e=>?_⟩;cases e;obtain⟨d,n,e,c,k,_⟩:=pl;exact⟨d,e,k⟩
  ·refine⟨⟨d,I.da p d f,q⟩,λa e=>?_⟩;cases e;exact⟨d,I.da _ d f,k⟩
  ·have z:∃d,s.heap.get? p=some d/\d.ExactDict:=by
    rcases f with ⟨j,f⟩|⟨j,f⟩
    ·obtain⟨_,_,_,_,d,_,_,e,ex,_⟩:=I.aO p _ f;exact⟨d,e,ex⟩
    ·obtain⟨_,_,_,_,d,_,_,e,ex,_⟩:=I.aO p _ f;exact⟨d,e,ex⟩
   obtain⟨d,e,ex⟩:=z;refine⟨⟨d,e,ex.1⟩,λa h=>?_⟩;cases h;exact⟨d,e,ex.2.1⟩
  ·obtain⟨d,_,_,_,e,ex,_⟩:=I.aO p _ f;refine⟨⟨d,e,ex.1⟩,λa h=>?_⟩;cases h;exact⟨d,e,ex.2.1⟩
 |_=>exact False.elim g
def UM (K:Za1)(T:String)(r:V->List V->Hp->VK->Prop)(to:TE):TE:=λ d H Q=>to d H λx c=>Mb K T x c/\r x [] c Q
def VL (K:Za1)(T:String)(r:V->List V->Hp->VK->Prop)(to:TE)(t:TA):TE:=λ c H Q=>to c H λx d=>Mb K T x d/\t c d λe f=>r x e f Q
variable {o e:Expr}{es:List Expr}{to:TE}{t:TA}{name:Str}{apos ck:Pos}{T id:String}{r:V->List V->Hp->VK->Prop}
theorem C4 (l:PlainAttrs T)(slot:Slot T name id)(f:typeOf (.builtin id)=pure (.type "method_descriptor"))(k:L7 X id r)(m:PE X o to)
 (d:attributeBase o name X.env (eval o X.env)=eval o X.env:=by rfl) (hline:(apos.endLine==ck.line)=true:=by rfl):PE X (.Call (.Attribute o name apos) [] [] ck) (UM X.K T r to):=by
 intro c s j H Q I h;refine wpAny_Call_method0_late d hline (a8 (m c s j H _ I h) λv p ⟨x,q,g,i,u,n⟩=>?_);obtain⟨y,w⟩:=C3 g i u;exact⟨T,id,l,slot,f,y,w,acu rfl (PySem.evalArgs_none (k c p j q x [] v [] Q g i .nil n))⟩
theorem cP (u:PlainAttrs T)(slot:Slot T name id)(i:typeOf (.builtin id)=pure (.type "method_descriptor"))(n:L7 X id r)(w:PE X o to)(N:PA X (e::es) t)
 (f:attributeBase o name X.env (eval o X.env)=eval o X.env:=by rfl)
 (g:((backTo ck (starEach (e::es) X.env)).all (λx=>!x.1) && (backToKw ck (keywordEach [] X.env)).all (λx=>x.1.isSome)
  && decide ((e::es).length+ ([]:List Keyword).length+ (if ([]:List Keyword).isEmpty then 0 else 1)<30))=true:=by rfl)
 (hline:(apos.endLine==ck.line)=true:=by rfl) (C:starEach (e::es) X.env=(false,eval e X.env)::starEach es X.env:=by rfl) (d:(backTo ck (starEach es X.env)).any (·.1)=false:=by rfl):
 PE X (.Call (.Attribute o name apos) (e::es) [] ck) (VL X.K T r to t):=by
 intro c s j H Q I h;refine wpAny_Call_method_late f g hline rfl (a8 (w c s j H _ I h) λv A ⟨x,E,l,m,G,y⟩=>?_);obtain⟨L,J⟩:=C3 l m G;refine⟨T,id,u,slot,i,L,J,?_⟩;have k:=N ck c A j E _ l y;rw[C]at k ⊢;refine acu (by show (false || (backTo ck (starEach es X.env)).any (·.1))=false;rw[d] <;> rfl) (ac0 ?_);exact a8 k λq F ⟨z,D,B,M,p⟩=>n c F j D x z v q Q B m M p
/- xs.append(e),list.index on a module's tuple .. are L7 facts of 06m -/
end
def Md (X:Cx)(id:String)(r:V->List V->Hp->VK->Prop):Prop:=
 ∀(a:List (Addr×Obj)) (s:Shared) (c:St) (H:Hp) (x:V) (b:List V) (v:Value) (d:List Value) (Q:VK),Inv X a c H s->RelV x v->Vals b d->r x b H Q->
  wpAny (model X.prog X.w) X.A (call (.builtin id) (v::d)) (EP X a c Q) X.xe s
theorem Vals.one:∀{x:V} {a:List Value},Vals [x] a->∃u,a=[u]/\RelV x u
 |_,_,.cons r .nil=>⟨_,rfl,r⟩
theorem Vals.zero:∀{a:List Value},Vals [] a->a=[]
 |_,.nil=>rfl
theorem Vals.dropLast {xs:List V}{us:List Value}(h:Vals xs us):Vals xs.dropLast us.dropLast:=by
 induction h with
 |nil=>exact .nil
 |cons r t a=>
  cases t with
  |nil=>exact .nil
  |cons q b=>exact .cons r a
theorem Vals.reverse {xs:List V}{us:List Value}(h:Vals xs us):Vals xs.reverse us.reverse:=by
 induction h with
 |nil=>exact .nil
 |cons r t a=>rw[List.reverse_cons,List.reverse_cons];exact Vals.append a (.cons r .nil)
theorem Vals.rep (h:Vals L N):∀k:Nat,Vals (List.replicate k L).flatten (List.replicate k N).flatten
 |0=>.nil
 |k+ 1=>by
  exact Vals.append h (Vals.rep h k)
theorem foldl_rep (a:List Value):∀(k:Nat) (acc:List Value),
 List.foldl (λd c=>d++c) acc.toArray (List.replicate k a.toArray)=(acc++(List.replicate k a).flatten).toArray
 |0,acc=>by simp
 |k+ 1,acc=>by
  have e:acc.toArray++a.toArray=(acc++a).toArray:=by simp
  have b:(acc++a)++(List.replicate k a).flatten=acc++(List.replicate (k+ 1) a).flatten:=by
   rw[List.replicate_succ,List.flatten_cons,aci]
  rw[<-b,<-foldl_rep a k (acc++a),<-e,List.replicate_succ,List.foldl_cons]
section
variable {X:Cx}{pins:List (Addr×Obj)}{σ:St}{H:Hp}{s:Shared}{l:Addr}{xs ys:List V}
theorem Inv.FJ {FK:List Value}{f:Array Value->Array Value}(I:Inv X pins σ H s)(d:H l=some (.lst xs))
 (e:s.heap.get? l=some { cls:=.type "list",data:=.seq N.toArray n }) (g:f N.toArray=FK.toArray) (c:Vals ys FK) (hz:ys.length<=sizeLine):
 Inv X pins σ (upd H l (.lst ys)) { s with heap:=s.heap.update l (Obj.mapSeq f),toks:=m }:=by
 have q:=PySem.IsL.update e f;rw[g]at q;refine I.write (x:=l) (e:=l) (by rw[d];exact trivial) (.inl rfl) (λi u a h=>(acn s.heap (Obj.mapSeq f) (acU a)).trans h) ⟨_,q⟩ ?_;exact⟨hz,FK,_,c,q⟩
theorem Inv.UN {t':Nat}(I:Inv X pins σ H s)(a:Vals ys N)(hz:ys.length<=sizeLine):
 Inv X pins σ (upd H s.heap.objs.size (.lst ys)) { s with heap:=s.heap.push { cls:=.type "list",data:=.seq N.toArray },toks:=t' }:=
 I.laid (λ_ _ q=>abl _ q) (abr _) ⟨hz,N,0,a,abF _ rfl⟩
theorem Inv.fresh (I:Inv X pins σ H s):H s.heap.objs.size=none:=I.aO.fresh (abr _)
theorem Inv.vJ (I:Inv X pins σ H s)(c:H l=some (.lst xs)):xs.length<=sizeLine/\∃(a:List Value) (n:Nat),Vals xs a/\xs.length=a.length/\s.heap.get? l=some { cls:=.type "list",data:=.seq a.toArray n }:=by
 obtain⟨z,a,n,r,e⟩:=I.aO l _ c;exact⟨z,a,n,r,r.length,e⟩
theorem FL (h:n<=sizeLine):Builtin.List.listTooLong n=false:=by
 exact acj (by omega)
end
section
variable {X:Cx}
inductive vK (x:V) (vs:List V) (H:Hp) (Q:VK):Prop
 |mk (l:Addr) (xs:List V) (y:V):x=.ref l->vs=[y]->H l=some (.lst xs)->xs.length<sizeLine->Q .non (upd H l (.lst (xs++[y])))->vK x vs H Q
theorem bN:Md X "list.append" vK:=by
 intro c s p H x m v k Q I g f h;obtain⟨l,j,y,rfl,rfl,b,t,q⟩:=h;cases g;obtain⟨u,rfl,i⟩:=f.one;obtain⟨z,a,n,r,o,e⟩:=I.vJ b;refine call_meets F.slot_list_append ⟨_,e,rfl⟩ F.entry_list_append (F.args_list_append_2 _ _) (PySem.list_append l a.toArray n u (by rw[abK];omega)) ⟨e,?_⟩;refine⟨.non,_,I.FJ (FK:=a++[u]) b e (by simp) (r.append (.cons i .nil)) ?_,rfl,q⟩;rw[abj,acr];omega
inductive vL (x:V) (vs:List V) (H:Hp) (Q:VK):Prop
 |mk (l b:Addr) (xs zs:List V):x=.ref l->vs=[.ref b]->H l=some (.lst xs)->H b=some (.lst zs)->xs.length+ zs.length<=sizeLine->Q .non (upd H l (.lst (xs++zs)))->vL x vs H Q
theorem wC:Md X "list.extend" vL:=by
 intro i s J H x D v C Q I p k h;obtain⟨l,b,B,G,rfl,rfl,g,t,L,q⟩:=h;cases p;obtain⟨u,rfl,w⟩:=k.one;cases w;obtain⟨z,c,n,r,E,e⟩:=I.vJ g;obtain⟨z2,a,y,A,m,o⟩:=I.vJ t;have f:c.toArray.size+ a.toArray.size<=sizeLine:=by rw[abK,abK];omega
 have d:¬(!c.toArray.isEmpty && Builtin.List.listTooLong (c.toArray.size+ a.toArray.size))=true:=by
  rw[FL f,Bool.and_false];exact ab7
 refine call_meets F.slot_list_extend ⟨_,e,rfl⟩ F.entry_list_extend (F.args_list_extend_2 _ _)
  (AutoSeq1.list_extend_list_list_0 l c.toArray n b a.toArray y d (by omega) (by omega)) ⟨e,o,?_⟩
 refine⟨.non,_,I.FJ (FK:=c++a) g e (by simp) (r.append A) ?_,rfl,q⟩;rw[abj];omega
inductive Mf (x:V) (vs:List V) (H:Hp) (Q:VK):Prop
 |mk (l:Addr) (xs:List V) (y:V):x=.ref l->vs=[]->H l=some (.lst xs)->xs[xs.length - 1]?=some y->Q y (upd H l (.lst xs.dropLast))->Mf x vs H Q
theorem C5:Md X "list.pop" Mf:=by
 intro f s B H x A v w Q I m i h;obtain⟨l,t,y,rfl,rfl,d,o,q⟩:=h;cases m;have b:=i.zero;subst b;obtain⟨z,a,n,r,j,e⟩:=I.vJ d;obtain⟨u,k,p⟩:=r.get o
 have c:a.toArray[a.toArray.size - 1]?=some u:=by
  show a.toArray[a.length - 1]?=some u
  rw[<-adX,<-j];exact k
 refine call_meets F.slot_list_pop ⟨_,e,rfl⟩ F.entry_list_pop (F.args_list_pop_1 _) (MeetsSeq.list_pop_last l a.toArray n u c (by rw[abK];omega)) ⟨e,?_⟩;refine⟨y,_,I.FJ (FK:=a.dropLast) d e ?_ r.dropLast ?_,p,q⟩
 ·grind
 ·rw[List.length_dropLast];omega
inductive Mg (x:V) (vs:List V) (H:Hp) (Q:VK):Prop
 |mk (l:Addr) (xs:List V) (i:Int) (k:Nat) (y:V):x=.ref l->vs=[.int i]->H l=some (.lst xs)-> -(2 ^ 63)<=i->i<2 ^ 63->seqIndex? i xs.length=some k->xs[k]?=some y->Q y (upd H l (.lst (xs.eraseIdx k)))->Mg x vs H Q
inductive Mh (x:V) (vs:List V) (H:Hp) (Q:VK):Prop
 |mk (l:Addr) (xs:List V):x=.ref l->vs=[]->H l=some (.lst xs)->Q .non (upd H l (.lst []))->Mh x vs H Q
inductive Mi (x:V) (y:V) (H:Hp) (Q:VK):Prop
 |mk (l b:Addr) (xs zs:List V):x=.ref l->y=.ref b->H l=some (.lst xs)->H b=some (.lst zs)->xs.length+ zs.length<=sizeLine->(∀p,H p=none->Q (.ref p) (upd H p (.lst (xs++zs))))->Mi x y H Q
theorem uq:fy X (binaryOp .Add) Mi:=by
 intro d s C H x y v u Q I j k h;obtain⟨l,b,t,B,rfl,rfl,g,o,E,q⟩:=h;cases j;cases k;obtain⟨z,c,n,r,A,e⟩:=I.vJ g;obtain⟨z2,a,D,p,f,i⟩:=I.vJ o;refine PySem.P.add_list e i ?_ (by rw[abK,abK];omega);have m:c.toArray++a.toArray=(c++a).toArray:=by simp
 rw[m];exact⟨.ref _,_,I.UN (t':=s.toks) (r.append p) (by rw[abj];omega),rfl,q _ I.fresh⟩
inductive UO (x:V) (y:V) (H:Hp) (Q:VK):Prop
 |mk (l:Addr) (k:Int) (xs:List V):x=.ref l->y=.int k->H l=some (.lst xs)-> -(2 ^ 63)<=k->k<2 ^ 63->xs.length* k.toNat<=sizeLine->(∀p,H p=none->Q (.ref p) (upd H p (.lst (List.replicate k.toNat xs).flatten)))->UO x y H Q
theorem len_rep {a:Type}(xs:List a)(k:Nat):(List.replicate k xs).flatten.length=k* xs.length:=by
 induction k with
 |zero=>simp
 |succ k b=>grind
end
end L2
namespace Att
open PySem PySem.W PySem.Calls PyProof.Rows
theorem ur {P:Params}:∀(ns:List Int) (c:List Value),WellAll P h c (ns.map WData.int)->IntsAre c ns:=by
 intro ns
 induction ns with
 |nil=>
  intro c w;cases w;exact .nil
 |cons n ns d=>
  intro c w
  cases w with
  |cons a b=>
   cases a;exact .cons _ _ (d _ b)
theorem C6 {l:OpenLaw}(o:l.most=some n){P:Params}{h:Heap}{b:List WData}{e:List Value}
 (c:l.row.toRowW.claim.pre b=true) (i:WellAll P h e b):
 ∃a m ns,e=[Value.ref a]/\b=[WData.list (ns.map WData.int)]/\h.get? a=some { cls:=.type "list",data:=.seq m.toArray }/\IntsAre m ns/\ns.length<=n:=by
 have j:WShape.hasAll [] b [.list .int]=true:=(pre_splitW c).1;have s:l.pre.holds [] { args:=b }=true:=(pre_splitW c).2;obtain⟨d,r,rfl,x,v⟩:=hasAllW_cons j;obtain rfl:=hasAllW_nil v;obtain⟨y,rfl,w⟩:=hasW_list x;obtain⟨ns,rfl⟩:=items_int w
 have hlen:ns.length<=n:=by
  have g:(WTm.not (.lt (.lit (.int (n:Int))) (.len (.arg 0)))).holds [] { args:=[.list (ns.map .int)] }=true:=by
   have g:=(holds_andW s).1;rw[o]at g;exact g
  have k:=condW_of g (w_not (w_lt w_lit (w_len_list (w_arg rfl))));refine Nat.le_of_not_lt λq=>?_
  first
   |(rw[abX z]at k;exact absurd k (by decide))
   |(simp at k;omega)
 cases i with
 |cons u t=>
  cases t
  cases u with
  |list p f=>exact⟨_,_,ns,rfl,rfl,p,ur ns _ f,hlen⟩
theorem C7 (l:OpenLaw)(a:List WData):l.row.toRowW.claim.post a (.bool true) a=true:=
 postW_of (r:=l.row.toRowW) (X:=(true==true))
  (show WShape.has [] (.bool true) .bool=true by first|rfl|decide|simp[WShape.has,WShape.arms,WShape.armsAll])
  (show (WTm.eq .res (.lit (.bool true))).value [] { args:=a,res:=some (.bool true),after:=a }=some (.bool (true==true)) from w_eq_bool (w_res rfl) w_lit) rfl
theorem zQ {l:OpenLaw}{loose:List Str}{XP:(Str->Option Value)->Heap->Prop}{y:World->Heap->Prop}{d:DefRec}
 (C:l.most=some n) (u:d.params.defaults=[])
 (call:∀(w:World) (c b:Shared) (j q:Str->Option Value) (g:Addr) (o:Obj) (p m doc:Value) (a:Addr) (e:List Value) (ns:List Int),
  Ground P loose [] XP w c j q b.heap->y w b.heap->
  b.heap.get? g=some o->o.data=.func (docDef d.name d.params d.body d.scope p m doc)->b.heap.CodeRec m d.name->j d.name=some (.ref g)->
  b.heap.get? a=some { cls:=.type "list",data:=.seq e.toArray }->IntsAre e ns->ns.length<=n->b.gens=#[]->
  codeAny (model l.prog w) callerA (.call (.ref g) ⟨[.ref a],[]⟩) (λr k=>r=.ok (.ret (.bool true))/\OldK b.heap k.heap/\k.os=b.os/\AllBare k.gens) b):
 WalkO P loose XP y l.row.toRowW d [] (λf e=>PySem.call f e):=by
 intro w c b j q G Y g o p m doc E kV D I t x v O A z as i hlay M s N;obtain rfl:E=.none:=Dflts.none x u;obtain rfl:kV=.none:=Dflts.noKw x;obtain⟨a,e,ns,rfl,rfl,h,hints,hlen⟩:=C6 C i s;refine enter_call (adW (call w c b j q g o p m doc a e ns G Y D (fd_plain I) t v h hints hlen O) λr k F=>?_);obtain⟨rfl,J,L,H⟩:=F;exact⟨.inl ⟨.bool true,.bool true,[],rfl,λ_=>rfl,.bool true,C7 l _,λ_=>⟨List.Pairwise.nil,λ_ B=>(nomatch B)⟩⟩,J,L,H⟩
end Att
namespace L2
open PySem PySem.Spec PyProof.Rows
theorem wD:∀{a:List Value} {ns:List Int},IntsAre a ns->Vals (ns.map V.int) a
 |_,_,.nil=>.nil
 |_,_,.cons n t h=>.cons ⟨t,rfl⟩ (wD h)
def Only (H:Hp):Prop:=∀b,H b=none\/∃o a,H b=some (.cQ o (.lst a))
theorem FN {Q:Str->Option Value}{Z:lV}{k:Nat}{fd:FuncData}{sp:Sp}{ns:List Int}
 (Y:K.In s.heap) (y:s.heap.Ns mainGlobals M) (p:s.heap.Ns builtinsNs Q) (R:∀x:Str,x≠"__name__"->Q x=bootBuiltins x) (A:s.heap.NoLimit) (hg:s.gens=#[])
 (S:s.heap.get? b=some { cls:=.type "list",data:=.seq N.toArray }) (X:IntsAre N ns) (W:ns.length<=sizeLine) (hr:df k callerA)
 (F:∀base:Heap,K.In base->base.Ns mainGlobals M->bj P w K M base Z k a fd [x] sp) (l:∀(f:Shared) (u:Value),BindsTo f fd ⟨[u],[]⟩ [(x,u)])
 (J:∀H:Hp,Only H->aD K H b (ns.map V.int)->sp [.ref b] H (λv _=>v=.bl true) λ_ _ _=>False)
 (O:∀H e i,Z [] H s (λ_ _ _=>False) e i->False):
 codeAny (model P w) callerA (.call (.ref a) ⟨[.ref b],[]⟩) (λr i=>r=.ok (.ret (.bool true))/\OldK s.heap i.heap/\i.os=s.os/\AllBare i.gens) s:=by
 have rv:=wD X;have t:=X.length
 have core:∀H:Hp,Only H->aD K H b (ns.map V.int)->dg P w H s.heap->(∀c,H c≠none->c=b)->(H b≠none->K.lookup b=none)->
  codeAny (model P w) callerA (.call (.ref a) ⟨[.ref b],[]⟩) (λr i=>r=.ok (.ret (.bool true))/\OldK s.heap i.heap/\i.os=s.os/\AllBare i.gens) s:=by
  intro H U hS B hA hK;have g:∀{c:Addr} {o:Obj},s.heap.get? c=some o->H c=none->(oB s.heap H).get? c=some o:=λe n=>Ft e n
  have L:∀{c:Addr} {o:Obj} {G:Array DictEntry} {E:Nat},s.heap.get? c=some o->o.data=.dict G E->H c=none:=λ{c o G E} e d=>by
   grind
  have j:∀{c:Addr} {m:Str->Option Value},s.heap.Ns c m->(oB s.heap H).Ns c m:=λ{c m} ⟨o,G,E,e,d,r⟩=>⟨o,G,E,g e (L e d),d,r⟩
  have C:K.In (oB s.heap H):=λc o e=>g (Y c o e) (by
   grind)
  have hM:Mod K M (oB s.heap H):=⟨C,j y,⟨Q,j p,R⟩,let ⟨mc,h1,h2⟩:=A;⟨mc,j h1,h2⟩⟩;have e0:tF P w K M (oB s.heap H) callerA [] s H:=⟨rfl,hM,λc o e=>JK e,aei (CF _ _),trivial,λc p=>absurd (show c∈([]:List Addr) from p) (by simp),B,.of_eq hg⟩;refine adW ((F _ C (j y)).run callerA [] s H ⟨[.ref b],[]⟩ [.ref b] [.ref b] _ _ hr e0 (l s (.ref b)) (.cons rfl .nil) (J H U hS)) λr i h=>?_
  cases r with
  |error e=>exact(O H e i h).elim
  |ok fl=>
   cases fl with
   |next=>exact False.elim h
   |brk=>exact False.elim h
   |cont=>exact False.elim h
   |ret u=>
    obtain⟨v,H',os,bare,un,D,r',q⟩:=h;have q':v=.bl true:=q;subst q';obtain rfl:u=Value.bool true:=r';refine⟨rfl,OldK.of_keep λc o e=>?_,os,bare⟩
    cases q:H c with
    |none=>exact un.keep c o e q (by intro z;exact absurd (show c∈([]:List Addr) from z) (by simp)) (by simp)
    |some u=>
     rcases U c with z|⟨ob,xs,z⟩
     ·grind
     ·have z2:=un.ia c ob _ z;obtain⟨e1,_⟩:=B c _ z;obtain⟨e2,_⟩:=D c _ z2
      grind
 cases T:K.lookup b with
 |some o=>
  have e:=Y b o T;rw[S]at e;cases e;refine core (λ_=>none) (λ_=>.inl rfl) (.inr ⟨_,N.toArray,_,T,rfl,rfl,rfl,by rw[abK,t];exact W,by omega⟩) (λc u z=>by grind) (λc z=>absurd rfl z) λz=>absurd rfl z
 |none=>
  refine core (λc=>if c=b then some (.cQ { cls:=.type "list",data:=.seq N.toArray } (.lst (ns.map V.int))) else none) (λc=>?_) (.inl (.inr ⟨{ cls:=.type "list",data:=.seq N.toArray },abN rfl⟩)) (λc u z=>?_) (λc z=>?_) λ_=>T
  ·grind
  ·by_cases p:c=b
   ·have z':=(abN p).symm.trans z;cases z';subst p;exact⟨S,by rw[abo];exact W,N,_,rv,S⟩
   grind
  grind
theorem JV {l:PySem.W.OpenLaw}{k:Nat}{loose:List Str}{XP:(Str->Option Value)->Heap->Prop}{A:World->Heap->Prop}{d:DefRec}{K:Params->Za1}{CX:World->lV}{sp:World->Sp}
 (C:l.most=some n) (p:n<=sizeLine) (q:d.params.defaults=[]) (J:df k callerA)
 (O:∀(w:World) (h:Heap),A w h->(K w.params).In h)
 (F:∀(w:World) (b:Str->Option Value) (i:Addr) (h:Heap),(K w.params).In h->h.Ns mainGlobals b->b d.name=some (.ref i)->
  ∃fd:FuncData,(∀(s:Shared) (u:Value),BindsTo s fd ⟨[u],[]⟩ [(x,u)])/\
   ∀base:Heap,(K w.params).In base->base.Ns mainGlobals b->bj l.prog w (K w.params) b base (CX w) k i fd [x] (sp w))
 (j:∀(w:World) (H:Hp) (a:Addr) (ns:List Int),ns.length<=n->Only H->aD (K w.params) H a (ns.map V.int)->sp w [.ref a] H (λv _=>v=.bl true) λ_ _ _=>False)
 (m:∀(w:World) (H:Hp) (s:Shared) (e:Value) (t:Shared),CX w [] H s (λ_ _ _=>False) e t->False):
 PySem.W.WalkO P loose XP A l.row.toRowW d [] (λf y=>PySem.call f y):=by
 refine Att.zQ C q λw B c b S i o R U doc a y ns G Y Q T M r g hints hlen N=>?_
 have z:=O w _ Y;obtain⟨fd,L,I⟩:=F w b i _ z G.T.g r;exact FN z G.T.g G.T.b G.T.builtins G.T.nolimit N g hints (abB hlen p) J I L (λH D E=>j w H a ns hlen D E) λH e t=>m w H c e t
def inClass (s:Stmt)(j:Nat):Stmt:=match s with
 |.ClassDef _ _ _ body _ _ _ _ _ _ _=>body.getD j (.Pass ⟨0,0,0,0⟩)
 |_=>.Pass ⟨0,0,0,0⟩
def c9 (s:Stmt):Arguments:=match s with
 |.FunctionDef _ a _ _ _ _ _ _ _ _=>a
 |_=>{ posonlyargs:=[],args:=[],vararg:=none,kwonlyargs:=[],kw_defaults:=[],kwarg:=none,defaults:=[] }
def cM (s:Stmt):List Stmt:=match s with
 |.FunctionDef _ _ b _ _ _ _ _ _ _=>b
 |_=>[]
def aH (s:Stmt):Scope:=match s with
 |.FunctionDef _ _ _ _ _ _ a _ _ _=>a
 |_=>{ kind:=.function,names:=[],isGenerator:=false,isCoroutine:=false }
abbrev CX0:lV:=λ_ _ _ _ _ _=>False
structure yj (K:Za1) (x qual:Str) (st:Stmt) (f:Addr) (fd:FuncData):Prop where
 ex:∃(oc:Value) (od:Option Addr) (kV doc pm:Value) (an:Option Addr) (cf ct:Value) (yk:Array (Option Value)),
  fd=PySem.W.fnOf x qual (c9 st) (cM st) (aH st) .none kV doc pm an cf ct/\K.lookup f=some ⟨oc,od,.func fd,yk⟩/\PySem.W.codeIn K cf qual=true
 kp:PySem.W.keepIn K (.ref f)=true
section
variable {K:Za1}
theorem yj.binds {qual:Str}{st:Stmt}{fd:FuncData}{ps:List Str}(F:yj K x qual st a fd)
 (h:∀(kV doc pm:Value) (c:Option Addr) (b ct:Value) (us:List Value),us.length=ps.length->bindArgs (PySem.W.fnOf x qual (c9 st) (cM st) (aH st) .none kV doc pm c b ct) ⟨us,[]⟩=pure (ps.zip us)):Binds K fd ps []:=by
 obtain⟨f,g,kV,doc,pm,c,b,ct,e,rfl,lk,d⟩:=F.ex;exact .all (h kV doc pm c b ct)
theorem C8 {qual:Str}{st:Stmt}{g f:Option Addr}{d:Array (Option Value)}{kV doc b e:Value}(l:K.lookup a=some ⟨v,g,.func (PySem.W.fnOf x qual (c9 st) (cM st) (aH st) .none kV doc u f b e),d⟩)
 (c:PySem.W.codeIn K b qual=true) (k:PySem.W.keepIn K (.ref a)=true):yj K x qual st a (PySem.W.fnOf x qual (c9 st) (cM st) (aH st) .none kV doc u f b e):=⟨⟨v,g,kV,doc,u,f,b,e,d,rfl,l,c⟩,k⟩
end
theorem hO {k:Nat}(a:df k A):A.units+ 1<cLine:=abz (Nat.add_le_add_left (by decide:1<=64) _) a.units
section
variable {X:Cx}
theorem pv (i:Nat){x:Str}{b:Pos}(c:X.N[i]?=some x:=by rfl)(d:Lh X.env.scope x:=by first|exact Or.inl rfl|exact Or.inr (Or.inl rfl)|exact Or.inr (Or.inr rfl))(e:(x==("__debug__":Str))=false:=by decide)
 (a:(x==("__classdict__":Str))=false:=by decide):PE X (.Name x b) (yb i):=Lk c d e a
end
theorem dk {A B:Prop}(h:B):if false=true then A else B:=by
 grind
theorem gS {A B:Prop}(h:A):if true=true then A else B:=by
 grind
theorem dH {c A B:Prop} [Decidable c](a:c->A)(b:¬c->B):if c then A else B:=by
 grind
theorem rH {c A B:Prop} [Decidable c](a:c)(h:B):if (!decide c)=true then A else B:=by
 grind
def aq (H a:Hp):Prop:=∀b o,H b=some o->a b=some o
theorem aq.refl (H:Hp):aq H H:=λ_ _ h=>h
theorem aq.trans (a:aq H I)(b:aq I J):aq H J:=λc o h=>b c o (a c o h)
theorem aq.free (e:aq H I){l:Addr}(h:I l=Option.none):H l=Option.none:=by
 cases q:H l with
 |none=>rfl
 |some o=>
  rw[e l o q]at h;cases h
end L2
namespace L2
open PySem PySem.Spec PyProof.Rows
section
variable {prog:Program}{w:World}{A:Around}{R:Result->Shared->Prop}{s:Shared}
theorem zR {elt target iter:Expr}{scope:Scope}{it acc:Value}{env:Env}(I:Nat->Shared->Prop)
 (turn:∀n s,I n s->wpAny (model prog w) A (pyNext it) (λr a=>match r with
  |none=>R (.ok .next) a
  |some v=>wpAny (model prog w) A (letOwnedTupleGo target it v) (λ_ e=>wpAny (model prog w) A (assign target env v) (λ_ c=>wpAny (model prog w) A (eval elt env) (λx d=>
   wpAny (model prog w) A (call (.builtin "list.append") [acc,x]) (λ_ f=>∃m,m<n/\I m f) (λ_ _=>False) d) (λ_ _=>False) c) (λ_ _=>False) e) (λ_ _=>False) a) (λ_ _=>False) s)
 (n:Nat) (h:I n s):codeAny (model prog w) A (.compLoop (.ListComp elt [⟨target,iter,[],0⟩] scope p) 0 it acc env) R s:=by
 refine codeAny_loop rfl I (λn s o=>?_) n h;refine wpAny_noted ?_;rw[compTurn_list1];refine abi (ad8 (abi (acv (turn n s o) (λr a g=>?_) λ_ _ b=>b.elim)))
 cases r with
 |none=>exact abq g
 |some v=>
  refine abi (acv g (λ_ e l=>?_) λ_ _ b=>b.elim)
  exact abi (acv l (λ_ c k=>abi (abi (acv k (λx d i=>abi (acv i
   (λ_ f j=>abq (abq ⟨rfl,j⟩)) λ_ _ b=>b.elim)) λ_ _ b=>b.elim))) λ_ _ b=>b.elim)
end
def dB (X:Cx)(a:List Str)(scope:Scope)(cl:List (Str×Addr))(C:Addr)(s:Shared)(H:Hp)(ex:List Addr):Cx where
 prog:=X.prog
 w:=X.w
 K:=X.K
 mg:=X.mg
 base:=X.base
 A:=X.A
 N:=a
 dP:=s
 tj:=H
 env:=compEnvC scope cl C X.env
 outer:=X.stack
 stack:=X.stack
 ex:=ex
 fn:=λ_=>false
 calm:=X.calm
 pn:=[]
 xe:=λ_ _=>False
def uv (f:TE)(d:St)(Q:VK)(J:It)(g:Hp):Prop:=∃W:Nat->Nat->List V->Hp->Prop,(∃m,W 0 m [] g)/\∀i m ys a,W i m ys a->
 (J.stop i a/\ys.length<=sizeLine/\∀D,a D=none->Q (.ref D) (upd a D (.lst ys)))\/
 (J.go i a/\ys.length<sizeLine/\∀x c,J.kc i a x c->f (some x::d) c λy e=>∃b,b<m/\W (i+ 1) b (ys++[y]) e)
def HP (d:TI)(b:St->St)(c:TE):TE:=λ a H Q=>d a H (uv c (b a) Q)
structure dS (X:Cx) (x:Str) (fns:List Str) (ixs:List Nat) (scope:Scope) (cl:List (Str×Addr)):Prop where
 yl:closureFor scope X.env=pure cl
 sub:∀y c,cl.lookup y=some c->X.env.cells.lookup y=some c
 cell:∀y∈scope.names,y.2≠.cell
 kind:scope.kind=.function
 names:∀y∈scope.names,y.2=.local->scope.names.lookup y.1=some .local
 own:scope.names.lookup x=some .local
 has:∀y,((relabel scope X.env).names.lookup y=some .cell\/(relabel scope X.env).names.lookup y=some .free)->∃c,cl.lookup y=some c
 nd:(x::fns).Nodup
 len:ixs.length=fns.length
 at_:∀(j:Nat) (y:Str),fns[j]?=some y->∃i:Nat,ixs[j]?=some i/\X.N[i]?=some y/\(X.env.kindOf y=some .cell\/X.env.kindOf y=some .free)/\∃c,cl.lookup y=some c/\((relabel scope X.env).names.lookup y=some .cell\/(relabel scope X.env).names.lookup y=some .free)
def ik (ixs:List Nat):St->St:=λ a=>ixs.map λi=>(a[i]?).join
section
variable {X:Cx}{x:Str}{scope:Scope}
theorem sF (a:scope.names.lookup x=some .local):(relabel scope X.env).names.lookup x=some .local:=lookup_relabel_local a
end
theorem i7 {scope:Scope}(a:∀y∈scope.names,y.2≠.free)(b:∀y∈scope.names,y.2≠.cell)(i:scope.kind=.function)
 (f:∀y∈scope.names,y.2=.local->scope.names.lookup y.1=some .local) (g:scope.names.lookup x=some .local):dS X x [] [] scope [] where
 yl:=closureFor_none a
 sub:=λy c h=>nomatch h
 cell:=b
 kind:=i
 names:=f
 own:=g
 has:=λy h=>by
  have e:(relabel scope X.env).names=scope.names:=by
   refine map_eq_self λz d=>?_
   obtain⟨n,k⟩:=z;have:(k==NameKind.free)=false:=by simpa using a _ d
   simp[this]
  rw[e]at h;rcases h with h|h
  ·exact absurd rfl (b _ (acP h))
  ·exact absurd rfl (a _ (acP h))
 nd:=by simp
 len:=rfl
 at_:=λj y h=>by simp at h
theorem iJ {J:It}{Q:VK}(xs:List V)(g:V->V)(f:∀i:Nat,i<xs.length->J.go i H)(q:∀(i:Nat) (x:V) (c:Hp),i<xs.length->J.kc i H x c->c=H/\xs[i]?=some x)
 (d:J.stop xs.length H) (j:xs.length<=sizeLine) (s:∀(i:Nat) (x:V),xs[i]?=some x->∀R:VK,R (g x) H->r (some x::D) H R) (n:∀a,H a=none->Q (.ref a) (upd H a (.lst (xs.map g)))):
 uv r D Q J H:=by
 refine⟨λi m ys k=>m=xs.length - i/\i<=xs.length/\ys=(xs.take i).map g/\k=H,⟨xs.length,by simp,abS _,by simp,rfl⟩,?_⟩;rintro i m ys k ⟨rfl,t,rfl,rfl⟩;by_cases b:i<xs.length
 ·refine .inr ⟨f i b,by rw[abo,abZ];omega,λx c h=>?_⟩;obtain⟨o,l⟩:=q i x c b h;subst o;refine s i x l _ ⟨xs.length - (i+ 1),by omega,rfl,b,?_,rfl⟩;rw[adj,l];simp
 ·have e:i=xs.length:=by omega
  subst e;refine .inl ⟨d,by rw[abo,abZ];omega,λa p=>?_⟩;rw[acN];exact n a p
theorem C9 {xs:List V}(h:bQ K H a xs):∀i,i<xs.length->(wq K a).go i H:=λi b=>⟨xs,xs[i],h,abm b⟩
theorem Ap {xs:List V}(h:bQ K H a xs):∀i x b,i<xs.length->(wq K a).kc i H x b->b=H/\xs[i]?=some x:=λi x b _ y=>⟨y.1,y.2 xs h⟩
theorem ym {xs:List V}(h:bQ K H a xs):(wq K a).stop xs.length H:=⟨xs,h,abr _⟩
theorem kK {xs:List V}(h:aD K H a xs):∀i,i<xs.length->(wm K a).go i H:=λi b=>⟨xs,xs[i],h,abm b⟩
theorem jr {xs:List V}(h:aD K H a xs):∀i x b,i<xs.length->(wm K a).kc i H x b->b=H/\xs[i]?=some x:=λi x b _ y=>⟨y.1,y.2 xs h⟩
theorem ip {xs:List V}(h:aD K H a xs):(wm K a).stop xs.length H:=⟨xs,h,abr _⟩
inductive Mj (t:TS) (D:Ends) (σ:St) (H:Hp):Prop
 |mk (G:St->Hp->Prop):t { D with nx:=G } σ H->(∀ iG H',G iG H'->D.nx iG H')->Mj t D σ H
theorem cC {st:Stmt}{t:TS}(h:PS X st t):PS X st (Mj t):=by
 intro a s i H D I ⟨G,j,e⟩;refine a8 (h a s i H { D with nx:=G } I j) λf k q=>?_
 cases f with
 |next=>obtain⟨b,c,d,g⟩:=q;exact⟨b,c,d,e b c g⟩
 |_=>exact q
theorem fN {scope:Scope}{env:Env}{k:NameKind}(h:(relabel scope env).names.lookup x=some k)(i:k=.cell\/k=.free)(g:∀z∈scope.names,z.2≠.cell):(x,NameKind.free)∈scope.names:=by
 have f:=acP h;unfold relabel at f;obtain⟨⟨n,c⟩,d,e⟩:=ach.mp f;dsimp only at e;by_cases hf:(c==NameKind.free && env.scope.kind==.function && env.kindOf n==some .cell)=true
 ·rw[abN hf]at e;have b:n=x:=ade Prod.fst e;rw[acM,acM]at hf;have a:c=.free:=eq_of_beq hf.1.1;rw[<-b,<-a];exact d
 ·rw[abH hf]at e;have b:n=x:=ade Prod.fst e;have a:c=k:=ade Prod.snd e;subst b a;rcases i with rfl|rfl
  ·exact absurd rfl (g _ d)
  ·exact d
theorem cx {env:Env}(b:env.scope.kind=.function){y:Str}(a:env.kindOf y=some .cell):∀{names:List (Str×NameKind)},names.lookup y=some .free->
 (names.map λ(n,k)=>if (k==NameKind.free && env.scope.kind==.function && env.kindOf n==some .cell) then (n,NameKind.cell) else (n,k)).lookup y=some .cell
 |[],h=>by simp at h
 |(n,k)::r,h=>by
  have c:=@cx env b y a r
  grind
theorem kl {scope:Scope}(b:closureFor scope X.env=pure [(f,c)])(s:X.env.cells.lookup f=some c)(m:∀z∈scope.names,z.2≠.cell)(r:scope.kind=.function)
 (o:∀z∈scope.names,z.2=.local->scope.names.lookup z.1=some .local) (q:scope.names.lookup x=some .local) (a:∀z∈scope.names,z.2=.free->z.1=f) (n:x≠f) (p:X.N[i]?=some f)
 (g:X.env.kindOf f=some .cell) (k:X.env.scope.kind=.function) (l:scope.names.lookup f=some .free):dS X x [f] [i] scope [(f,c)] where
 yl:=b
 sub:=λz d h=>by
  grind
 cell:=m
 kind:=r
 names:=o
 own:=q
 has:=λz h=>by
  have e:z=f:=by
   rcases h with h|h
   ·exact a _ (fN h (.inl rfl) m) rfl
   ·exact a _ (fN h (.inr rfl) m) rfl
  subst e;exact⟨c,by simp[adv]⟩
 nd:=by simp[n]
 len:=rfl
 at_:=λj z h=>by
  cases j with
  |zero=>
   have e:f=z:=by simpa using h
   subst e;exact⟨i,rfl,p,.inl g,c,by simp[adv],.inl (cx k g l)⟩
  |succ j=>simp at h
namespace Rv
theorem Dc:Slot "reversed" "__init__" "object.__init__":=
 .of (owner:="object") (n:="__init__") (by rw[typeLookup_type,builtinLookup_eq_fast];kernel_rfl) (by decide) (by decide) (by decide)
  (by first|exact .inl (by decide)|exact .inr (by decide)) (by rw[isSubtype_type];kernel_rfl)
theorem called:TypeCalled "reversed" "reversed.__new__" "object.__init__":=
 ⟨by decide,by decide,⟨_,_,PySem.F.mro_reversed⟩,PySem.F.made_reversed,by decide,by rw[isSubtype_type];kernel_rfl,Dc⟩
def aat (h:Heap)(it t:Addr)(i:Int):Prop:=∃o,h.get? it=some o/\o.cls=.type "reversed"/\o.data=.fields #[.ref t,rawInt i]
end Rv
def ao (ns:List Int):List V:=ns.map V.int
theorem bV (h:l[i]?=some z):(ao l)[i]?=some (V.int z):=by
 unfold ao;rw[aby,h];rfl
theorem aI (ns:List Int):(ao ns).length=ns.length:=abo ..
theorem cq (h:(ao l)[i]?=some q):∃z,q=V.int z/\l[i]?=some z:=by
 unfold ao at h
 grind
theorem ints_app (a b:List Int):ao (a++b)=ao a++ao b:=abU ..
theorem all_eq (ns ms:List Int):((List.range (min ns.length ms.length)).all (λj=>decide (ns[j]?=ms[j]?)) && ns.length==ms.length)=decide (ns=ms):=by
 rw[acV,acM,List.all_eq_true,acs,aeC];constructor
 ·rintro ⟨a,b⟩;refine adk λi=>?_
  grind
 grind
section
variable {X:Cx}
inductive Ql (K:Za1) (x:V) (y:V) (H:Hp) (Q:VK):Prop
 |mk (a b:Addr) (ns ms:List Int):x=.ref a->y=.ref b->bQ K H a (ao ns)->bQ K H b (ao ms)->Q (.bl (decide (ns=ms))) H->Ql K x y H Q
inductive Qm (K:Za1) (x:V) (y:V) (H:Hp) (Q:VK):Prop
 |mk (a b:Addr) (ns ms:List Int):x=.ref a->y=.ref b->bQ K H a (ao ns)->bQ K H b (ao ms)->Q (.bl (!decide (ns=ms))) H->Qm K x y H Q
theorem Aq {b:List Int}{a:List Value}(f:Vals (ao l) N)(h:Vals (ao b) a)(j:Nat)(w:j<N.toArray.size)(q:j<a.toArray.size):
 SeqAt.EqAt A s N.toArray[j] a.toArray[j] (decide (l[j]?=b[j]?)):=by
 have m:=f.length;have k:=h.length;rw[aI]at m k;have x:j<N.length:=by simpa using w
 have o:j<a.length:=by simpa using q
 have g:l[j]?=some l[j]:=abm (by omega)
 have d:b[j]?=some b[j]:=abm (by omega)
 obtain⟨u,n,t,rfl⟩:=f.get (bV g);obtain⟨v,i,c,rfl⟩:=h.get (bV d)
 have r:N.toArray[j]=Value.int l[j] t:=by
  rw[List.getElem_toArray];exact Za0 ((abm x).symm.trans n)
 have p:a.toArray[j]=Value.int b[j] c:=by
  rw[List.getElem_toArray];exact Za0 ((abm o).symm.trans i)
 rw[r,p,g,d];have:=SeqAt.EqAt.int_int (A:=A) (s:=s) l[j] t b[j] c
 have e:decide (some l[j]=some b[j])=(l[j]==b[j]):=by
  rw[acV,acs,aeC];exact⟨Za0,ade some⟩
 rw[e];exact this
inductive Ml (K:Za1) (xs:List V) (H:Hp) (Q:VK):Prop
 |mk (x:V) (T:String) (t:Value) (b:Bool):xs=[x,.ty T]->i6 K H x t->PySem.W.kitOne K t (.type T)=some b->Q (.bl b) H->Ml K xs H Q
theorem fD:fX X (.builtin "isinstance") (Ml X.K):=by
 intro a s l H i j Q I r h;obtain⟨x,T,t,b,rfl,g,e,q⟩:=h;obtain⟨u,k,rfl,d,f⟩:=vals2 r;cases f;exact C1 I d g e λc=>⟨.bl b,H,I.tok c,rfl,q⟩
theorem tG (K:Za1)(T:String):PySem.W.kitOne K (.type T) (.type T)=some true:=by
 unfold PySem.W.kitOne
 grind
theorem yn (K:Za1):PySem.W.kitOne K (.type "int") (.type "bool")=some false:=by
 first|rfl|kernel_rfl|decide
end
theorem aq.upd {o:HO}(h:H a=Option.none):aq H (upd H a o):=λb u e=>by
 rw[ak (aw e h)];exact e
section
variable {X:Cx}
def Qn (i j:Int):Prop:=0<j/\Builtin.divisionGoesByPylong i j=false
theorem yo:fy X (binaryOp .FloorDiv) (rI Qn λi j=>.int (i / j)):=CP λi j _ _ _ _ _ a q=>by
 have b:(0:Int)<j:=a.1;exact floordiv_int (by omega) (by rw[Int.fdiv_eq_ediv_of_nonneg i (by omega)];exact q) (.inl a.2)
inductive Dd (x:V) (y:V) (H:Hp) (Q:VK):Prop
 |mk (a b:Addr) (xs ys:List V):x=.ref a->y=.ref b->H a=some (.tup xs)->H b=some (.tup ys)->xs.length+ ys.length<=sizeLine->(∀p H',aq H H'->H' p=some (.tup (xs++ys))->Q (.ref p) H')->Dd x y H Q
theorem FP {ws:List Value}(q:IsTup s.heap a ([]:List Value).toArray)(p:IsTup s.heap b ws.toArray)
 (h:Q (.ref b) s):wpAny (model P w) A (binaryOp .Add (.ref a) (.ref b)) Q E s:=by
 obtain⟨⟨cls,m,data,o⟩,j,k,n,l⟩:=id q;obtain⟨⟨i,g,data2,f⟩,e,c,r,d⟩:=id p;simp only at k l c d;subst k l c d
 exact concat_meets ⟨_,j,rfl⟩ ⟨_,e,rfl⟩ noFill_tuple_add seq_tuple_add aew aeo (ael _ _)
  (tuple_addW0 a b ([]:List Value).toArray ws.toArray n r m g o f rfl) ⟨j,e,h⟩
theorem kL:fy X (binaryOp .Add) Dd:=by
 intro c s w H x y v u Q I l m h;obtain⟨a,b,i,ys,rfl,rfl,g,d,z,q⟩:=h;by_cases k:i=[]
 ·subst k;cases l;cases m;obtain⟨f,t,n,_⟩:=I.tuple (bQ.of g);obtain⟨j,A,r,_⟩:=I.tuple (bQ.of d);have e:f=[]:=t.rF.mpr rfl;subst e;exact FP n r ⟨.ref b,H,I,rfl,q b H (aq.refl H) d⟩
 ·refine JS c s w H (.ref a) (.ref b) v u Q I l m ⟨a,b,i,ys,rfl,rfl,bQ.of g,bQ.of d,k,z,λe=>?_,λ_ p o=>q p _ (aq.upd o) ai⟩;subst e;exact q a H (aq.refl H) (by rw[abO];exact g)
inductive HQ (x:V) (lo:Option Int) (hi:Option Int) (H:Hp) (Q:VK):Prop
 |mk (a:Addr) (xs:List V):x=.ref a->H a=some (.tup xs)->(∀p H',aq H H'->H' p=some (.tup (gf xs lo hi))->Q (.ref p) H')->HQ x lo hi H Q
end
end L2
namespace HT
open PySem PyProof.Rows
section
variable {prog:Program}{w:World}{A:Around}{E:Value->Shared->Prop}{s:Shared}
theorem pW {items:Array Value}{lo j:Option Int}(c:IsTup s.heap a items)(i:s.heap.IsSliceOf b v u .none)(pl:IsPart v lo)(l:IsPart u j)
 (hw:bX items.size 0 lo=0/\bX items.size items.size j=items.size) (h:Q (.ref a) s):wpAny (model prog w) A (getItem (.ref a) (.ref b)) Q E s:=by
 obtain⟨os,g,f,n⟩:=id i;have e:s.TypeIs (.ref b) "slice":=⟨os,g,f⟩;unfold getItem
 try with_reducible refine acD ?_
 first|refine abi (abq ?_)|skip
 refine abi (wpAny_sequenceKey c.typeIs (by decide) ?_)
 refine abi (acf (name:=Str.ofString "__getitem__") c.typeIs ab3
  (acp ab3 c.typeIs entry_tuple_getitem ?_ (args_tuple_getitem _ _)))
 show wpAny _ _ (Builtin.Tuple.tupleItemsOf (.ref a) >>=_) _ _ s;refine abi (tupleItemsOf_ c ?_);refine abi (adw e ?_);rw[abN (by decide)];refine abi (kJ i pl l ?_);rw[hw.1,hw.2];have d:((((0:Nat):Int)==0 && (1:Int)==1 && (items.size - 0)==items.size)=true):=by simp
 show wpAny _ _ (if (((0:Nat):Int)==0 && (1:Int)==1 && (items.size - 0)==items.size)=true then _ else _) _ _ s;rw[abN d];obtain⟨p,o,k,_⟩:=id c;refine abi (m:=Builtin.Tuple.tupleIsExact _) ?_;unfold Builtin.Tuple.tupleIsExact;refine abi (adw c.typeIs (abq ?_));show wpAny _ _ (if (Value.type "tuple"==Value.type "tuple")=true then _ else _) _ _ s;rw[abN (by decide)];exact abi (wpAny_rule (abq ⟨_,rfl,abq h⟩))
theorem tH {t:Tok}{Q:Int×Int×Nat->Shared->Prop}(e:s.heap.IsSliceOf a .none .none (.int (-1) t))
 (h:Q ((n:Int) - 1,-1,n) s):wpAny (model prog w) A (Builtin.Slice.sliceApplied (.ref a) (pure (n:Int))) Q E s:=by
 obtain⟨os,c,i,b⟩:=id e;unfold Builtin.Slice.sliceApplied Builtin.Slice.sliceFields;refine abi (abi (ace c b (x:=.none) rfl (abi (ace c b (x:=.none) rfl (abi (ace c b (x:=.int (-1) t) rfl (abq ?_)))))));refine abi (slicePart_int ?_);show wpAny _ _ (if ((-1:Int)==0)=true then _ else _) _ _ s;rw[abH (by decide)];refine abi (slicePart_none (abi (slicePart_none (abi (abq ?_)))));show wpAny _ _ (match Builtin.Slice.sliceAdjust none none (-1) (n:Int) with|(lo,f)=>pure (lo,(-1:Int),Builtin.Slice.slicePlaces lo f (-1))) _ _ s
 have g:Builtin.Slice.sliceAdjust none none (-1) (n:Int)=((n:Int) - 1,-1):=by
  unfold Builtin.Slice.sliceAdjust;simp
 rw[g];show wpAny _ _ (pure ((n:Int) - 1,(-1:Int),Builtin.Slice.slicePlaces ((n:Int) - 1) (-1) (-1))) _ _ s
 have d:Builtin.Slice.slicePlaces ((n:Int) - 1) (-1) (-1)=n:=by
  unfold Builtin.Slice.slicePlaces;simp;omega
 rw[d];exact abq h
theorem FQ (xs:List Value):((List.range xs.length).filterMap λ(m:Nat)=>xs.toArray[((xs.length:Int) - 1+ (m:Int)* (-1)).toNat]?).toArray=xs.reverse.toArray:=by
 congr 1
 refine adk λi=>?_
 have e:(List.range xs.length).filterMap (λ(m:Nat)=>xs.toArray[((xs.length:Int) - 1+ (m:Int)* (-1)).toNat]?)=(List.range xs.length).map λm=>xs.getD (xs.length - 1 - m) .none:=by
  have:∀l:List Nat,(∀m∈l,m<xs.length)->l.filterMap (λ(m:Nat)=>xs.toArray[((xs.length:Int) - 1+ (m:Int)* (-1)).toNat]?)=l.map λm=>xs.getD (xs.length - 1 - m) .none:=by
   intro l
   induction l with
   |nil=>intro _;rfl
   |cons m l g=>
    intro b;have a:=b m (abA ..);have f:((xs.length:Int) - 1+ (m:Int)* (-1)).toNat=xs.length - 1 - m:=by omega
    have d:xs.toArray[((xs.length:Int) - 1+ (m:Int)* (-1)).toNat]?=some (xs.getD (xs.length - 1 - m) .none):=by
     rw[f,List.getElem?_toArray,abt,abm (by omega)];rfl
    rw[List.filterMap_cons,d,acg,g λk h=>b k (abR _ h)]
  exact this _ λm a=>aca.mp a
 rw[e,aby];by_cases c:i<xs.length
 ·rw[List.getElem?_reverse c,acQ c,abm (by omega)];simp[abt,abm (show xs.length - 1 - i<xs.length by omega)]
 ·rw[abT (by simp;omega),abT (by simp;omega)];rfl
theorem sg {o:Tok}(d:IsTup s.heap a N.toArray)(l:s.heap.IsSliceOf b .none .none (.int (-1) o))
 (h:Q (.ref s.heap.objs.size) { s with heap:=s.heap.push { cls:=.type "tuple",data:=.seq N.reverse.toArray } })
 (g:N.length<=sizeLine):wpAny (model prog w) A (getItem (.ref a) (.ref b)) Q E s:=by
 have c:sizeOk (.seq N.reverse.toArray):=by
  show N.reverse.toArray.size<=sizeLine;rw[abK,aeg];exact g
 obtain⟨os,k,j,n⟩:=id l;have f:s.TypeIs (.ref b) "slice":=⟨os,k,j⟩;unfold getItem
 try with_reducible refine acD ?_
 first|refine abi (abq ?_)|skip
 refine abi (wpAny_sequenceKey d.typeIs (by decide) ?_)
 refine abi (acf (name:=Str.ofString "__getitem__") d.typeIs ab3
  (acp ab3 d.typeIs entry_tuple_getitem ?_ (args_tuple_getitem _ _)))
 show wpAny _ _ (Builtin.Tuple.tupleItemsOf (.ref a) >>=_) _ _ s;refine abi (tupleItemsOf_ d ?_);refine abi (adw f ?_);rw[abN (by decide)];refine abi (tH l ?_)
 have i:¬((((N.toArray.size:Int) - 1)==0 && (-1:Int)==1 && N.toArray.size==N.toArray.size)=true):=by
  intro q;rw[acM,acM]at q;exact absurd q.1.2 (by decide)
 show wpAny _ _ (if (((N.toArray.size:Int) - 1)==0 && (-1:Int)==1 && N.toArray.size==N.toArray.size)=true then _ else _) _ _ s;rw[abH i];have e:=FQ N;rw[show N.length=N.toArray.size from rfl]at e;rw[e]
 first
  |exact abi (m:=Builtin.Tuple.tupleExact _) (ab4 (abq ⟨_,rfl,abq h⟩) c)
  |exact abi (m:=Builtin.Tuple.tupleExact _) (ab4 (abi (abq (abq ⟨_,rfl,abq h⟩))) c)
  |exact abi (abi (m:=Builtin.Tuple.tupleExact _) (ab4 (abq (abq ⟨_,rfl,abq h⟩)) c))
  |exact abi (abi (m:=Builtin.Tuple.tupleExact _) (ab4 (abq ⟨_,rfl,abq h⟩) c))
end
theorem tI:fillsNumberSlot (.type "tuple") "mul"=pure false:=
 PySem.fillsNumberSlot_seq (id:="tuple.__mul__") (r:=some (.builtin "tuple.__rmul__")) PySem.F.slot_tuple_mul.lookup (by decide) PySem.F.slot_tuple_rmul.lookup (by decide)
theorem yp:seqRepeat? (.type "tuple")=pure (some (.builtin "tuple.__mul__")):=by
 unfold seqRepeat?;rw[PySem.seqSlot_of (T:="tuple") (name:="__mul__") (id:="tuple.__mul__") PySem.F.slot_tuple_mul.lookup (by decide),PySem.seqSlot_of (T:="tuple") (name:="__rmul__") (id:="tuple.__rmul__") PySem.F.slot_tuple_rmul.lookup (by decide)];rfl
theorem vM (a:Int)(t:Tok)(l:Addr)(items:Array Value)(n:Nat)(c:Option Addr)(e:Array (Option Value)):
 Meets (Builtin.«int.__rmul__» ⟨[.int a t,.ref l],[]⟩) (λ_ R s=>s.heap.get? l=some { cls:=.type "tuple",dict:=c,data:=.seq items n,slots:=e }/\R (.ok (.ret Value.notImplemented)) s):=
 .of_wp λb w A R s h=>by obtain⟨i,g,d,j,os⟩:=s;obtain⟨f,h⟩:=h;wp_walk;exact⟨_,rfl,h⟩
theorem vN (l:Addr)(items:Array Value)(n:Nat)(b:Option Addr)(f:Array (Option Value))(x:Int)(u:Tok)(j:¬(decide (x < -(2 ^ 63)) || decide (x>=2 ^ 63))=true)(k:(items.isEmpty || x==1)=true):
 Meets (Builtin.«tuple.__mul__» ⟨[.ref l,.int x u],[]⟩) (λ_ R s=>s.heap.get? l=some { cls:=.type "tuple",dict:=b,data:=.seq items n,slots:=f }/\R (.ok (.ret (.ref l))) s):=
 .of_wp λa w A R s h=>by
  obtain⟨c,g,d,i,os⟩:=s;obtain⟨e,h⟩:=h;have m:(⟨c,g,d,i,os⟩:Shared).TypeIs (.ref l) "tuple":=⟨_,e,rfl⟩
  wp_walk
  refine wpAny_ite_false (acj j) ?_
  wp_walk
  exact⟨_,rfl,h⟩
theorem vO (l:Addr)(items:Array Value)(n:Nat)(b:Option Addr)(f:Array (Option Value))(x:Int)(u:Tok)(j:¬(decide (x < -(2 ^ 63)) || decide (x>=2 ^ 63))=true)(k:¬(items.isEmpty || x==1)=true)(m:(decide (x<=0) || items.isEmpty)=true):
 Meets (Builtin.«tuple.__mul__» ⟨[.ref l,.int x u],[]⟩) (λ_ R s=>s.heap.get? l=some { cls:=.type "tuple",dict:=b,data:=.seq items n,slots:=f }/\R (.ok (.ret (.ref s.heap.objs.size))) { s with heap:=s.heap.push { cls:=.type "tuple",data:=.seq #[] } }):=
 .of_wp λa w A R s h=>by
  obtain⟨c,g,d,i,os⟩:=s;obtain⟨e,h⟩:=h;have o:(⟨c,g,d,i,os⟩:Shared).TypeIs (.ref l) "tuple":=⟨_,e,rfl⟩
  wp_walk
  refine wpAny_ite_false (acj j) ?_
  wp_walk
  exact⟨_,rfl,h⟩
theorem vP (l:Addr)(items:Array Value)(n:Nat)(e:Option Addr)(j:Array (Option Value))(x:Int)(u:Tok)(m:¬(decide (x < -(2 ^ 63)) || decide (x>=2 ^ 63))=true)(p:¬(items.isEmpty || x==1)=true)(q:¬(decide (x<=0) || items.isEmpty)=true)
 (o:¬((items.size:Int)* x > (2 ^ 63 - 1) / 8)) (t:¬(Builtin.Tuple.tupleTooMany ((items.size:Int)* x))=true) (v:(List.foldl (λa b=>a++b) #[] (List.replicate x.toNat items)).size<=sizeLine):
 Meets (Builtin.«tuple.__mul__» ⟨[.ref l,.int x u],[]⟩) (λ_ R s=>s.heap.get? l=some { cls:=.type "tuple",dict:=e,data:=.seq items n,slots:=j }/\R (.ok (.ret (.ref s.heap.objs.size))) { s with heap:=s.heap.push { cls:=.type "tuple",data:=.seq (List.foldl (λa b=>a++b) #[] (List.replicate x.toNat items)) } }):=
 .of_wp λc w A R s h=>by
  obtain⟨f,g,d,k,os⟩:=s;obtain⟨i,h⟩:=h;have r:(⟨f,g,d,k,os⟩:Shared).TypeIs (.ref l) "tuple":=⟨_,i,rfl⟩
  wp_walk
  refine wpAny_ite_false (acj m) ?_
  wp_walk
  refine wpAny_ite_false (acj o) ?_
  wp_walk
  exact⟨_,rfl,h⟩
end HT
namespace L2
open PySem PySem.Spec PyProof.Rows
section
variable {X:Cx}{e:Expr}{te:TE}{lo hi:Option Expr}{st:Expr}{tl th ts:TO}{pos p2:Pos}
theorem yq:HJ X HQ:=by
 intro b s n H x v l o lo hi m Q I i g pl f h;obtain⟨a,xs,rfl,c,q⟩:=h;by_cases hw:HT.bX xs.length 0 lo=0/\HT.bX xs.length xs.length hi=xs.length
 ·cases i;obtain⟨d,r,j,t⟩:=I.tuple (bQ.of c);have hlen:d.toArray.size=xs.length:=by rw[abK];exact r.length.symm
  refine⟨"tuple",_,ab3.lookup,j.typeIs,?_⟩;refine HT.pW j g pl f (by rw[hlen];exact hw) ⟨.ref a,H,I,rfl,q a H (aq.refl H) ?_⟩;unfold gf;rw[hw.1,hw.2,List.drop_zero,Nat.sub_zero,acN];exact c
 ·exact L6 b s n H (.ref a) v l o lo hi m Q I i g pl f ⟨a,xs,rfl,bQ.of c,hw,λp k=>q p _ (aq.upd k) ai⟩
def Mm (X:Cx)(r:V->Option Int->Option Int->Option Int->Hp->VK->Prop):Prop:=
 ∀(a:List (Addr×Obj)) (s:Shared) (b:St) (H:Hp) (x:V) (v c d g:Value) (lo hi st:Option Int) (f:Addr) (Q:VK),Inv X a b H s->RelV x v->s.heap.IsSliceOf f c d g->IsPart c lo->IsPart d hi->IsPart g st->r x lo hi st H Q->
  ∃T id,typeLookup (.type T) "__getitem__"=pure (some (.builtin id))/\s.TypeIs v T/\wpAny (model X.prog X.w) X.A (getItem v (.ref f)) (EP X a b Q) X.xe s
def UQ (r:V->Option Int->Option Int->Option Int->Hp->VK->Prop)(te:TE)(tl th ts:TO):TE:=λ a H Q=>te a H λx f=>tl a f λl b=>th a b λu d=>ts a d λk c=>r x l u k c Q
theorem De {r:V->Option Int->Option Int->Option Int->Hp->VK->Prop}(E:Mm X r)(R:PE X e te)(t:PO X lo tl)(D:PO X hi th)(i:PO X (some st) ts):PE X (.Subscript e (.Slice lo hi (some st) p2) pos) (UQ r te tl th ts):=by
 intro a s c H Q I h;refine Subscript_ (a8 (R a s c H _ I h) λv p ⟨x,B,y,z,n⟩=>?_);refine wpAny_Slice (a8 (t a p c B _ y n) λd F ⟨l,A,w,pl,m⟩=>a8 (D a F c A _ w m) λg M ⟨u,S,W,o,J⟩=>a8 (i a M c S _ W J) λf s4 ⟨k,j,O,N,L⟩=>?_);have C:Inv X a c j { s4 with heap:=s4.heap.push { cls:=.type "slice",data:=.fields #[d,g,f] } }:=O.kept (t':=s4.toks) λb Z q=>abl _ q
 obtain⟨T,id,G,P,U⟩:=E a { s4 with heap:=s4.heap.push { cls:=.type "slice",data:=.fields #[d,g,f] } } c j x v d g f l u k s4.heap.objs.size Q C z (Heap.IsSliceOf.new ..) pl o N L;show wpAny (model X.prog X.w) X.A (subscriptTail e (.Slice lo hi (some st) p2) v (.ref s4.heap.objs.size)) (EP X a c Q) X.xe { s4 with heap:=s4.heap.push { cls:=.type "slice",data:=.fields #[d,g,f] } };exact tail_any (ops:=[v,.ref s4.heap.objs.size]) P G U (by with_unfolding_all rfl)
def Qo:V->Option Int->Option Int->Option Int->Hp->VK->Prop:=λx lo hi st H Q=>∃a xs,x=.ref a/\H a=some (.tup xs)/\lo=none/\hi=none/\st=some (-1)/\∀p,H p=none->Q (.ref p) (upd H p (.tup xs.reverse))
theorem JW:Mm X Qo:=by
 intro d s C H x v y D j lo hi st B Q I m k pl g p h;obtain⟨a,xs,rfl,l,rfl,rfl,rfl,q⟩:=h;cases m;cases pl;cases g;obtain⟨c,rfl⟩:∃c,j=.int (-1) c:=by cases p with|int i t=>exact⟨t,rfl⟩
 obtain⟨n,r,f,u⟩:=I.tuple (bQ.of l);have A:=r.length;refine⟨"tuple",_,ab3.lookup,f.typeIs,?_⟩;refine HT.sg f k ?_ (by omega);refine⟨.ref s.heap.objs.size,_,I.laid (t':=s.toks) (o:=.tup xs.reverse) (λb z q=>abl _ q) (abr _) ?_,rfl,q _ (I.aO.fresh (abr _))⟩;exact⟨by rw[aeg];exact u,_,r.reverse,IsTup.new _ _⟩
inductive HR (x:V) (y:V) (H:Hp) (Q:VK):Prop
 |mk (a:Addr) (k:Int) (xs:List V):x=.ref a->y=.int k->H a=some (.tup xs)-> -(2 ^ 63)<=k->k<2 ^ 63->xs.length* k.toNat<=sizeLine->(∀p H',aq H H'->H' p=some (.tup (List.replicate k.toNat xs).flatten)->Q (.ref p) H')->HR x y H Q
theorem rJ:fy X (binaryOp .Mult) HR:=by
 intro d s L H x y v u Q I Y Z h;obtain⟨l,k,xs,rfl,rfl,G,h1,h2,M,q⟩:=h;cases Y;obtain⟨t,rfl⟩:=Z;obtain⟨a,r,N,W⟩:=I.tuple (bQ.of G);have B:=r.length;obtain⟨⟨cls,g,data,z⟩,j,hc,n,J⟩:=id N;simp only at hc J;subst hc J
 have D:¬(decide (k < -(2 ^ 63)) || decide (k>=2 ^ 63))=true:=by
  rw[aep,acs,acs];omega
 have E:∀{S:PySem.Spec},Meets (Builtin.«tuple.__mul__» ⟨[.ref l,.int k t],[]⟩) (λA' R c=>c.heap.get? l=some { cls:=.type "tuple",dict:=g,data:=.seq a.toArray n,slots:=z }/\S A' R c)->
  S X.A (wants (EP X d L Q) X.xe) s->wpAny (model X.prog X.w) X.A (binaryOp .Mult (.ref l) (.int k t)) (EP X d L Q) X.xe s:=λ{S} m V=>
  wpAny_binaryOp_repeat_ref (T:="tuple") (U:="int") (by decide) ⟨_,j,rfl⟩ (λc=>typeIs_int c k t) HT.tI F.fills_int_mul F.slot_int_rmul HT.yp F.slot_int_index.lookup
   (call_meets F.slot_int_rmul (typeIs_int s k t) F.entry_int_rmul (F.args_int_rmul_2 _ _) (HT.vM k t l a.toArray n g z)
    ⟨j,rfl,⟨_,j,rfl⟩,call_meets F.slot_tuple_mul ⟨_,j,rfl⟩ F.entry_tuple_mul (F.args_tuple_mul_2 _ _) m ⟨j,V⟩⟩)
 by_cases hc:(a.toArray.isEmpty || k==1)=true
 ·refine E (S:=λ_ R c=>R (.ok (.ret (.ref l))) c) (HT.vN l a.toArray n g z k t D hc) ⟨.ref l,H,I,rfl,q l H (aq.refl H) ?_⟩
  have e:(List.replicate k.toNat xs).flatten=xs:=by
   rw[aep]at hc;rcases hc with hc|hc
   ·have:a=[]:=by simpa using hc
    have:xs=[]:=by
     have i:=B;rw[this]at i;exact adP i
    subst this;simp
   ·have:k=1:=by simpa using hc
    subst this;simp
  rw[e];exact G
 ·by_cases f:(decide (k<=0) || a.toArray.isEmpty)=true
  ·refine E (S:=λ_ R c=>R (.ok (.ret (.ref c.heap.objs.size))) { c with heap:=c.heap.push { cls:=.type "tuple",data:=.seq #[] } }) (HT.vO l a.toArray n g z k t D hc f) ?_;refine⟨.ref s.heap.objs.size,_,I.laid (t':=s.toks) (o:=.tup []) (λb P q=>abl _ q) (abr _) ?_,rfl,q _ _ (aq.upd (I.aO.fresh (abr _))) ?_⟩
   ·exact⟨abS _,[],.nil,IsTup.new _ _⟩
   ·have e:k.toNat=0:=by
     rw[aep,acs]at f;rcases f with f|f
     ·omega
     ·exact absurd (by rw[aep];exact .inl f) hc
    rw[e,ai];rfl
  ·have hk:0<k:=by
    rw[aep,acs]at f;omega
   have p:List.foldl (λA C=>A++C) #[] (List.replicate k.toNat a.toArray)=(List.replicate k.toNat a).flatten.toArray:=by
    have:=foldl_rep a k.toNat [];rw[adY]at this;exact this
   have hlen:(List.replicate k.toNat a).flatten.length<=sizeLine:=by rw[len_rep,aeL,<-B];exact M
   have w:((a.toArray.size:Int)* k)=((xs.length* k.toNat:Nat):Int):=by
    rw[abK,<-B,Int.natCast_mul,Int.toNat_of_nonneg (by omega)]
   have hline:(sizeLine:Nat)<=(2 ^ 63 - 1) / 8:=by decide
   refine E (S:=λ_ R c=>R (.ok (.ret (.ref c.heap.objs.size))) { c with heap:=c.heap.push { cls:=.type "tuple",data:=.seq (List.foldl (λA C=>A++C) #[] (List.replicate k.toNat a.toArray)) } })
    (HT.vP l a.toArray n g z k t D hc f (by rw[w];omega) (by unfold Builtin.Tuple.tupleTooMany;rw[acs,w];omega) (by rw[p,abK];exact hlen)) ?_
   rw[p];refine⟨.ref s.heap.objs.size,_,I.laid (t':=s.toks) (o:=.tup (List.replicate k.toNat xs).flatten) (λb P q=>abl _ q) (abr _) ?_,rfl,q _ _ (aq.upd (I.aO.fresh (abr _))) ai⟩;exact⟨by rw[len_rep,aeL];exact M,_,r.rep k.toNat,IsTup.new _ _⟩
end
def tx (l:List Nat):Str:=⟨l.toArray⟩
theorem Df (l:List Nat):(tx l).length=l.length:=by
 show l.toArray.size=l.length;simp
theorem Ar (h:x.cps.toList=f.cps.toList):x=f:=by
 obtain⟨a⟩:=x;obtain⟨b⟩:=f;have:a=b:=Array.toList_inj.mp h;rw[this]
theorem Qp (x:Str):x=tx x.cps.toList:=Ar rfl
theorem Dg (a b:List Nat):tx a++tx b=tx (a++b):=by
 refine Ar ?_;show ((tx a).cps++(tx b).cps).toList=(a++b);rw[Array.toList_append];rfl
section
variable {X:Cx}{pos:Pos}
theorem m8 {l:List Nat}{j}(h:x=tx l):PE X (.Constant (.str x) j pos) (tC (.str (tx l))):=by
 rw[<-h];exact Ln
def yr (n:Int):List Nat:=(toString n:Str).cps.toList
theorem Dh (h:n<10000000000):n.log2<1920:=by
 rcases Nat.eq_zero_or_pos n with e|e
 ·subst e;decide
 ·have a:2 ^ n.log2<=n:=Nat.log2_self_le (by omega);have b:(10000000000:Nat)<2 ^ 1920:=by decide
  exact(Nat.pow_lt_pow_iff_right (by decide:1<2)).mp (abz a (aem h b))
theorem FU {n:Int}(a:0<=n)(h:n<10000000000):(yr n).length<=10:=by
 have:=toString_length_le (v:=n) a (k:=10) (by decide) h;exact this
end
structure Def (K:Za1) (mg:Str->Option Value) (x:Str) (st:Stmt) (ps:List Str) (f:Addr) (fd:FuncData):Prop where
 F:yj K x x st f fd
 m:mg x=some (.ref f)
 b:Binds K fd ps []
inductive Qq (t:TE) (σ:St) (H:Hp) (Q:VK):Prop
 |mk (G:V->Hp->Prop):t σ H G->(∀v H',G v H'->Q v H')->Qq t σ H Q
theorem iq (ns:List Int)(lo a:Option Int):gf (ao ns) lo a=ao ((ns.drop (HT.bX ns.length 0 lo)).take (HT.bX ns.length ns.length a - HT.bX ns.length 0 lo)):=by
 unfold gf ao;rw[abo,List.map_take,List.map_drop]
section
variable {κ:Type} [DecidableEq κ]
def bp (a:List (κ×V))(k:κ):Option V:=(a.find? λb=>decide (b.1=k)).map (·.2)
def putK (a:List (κ×V))(k:κ)(v:V):List (κ×V):=
 if (a.any λb=>decide (b.1=k))=true then a.map (λb=>if b.1=k then (b.1,v) else b) else a++[(k,v)]
def eh (a:List (κ×V))(k:κ):List (κ×V):=a.filter λb=>decide (b.1≠k)
theorem cy {p:κ×V}{r:List (κ×V)}{k:κ}(e:p.1=k):bp (p::r) k=some p.2:=by simp[bp,adZ,e]
theorem cu {p:κ×V}{r:List (κ×V)}{k:κ}(e:¬p.1=k):bp (p::r) k=bp r k:=by simp[bp,adZ,e]
theorem kM (k:κ):∀a:List (κ×V),(a.any λb=>decide (b.1=k))=(bp a k).isSome
 |[]=>rfl
 |p::r=>by
  rw[List.any_cons];by_cases e:p.1=k
  ·simp only[cy e,abX e,Bool.true_or,Option.isSome_some]
  ·rw[cu e,acj e,Bool.false_or];exact kM k r
theorem yt (k j:κ)(y:V):∀a:List (κ×V),bp (a.map λb=>if b.1=k then (b.1,y) else b) j=(bp a j).map λx=>if j=k then y else x
 |[]=>rfl
 |p::r=>by
  have c:=yt k j y r;rw[acg];by_cases h:p.1=k
  ·rw[abN h];by_cases e:p.1=j
   ·rw[cy (p:=(p.1,y)) e,cy e,Option.map_some,abN (e.symm.trans h)]
   ·rw[cu (p:=(p.1,y)) e,cu e,c]
  ·rw[abH h];by_cases e:p.1=j
   ·rw[cy (p:=p) e,cy e,Option.map_some,abH (λz=>h (e.trans z))]
   ·rw[cu (p:=p) e,cu e,c]
theorem wF (k j:κ)(y:V):∀a:List (κ×V),bp a k=none->bp (a++[(k,y)]) j=if j=k then some y else bp a j
 |[],_=>by
  by_cases e:k=j
  ·rw[abN e.symm];exact cy (p:=(k,y)) e
  ·rw[abH (λz=>e z.symm)];exact cu (p:=(k,y)) e
 |p::r,b=>by
  rw[ac1];have c:¬p.1=k:=λz=>by rw[cy z]at b;cases b
  rw[cu c]at b;have d:=wF k j y r b;by_cases e:p.1=j
  ·rw[cy e,cy e,abH (λz=>c (e.trans z))]
  ·rw[cu e,cu e,d]
theorem kO (b:List (κ×V))(k j:κ)(y:V):bp (putK b k y) j=if j=k then some y else bp b j:=by
 unfold putK;by_cases a:(b.any λc=>decide (c.1=k))=true
 ·rw[abN a,yt];rw[kM]at a;by_cases e:j=k
  ·obtain⟨x,d⟩:=aej.mp a
   grind
  ·rw[abH e]
   cases bp b j with
   |none=>rfl
   |some x=>grind
 ·rw[abH a];refine wF k j y b ?_;rw[kM]at a
  cases q:bp b k with
  |none=>rfl
  |some x=>rw[q]at a;exact(a rfl).elim
theorem fO (a:List (κ×V))(k:κ)(v:V):(putK a k v).length<=a.length+ 1:=by
 unfold putK;split
 ·rw[abo];omega
 ·rw[abj,abL,ack];omega
theorem tJ {a:List (κ×V)}{k:κ}(v:V)(h:bp a k=none):putK a k v=a++[(k,v)]:=by
 unfold putK;rw[kM,h];exact abH (by decide)
theorem dU.p9 {o:Option V}{u:Option Value}(r:dU o u):o.isSome=u.isSome:=by
 cases o with
 |none=>cases u with
  |none=>rfl
  |some _=>exact(show False from r).elim
 |some _=>cases u with
  |none=>exact(show False from r).elim
  |some _=>rfl
theorem dU.getD {o:Option V}{u:Option Value}(r:dU o u)(rd:RelV q v):RelV (o.getD q) (u.getD v):=by
 cases o with
 |none=>cases u with
  |none=>exact rd
  |some _=>exact(show False from r).elim
 |some _=>cases u with
  |none=>exact(show False from r).elim
  |some _=>exact r
theorem KV.val {a:List (κ×V)}{g:List (κ×Value)}(r:KV a g)(k:κ):dU (bp a k) (valueAt g k):=by
 induction r with
 |nil=>exact True.intro
 | @cons p q l c h t j=>
   obtain⟨f,i⟩:=h;by_cases e:p.1=k
   ·have d:q.1=k:=f.symm.trans e;have b:valueAt (q::c) k=some q.2:=by simp[valueAt,adZ,d]
    rw[cy e,b];exact i
   ·have d:¬q.1=k:=λz=>e (f.trans z)
    have b:valueAt (q::c) k=valueAt c k:=by simp[valueAt,adZ,d]
    rw[cu e,b];exact j
theorem KV.any {a:List (κ×V)}{c:List (κ×Value)}(r:KV a c)(k:κ):(a.any λb=>decide (b.1=k))=c.any λb=>decide (b.1=k):=by
 induction r with
 |nil=>rfl
 |cons h t d=>rw[List.any_cons,List.any_cons,d,h.1]
theorem KV.repl {b:List (κ×V)}{c:List (κ×Value)}(r:KV b c)(k:κ){y:V}{u:Value}(f:RelV y u):
 KV (b.map λa=>if a.1=k then (a.1,y) else a) (c.map λa=>if a.1=k then (a.1,u) else a):=by
 induction r with
 |nil=>exact .nil
 | @cons p q g e h t d=>
   rw[acg,acg];refine .cons ?_ d
   grind
theorem KV.put {a:List (κ×V)}{b:List (κ×Value)}(r:KV a b)(k:κ){y:V}{u:Value}(c:RelV y u):KV (putK a k y) (stored b k u):=by
 unfold putK stored;rw[r.any k];by_cases e:(b.any λd=>decide (d.1=k))=true
 ·rw[abN e,abN e];exact r.repl k c
 ·rw[abH e,abH e];exact Paired.snoc r ⟨rfl,c⟩
theorem KV.drop {c:List (κ×V)}{f:List (κ×Value)}(r:KV c f)(k:κ):KV (eh c k) (without f k):=by
 unfold eh without
 induction r with
 |nil=>exact .nil
 | @cons p q m l h t i=>
   obtain⟨d,g⟩:=h;rw[List.filter_cons,List.filter_cons];by_cases e:p.1=k
   ·grind
   ·have j:¬q.1=k:=λz=>e (d.trans z)
    have a:decide (p.1≠k)=true:=by simp[e]
    have b:decide (q.1≠k)=true:=by simp[j]
    rw[abN a,abN b];exact .cons ⟨d,g⟩ i
theorem KV.length {a:List (κ×V)}{b:List (κ×Value)}(r:KV a b):a.length=b.length:=Paired.length r
theorem FV (a:List (κ×V))(k:κ):(eh a k).length<=a.length:=ad0 _ _
end
theorem i9 {k:Key}(r:RelV (kV k) u):(bR P w).is k u=true:=by
 cases k with
 |inl i=>obtain⟨t,e⟩:=(show ∃t,u=Value.int i t from r);subst e;exact zO P w i t
 |inr x=>obtain⟨t,e⟩:=(show ∃t,u=Value.str x t from r);subst e;exact zP P w x t
theorem wG:∀{a:List Key} {b:List Value},Vals (a.map kV) b->ItemsAre (bR P w) a b
 |[],_,r=>by cases r;exact .nil
 |k::a,_,r=>by
  cases r with
  |cons h t=>exact .cons (i9 h) (wG t)
abbrev KT (H:Hp):List (List Key×V)->List (List Key×Addr×Value)->Prop:=Paired λp q=>p.1=q.1/\H q.2.1=some (.tup (p.1.map kV))/\RelV p.2 q.2.2
theorem KT.val {a:List (List Key×V)}{f:List (List Key×Addr×Value)}(r:KT H a f)(k:List Key):dU (bp a k) ((atKey f k).map (·.2)):=by
 induction r with
 |nil=>exact True.intro
 | @cons p q l c h t j=>
   obtain⟨g,_,i⟩:=h;by_cases e:p.1=k
   ·have d:q.1=k:=g.symm.trans e;have b:atKey (q::c) k=some q.2:=by simp[atKey,adZ,d]
    rw[cy e,b];exact i
   ·have d:¬q.1=k:=λz=>e (g.trans z)
    have b:atKey (q::c) k=atKey c k:=by simp[atKey,adZ,d]
    rw[cu e,b];exact j
theorem KT.repl {a:List (List Key×V)}{xs:List (List Key×Addr×Value)}(r:KT H a xs)(k:List Key){y:V}{u:Value}(f:RelV y u):
 KT H (a.map λb=>if b.1=k then (b.1,y) else b) (xs.map (putAt k u)):=by
 induction r with
 |nil=>exact .nil
 | @cons p q g e h t c=>
   rw[acg,acg];refine .cons ?_ c;obtain⟨i,j,d⟩:=h;unfold putAt
   grind
theorem KT.put {a:List (List Key×V)}{c:List (List Key×Addr×Value)}(r:KT H a c)(k:List Key){b:Addr}{y:V}{u:Value}(f:H b=some (.tup (k.map kV)))(d:RelV y u):
 KT H (putK a k y) (storedH c k b u):=by
 have e:(a.any λg=>decide (g.1=k))=(atKey c k).isSome:=by
  rw[kM,(r.val k).p9,Option.isSome_map]
 unfold putK storedH;rw[e];by_cases q:(atKey c k).isSome=true
 ·rw[abN q,abN q];exact r.repl k d
 ·rw[abH q,abH q];exact Paired.snoc r ⟨rfl,f,d⟩
theorem KT.keeps {a:List (List Key×V)}{c:List (List Key×Addr×Value)}(r:KT H a c)(d:∀b ys,H b=some (.tup ys)->I b=some (.tup ys)):KT I a c:=
 Paired.Fs r λ_ _ z=>⟨z.1,d _ _ z.2.1,z.2.2⟩
section
variable {P:Program}{w:World}{H:Hp}{h:Heap}{a:Addr}
theorem HS {u:HO}(ok:dg P w H h)(e:Rd H a u):bU P w H h a u:=e.ok ok
theorem oE {b:List (Key×V)}(ok:dg P w H h)(e:Rd H a (.dK b)):b.length<=sizeLine/\(a==sysModules)=false/\∃c,KV b c/\h.DictOf (bR P w) a c:=
 show bU P w H h a (.dK b) from HS ok e
theorem rK {b:List (Key×V)}(ok:dg P w H h)(e:H a=some (.dK b)):b.length<=sizeLine/\(a==sysModules)=false/\∃c,KV b c/\h.DictOf (bR P w) a c:=oE ok (.inl e)
theorem kP {b:List Key}(ok:dg P w H h)(e:H a=some (.tup (b.map kV))):(tupleKind (bR P w)).is h b a:=by
 obtain⟨_,c,r,o,f,g,n,d⟩:=(show bU P w H h a (.tup (b.map kV)) from ok a _ e);exact⟨o,c.toArray,n,f,g,d,by simpa using wG r⟩
theorem oF {b:List (List Key×V)}(ok:dg P w H h)(e:Rd H a (.dT b)):b.length<=sizeLine/\(a==sysModules)=false/\
 ∃d,KT H b d/\h.DictOfH (tupleKind (bR P w)) a d:=by
 obtain⟨z,y,d,r,o,i,g,u,k,s,j,v⟩:=(show bU P w H h a (.dT b) from HS ok e);refine⟨z,y,d,r,o,i,g,u,k,s,j,λx c=>?_,v⟩
 have all:∀{l:List (List Key×V)} {m:List (List Key×Addr×Value)},KT H l m->∀x∈m,(tupleKind (bR P w)).is h x.1 x.2.1:=by
  intro l m q
  induction q with
  |nil=>intro x c;exact nomatch c
  | @cons p q B A f t n=>
    intro x c;rcases abD.mp c with e|c
    ·subst e;exact kP ok (by rw[<-f.1];exact f.2.1)
    ·exact n x c
 exact all r x c
theorem HV {b:List (List Key×V)}(ok:dg P w H h)(e:H a=some (.dT b)):b.length<=sizeLine/\(a==sysModules)=false/\
 ∃c,KT H b c/\h.DictOfH (tupleKind (bR P w)) a c:=oF ok (.inl e)
end
def dX (H:Hp)(a:Addr)(y:V)(r:Option V):Prop:=
 (∃c k,Rd H a (.dK c)/\y=kV k/\r=bp c k)\/∃c k b,Rd H a (.dT c)/\y=.ref b/\H b=some (.tup (k.map kV))/\r=bp c k
def oH (H:Hp)(a:Addr)(y v:V)(d:Hp):Prop:=
 (∃c k,H a=some (.dK c)/\y=kV k/\c.length<sizeLine/\d=upd H a (.dK (putK c k v)))\/
 ∃c k b,H a=some (.dT c)/\y=.ref b/\H b=some (.tup (k.map kV))/\c.length<sizeLine/\d=upd H a (.dT (putK c k v))
theorem dX.k {b:List (Key×V)}{k:Key}(e:H a=some (.dK b)):dX H a (kV k) (bp b k):=.inl ⟨b,k,.inl e,rfl,rfl⟩
theorem oH.k {b:List (Key×V)}{k:Key}(e:H a=some (.dK b))(c:b.length<sizeLine):oH H a (kV k) q (upd H a (.dK (putK b k q))):=.inl ⟨b,k,e,rfl,c,rfl⟩
section
variable {X:Cx}{pins:List (Addr×Obj)}{σ:St}{H:Hp}{s:Shared}{a:Addr}{y v:V}{u r:Value}{o:Option V}{A:Around}{E:Value->Shared->Prop}
theorem Inv.big (I:Inv X pins σ H s):sysModules<s.heap.objs.size:=by
 have h:mainGlobals<s.heap.objs.size:=(I.mod.glob.keeps I.bk).lt;exact aem (by decide) h
theorem Dj (C:A.units+ 1<cLine)(I:Inv X pins σ H s)(g:dX H a y (some v))(q:RelV y u)(h:∀d t,Inv X pins σ H t->RelV v d->Q d t):
 wpAny (model X.prog X.w) A (getItem (.ref a) u) Q E s:=by
 rcases g with ⟨n,k,e,i,l⟩|⟨n,k,b,e,i,F,l⟩
 ·subst i;obtain⟨z,D,B,rel,j⟩:=oE I.aO e;obtain⟨d,m,c⟩:=dU.some_of (v:=v) (o:=valueAt B k) (by rw[l];exact rel.val k);exact wpAny_getItem_of (i9 q) j.mapOf m (h d _ (I.tok _) c)
 ·subst i;cases (show u=Value.ref b from q);obtain⟨z,D,w,rel,j⟩:=oF I.aO e;obtain⟨d,m,c⟩:=dU.some_of (v:=v) (o:=(atKey w k).map (·.2)) (by rw[l];exact rel.val k);obtain⟨p,x,f⟩:=acz.mp m;refine wpAny_getItem_heap (adx C) (kP I.aO F) j x ?_;rw[f];exact h d _ (I.tok _) c
theorem JX (n:A.units+ 1<cLine)(I:Inv X pins σ H s)(g:dX H a y o)(j:RelV y u)(h:∀m,Inv X pins σ H m->Q (.bool (!o.isSome)) m):
 wpAny (model X.prog X.w) A (compareOp .NotIn u (.ref a)) Q E s:=by
 rcases g with ⟨f,k,e,c,l⟩|⟨f,k,b,e,c,p,l⟩
 ·subst c;obtain⟨z,i,w,rel,d⟩:=oE I.aO e;refine wpAny_notIn_of (i9 j) i d.mapOf ?_;rw[<-(rel.val k).p9,<-l];exact h _ (I.tok _)
 ·subst c;cases (show u=Value.ref b from j);obtain⟨z,i,t,rel,d⟩:=oF I.aO e;refine wpAny_notIn_heap (adx n) (kP I.aO p) i d ?_;have q:=(rel.val k).p9;rw[Option.isSome_map]at q;rw[<-q,<-l];exact h _ (I.tok _)
theorem jt {t':Nat}{c:HO}(I:Inv X pins σ H s)(mu:sx (H a))(f:Heap.SameBut a s.heap h)(g:∃q,h.get? a=some q)(new:bU X.prog X.w (upd H a c) h a c):
 Inv X pins σ (upd H a c) { s with heap:=h,toks:=t' }:=
 I.write (x:=a) (e:=a) mu (.inl rfl) (λb q d z=>(f.2 b d).trans z) g new
theorem qb {b:List (Key×V)}{c:List (Key×Value)}(z:b.length<=sizeLine)(e:(a==sysModules)=false)(rel:KV b c)(d:h.DictOf (bR P w) a c):
 bU P w I h a (.dK b):=⟨z,e,c,rel,d⟩
theorem Dl (R:A.units+ 1<cLine)(d:Inv X pins σ H s)(g:oH H a y v I)(J:RelV y u)(D:RelV v r)(h:∀M,Inv X pins σ I M->U () M):
 wpAny (model X.prog X.w) A (setItem (.ref a) u r) U E s:=by
 rcases g with ⟨f,k,e,m,l,x⟩|⟨f,k,b,e,m,L,l,x⟩
 ·subst m x;obtain⟨z,B,N,rel,n⟩:=rK d.aO e;have C:N.length<=sizeLine:=by rw[<-rel.length];exact z
  have p:(putK f k v).length<=sizeLine:=by have:=fO f k v;omega
  refine wpAny_setItem_pairs (hsz:=C) (i9 J) n λF i t=>h _ ?_
  have W:∃q,F.get? a=some q:=let ⟨q,_,_,j,_⟩:=i;⟨q,j⟩
  exact jt d (by rw[e];exact True.intro) t W (qb p B (rel.put k D) i)
 ·subst m x;cases (show u=Value.ref b from J);obtain⟨z,B,xs,rel,n⟩:=HV d.aO e;have C:xs.length<=sizeLine:=by rw[<-Paired.length rel];exact z
  have p:(putK f k v).length<=sizeLine:=by have:=fO f k v;omega
  refine wpAny_setItem_heap (hsz:=C) (adx R) (kP d.aO L) n λF i t=>h _ ?_
  obtain⟨q,P,O,j,S,T,Q,_,Y⟩:=i;refine jt d (by rw[e];exact True.intro) t ⟨q,j⟩ ⟨p,B,_,(rel.put k L D).keeps λc ys G=>?_,q,P,O,j,S,T,Q,Y⟩;rw[ak (bW G e (λz=>nomatch z))];exact G
end
section
variable {X:Cx}{pins:List (Addr×Obj)}{σ:St}{H:Hp}{s:Shared}{a:Addr}{kvs:List (Key×V)}{k:Key}{u:Value}{A:Around}{E:Value->Shared->Prop}
theorem HW {more:List Value}(I:Inv X pins σ H s)(e:H a=some (.dK kvs))(g:RelV (kV k) u)(l:bp kvs k=some q)(j:more=[]\/∃x,more=[x])
 (h:∀d p,Inv X pins σ (upd H a (.dK (eh kvs k))) p->RelV q d->Q d p):wpAny (model X.prog X.w) A (call (.builtin "dict.pop") (.ref a::u::more)) Q E s:=by
 obtain⟨z,C,n,rel,m⟩:=rK I.aO e;obtain⟨d,B,f⟩:=dU.some_of (v:=q) (o:=valueAt n k) (by rw[<-l];exact rel.val k)
 have r:(keyPart u).isSome=true:=by
  cases k with
  |inl i=>obtain⟨t,b⟩:=(show ∃t,u=Value.int i t from g);subst b;rfl
  |inr x=>obtain⟨t,b⟩:=(show ∃t,u=Value.str x t from g);subst b;rfl
 have F:argsOk "dict.pop" ⟨.ref a::u::more,[]⟩:=by
  rcases j with b|⟨x,b⟩
  ·subst b;exact PySem.F.args_dict_pop_2 _ _
  ·subst b;exact PySem.F.args_dict_pop_3 _ _ _
 refine adN ad1 m.typeIs PySem.F.entry_dict_pop F (meets_dict_pop_there (bR X.prog X.w) a (i9 g) more j r)
  ⟨n,d,m,by rw[<-rel.length];exact z,B,λv c w=>h d _ ?_ f⟩
 have D:∃b,v.get? a=some b:=let ⟨b,_,_,y,_⟩:=c;⟨b,y⟩
 exact jt I (by rw[e];exact True.intro) w D (qb (abB (FV kvs k) z) C (rel.drop k) c)
theorem Mp (I:Inv X pins σ H s)(e:H a=some (.dK kvs))(b:RelV (kV k) u)(l:bp kvs k=none)(h:∀d,Inv X pins σ H d->Q v d):
 wpAny (model X.prog X.w) A (call (.builtin "dict.pop") [.ref a,u,v]) Q E s:=by
 obtain⟨z,g,f,rel,c⟩:=rK I.aO e;have j:valueAt f k=none:=dU.none_of (by rw[<-l];exact rel.val k)
 have m:(keyPart u).isSome=true:=by
  cases k with
  |inl i=>obtain⟨t,q⟩:=(show ∃t,u=Value.int i t from b);subst q;rfl
  |inr x=>obtain⟨t,q⟩:=(show ∃t,u=Value.str x t from b);subst q;rfl
 exact adN ad1 c.typeIs PySem.F.entry_dict_pop (PySem.F.args_dict_pop_3 _ _ _) (meets_dict_pop_default (bR X.prog X.w) a (i9 b) g m v) ⟨f,c,j,h _ (I.tok _)⟩
end
def Mq (i:Expr):Prop:=∀a b,subscripted i false a b=operate [a,b] (getItem a b)
theorem JY {env:Env}{value slice:Expr}{T id:String}
 (g:typeLookup (.type T) "__getitem__"=pure (some (.builtin id))) (j:Mq slice)
 (h:wpAny (model P w) A (eval value env) (λo c=>wpAny (model P w) A (eval slice env) (λi a=>a.TypeIs o T/\wpAny (model P w) A (getItem o i) Q E a) E c) E s):
 wpAny (model P w) A (eval (.Subscript value slice p) env) Q E s:=by
 refine Subscript_ (acv h (λo c f=>acv f (λi a b=>?_) λ_ _ x=>x) λ_ _ x=>x);obtain⟨k,b⟩:=b;refine abi ?_;refine abi (wpAny_specialOf k g ?_)
 have fin:wpAny (model P w) A (subscripted slice false o i) (λr d=>wpAny (model P w) A (letTemporaryGo value o r >>=λ_=>pure r) Q E d) E a:=by
  rw[j o i];exact wpAny_operating (acv b (λr d e=>abi (wpAny_letTemporaryGo (abq e))) λ_ _ x=>x)
 first
  |exact abq (abi fin)
  |exact abi (abq (abi fin))
  |exact abi fin
theorem zS {c:Option V}(I:Inv X o D H s)(g:dX H a q c):s.TypeIs (.ref a) "dict":=by
 rcases g with ⟨f,k,e,_,_⟩|⟨f,k,b,e,_,_,_⟩
 ·obtain⟨_,_,i,_,d⟩:=oE I.aO e;exact d.typeIs
 ·obtain⟨_,_,h,_,d⟩:=oF I.aO e;exact d.typeIs
inductive Mr (x y:V) (H:Hp) (Q:VK):Prop
 |mk (a:Addr) (v:V):x=.ref a->dX H a y (some v)->Q v H->Mr x y H Q
def Qr (td b:TE):TE:=λ a H Q=>td a H λx d=>b a d λy c=>Mr x y c Q
def JZ (d td:TE):TE:=λ b H Q=>d b H λy e=>td b e λx c=>∃a o,x=.ref a/\dX c a y o/\Q (.bl (!o.isSome)) c
inductive Ms (x y v:V) (H:Hp) (N:Hp->Prop):Prop
 |mk (a:Addr) (H4:Hp):x=.ref a->oH H a y v H4->N H4->Ms x y v H N
def Qs (td b d:TE):TS:=λD a H=>d a H λv f=>td a f λx c=>b a c λy e=>Ms x y v e (D.nx a)
section
variable {X:Cx}{o i value:Expr}{pos pos':Pos}{td ty tv:TE}
theorem rL (w:X.A.units+ 1<cLine)(k:PE X o td)(p:PE X i ty)(n:Mq i):PE X (.Subscript o i pos) (Qr td ty):=by
 intro b s f H Q I h;refine JY PySem.F.slot_dict_getitem.lookup n (a8 (k b s f H _ I h) λu m ⟨x,t,q,z,l⟩=>a8 (p b m f t _ q l) λF C ⟨y,r,d,A,a,v,ex,g,j⟩=>?_);subst ex;obtain rfl:u=Value.ref a:=z;exact⟨zS d g,Dj w d g A λE D B c=>⟨v,r,B,c,j⟩⟩
theorem wH (t:X.A.units+ 1<cLine)(m:PE X i ty)(f:PE X o td):PC X .NotIn i o (JZ ty td):=by
 intro b s c H Q I h;refine a8 (m b s c H _ I h) λC k ⟨y,q,n,w,j⟩=>a8 (f b k c q _ n j) λu A ⟨x,p,l,v,a,r,ex,g,d⟩=>?_
 subst ex;obtain rfl:u=Value.ref a:=v;exact JX t l g w λB z=>⟨.bl (!r.isSome),p,z,rfl,d⟩
theorem m9 (A:X.A.units+ 1<cLine)(k:PE X o td)(q:PE X i ty)(j:PE X value tv)(p:swapsWith value (some (.Subscript o i pos')) pos.line X.env=pure false):
 PS X (.Assign [.Subscript o i pos'] value pos) (Qs td ty tv):=by
 intro b s c H D I h;refine wpAny_Assign_Subscript (a8 (j b s c H _ I h) λr m ⟨v,z,t,f,l⟩=>a8 (k b m c z _ t l) λu B ⟨x,w,n,C,d⟩=>a8 (q b B c w _ n d) λO N ⟨y,P,L,E,a,G,ex,g,F⟩=>?_) p;subst ex;obtain rfl:u=Value.ref a:=C;exact Dl A L g E f λM J=>⟨c,G,J,F⟩
end
theorem yu (h:Heap)(a:sysModules<h.objs.size):bU P w H (h.push { cls:=.type "dict",data:=.dict #[] }) h.objs.size (.dK []):=
 ⟨abS _,abG.mpr (acU (abV a)),[],.nil,Heap.DictOf.new h⟩
theorem FW (h:Heap)(a:sysModules<h.objs.size):bU P w H (h.push { cls:=.type "dict",data:=.dict #[] }) h.objs.size (.dT []):=
 ⟨abS _,abG.mpr (acU (abV a)),[],.nil,_,#[],0,abF _ rfl,⟨rfl,rfl,rfl⟩,rfl,rfl,ac6⟩
def Mt:TE:=λ_ H Q=>∀p,H p=none->Q (.ref p) (upd H p (.dK []))
def Mu:TE:=λ_ H Q=>∀p,H p=none->Q (.ref p) (upd H p (.dT []))
section
variable {X:Cx}{pos:Pos}
theorem eS:PE X (.Dict [] [] pos) Mt:=λb s d H Q I h=>
 wpAny_Dict_empty ⟨.ref s.heap.objs.size,_,I.laid (a:=s.heap.objs.size) (o:=.dK []) (t':=s.toks) (λ_ _ q=>abl _ q) (abr _) (yu s.heap I.big),rfl,h _ (I.aO.fresh (abr _))⟩
theorem FX:PE X (.Dict [] [] pos) Mu:=λb s d H Q I h=>
 wpAny_Dict_empty ⟨.ref s.heap.objs.size,_,I.laid (a:=s.heap.objs.size) (o:=.dT []) (t':=s.toks) (λ_ _ q=>abl _ q) (abr _) (FW s.heap I.big),rfl,h _ (I.aO.fresh (abr _))⟩
end
def yw:List (TE×TE)->St->Hp->(List (V×V)->Hp->Prop)->Prop
 |[],_,H,Q=>Q [] H
 |(d,c)::r,a,H,Q=>d a H λx f=>c a f λy b=>yw r a b λg e=>Q ((x,y)::g) e
abbrev VV:List (V×V)->List (Value×Value)->Prop:=Paired λp q=>RelV p.1 q.1/\RelV p.2 q.2
def HX (X:Cx)(d:Pos)(keys:List (Option Expr))(values:List Expr)(c:List (TE×TE)):Prop:=
 ∀(a:List (Addr×Obj)) (s:Shared) (b:St) (H:Hp) (Q:List (V×V)->Hp->Prop),Inv X a b H s->yw c b H Q->
  wpAny (model X.prog X.w) X.A (evalPairs (pairTrees keys values X.env d)) (λh g=>∃f e,Inv X a b e g/\VV f h/\Q f e) X.xe s
theorem As:HX X p [] [] []:=λa s b H Q I h=>pairTrees_nil_walk ⟨[],H,I,.nil,h⟩
theorem yx {k:Expr}{f:List (Option Expr)}{d:TE}{b:List (TE×TE)}(E:PE X k r)(i:PE X e d)(v:HX X p f C b):
 HX X p (some k::f) (e::C) ((r,d)::b):=λa s c H Q I h=>
 pairTrees_cons_walk (a8 (E a s c H _ I h) λu l ⟨x,q,n,z,j⟩=>a8 (i a l c q _ n j) λG w ⟨y,o,m,A,g⟩=>
  a8 (v a w c o _ m g) λJ L ⟨F,D,t,rel,B⟩=>⟨(x,y)::F,D,t,.cons ⟨z,A⟩ rel,B⟩)
def gX (a more:List (Key×V)):List (Key×V):=more.foldl (λacc b=>putK acc b.1 b.2) a
theorem KV.merge:∀{more:List (Key×V)} {rs:List (Key×Value)} {a:List (Key×V)} {b:List (Key×Value)},KV more rs->KV a b->KV (gX a more) (merged b rs):=by
 intro more rs a b r
 induction r generalizing a b with
 |nil=>intro q;exact q
 | @cons p q g f h t d=>
   intro c
   have e:KV (putK a p.1 p.2) (stored b q.1 q.2):=by
    have:=c.put p.1 h.2;rw[<-h.1];exact this
   exact d e
theorem j5:∀(more a:List (Key×V)),(gX a more).length<=a.length+ more.length
 |[],a=>by show a.length<=a.length+ 0;omega
 |p::r,a=>by
  have b:=j5 r (putK a p.1 p.2);have c:=fO a p.1 p.2;show (gX (putK a p.1 p.2) r).length<=_;rw[abL];omega
theorem uw {P:Program}{w:World}:∀{d:List (Key×V)} {g:List (Value×Value)},VV (d.map λf=>(kV f.1,f.2)) g->∃e,Carries (bR P w) g e/\KV d e
 |[],_,r=>by cases r;exact⟨[],True.intro,.nil⟩
 |p::d,_,r=>by
  cases r with
  | @cons a b as bs h t=>
    obtain⟨e,c,q⟩:=uw (P:=P) (w:=w) t;obtain⟨j,i⟩:=b;exact⟨(p.1,i)::e,⟨i9 h.1,rfl,c⟩,.cons ⟨rfl,h.2⟩ q⟩
def Qt (b:List (TE×TE)):TE:=λ e H Q=>∀p,H p=none->yw b e (upd H p (.dK [])) λf c=>c p=some (.dK [])/\∃a:List (Key×V),f=a.map (λd=>(kV d.1,d.2))/\a.length<=15/\Q (.ref p) (upd c p (.dK (gX [] a)))
theorem Au {keys:List (Option Expr)}{values:List Expr}{i:List (TE×TE)}(h:HX X p keys values i)(b:keys.all (·.isSome)=true)(x:keys.length=values.length)(N:keys≠[])
 (j:keys.length<=15):PE X (.Dict keys values p) (Qt i):=by
 intro d s J H Q I q;have r:=I.aO.fresh (abr s.heap.objs.size);have A:=I.laid (a:=s.heap.objs.size) (o:=.dK []) (h':=s.heap.push { cls:=.type "dict",data:=.dict #[] }) (t':=s.toks) (λ_ _ q=>abl _ q) (abr _) (yu s.heap I.big);refine wpAny_Dict_walk (knd:=bR X.prog X.w) b x N j (a8 (h d _ J _ _ A (q _ r)) λT S ⟨U,R,l,rel,e,f,v,lk,m⟩=>?_);subst v;obtain⟨F,c,D⟩:=uw (P:=X.prog) (w:=X.w) rel;obtain⟨z,E,C,G,t⟩:=rK l.aO e;cases G;refine⟨F,c,t,λk g y=>⟨.ref s.heap.objs.size,_,?_,rfl,m⟩⟩
 have n:(gX [] f).length<=sizeLine:=by
  have L:=j5 f [];rw[ack]at L;rw[sizeLine_eq];omega
 have M:∃q,k.get? s.heap.objs.size=some q:=let ⟨q,_,_,B,_⟩:=g;⟨q,B⟩
 exact jt l (by rw[e];exact True.intro) y M (qb n E (D.merge .nil) g)
structure M1 (X:Cx) (o:Expr) (m:Str) (apos:Pos) (e:Expr) (ck:Pos):Prop where
 base:attributeBase o m X.env (eval o X.env)=eval o X.env
 few:((backTo ck (starEach [e] X.env)).all (λx=>!x.1) && (backToKw ck (keywordEach [] X.env)).all (λx=>x.1.isSome)
  && decide (([e]:List Expr).length+ ([]:List Keyword).length+ (if ([]:List Keyword).isEmpty then 0 else 1)<30))=true
 line:(apos.endLine==ck.line)=true
 trees:backTo ck (starEach [e] X.env)=[(false,eval e X.env)]
structure M2 (X:Cx) (o:Expr) (m:Str) (apos:Pos) (e f:Expr) (ck:Pos):Prop where
 base:attributeBase o m X.env (eval o X.env)=eval o X.env
 few:((backTo ck (starEach [e,f] X.env)).all (λx=>!x.1) && (backToKw ck (keywordEach [] X.env)).all (λx=>x.1.isSome)
  && decide (([e,f]:List Expr).length+ ([]:List Keyword).length+ (if ([]:List Keyword).isEmpty then 0 else 1)<30))=true
 line:(apos.endLine==ck.line)=true
 trees:backTo ck (starEach [e,f] X.env)=[(false,eval e X.env),(false,eval f X.env)]
def Av (H:Hp)(a:Addr):Prop:=(∃b,Rd H a (.dK b))\/∃b,Rd H a (.dT b)
theorem kQ (I:Inv X o D H s)(d:Av H a):
 s.TypeIs (.ref a) "dict"/\(∀b,Value.ref a=.ref b->∃c,s.heap.get? b=some c/\c.dict=none)/\(a==sysModules)=false:=by
 rcases d with ⟨g,e⟩|⟨g,e⟩
 ·obtain⟨_,i,l,_,f⟩:=oE I.aO e;refine⟨f.typeIs,λb q=>?_,i⟩;cases q;obtain⟨c,_,_,j,h,_⟩:=f;exact⟨c,j,h.2.1⟩
 ·obtain⟨_,i,k,_,f⟩:=oF I.aO e;refine⟨f.typeIs,λb q=>?_,i⟩;cases q;obtain⟨c,_,_,j,h,_⟩:=f;exact⟨c,j,h.2.1⟩
section
variable {X:Cx}{pins:List (Addr×Obj)}{σ:St}{H:Hp}{s:Shared}{a:Addr}{y d:V}{u r:Value}{o:Option V}{A:Around}{E:Value->Shared->Prop}
theorem Mv (t:A.units+ 1<cLine)(I:Inv X pins σ H s)(g:dX H a y o)(m:RelV y u)(h:∀n p,Inv X pins σ H p->RelV (o.getD .non) n->Q n p):
 wpAny (model X.prog X.w) A (call (.builtin "dict.get") [.ref a,u]) Q E s:=by
 rcases g with ⟨i,k,e,f,l⟩|⟨i,k,b,e,f,v,l⟩
 ·subst f;obtain⟨z,j,w,rel,c⟩:=oE I.aO e;refine adN ac8 c.typeIs adR (PySem.F.args_dict_get_2 _ _) (meets_dict_get (bR X.prog X.w) a (i9 m) j) ⟨_,c.mapOf,h _ _ (I.tok _) ?_⟩;rw[l];exact(rel.val k).getD rfl
 ·subst f;cases (show u=Value.ref b from m);obtain⟨z,j,q,rel,c⟩:=oF I.aO e;refine adN ac8 c.typeIs adR (PySem.F.args_dict_get_2 _ _) (meetsH_dict_get (tupleKind (bR X.prog X.w)) a b j) ⟨adx t,k,q,kP I.aO v,c,h _ _ (I.tok _) ?_⟩;rw[l];exact(rel.val k).getD rfl
theorem Mw (t:A.units+ 1<cLine)(I:Inv X pins σ H s)(g:dX H a y o)(m:RelV y u)(rd:RelV d r)(h:∀n p,Inv X pins σ H p->RelV (o.getD d) n->Q n p):
 wpAny (model X.prog X.w) A (call (.builtin "dict.get") [.ref a,u,r]) Q E s:=by
 rcases g with ⟨i,k,e,f,l⟩|⟨i,k,b,e,f,v,l⟩
 ·subst f;obtain⟨z,j,w,rel,c⟩:=oE I.aO e;refine adN ac8 c.typeIs adR (PySem.F.args_dict_get_3 _ _ _) (meets_dict_get_default (bR X.prog X.w) a (i9 m) j r) ⟨_,c.mapOf,h _ _ (I.tok _) ?_⟩;rw[l];exact(rel.val k).getD rd
 ·subst f;cases (show u=Value.ref b from m);obtain⟨z,j,q,rel,c⟩:=oF I.aO e;refine adN ac8 c.typeIs adR (PySem.F.args_dict_get_3 _ _ _) (meetsH_dict_get_default (tupleKind (bR X.prog X.w)) a b j r) ⟨adx t,k,q,kP I.aO v,c,h _ _ (I.tok _) ?_⟩;rw[l];exact(rel.val k).getD rd
end
inductive Aw (x:V) (H:Hp) (G:Addr->Prop):Prop
 |mk (a:Addr):x=.ref a->Av H a->G a->Aw x H G
def Mx (td e:TE):TE:=λ b H Q=>td b H λx d=>Aw x d λa=>e b d λy c=>∃o,dX c a y o/\Q (o.getD .non) c
inductive My (ty tx:TE) (σ:St) (x:V) (H1:Hp) (Q:VK):Prop
 |mk (a:Addr):x=.ref a->Av H1 a->(ty σ H1 λy H2=>tx σ H2 λz H3=>∃o,dX H3 a y o/\Q (o.getD z) H3)->My ty tx σ x H1 Q
def Mz (td b tx:TE):TE:=λ a H Q=>td a H λx c=>My b tx a x c Q
inductive MA (a:Addr) (y:V) (H:Hp) (Q:VK):Prop
 |mk (kvs:List (Key×V)) (k:Key) (v:V):H a=some (.dK kvs)->y=kV k->bp kvs k=some v->Q v (upd H a (.dK (eh kvs k)))->MA a y H Q
def MB (td d:TE):TE:=λ b H Q=>td b H λx c=>Aw x c λa=>d b c λy e=>MA a y e Q
inductive FY (a:Addr) (y z:V) (H:Hp) (Q:VK):Prop
 |mk (kvs:List (Key×V)) (k:Key):H a=some (.dK kvs)->y=kV k->(∀v,bp kvs k=some v->Q v (upd H a (.dK (eh kvs k))))->(bp kvs k=none->Q z H)->FY a y z H Q
def MC (td d tx:TE):TE:=λ b H Q=>td b H λx c=>Aw x c λa=>d b c λy e=>tx b e λz f=>FY a y z f Q
section
variable {X:Cx}{o e f:Expr}{apos ck:Pos}{td ty tx:TE}
theorem FZ (v:X.A.units+ 1<cLine)(l:PE X o td)(C:PE X e ty)(m:M1 X o "get" apos e ck):PE X (.Call (.Attribute o "get" apos) [e] [] ck) (Mx td ty):=by
 intro b s j H Q I h;refine adI m.base m.few m.line acE ac8 PySem.F.type_dict_get (a8 (l b s j H _ I h) λu p ⟨x,t,i,w,a,ex,d,n⟩=>?_);subst ex;obtain rfl:u=Value.ref a:=w;obtain⟨A,B,_⟩:=kQ i d;refine⟨A,B,?_⟩;rw[m.trees];refine acu rfl (ac0 (acq (a8 (C b p j t _ i n) λL F ⟨y,r,q,z,E,g,k⟩=>ac5 ?_)));exact Mv v q g z λJ G D c=>⟨_,r,D,c,k⟩
theorem kS (w:X.A.units+ 1<cLine)(n:PE X o td)(L:PE X e ty)(l:PE X f tx)(m:M2 X o "get" apos e f ck):PE X (.Call (.Attribute o "get" apos) [e,f] [] ck) (Mz td ty tx):=by
 intro b s i H Q I h;refine adI m.base m.few m.line acE ac8 PySem.F.type_dict_get (a8 (n b s i H _ I h) λu q ⟨x,v,j,B,a,ex,d,p⟩=>?_);subst ex;obtain rfl:u=Value.ref a:=B;obtain⟨F,G,_⟩:=kQ j d;refine⟨F,G,?_⟩;rw[m.trees]
 refine acu rfl (ac0 (acq (a8 (L b q i v _ j p) λU A ⟨y,t,r,C,k⟩=>
  acq (a8 (l b A i t _ r k) λO S ⟨z,M,N,E,P,g,D⟩=>ac5 ?_))))
 exact Mw w N g C E λT R J c=>⟨_,M,J,c,D⟩
theorem F0 (p:PE X o td)(F:PE X e ty)(m:M1 X o "pop" apos e ck):PE X (.Call (.Attribute o "pop" apos) [e] [] ck) (MB td ty):=by
 intro b s i H Q I h;refine adI m.base m.few m.line acE ad1 PySem.F.type_dict_pop (a8 (p b s i H _ I h) λu r ⟨x,w,g,z,a,ex,d,q⟩=>?_);subst ex;obtain rfl:u=Value.ref a:=z;obtain⟨D,E,_⟩:=kQ g d;refine⟨D,E,?_⟩;rw[m.trees];refine acu rfl (ac0 (acq (a8 (F b r i w _ g q) λO L ⟨y,J,t,A,B,k,v,C,j,l,n⟩=>ac5 ?_)));subst j;exact HW t C A l (.inl rfl) λN M G c=>⟨v,_,G,c,n⟩
theorem tK (C:PE X o td)(U:PE X e ty)(B:PE X f tx)(m:M2 X o "pop" apos e f ck):PE X (.Call (.Attribute o "pop" apos) [e,f] [] ck) (MC td ty tx):=by
 intro b s j H Q I h;refine adI m.base m.few m.line acE ad1 PySem.F.type_dict_pop (a8 (C b s j H _ I h) λu E ⟨x,J,n,M,a,ex,d,D⟩=>?_);subst ex;obtain rfl:u=Value.ref a:=M;obtain⟨S,T,_⟩:=kQ n d;refine⟨S,T,?_⟩;rw[m.trees]
 refine acu rfl (ac0 (acq (a8 (U b E j J _ n D) λZ L ⟨y,G,F,p,t⟩=>
  acq (a8 (B b L j G _ F t) λw W ⟨z,V,r,P,g,k,q,A,N,O⟩=>ac5 ?_))))
 subst A
 cases l:bp g k with
 |some v=>exact HW r q p l (.inr ⟨w,rfl⟩) λY R i c=>⟨v,_,i,c,N v l⟩
 |none=>exact Mp r q p l λR i=>⟨z,V,i,P,O l⟩
end
section
variable {X:Cx}{pins:List (Addr×Obj)}{σ:St}{H:Hp}{s:Shared}{h':Heap}
theorem Inv.oJ {fp:List Addr}{o:HO}{t':Nat}(I:Inv X pins σ H s)(k:∀b u,b∉fp->s.heap.get? b=some u->h'.get? b=some u)(f:∀b∈fp,oC X pins H b)
 (h:s.heap.objs.size<=a) (new:bU X.prog X.w (upd H a o) h' a o):Inv X pins σ (upd H a o) { s with heap:=h',toks:=t' }:=by
 have g:=I.aO.fresh h;have i:∀b u,H b=some u->b∉fp:=λb u e z=>by rw[(f b z).1]at e;cases e
 refine I.step (g':=s.gens) (d':=s.drawn) (ch:=fp) (λb d=>⟨(f b d).2.2.2.1,(f b d).2.1,(f b d).2.2.2.2.1,(f b d).2.2.2.2.2⟩) (λb o _ _ hc e _=>k b o hc e) (λb o _ _ hc e _=>⟨o.slots,k b o hc e⟩)
  (λb o _ e n=>by rw[ak (abV (abW (abE e) h))];exact n) (λb o hc e=>⟨o,k b o hc e⟩) (λb l e=>by rw[ak (aw e g)];exact e)
  (λb o u e=>by rw[ak (aw e g)];exact e) (λb A e=>⟨#[],by rw[ak (aw e g),e];simp⟩) (λm j=>?_) (λb u e=>?_) I.bare
 ·obtain⟨o,w,t,p,r⟩:=j;exact⟨o,w,t,k _ o (λz=>(f _ z).2.1 rfl) p,r⟩
 ·by_cases d:b=a
  ·subst d;rw[ai]at e;cases e;exact new
  ·rw[ak d]at e;refine(I.aO b u e).fV (λc v hc q=>k c v ?_ q) (λc q=>by rw[ak (aw q g)];exact q) λc l q=>by rw[ak (aw q g)];exact q
   rcases hc with z|z
   ·rw[z];exact i b u e
   ·exact i c _ z
theorem Inv.rM {fp:List Addr}{t':Nat}(I:Inv X pins σ H s)(k:∀b u,b∉fp->s.heap.get? b=some u->h'.get? b=some u)(a:∀b∈fp,oC X pins H b):Inv X pins σ H { s with heap:=h',toks:=t' }:=by
 have f:∀b u,H b=some u->b∉fp:=λb u e z=>by rw[(a b z).1]at e;cases e
 refine I.step (g':=s.gens) (d':=s.drawn) (ch:=fp) (λb d=>⟨(a b d).2.2.2.1,(a b d).2.1,(a b d).2.2.2.2.1,(a b d).2.2.2.2.2⟩) (λb o _ _ hc e _=>k b o hc e) (λb o _ _ hc e _=>⟨o.slots,k b o hc e⟩)
  (λb o _ e n=>n) (λb o hc e=>⟨o,k b o hc e⟩) (λb h e=>e) (λb o u e=>e) (λb w e=>⟨#[],by rw[e];simp⟩) (λm g=>?_) (λb u e=>?_) I.bare
 ·obtain⟨o,l,j,i,r⟩:=g;exact⟨o,l,j,k _ o (λz=>(a _ z).2.1 rfl) i,r⟩
 ·refine(I.aO b u e).fV (λc v hc q=>k c v ?_ q) (λc q=>q) λc h q=>q
  rcases hc with z|z
  ·rw[z];exact f b u e
  ·exact f c _ z
end
namespace En
section
variable {prog:Program}{w:World}{A:Around}{E:Value->Shared->Prop}{s:Shared}
theorem wI {it:Addr}{fp:List Addr}{P:Nat->Value->Prop}{St:Nat->Heap->Prop}{old:Value}{Q:Option Value->Shared->Prop}(D:Draws prog w A.in1 it fp n P St)
 (he:IsEnum s.heap a it z old) (VM:St i s.heap) (qc:i<n) (sG:a≠it) (Rt:a∉fp)
 (hQ:∀x h' H,P i x->IsEnumOut h' a it (z+ 1) x s.heap.objs.size->St (i+ 1) h'->h'.get? s.heap.objs.size=some { cls:=.type "tuple",data:=.seq #[.int z H,x] }->
  (∀b o,b≠a->b≠it->s.heap.get? b=some o->h'.get? b=some o)->Q (some (.ref s.heap.objs.size)) { s with heap:=h',toks:=H+ 1 }):
 wpAny (model prog w) A (pyNext (.ref a)) Q E s:=by
 have hT:s.TypeIs (.ref a) "enumerate":=⟨_,he,rfl⟩;unfold pyNext;refine abi (wpAny_attempt (acf (name:=Str.ofString "__next__") hT ad2 (acp ad2 hT F.entry_enumerate_next ?_ (F.args_enumerate_next_1 _))));obtain⟨T,g,d,aaj,os⟩:=s;show wpAny _ _ (field (.ref a) 2 >>=_) _ _ _;refine abi (ace he rfl (x:=.ref it) rfl (abi (D.item i _ _ _ qc VM λx j H VN N e=>?_)));replace e:Heap.SameBut it T j:=e;have r:IsEnum j a it z old:=(e.2 a sG).trans he;show wpAny _ _ (field (.ref a) 3 >>=_) _ _ ⟨j,g,d,H,os⟩;refine abi (ace r rfl (x:=rawInt z) rfl ?_);show wpAny _ _ (field (.ref a) 4 >>=_) _ _ ⟨j,g,d,H,os⟩;refine abi (ace r rfl (x:=.none) rfl ?_);show wpAny _ _ (mkInt z >>=_) _ _ ⟨j,g,d,H,os⟩;refine abi (wpAny_mkInt ?_);show wpAny _ _ (setField (.ref a) 3 (rawInt (z+ 1)) >>=_) _ _ ⟨j,g,d,H+ 1,os⟩;refine abi (acB r (by simp) λG u f=>?_);replace f:Heap.SameBut a j G:=f;replace u:IsEnum G a it (z+ 1) old:=u;show wpAny _ _ (setField (.ref a) 4 .none >>=_) _ _ ⟨G,g,d,H+ 1,os⟩;refine abi (acB u (by simp) λk B h=>?_);replace h:Heap.SameBut a G k:=h;replace B:IsEnum k a it (z+ 1) old:=B;show wpAny _ _ (newTuple [.int z H,x] >>=_) _ _ ⟨k,g,d,H+ 1,os⟩;refine abi (wpAny_newTuple ?_);have v:IsEnum (k.push { cls:=.type "tuple",data:=.seq #[.int z H,x] }) a it (z+ 1) old:=abl _ B;generalize t:k.push { cls:=.type "tuple",data:=.seq #[.int z H,x] }=C at v;have X:k.objs.size=T.objs.size:=by rw[h.1,f.1,e.1]
 have U:a<T.objs.size:=abE he;have W:C.get? T.objs.size=some { cls:=.type "tuple",data:=.seq #[.int z H,x] }:=by rw[<-t,<-X];exact abF _ rfl
 have Y:∀b o,b≠a->b≠it->T.get? b=some o->C.get? b=some o:=λb o c V Z=>by
  rw[<-t];exact abl _ (h.extBut b o c (f.extBut b o c (e.extBut b o V Z)))
 have S:St (i+ 1) C:=D.frame _ _ _ N λb Z o y=>by
  have c:b≠a:=λq=>Rt (q ▸ Z)
  rw[<-t];exact abl _ (h.extBut b o c (f.extBut b o c y))
 show wpAny _ _ (Builtin.SmallTypes.ownedTupleIsFree (.ref a) >>=_) _ _ ⟨C,g,d,H+ 1,os⟩;rw[X];clear t B h u f r e N X k G j;refine abi ?_;unfold Builtin.SmallTypes.ownedTupleIsFree;refine abi (ace v rfl (x:=.none) rfl (abq ?_));simp only[aeP];refine abi (wpAny_rule (abi (ace v rfl (x:=old) rfl (abi (acB v (by simp) λM L l=>?_)))));replace l:Heap.SameBut a C M:=l;replace L:IsEnum M a it (z+ 1) x:=L;show wpAny _ _ (Builtin.SmallTypes.ownedTupleHandOut (.ref a) (.ref T.objs.size) >>=_) _ _ ⟨M,g,d,H+ 1,os⟩;refine abi ?_;unfold Builtin.SmallTypes.ownedTupleHandOut;refine abi (acB L (by simp) λO J p=>?_);replace p:Heap.SameBut a M O:=p;replace J:IsEnumOut O a it (z+ 1) x T.objs.size:=J;refine acB J (by simp) λR I m=>?_
 replace m:Heap.SameBut a O R:=m;replace I:IsEnumOut R a it (z+ 1) x T.objs.size:=I;refine abi (wpAny_letGo (abq ⟨_,rfl,abq (hQ x R H VN I ?_ ?_ ?_)⟩))
 ·exact D.frame _ _ _ S λb Z o y=>by
   have c:b≠a:=λq=>Rt (q ▸ Z)
   exact m.extBut b o c (p.extBut b o c (l.extBut b o c y))
 ·exact m.extBut _ _ (acH U) (p.extBut _ _ (acH U) (l.extBut _ _ (acH U) W))
 ·exact λb o c V Z=>m.extBut b o c (p.extBut b o c (l.extBut b o c (Y b o c V Z)))
theorem J0 {T newId:String}{self a:Value}{kw:List (Str×Value)}(f:typeLookup (.type T) "__init__"=pure (some (.builtin "object.__init__")))(e:Bind.madeBy (.type T)=pure (some newId))(b:(some newId !=some "object.__new__")=true):
 Meets (Builtin.«object.__init__» ⟨[self,a],kw⟩) (λ_ R s=>s.TypeIs self T/\R (.ok (.ret .none)) s):=by
 refine Meets.of_wp λprog w A R s c=>?_
 obtain⟨g,d⟩:=c
 repeat (any_goals (first|assumption|wp_step))
 exact⟨_,rfl,d⟩
theorem Qu (a b:Value):checkTypeCall "enumerate" ⟨[a],[("start",b)]⟩=pure ():=by kernel_rfl
theorem Qw (a b:Value):checkBuiltinCall "enumerate.__new__" ⟨[.type "enumerate",a],[("start",b)]⟩=pure ():=by kernel_rfl
theorem Qx (a b c:Value):argsOk "object.__init__" ⟨[a,b],[("start",c)]⟩:=by
 unfold argsOk;rw[signature?_of (id:="object.__init__") (n:=['_','_','t','i','n','i','_','_']) (o:=['t','c','e','j','b','o']) (by kernel_rfl) F.owner_object]
 kernel_rfl
end
end En
inductive Qy (t:TT) (σ:St) (H:Hp) (Q:(Bool->Hp->Prop)):Prop
 |mk (G:Bool->Hp->Prop):t σ H G->(∀c H',G c H'->Q c H')->Qy t σ H Q
def CXw (P:Program)(w:World):lV:=λa H s E e c=>∃(x C:Addr) (B:Heap) (d:Hp) (f:Value),e=.ref x/\c.os=s.os/\AllBare c.gens/\Heap.FlyingW B a x (.ref C) f c.heap/\
 Un (cH a) [] H d s.heap c.heap/\dg P w d B/\(∀b o,s.heap.get? b=some o->H b=none->b∉cH a->B.get? b=some o)/\(∀b o,s.heap.get? b=some o->b∉cH a->∃g,B.get? b=some g)/\E (.ref C) none d
section
variable {X:Cx}{pos:Pos}
abbrev TJ:=St->Hp->List Nat->VK->Prop
def PJ (X:Cx)(c:List Expr)(t:TJ):Prop:=
 ∀(a:List (Addr×Obj)) (s:Shared) (b:St) (H:Hp) (acc:List Nat) (Q:VK),Inv X a b H s->t b H acc Q->wpAny (model X.prog X.w) X.A (joinParts (tx acc) (evalEach c X.env)) (EP X a b Q) X.xe s
theorem MD:PJ X [] (λ b H acc Q=>acc.length<=1000000/\Q (.str (tx acc)) H):=λa s b H acc Q I h=>
 joinParts_nil ⟨.str (tx acc),H,I.tok _,⟨_,rfl⟩,h.2⟩ (by rw[Df];exact abB h.1 (by decide))
theorem Ax {t:TJ}(n:PE X e r)(k:PJ X C t)(i:evalEach (e::C) X.env=eval e X.env::evalEach C X.env:=by rfl):
 PJ X (e::C) (λ c H acc Q=>r c H λv d=>∃l,v=.str (tx l)/\acc.length+ l.length<=1000000/\t c d (acc++l) Q):=by
 intro b s c H acc Q I h;rw[i];refine joinParts_cons (a8 (n b s c H _ I h) λv f ⟨x,d,j,a,l,m,g,q⟩=>?_);subst m;obtain⟨o,rfl⟩:=a;refine⟨?_,?_⟩
 ·rw[Dg,Df,abj];exact abB g (by decide)
 ·rw[Dg];exact k b f c d (acc++l) Q j q
theorem Dm {b:Expr}{t:TJ}(h:PJ X (e::b::C) t)(d:evalEach (e::b::C) X.env=eval e X.env::eval b X.env::evalEach C X.env:=by rfl):PE X (.JoinedStr (e::b::C) pos) (λ c H Q=>t c H [] Q):=by
 intro a s c H Q I q;refine JoinedStr_many ?_;have:=h a s c H [] Q I q;rw[d]at this;exact this
theorem J1 (j:PE X e r):PE X (.FormattedValue e (-1) none pos) (λ d H Q=>r d H λv c=>∃n:Int,v=.int n/\n.natAbs<10000000000/\Q (.str (tx (yr n))) c):=by
 intro b s d H Q I h;refine FormattedValue_plain (a8 (j b s d H _ I h) λv l ⟨x,c,g,a,n,i,f,q⟩=>?_);subst i;obtain⟨k,rfl⟩:=a;refine formatField_int_small (Dh f) ?_;exact⟨.str (tx (yr n)),c,g.tok _,⟨_,by rw[Qp (toString n:Str)];rfl⟩,q⟩
abbrev BD:List Value:=[.type "ValueError",.type "Exception",.type "BaseException",.type "object"]
end
theorem bU.get {o:HO}(x:bU P w H h a o):∃u,h.get? a=some u:=by
 cases o with
 |lst c=>obtain⟨_,_,_,_,e⟩:=x;exact⟨_,e⟩
 |tup c=>obtain⟨_,_,_,d,e,_⟩:=x;exact⟨_,e⟩
 |dK b=>obtain⟨_,_,_,_,o,_,_,e,_⟩:=x;exact⟨_,e⟩
 |dT b=>obtain⟨_,_,_,_,o,_,_,e,_⟩:=x;exact⟨_,e⟩
 |set S n=>obtain⟨o,_,_,_,e,_⟩:=x;exact⟨_,e⟩
 |ins C dx fs=>obtain⟨_,_,_,e,_⟩:=x;exact⟨_,e⟩
 |own y=>exact x
 |xd fs=>obtain⟨_,⟨_,_,_,e,_⟩,_⟩:=x;exact⟨_,e⟩
 |gb lo g=>obtain⟨_,_,_,e⟩:=x;exact⟨_,e⟩
 |cQ d u=>obtain⟨e,_⟩:=x;exact⟨_,e⟩
 |lQ j=>exact⟨_,show h.get? a=some _ from x⟩
 |met f y=>exact⟨_,show h.get? a=some _ from x⟩
 |ext i=>obtain⟨_,e,_⟩:=x;exact e
def F1 (x C:Addr)(h:Heap):Prop:=∃a b,h.get? x=some a/\a.cls=.ref C/\a.data=.fields b
def VP (X:Cx)(a:List (Addr×Obj))(e:St)(d:Hp)(x C:Addr)(s:Shared):Prop:=
 ∃(B:Heap) (c:Hp) (s1:Shared) (f:Value),Inv X a e c s1/\s.os=s1.os/\AllBare s.gens/\Heap.FlyingW B X.stack x (.ref C) f s.heap/\Un (cH X.stack) [] c d s1.heap s.heap/\dg X.prog X.w d B/\
  (∀b o,s1.heap.get? b=some o->c b=none->b∉cH X.stack->B.get? b=some o)/\(∀b o,s1.heap.get? b=some o->b∉cH X.stack->∃g,B.get? b=some g)
section
variable {X:Cx}{pins:List (Addr×Obj)}{σ:St}{x:Addr}{s:Shared}
theorem Inv.Qz {s1:Shared}(I:Inv X pins σ H s1){b:Addr}(a:b∈cH X.stack):∃o,s1.heap.get? b=some o/\∀c,o.data≠.fields c:=by
 obtain⟨_,o,e,n⟩:=I.stack.mem a;exact⟨o,e,n⟩
abbrev Cx.yy (X:Cx) (x:Addr):Cx:={ X with A:=X.A.mark (some (.ref x)),calm:=false,xe:=λ_ _=>False }
theorem Inv.yy (I:Inv X pins σ H s)(x:Addr):Inv (X.yy x) pins σ H s:=
 ⟨⟨I.ok.mod,I.ok.kind,I.ok.glob,I.ok.blt,I.ok.above,I.ok.inj,I.ok.has,I.ok.x6,(λz=>by cases z),I.ok.frames,I.ok.Ag,I.ok.Hw,I.ok.bs,I.ok.sC,I.ok.tm,I.ok.vC,I.ok.iY,I.ok.ud⟩,I.os,I.bare,I.base,I.loc,I.cell,I.free,I.fW,I.pin,I.aO,I.len⟩
theorem Inv.xW (ok:X.Ok)(I:Inv (X.yy x) pins σ H s):Inv X pins σ H s:=⟨ok,I.os,I.bare,I.base,I.loc,I.cell,I.free,I.fW,I.pin,I.aO,I.len⟩
end
abbrev XR:=Addr->St->Hp->Prop
def XP (X:Cx)(a:List (Addr×Obj))(R:XR)(e:Value)(s:Shared):Prop:=∃x C b H,e=.ref x/\VP X a b H x C s/\R C b H
abbrev TH:=Ends->Addr->St->Hp->Prop
theorem F1.QB {M:Model}{x:Addr}(p:F1 x a h):PySem.W.Looks M h (typeOf (.ref x)) (.ref a):=by
 obtain⟨o,_,b,c,_⟩:=p;exact c ▸ (PySem.W.Looks.ld b).andThen .now
end L2
namespace L2
open PySem PySem.Spec PyProof.Rows PySem.Calls PySem.W Builtin Builtin.ObjectAttr Builtin.Getset_descriptor
structure aau (K:Za1) (C:Addr):Prop where
 ga:findIn K (.ref C) "__getattribute__"=some (some (.builtin "BaseException.__getattribute__"))
 gt:findIn K (.ref C) "__getattr__"=some none
 cl:isClsIn K C=true
 at_:findIn K (.ref C) "__class__"=some (some (.builtin "object.__class__"))
 gs:specialIn K (.builtin "object.__class__") "__get__"=some (some (.builtin "getset_descriptor.__get__"))
 tk:takesIn K (.builtin "object.__class__")=some true
 mo:mroIn K C (.type "object")=some true
 be:subIn K (.ref C) (.type "BaseException")=some true
end L2
namespace L2
open PySem PySem.Spec PyProof.Rows
section
variable {P:Program}{w:World}{K:Za1}{mg:Str->Option Value}{base:Heap}
theorem yj.okN {h:lV}{qual:Str}{st:Stmt}{fd:FuncData}{g:List Str}{k:Nat}{sp:Sp}(F:yj K x qual st a fd)(S:aX Z g (aH st))(len:∀c H Q E,sp c H Q E->c.length=g.length)
 (d:∀(b:Value) (A:Around) (outer:List Env) (s:Shared) (H:Hp) (c:List V) (Q:VK) (E:XK),df k (A.deeper (envOfC qual (aH st) s.heap.objs.size a b))->sp c H Q E->
  ∃t,kH (dG h P w K mg base Z qual (aH st) a b A outer s H E).CK (cM st) t/\t { nx:=λ_ n=>Q .non n,rt:=Q } (start Z c) H):bj P w K mg base h (k+ 1) a fd g sp:=by
 obtain⟨o,q,kV,doc,pm,p,b,ct,j,rfl,lk,f⟩:=F.ex;refine HG lk f S len λA outer s H c Q E i e=>?_
 obtain⟨t,m,l⟩:=d b A outer s H c Q E i e;exact⟨t,m.CK,l⟩
end
section
variable {prog:Program}{w:World}{A:Around}{R:Result->Shared->Prop}{s:Shared}
theorem xH {elt target iter:Expr}{scope:Scope}{it acc:Value}{env:Env}(I:Nat->Shared->Prop)
 (turn:∀n s,I n s->wpAny (model prog w) A (pyNext it) (λr a=>match r with
  |none=>R (.ok .next) a
  |some v=>wpAny (model prog w) A (letOwnedTupleGo target it v) (λ_ j=>wpAny (model prog w) A (assign target env v) (λ_ f=>wpAny (model prog w) A (isTrue e env (eval e env)) (λb d=>
   match b with
   |true=>wpAny (model prog w) A (eval elt env) (λx i=>wpAny (model prog w) A (call (.builtin "list.append") [acc,x]) (λ_ k=>∃m,m<n/\I m k) (λ_ _=>False) i) (λ_ _=>False) d
   |false=>∃m,m<n/\I m d) (λ_ _=>False) f) (λ_ _=>False) j) (λ_ _=>False) a) (λ_ _=>False) s)
 (n:Nat) (h:I n s):codeAny (model prog w) A (.compLoop (.ListComp elt [⟨target,iter,[e],0⟩] scope p) 0 it acc env) R s:=by
 refine codeAny_loop rfl I (λn s y=>?_) n h;refine wpAny_noted ?_;refine abi (ad8 (abi (acv (turn n s y) (λr a l=>?_) λ_ _ c=>c.elim)))
 cases r with
 |none=>exact abq l
 |some v=>
  refine abi (acv l (λ_ j u=>?_) λ_ _ c=>c.elim);refine abi (acv u (λ_ f t=>abi (wpAny_tests_one (acv t (λok i g=>?_) λ_ _ c=>c.elim))) λ_ _ c=>c.elim)
  cases ok with
  |false=>exact abq ⟨rfl,g⟩
  |true=>
   exact abi (abi (acv g (λx k q=>abi (acv q (λ_ d o=>abq (abq ⟨rfl,o⟩)) λ_ _ c=>c.elim)) λ_ _ c=>c.elim))
end
def F2 (g:TT)(j:TE)(d:St)(Q:VK)(J:It)(k:Hp):Prop:=∃W:Nat->Nat->List V->Hp->Prop,(∃m,W 0 m [] k)/\∀i m ys a,W i m ys a->
 (J.stop i a/\ys.length<=sizeLine/\∀D,a D=none->Q (.ref D) (upd a D (.lst ys)))\/
 (J.go i a/\ys.length<sizeLine/\∀x e,J.kc i a x e->g (some x::d) e λb f=>match b with
  |true=>j (some x::d) f λy h=>∃c,c<m/\W (i+ 1) c (ys++[y]) h
  |false=>∃c,c<m/\W (i+ 1) c ys f)
def rN (e:TI)(b:St->St)(c:TT)(d:TE):TE:=λ a H Q=>e a H (F2 c d (b a) Q)
end L2
namespace L2
open PySem PySem.Spec PyProof.Rows
inductive J2 (x:V) (vs:List V) (H:Hp) (Q:VK):Prop
 |mk (l:Addr) (xs:List V) (i:Nat) (y:V):x=.ref l->vs=[.int i,y]->H l=some (.lst xs)->xs.length<sizeLine->i<=xs.length->i<=100000->Q .non (upd H l (.lst (xs.take i++[y]++xs.drop i)))->J2 x vs H Q
end L2
namespace L2
open PySem PySem.Spec PyProof.Rows
theorem kT (h:n∈B):∃i:Nat,B[i]?=some n/\∀j,j<i->B[j]?≠some n:=by
 induction B with
 |nil=>cases h
 |cons a B c=>
  by_cases e:a=n
  ·exact⟨0,by rw[e];rfl,λj b=>by omega⟩
  ·obtain⟨i,d,f⟩:=c ((abD.mp h).resolve_left (acU e));refine⟨i+ 1,d,λj b=>?_⟩
   cases j with
   |zero=>exact λz=>e (Za0 z)
   |succ j=>exact f j (by omega)
section
variable {X:Cx}
inductive HY (x:V) (y:V) (H:Hp) (Q:VK):Prop
 |mk (a b:Addr) (ns ms:List Int):x=.ref a->y=.ref b->H a=some (.lst (ao ns))->H b=some (.lst (ao ms))->Q (.bl (decide (ns=ms))) H->HY x y H Q
theorem Ay (m:X.A.units<cLine):fy X (compareOp .Eq) HY:=by
 intro l s D H x y v u Q I r t h;obtain⟨a,b,ns,ms,rfl,rfl,C,p,q⟩:=h;cases r;cases t;obtain⟨w,i,c,_⟩:=I.list (aD.of C);obtain⟨g,n,d,_⟩:=I.list (aD.of p);have k:=i.length;have o:=n.length;rw[aI]at k o;by_cases f:ns.length=ms.length
 ·refine SeqAt.eq_listAt (e:=λj=>decide (ns[j]?=ms[j]?)) c.isList d.isList (by grind) m (λj B A=>Aq i n j B A) ⟨.bl (decide (ns=ms)),H,I,?_,q⟩;show _=Value.bool (decide (ns=ms))
  congr 1
  rw[<-all_eq,abK,<-k];simp[f]
 ·have e:decide (ns=ms)=false:=acj (λz=>f (by rw[z]));rw[e]at q;refine SeqAt.eq_list_lengthsAt c.isList d.isList ?_ m ⟨.bl false,H,I,rfl,q⟩
  grind
end
def gb (lo:Int)(n:Nat):List Int:=(List.range n).map λi:Nat=>lo+ (i:Int)
theorem vQ (lo:Int)(n:Nat):(gb lo n).length=n:=by unfold gb;grind
theorem MF {lo:Int}(h:i<n):(gb lo n)[i]?=some (lo+ (i:Int)):=by
 unfold gb;rw[aby,acQ h];rfl
theorem yz:∀(zs:List Int) (us:List Value),us.length=zs.length->(∀(i:Nat) (z:Int) (u:Value),zs[i]?=some z->us[i]?=some u->∃t,u=.int z t)->Vals (ao zs) us
 |[],[],_,_=>.nil
 |z::zs,u::us,a,h=>.cons (h 0 z u rfl rfl) (yz zs us (by simpa using a) λi z u b c=>h (i+ 1) z u b c)
 |[],_::_,a,_=>by simp at a
 |_::_,[],a,_=>by simp at a
theorem BF {lo:Int}{acc:Array Value}(h:ItemsOf (λi v=>∃t,v=Value.int (lo + ↑i* 1) t) acc n):Vals (ao (gb lo n)) acc.toList:=by
 refine yz _ _ ?_ λi z u a c=>?_
 ·rw[vQ,ac4];exact h.1
 ·have b:i<n:=by
   have:=(abk.mp a).1;rw[vQ]at this;exact this
  rw[MF b]at a;obtain⟨t,e⟩:=h.2 i u (by grind)
  grind
section
variable {X:Cx}{a:Expr}{ta:TA}{p p2 pos BG:Pos}
def UT (ta:TA):TE:=λ d H Q=>ta d H λe c=>∃j:Nat,e=[.int j]/\j<=10000/\∀l,c l=none->Q (.ref l) (upd c l (.lst (ao (gb 0 j))))
theorem list_range {Q:VK}{lo:Int}{t u v:Tok}(k:X.calm=true)(I:Inv X o D H s)(A:0<=lo)(x:lo<=10000)(y:0<=z)(w:z<=10000)
 (q:∀l,H l=none->Q (.ref l) (upd H l (.lst (ao (gb lo (z - lo).toNat))))):wpAny (model X.prog X.w) X.A (call (.type "list") [.ref s.heap.objs.size]) (EP X o D Q) X.xe { s with heap:=s.heap.push { cls:=.type "range",data:=.fields #[.int lo t,.int z u,.int 1 v] },toks:=n }:=by
 have i:Inv X o D H { s with heap:=s.heap.push { cls:=.type "range",data:=.fields #[.int lo t,.int z u,.int 1 v] },toks:=n }:=I.kept λb c e=>abl _ e
 have g:Builtin.Range.rangeSize lo z 1=(((z - lo).toNat:Nat):Int):=by rw[rangeSize_one];split <;> omega
 refine call_list_range (n:=(z - lo).toNat) (I.ok.hd k) (IsRange.new ..) (small_one (by omega) (by omega) (by omega) (by omega)) g (by omega) λr h f j kp B hit=>?_
 refine⟨.ref _,_,i.laid (t':=h) (o:=.lst (ao (gb lo (z - lo).toNat))) kp (abr _) ⟨?_,f.toList,j,BF hit,?_⟩,rfl,q _ (i.aO.fresh (abr _))⟩
 ·rw[aI,vQ];exact abB (show (z - lo).toNat<=10000 by omega) (by decide)
 omega
theorem pj (o:X.calm=true)(f:Gl X "list")(g:X.mg "list"=none)(v:Gl X "range")(i:X.mg "range"=none)(w:PA X [a] ta)(l:starEach [a] X.env=[(false,eval a X.env)]:=by rfl)
 (d:starEach [.Call (.Name "range" p) [a] [] pos] X.env=[(false,eval (.Call (.Name "range" p) [a] [] pos) X.env)]:=by rfl):PE X (.Call (.Name "list" p2) [.Call (.Name "range" p) [a] [] pos] [] BG) (UT ta):=by
 intro c s u H Q I h;refine acI (gU I f g boot_list ?_);refine acw ?_ d rfl;rw[d];show wpAny _ _ (spliced ((false,eval (.Call (.Name "range" p) [a] [] pos) X.env)::backTo BG [])) _ _ s;refine acq ?_;refine Call_ (gU I v i boot_range (acw (a8 (w pos c s u H _ I h) λy A ⟨z,B,m,n,k⟩=>?_) l rfl));obtain⟨j,e,C,q⟩:=k;subst e
 cases n with
 |cons r x=>
  cases x;obtain⟨t,rfl⟩:=r;refine call_range_1 (ac5 ?_);exact list_range o m (by omega) (by omega) (by omega) (by omega) (by simpa using q)
end
def eG (H:Hp)(rs:List Addr)(rows:Za3):Prop:=rs.length=rows.length/\∀(i:Nat) (r:Addr) (a:List Int),rs[i]?=some r->rows[i]?=some a->H r=some (.lst (ao a))
def TabAt (H:Hp)(a:Addr)(rows:Za3):Prop:=∃rs:List Addr,H a=some (.lst (rs.map V.ref))/\eG H rs rows
theorem eG.same {rs:List Addr}{rows:Za3}(h:eG H rs rows)(s:aq H I):eG I rs rows:=⟨h.1,λi r ns a b=>s _ _ (h.2 i r ns a b)⟩
theorem TabAt.same {rows:Za3}(h:TabAt H a rows)(s:aq H I):TabAt I a rows:=by
 obtain⟨rs,b,c⟩:=h;exact⟨rs,s _ _ b,c.same s⟩
theorem Dr {rs:List Addr}:∀{a:List Value},Vals (rs.map V.ref) a->a=rs.map Value.ref:=by
 induction rs with
 |nil=>intro a r;cases r;rfl
 |cons c rs d=>
  intro a r
  cases r with
  |cons e b=>cases e;rw[d b];rfl
theorem J9 {a:Type} [DecidableEq a]{ns ms:List a}(h:ns.length=ms.length):(List.range ns.length).all (λj=>decide (ns[j]?=ms[j]?))=decide (ns=ms):=by
 rw[acV,List.all_eq_true,acs];constructor
 ·intro b;refine adk λi=>?_
  grind
 grind
section
variable {X:Cx}
inductive QC (x:V) (y:V) (H:Hp) (Q:VK):Prop
 |mk (a b:Addr) (ns ms:Za3):x=.ref a->y=.ref b->TabAt H a ns->TabAt H b ms->Q (.bl (decide (ns=ms))) H->QC x y H Q
inductive QD (x:V) (y:V) (H:Hp) (Q:VK):Prop
 |mk (a b:Addr) (ns ms:Za3):x=.ref a->y=.ref b->TabAt H a ns->TabAt H b ms->Q (.bl (!decide (ns=ms))) H->QD x y H Q
inductive HZ (x:V) (y:V) (H:Hp) (Q:VK):Prop
 |mk (a b:Addr) (ns ms:List Int):x=.ref a->y=.ref b->H a=some (.lst (ao ns))->H b=some (.lst (ao ms))->Q (.bl (!decide (ns=ms))) H->HZ x y H Q
theorem Ka (m:X.A.units<cLine):fy X (compareOp .NotEq) HZ:=by
 intro l s D H x y v u Q I r t h;obtain⟨a,b,ns,ms,rfl,rfl,C,p,q⟩:=h;cases r;cases t;obtain⟨w,i,c,_⟩:=I.list (aD.of C);obtain⟨g,n,d,_⟩:=I.list (aD.of p);have k:=i.length;have o:=n.length;rw[aI]at k o;by_cases f:ns.length=ms.length
 ·refine SeqAt.RcNeAt.lists (e:=λj=>decide (ns[j]?=ms[j]?)) c.isList d.isList (by grind) m (λj B A=>Aq i n j B A) X.prog X.w X.xe _ ⟨.bl (!decide (ns=ms)),H,I,?_,q⟩;show _=Value.bool (!decide (ns=ms));rw[abK,<-k,J9 f]
 ·have e:decide (ns=ms)=false:=acj (λz=>f (by rw[z]));rw[e]at q;refine SeqAt.RcNeAt.lists_lengths c.isList d.isList ?_ m X.prog X.w X.xe _ ⟨.bl true,H,I,rfl,q⟩
  grind
inductive Ia (xs:List V) (H:Hp) (Q:VK):Prop
 |mk (b:Bool):xs=[.bl b]->Q (.int (if b=true then 1 else 0)) H->Ia xs H Q
theorem Ds:fX X (.type "int") Ia:=by
 intro a s e H d f Q I r h;obtain⟨b,rfl,q⟩:=h;obtain⟨u,rfl,c⟩:=vals1 r;cases c;exact call_int_bool ⟨.int _,H,I.tok _,⟨_,rfl⟩,q⟩
theorem ju (h:X.K=K):HL X (FI K):=by subst h;exact bL
theorem xI (h:X.K=K):fX X (.builtin "len") (Bz K):=by subst h;exact bC
theorem ux {z:Str}{scope:Scope}(g:closureFor scope X.env=pure [(f,c),(z,d)])(B:X.env.cells.lookup f=some c)(C:X.env.cells.lookup z=some d)(r:∀q∈scope.names,q.2≠.cell)(A:scope.kind=.function)
 (s:∀q∈scope.names,q.2=.local->scope.names.lookup q.1=some .local) (u:scope.names.lookup x=some .local) (a:∀q∈scope.names,q.2=.free->q.1=f\/q.1=z) (b:x≠f/\x≠z/\f≠z) (t:X.N[i]?=some f) (y:X.N[j]?=some z)
 (m:X.env.kindOf f=some .cell) (n:X.env.kindOf z=some .cell) (l:X.env.scope.kind=.function) (p:scope.names.lookup f=some .free) (o:scope.names.lookup z=some .free):dS X x [f,z] [i,j] scope [(f,c),(z,d)] where
 yl:=g
 sub:=λw e h=>by
  grind
 cell:=r
 kind:=A
 names:=s
 own:=u
 has:=λw h=>by
  have e:w=f\/w=z:=by
   rcases h with h|h
   ·exact a _ (fN h (.inl rfl) r) rfl
   ·exact a _ (fN h (.inr rfl) r) rfl
  grind
 nd:=by simp[b.1,b.2.1,b.2.2]
 len:=rfl
 at_:=λk w h=>by
  match k,h with
  |0,h=>
   have e:f=w:=by simpa using h
   subst e;exact⟨i,rfl,t,.inl m,c,by simp[adv],.inl (cx l m p)⟩
  |1,h=>
   have e:z=w:=by simpa using h
   subst e;have v:(z==f)=false:=abG.mpr (λq=>b.2.2 q.symm);exact⟨j,rfl,y,.inl n,d,by simp[adv,v],.inl (cx l n o)⟩
  |k+ 2,h=>simp at h
end
def cN (H:Hp)(a:List Addr)(ws:Za3):Prop:=a.length=ws.length/\∀(i:Nat) (p:Addr) (w:List Int),a[i]?=some p->ws[i]?=some w->H p=some (.tup (ao w))
def bM (H:Hp)(a:Addr)(c:Za3):Prop:=∃b:List Addr,H a=some (.lst (b.map V.ref))/\cN H b c
theorem cN.keep {ws:Za3}(h:cN H F ws)(s:∀p a,H p=some (.tup a)->I p=some (.tup a)):cN I F ws:=⟨h.1,λi p w b c=>s _ _ (h.2 i p w b c)⟩
theorem cN.same {ws:Za3}(h:cN H F ws)(s:aq H I):cN I F ws:=h.keep λp a e=>s _ _ e
theorem bM.same {ws:Za3}(h:bM H a ws)(s:aq H I):bM I a ws:=by
 obtain⟨d,b,c⟩:=h;exact⟨d,s _ _ b,c.same s⟩
theorem cN.snoc {ps:List Addr}{ws:Za3}(h:cN H ps ws)(e:H a=some (.tup (ao l))):cN H (ps++[a]) (ws++[l]):=by
 refine⟨by rw[abj,abj,h.1];rfl,λi q u b c=>?_⟩;by_cases d:i<ps.length
 ·rw[abu d]at b;rw[abu (by rw[<-h.1];exact d)]at c;exact h.2 i q u b c
 ·rw[abw (by omega)]at b;rw[abw (by rw[<-h.1];omega)]at c;rw[abp.mp (abn b),abp.mp (abn c)];exact e
inductive QF (x:V) (y:V) (H:Hp) (Q:VK):Prop
 |mk (a b:Addr) (ns ms:Za3):x=.ref a->y=.ref b->bM H a ns->bM H b ms->Q (.bl (decide (ns=ms))) H->QF x y H Q
inductive QG (x:V) (y:V) (H:Hp) (Q:VK):Prop
 |mk (k:Int) (a:Addr) (ns:List Int):x=.int k->y=.ref a->H a=some (.lst (ao ns))->Q (.bl (decide (k∈ns))) H->QG x y H Q
inductive F3 (x:V) (y:V) (H:Hp) (Q:VK):Prop
 |mk (k:Int) (a:Addr) (ns:List Int):x=.int k->y=.ref a->H a=some (.lst (ao ns))->Q (.bl (!decide (k∈ns))) H->F3 x y H Q
def isInt (k:Int):Value->Bool
 |.int z _=>z==k
 |_=>false
inductive Kb (x:V) (vs:List V) (H:Hp) (Q:VK):Prop
 |mk (a:Addr) (ns:List Int) (k:Int):x=.ref a->vs=[.int k]->H a=some (.lst (ao ns))->k∈ns->(∀i:Nat,ns[i]?=some k->(∀j,j<i->ns[j]?≠some k)->Q (.int i) H)->Kb x vs H Q
def yA (K:Za1)(a:Addr):It:=
 ⟨λi H=>∃xs x,aD K H a xs/\xs[i]?=some x,λi H x b=>∃p v,H p=none/\(∀ys,aD K H a ys->ys[i]?=some v)/\x=.ref p/\b=upd H p (.tup [.int (i:Int),v]),λi H=>∃xs,aD K H a xs/\xs.length=i⟩
theorem eH {o u:Obj}(e:h.get? a=some o)(c:h.get? b=some u)(d:o.cls≠u.cls):a≠b:=λz=>by
 grind
theorem BH {elts:List Expr}{x1:Nat}{tp:Pos}(e it a:Addr)(N:e≠it):
 Turn P w K (.Tuple elts x1 tp) (yA K a) [e,it] e (λi h=>(∃old,IsEnum h e it (i:Int) old)/\h.IsListIter it a i) where
 mem:=by simp
 obj:=λi h st b f=>by
  obtain⟨⟨old,j⟩,o,ho,M,hd⟩:=st
  grind
 keep:=λi h Z st k=>by
  obtain⟨⟨old,j⟩,hl⟩:=st;exact⟨⟨old,k e (by simp) _ j⟩,hl.at λo e=>k it (by simp) o e⟩
 item:=by
  intro X hP W S M i B s σ H E I C st hg;subst hP W S;obtain⟨⟨old,j⟩,d⟩:=st;obtain⟨xs,x,J,G⟩:=hg;obtain⟨c,rv,p,hz⟩:=I.list J;obtain⟨u,hu,ru⟩:=rv.get G;have hit:=p.isList;obtain⟨o1,l,V,T⟩:=id hit;obtain⟨o2,m,O,R⟩:=id d;have r:a≠it:=eH l m (by grind);have VQ:e≠a:=eH j l (by grind);have D:=Draws.list (prog:=X.prog) (w:=X.w) (A:=X.A.in1) (I.ok.hd M) it a r c.toArray;have Du:e<s.heap.objs.size:=abE j;have Dv:i<c.length:=(abk.mp hu).1;refine En.wI D j ⟨d,hit⟩ (by omega) N (by grind) λy Z tk Y ho MG t hk=>?_
  have ey:u=y:=by
   have U:c[i]?=some y:=by simpa using Y
   exact Za0 (hu.symm.trans U)
  subst ey;refine⟨_,rfl,?_⟩;refine wpAny_letOwnedTupleGo_enum ho λn VR g=>?_
  have yB:n.get? s.heap.objs.size=some { cls:=.type "tuple",data:=.seq #[.int (i:Int) tk,u] }:=(g.2 _ (acH Du)).trans t
  have Dw:∀b L,b∉[e,it]->s.heap.get? b=some L->n.get? b=some L:=λb L f q=>by
   have h1:b≠e:=λz=>f (by simp[z])
   have U:b≠it:=λz=>f (by simp[z])
   exact(g.2 b h1).trans (hk b L h1 U q)
  have Dx:=I.aO.fresh (abr s.heap.objs.size);refine⟨.ref s.heap.objs.size,_,I.oJ (fp:=[e,it]) (a:=s.heap.objs.size) (o:=.tup [.int (i:Int),x]) (h':=n) (t':=tk+ 1) Dw C (abr _) ?_,rfl,⟨_,x,Dx,λys hy=>by rw[I.kI hy J];exact G,rfl,rfl⟩,⟨⟨u,?_⟩,?_⟩,λb f=>?_⟩
  ·exact⟨by show 2<=sizeLine;decide,[.int (i:Int) tk,u],.cons ⟨_,rfl⟩ (.cons ru .nil),_,yB,rfl,_,rfl⟩
  ·grind
  ·exact(D.frame _ _ _ MG λb f o q=>(g.2 b (by
    grind)).trans q).1
  ·rw[ak]
   ·exact(C b f).1
   ·intro z;subst z;rcases abD.mp f with z|f
    ·grind
    ·exact absurd (abE m) (by rw[<-abp.mp f];exact acK _)
 done:=by
  intro X hP W S M i B s σ H E I C st hg;subst hP W S;obtain⟨⟨old,j⟩,d⟩:=st;obtain⟨xs,J,G⟩:=hg;obtain⟨c,rv,p,hz⟩:=I.list J;have hit:=p.isList;obtain⟨o1,l,V,T⟩:=id hit;obtain⟨o2,m,O,R⟩:=id d;have r:a≠it:=eH l m (by grind);have D:=Draws.list (prog:=X.prog) (w:=X.w) (A:=X.A.in1) (I.ok.hd M) it a r c.toArray;have hsz:c.toArray.size=i:=by rw[abK,<-rv.length];exact G
  refine wpAny_pyNext_enum_endD D j (by rw[hsz];exact⟨d,hit⟩) λZ eb=>⟨rfl,I.rM (fp:=[e,it]) (t':=s.toks) (λb o f q=>eb b o (λz=>f (by simp[z])) q) C⟩
 self:=λA i s Q E st h=>by
  obtain⟨⟨old,j⟩,_⟩:=st;have t:s.TypeIs (.ref e) "enumerate":=⟨_,j,rfl⟩;refine wpAny_pyIter_slot t ad3 (acp ad3 t F.entry_enumerate_iter ?_ (F.args_enumerate_iter_1 _));show wpAny _ _ (ret (.ref e)) _ _ s;exact abq ⟨_,rfl,"enumerate",_,t,ad2.lookup,h⟩
section
variable {X:Cx}
def MH (K:Za1)(e:TA):TI:=λ d H R=>e d H λf b=>∃a,f=[.ref a]/\(∃c,aD K b a c)/\R (yA K a) b
theorem yC {elts:List Expr}{c g:Pos}(F:Gl X "enumerate")(v:X.mg "enumerate"=none)(E:PE X e r)(m:starEach [e] X.env=[(false,eval e X.env)]:=by rfl):
 PI X (.Tuple elts n p) (.Call (.Name "enumerate" c) [e] [] g) (MH X.K (uk r vH)):=by
 intro a s t H R I h;refine Call_ (gU I F v boot_enumerate (acw (a8 ((ae E aj m) g a s t H _ I h) λL s1 ⟨O,o,f,z,x⟩=>?_) m rfl));obtain⟨l,rfl,⟨J,y⟩,q⟩:=x;obtain⟨u,rfl,D⟩:=vals1 z;cases D;obtain⟨C,M,pl,Q⟩:=f.list y;refine call_enumerate_list pl.isList λk i hit A G=>?_
 have B:Inv X a t o { s1 with heap:=k }:=f.kept (t':=s1.toks) G;have T:=BH (P:=X.prog) (w:=X.w) (K:=X.K) (elts:=elts) (x1:=n) (tp:=p) (s1.heap.objs.size+ 1) s1.heap.objs.size l (Nat.succ_ne_self _);refine T.self _ 0 { s1 with heap:=k } _ _ ⟨⟨_,i⟩,hit⟩ ⟨_,_,_,_,o,rfl,B,T,⟨⟨_,i⟩,hit⟩,λb j=>?_,q⟩;rcases abD.mp j with d|j
 ·subst d;exact f.mP (ado _) (f.aO.fresh (ado _))
 ·rw[abp.mp j];exact f.mP (abr _) (f.aO.fresh (abr _))
end
theorem wJ {xs:List V}{g:TG}{k:TS}(b:Nat->St->Hp->Prop)(B:b 0 D H)(s:∀i D H,i<=xs.length->b i D H->aD K H a xs)
 (t:∀i v D H p,xs[i]?=some v->H p=none->b i D H->g (.ref p) D (upd H p (.tup [.int (i:Int),v])) λ c j=>k { G with nx:=b (i+ 1),ct:=b (i+ 1),bk:=G.nx } c j) (A:∀ D H,b xs.length D H->G.nx D H):
 ∃W:Nat->Nat->St->Hp->Prop,(∃m,W 0 m D H)/\∀i m D H,W i m D H->
  ((yA K a).stop i H/\G.nx D H)\/((yA K a).go i H/\∃N:St->Hp->Prop,(∀ d f,N d f->∃l,l<m/\W (i+ 1) l d f)/\∀x f,(yA K a).kc i H x f->g x D f λ c j=>k { G with nx:=N,ct:=N,bk:=G.nx } c j):=by
 refine⟨λi m D H=>m=xs.length - i/\i<=xs.length/\b i D H,⟨xs.length,by simp,abS _,B⟩,?_⟩;rintro i m D H ⟨rfl,u,p⟩;have q:=s i D H u p;by_cases h:i<xs.length
 ·refine .inr ⟨⟨xs,_,q,abm h⟩,b (i+ 1),λ d f o=>⟨xs.length - (i+ 1),by omega,rfl,h,o⟩,λx f y=>?_⟩;obtain⟨r,v,z,n,rfl,rfl⟩:=y;exact t i v D H r (n xs q) z p
 ·have e:i=xs.length:=by omega
  subst e;exact .inl ⟨⟨xs,q,rfl⟩,A D H p⟩
def Dy (K:Za1)(a b:Addr):It:=
 ⟨λi H=>∃xs x ys y,aD K H a xs/\xs[i]?=some x/\aD K H b ys/\ys[i]?=some y,
  λi H x c=>∃p v u,H p=none/\(∀ys,aD K H a ys->ys[i]?=some v)/\(∀ys,aD K H b ys->ys[i]?=some u)/\x=.ref p/\c=upd H p (.tup [v,u]),
  λi H=>∃xs ys,aD K H a xs/\aD K H b ys/\(xs.length<=i\/ys.length<=i)⟩
def BI (z TI TO c d e f:Addr)(i:Nat)(h:Heap):Prop:=IsZip h z TI TO .none/\IsPair h TI (.ref c) (.ref d)/\(∃a b,IsPair h TO a b)/\h.IsListIter c e i/\h.IsListIter d f i
theorem wL {m l:Obj}(g:h.get? b=some m)(r:m.cls=.type "list")(f:h.get? c=some l)(q:l.cls=.type "list")(st:BI (a+ 4) (a+ 2) (a+ 3) a (a+ 1) b c i h):ZipApart (a+ 4) (a+ 2) (a+ 3) a (a+ 1) b c:=by
 obtain⟨p,s,⟨e,d,k⟩,⟨t,o,w,_⟩,⟨u,n,v,_⟩⟩:=st
 exact⟨(λj=>by grind),(λj=>by grind),(λj=>by grind),(λj=>by grind),(λj=>by grind),(λj=>by grind),(λj=>by grind),(λj=>by grind),(λj=>by grind),(λj=>by grind),
  eH g p (by grind),eH g k (by grind),eH g o (by grind),eH g n (by grind),
  eH f p (by grind),eH f k (by grind),eH f o (by grind),eH f n (by grind)⟩
theorem F4 {elts:List Expr}{x1:Nat}{tp:Pos}(n a b:Addr):
 Turn P w K (.Tuple elts x1 tp) (Dy K a b) [n+ 4,n+ 2,n+ 3,n,n+ 1] (n+ 4) (BI (n+ 4) (n+ 2) (n+ 3) n (n+ 1) a b) where
 mem:=by simp
 obj:=λi h st c S=>by
  obtain⟨r,f,⟨V,Z,g⟩,⟨p1,g1,k1,d1⟩,⟨G,g2,k2,d2⟩⟩:=st
  grind
 keep:=λi h h' st k=>by
  obtain⟨r,f,⟨V,Z,g⟩,O,J⟩:=st;exact⟨k _ (by simp) _ r,k _ (by simp) _ f,⟨V,Z,k _ (by simp) _ g⟩,O.at λo e=>k _ (by simp) o e,J.at λo e=>k _ (by simp) o e⟩
 item:=by
  intro X hP hw hK S i T s σ H E I U st hg;subst hP hw hK;obtain⟨xs,x,ys,y,Y,hx,l,W⟩:=hg;obtain⟨its,rv,p,VS⟩:=I.list Y;obtain⟨u,hu,ru⟩:=rv.get hx;obtain⟨R,z,G,VW⟩:=I.list l;obtain⟨u2,pk,VX⟩:=z.get W;obtain⟨o1,v,t,MJ⟩:=id p.isList;obtain⟨o2,B,m,hd2⟩:=id G.isList;have D:=wL v t B m st;obtain⟨r,f,⟨V,Z,g⟩,O,J⟩:=st;refine wpAny_pyNext_zip_item D r f g O J p.isList G.isList (x:=u) (y:=u2) (by simpa using hu) (by simpa using pk) λh' VY N VZ Ib V0 hsz hk=>?_
  refine⟨_,rfl,?_⟩;refine wpAny_letOwnedTupleGo_zip VY λj L d=>?_
  have V1:n+ 4<s.heap.objs.size:=abE r;have yB:j.get? s.heap.objs.size=some { cls:=.type "tuple",data:=.seq #[u,u2] }:=(d.2 _ (acH V1)).trans V0
  have Dw:∀b ob,b∉[n+ 4,n+ 2,n+ 3,n,n+ 1]->s.heap.get? b=some ob->j.get? b=some ob:=λb ob C q=>by
   simp only[abD,acd,adO,not_or]at C;exact(d.2 b C.1).trans (hk b ob C.1 C.2.2.1 C.2.2.2.1 C.2.2.2.2 q)
  have Dx:=I.aO.fresh (abr s.heap.objs.size);have M:j.get? (n+ 2)=some { cls:=.type "tuple",data:=.seq #[.ref n,.ref (n+ 1)] }:=(d.2 _ (λF=>by grind)).trans (hk _ _ (λF=>by grind) (λF=>by grind) (λF=>by grind) (λF=>by grind) f);refine⟨.ref s.heap.objs.size,_,I.oJ (fp:=[n+ 4,n+ 2,n+ 3,n,n+ 1]) (a:=s.heap.objs.size) (o:=.tup [x,y]) (h':=j) (t':=s.toks) Dw U (abr _) ?_,rfl,⟨_,x,y,Dx,λys W=>by rw[I.kI W Y];exact hx,λzs Ic=>by rw[I.kI Ic l];exact W,rfl,rfl⟩,⟨L,M,⟨_,_,(d.2 _ (λF=>by grind)).trans N⟩,VZ.at λo e=>(d.2 _ (λF=>by grind)).trans e,Ib.at λo e=>(d.2 _ (λF=>by grind)).trans e⟩,λc S=>?_⟩
  ·exact⟨by show 2<=sizeLine;decide,[u,u2],.cons ru (.cons VX .nil),_,yB,rfl,_,rfl⟩
  ·rw[ak]
   ·exact(U c S).1
   grind
 done:=by
  intro X hP hw hK S i T s σ H E I U st hg;subst hP hw hK;obtain⟨xs,ys,Y,l,aav⟩:=hg;obtain⟨its,rv,p,VS⟩:=I.list Y;obtain⟨R,z,G,VW⟩:=I.list l;obtain⟨o1,v,t,MJ⟩:=id p.isList;obtain⟨o2,B,m,hd2⟩:=id G.isList;have D:=wL v t B m st;obtain⟨r,f,⟨V,Z,g⟩,O,J⟩:=st;have Ru:=rv.length;have Az:=z.length;refine wpAny_pyNext_zip_end (I.ok.hd S) D r f g O J p.isList G.isList ?_ λh' hk=>⟨rfl,I.rM (fp:=[n+ 4,n+ 2,n+ 3,n,n+ 1]) (t':=s.toks) (λb o C q=>?_) U⟩
  ·grind
  grind
 self:=λA i s Q E st h=>wpAny_pyIter_zip st.1 h
section
variable {X:Cx}
def UU (K:Za1)(f:TA):TI:=λ e H R=>f e H λg d=>∃a b,g=[.ref a,.ref b]/\(∃c,aD K d a c)/\(∃c,aD K d b c)/\R (Dy K a b) d
theorem MK {b:Expr}{F:TA}{elts:List Expr}{d g:Pos}(hg:Gl X "zip")(J:X.mg "zip"=none)(N:PA X [e,b] F)(M:starEach [e,b] X.env=(false,eval e X.env)::starEach [b] X.env:=by rfl)
 (t:((backTo g (starEach [b] X.env)).any (·.1))=false:=by rfl):PI X (.Tuple elts n p) (.Call (.Name "zip" d) [e,b] [] g) (UU X.K F):=by
 intro a s G H R I h;refine Call_ (gU I hg J boot_zip (acw (a8 (N g a s G H _ I h) λus s1 ⟨vs,E,j,O,L⟩=>?_) M t));obtain⟨C,A,f,⟨xs,Q⟩,⟨ys,m⟩,q⟩:=L;subst f
 cases O with
 |cons r k=>
  cases k with
  |cons V k=>
   cases k;cases r;cases V;obtain⟨Y,rv,pl,hz⟩:=j.list Q;obtain⟨B,Z,x,U⟩:=j.list m;refine call_zip_2 pl.isList x.isList λl v u o y z S hk=>?_
   have W:Inv X a G E { s1 with heap:=l }:=j.kept (t':=s1.toks) hk;have T:=F4 (P:=X.prog) (w:=X.w) (K:=X.K) (elts:=elts) (x1:=n) (tp:=p) s1.heap.objs.size C A;have st:BI (s1.heap.objs.size+ 4) (s1.heap.objs.size+ 2) (s1.heap.objs.size+ 3) s1.heap.objs.size (s1.heap.objs.size+ 1) C A 0 l:=⟨v,u,⟨_,_,o⟩,y,z⟩;refine T.self _ 0 { s1 with heap:=l } _ _ st ⟨_,_,_,_,E,rfl,W,T,st,λc D=>?_,q⟩;simp only[abD,acd,adO]at D;have i:s1.heap.objs.size<=c:=by rcases D with rfl|rfl|rfl|rfl|rfl <;> first|exact Nat.le_add_right _ _|exact abr _
   exact j.mP i (j.aO.fresh i)
end
theorem Kc {xs ys:List V}{g:TG}{n:TS}(c:Nat->St->Hp->Prop)(C:xs.length=ys.length)(J:c 0 D H)(w:∀i D H,i<=xs.length->c i D H->aD K H a xs/\aD K H b ys)
 (z:∀i v u D H p,xs[i]?=some v->ys[i]?=some u->H p=none->c i D H->g (.ref p) D (upd H p (.tup [v,u])) λ d l=>n { G with nx:=c (i+ 1),ct:=c (i+ 1),bk:=G.nx } d l) (I:∀ D H,c xs.length D H->G.nx D H):
 ∃W:Nat->Nat->St->Hp->Prop,(∃m,W 0 m D H)/\∀i m D H,W i m D H->
  ((Dy K a b).stop i H/\G.nx D H)\/((Dy K a b).go i H/\∃N:St->Hp->Prop,(∀ f h,N f h->∃o,o<m/\W (i+ 1) o f h)/\∀x h,(Dy K a b).kc i H x h->g x D h λ d l=>n { G with nx:=N,ct:=N,bk:=G.nx } d l):=by
 refine⟨λi m D H=>m=xs.length - i/\i<=xs.length/\c i D H,⟨xs.length,by simp,abS _,J⟩,?_⟩;rintro i m D H ⟨rfl,A,p⟩;obtain⟨q,k⟩:=w i D H A p;by_cases j:i<xs.length
 ·refine .inr ⟨⟨xs,_,ys,_,q,abm j,k,abm (show i<ys.length by omega)⟩,c (i+ 1),λ f h t=>⟨xs.length - (i+ 1),by omega,rfl,j,t⟩,λx h y=>?_⟩;obtain⟨r,v,u,F,s,E,rfl,rfl⟩:=y;exact z i v u D H r (s xs q) (E ys k) F p
 ·have e:i=xs.length:=by omega
  subst e;exact .inl ⟨⟨xs,ys,q,k,.inl (abr _)⟩,I D H p⟩
namespace En
open AutoSeq1 (wpAny_loadPart')
theorem BJ (l:Addr)(items:Array Value)(n:Nat)(dct:Option Addr)(o:Array (Option Value))(k:Int)(u:Tok)(r:0<=k)(m:k<1000):
 Meets (Builtin.«enumerate.__new__» ⟨[.type "enumerate",.ref l],[("start",.int k u)]⟩) (λ_ R s=>s.heap.get? l=some { cls:=.type "list",dict:=dct,data:=.seq items n,slots:=o }/\
  R (.ok (.ret (.ref (s.heap.push { cls:=.type "list_iterator",data:=.fields #[.ref l,.int 0 0] }).objs.size)))
    { s with heap:=(s.heap.push { cls:=.type "list_iterator",data:=.fields #[.ref l,.int 0 0] }).push { cls:=.type "enumerate",data:=.fields #[.none,.bool false,.ref s.heap.objs.size,rawInt k,.none,.none] } }):=
 .of_wp λi w A R s h=>by
  obtain⟨j,g,d,p,os⟩:=s;obtain⟨a,h⟩:=h;have f:=sub_enumerate;have q:=AutoSeq1.idx_int;have b:Heap.IsList (Shared.heap ⟨j,g,d,p,os⟩) l items:=⟨_,a,rfl,n,rfl⟩
  have e:(!Builtin.SmallTypes.fitsIndex k)=false:=by
   unfold Builtin.SmallTypes.fitsIndex;simp;omega
  wp_walk using adJ a
  refine wpAny_stack_any λst=>abq ?_
  split
  ·rename_i c _ _ _ _ _;cases (c==Value.type "enumerate")
   ·wp_walk using adJ a,ad9 b
    exact⟨_,rfl,h⟩
   ·wp_walk using adJ a,ad9 b
    exact⟨_,rfl,h⟩
  ·wp_walk using adJ a,ad9 b
   exact⟨_,rfl,h⟩
section
variable {prog:Program}{w:World}{A:Around}{E:Value->Shared->Prop}{s:Shared}
theorem zT {items:Array Value}{k:Int}{u:Tok}(N:s.heap.IsList a items)(hk:0<=k)(x:k<1000)
 (h:∀p,IsEnum p (s.heap.objs.size+ 1) s.heap.objs.size k .none->p.IsListIter s.heap.objs.size a 0->(∀b o,s.heap.get? b=some o->p.get? b=some o)->Q (.ref (s.heap.objs.size+ 1)) { s with heap:=p }):
 wpAny (model prog w) A (call (.type "enumerate") [.ref a] [("start",.int k u)]) Q E s:=by
 obtain⟨⟨S,dct,U,X⟩,V,j,n,D⟩:=N;replace j:S=.type "list":=j;replace D:U=.seq items n:=D;subst j D;have ft:=F.called_enumerate;obtain⟨c,tl,L⟩:=ft.mro;have z:=ft.made;have J:=ft.sub;have P:=Qu (.ref a) (.int k u);have v:=Qw (.ref a) (.int k u);refine aeD (codeAny_of_tree ?_);show wpAny _ _ (callAny (.type "enumerate") _) _ _ _;refine abq ⟨Code.quiet_builtin _ (by decide),codeAny_builtin F.entry_type_call ?_⟩;rw[Around.under_plain (weight_type_call_type "enumerate" [.ref a] [("start",.int k u)]) (units_type_call_type "enumerate" [.ref a] [("start",.int k u)])];have h1:=ft.notType;have h2:=ft.canCreate
 repeat (any_goals (first|assumption|wp_step))
 refine adW (adF ft.plain F.entry_enumerate_new (wpAny_of_eq v (BJ a items n dct X k u hk x prog w A.in1 (wants (λobj f=>f.TypeIs obj "enumerate"/\Q obj f) E) s ⟨V,?_⟩))) λr f B=>?_
 ·have G:(s.heap.push { cls:=.type "list_iterator",data:=.fields #[.ref a,.int 0 0] }).objs.size=s.heap.objs.size+ 1:=adA ..;show _/\_;rw[G]
  have M:IsEnum ((s.heap.push { cls:=.type "list_iterator",data:=.fields #[.ref a,.int 0 0] }).push { cls:=.type "enumerate",data:=.fields #[.none,.bool false,.ref s.heap.objs.size,rawInt k,.none,.none] }) (s.heap.objs.size+ 1) s.heap.objs.size k .none:=by
   have q:=abF (s.heap.push { cls:=.type "list_iterator",data:=.fields #[.ref a,.int 0 0] }) (o:={ cls:=.type "enumerate",data:=.fields #[.none,.bool false,.ref s.heap.objs.size,rawInt k,.none,.none] }) rfl;rw[G]at q;exact q
  exact⟨⟨_,M,rfl⟩,h _ M ⟨_,abl _ (abF _ rfl),rfl,rfl⟩ λb o y=>abl _ (abl _ y)⟩
 cases r with
 |error e=>exact B
 |ok Y=>
  cases Y with
  |ret obj=>
   obtain⟨I,H⟩:=B;have Z:=ft.init.lookup;have W:=ft.init.bind obj;have C:=Qx obj (.ref a) (.int k u);have t:(λ(_:Around) (R:Result->Shared->Prop) (s:Shared)=>s.TypeIs obj "enumerate"/\R (.ok (.ret .none)) s) A.in1 (wants (λr i=>r=.none/\Q obj i) E) f:=⟨I,rfl,H⟩;have O:=J0 (T:="enumerate") (self:=obj) (a:=.ref a) (kw:=[("start",.int k u)]) ft.init.lookup ft.made (by decide)
   repeat (any_goals (first|assumption|wp_step))
   refine adW (adF ft.init.plain F.entry_object_init (ft.init.check _ _ _ _ _ _ _ _ I C (O prog w A.in1 _ f t))) λm i g=>?_
   cases m with
   |error e=>exact g
   |ok l=>
    cases l with
    |ret r=>
     obtain⟨rfl,H⟩:=g
     repeat (any_goals (first|assumption|wp_step))
    |_=>exact g.elim
  |_=>exact B.elim
end
end En
def rO (K:Za1)(a:Addr)(n:Int):It:=
 ⟨λi H=>∃xs x,aD K H a xs/\xs[i]?=some x,λi H x b=>∃p v,H p=none/\(∀ys,aD K H a ys->ys[i]?=some v)/\x=.ref p/\b=upd H p (.tup [.int (n+ (i:Int)),v]),λi H=>∃xs,aD K H a xs/\xs.length=i⟩
theorem zU {elts:List Expr}{x1:Nat}{tp:Pos}(e it a:Addr)(n:Int)(O:e≠it):
 Turn P w K (.Tuple elts x1 tp) (rO K a n) [e,it] e (λi h=>(∃old,IsEnum h e it (n+ (i:Int)) old)/\h.IsListIter it a i) where
 mem:=by simp
 obj:=λi h st b f=>by
  obtain⟨⟨old,j⟩,o,ho,N,hd⟩:=st
  grind
 keep:=λi h h' st k=>by
  obtain⟨⟨old,j⟩,hl⟩:=st;exact⟨⟨old,k e (by simp) _ j⟩,hl.at λo e=>k it (by simp) o e⟩
 item:=by
  intro X hP Y T N i C s σ H E I G st hg;subst hP Y T;obtain⟨⟨old,j⟩,d⟩:=st;obtain⟨xs,x,L,J⟩:=hg;obtain⟨c,rv,p,hz⟩:=I.list L;obtain⟨u,hu,ru⟩:=rv.get J;have hit:=p.isList;obtain⟨o1,l,W,U⟩:=id hit;obtain⟨o2,m,R,S⟩:=id d;have t:a≠it:=eH l m (by grind);have VQ:e≠a:=eH j l (by grind);have D:=Draws.list (prog:=X.prog) (w:=X.w) (A:=X.A.in1) (I.ok.hd N) it a t c.toArray;have Du:e<s.heap.objs.size:=abE j;have Dv:i<c.length:=(abk.mp hu).1;refine En.wI D j ⟨d,hit⟩ (by omega) O (by grind) λy h' tk Z ho MG v hk=>?_
  have ey:u=y:=by
   have V:c[i]?=some y:=by simpa using Z
   exact Za0 (hu.symm.trans V)
  subst ey;refine⟨_,rfl,?_⟩;refine wpAny_letOwnedTupleGo_enum ho λr VR g=>?_
  have yB:r.get? s.heap.objs.size=some { cls:=.type "tuple",data:=.seq #[.int (n+ (i:Int)) tk,u] }:=(g.2 _ (acH Du)).trans v
  have Dw:∀b M,b∉[e,it]->s.heap.get? b=some M->r.get? b=some M:=λb M f q=>by
   have h1:b≠e:=λz=>f (by simp[z])
   have V:b≠it:=λz=>f (by simp[z])
   exact(g.2 b h1).trans (hk b M h1 V q)
  have Dx:=I.aO.fresh (abr s.heap.objs.size);refine⟨.ref s.heap.objs.size,_,I.oJ (fp:=[e,it]) (a:=s.heap.objs.size) (o:=.tup [.int (n+ (i:Int)),x]) (h':=r) (t':=tk+ 1) Dw G (abr _) ?_,rfl,⟨_,x,Dx,λys hy=>by rw[I.kI hy L];exact J,rfl,rfl⟩,⟨⟨u,?_⟩,?_⟩,λb f=>?_⟩
  ·exact⟨by show 2<=sizeLine;decide,[.int (n+ (i:Int)) tk,u],.cons ⟨_,rfl⟩ (.cons ru .nil),_,yB,rfl,_,rfl⟩
  ·grind
  ·exact(D.frame _ _ _ MG λb f o q=>(g.2 b (by
    grind)).trans q).1
  ·rw[ak]
   ·exact(G b f).1
   ·intro z;subst z;rcases abD.mp f with z|f
    ·grind
    ·exact absurd (abE m) (by rw[<-abp.mp f];exact acK _)
 done:=by
  intro X hP Y T N i C s σ H E I G st hg;subst hP Y T;obtain⟨⟨old,j⟩,d⟩:=st;obtain⟨xs,L,J⟩:=hg;obtain⟨c,rv,p,hz⟩:=I.list L;have hit:=p.isList;obtain⟨o1,l,W,U⟩:=id hit;obtain⟨o2,m,R,S⟩:=id d;have t:a≠it:=eH l m (by grind);have D:=Draws.list (prog:=X.prog) (w:=X.w) (A:=X.A.in1) (I.ok.hd N) it a t c.toArray;have hsz:c.toArray.size=i:=by rw[abK,<-rv.length];exact J
  refine wpAny_pyNext_enum_endD D j (by rw[hsz];exact⟨d,hit⟩) λh' eb=>⟨rfl,I.rM (fp:=[e,it]) (t':=s.toks) (λb o f q=>eb b o (λz=>f (by simp[z])) q) G⟩
 self:=λA i s Q E st h=>by
  obtain⟨⟨old,j⟩,_⟩:=st;have v:s.TypeIs (.ref e) "enumerate":=⟨_,j,rfl⟩;refine wpAny_pyIter_slot v ad3 (acp ad3 v F.entry_enumerate_iter ?_ (F.args_enumerate_iter_1 _));show wpAny _ _ (ret (.ref e)) _ _ s;exact abq ⟨_,rfl,"enumerate",_,v,ad2.lookup,h⟩
theorem BK {xs:List V}{g:TG}{k:TS}(b:Nat->St->Hp->Prop)(C:b 0 D H)(s:∀i D H,i<=xs.length->b i D H->aD K H a xs)
 (t:∀i v D H p,xs[i]?=some v->H p=none->b i D H->g (.ref p) D (upd H p (.tup [.int (z+ (i:Int)),v])) λ c j=>k { G with nx:=b (i+ 1),ct:=b (i+ 1),bk:=G.nx } c j) (B:∀ D H,b xs.length D H->G.nx D H):
 ∃W:Nat->Nat->St->Hp->Prop,(∃m,W 0 m D H)/\∀i m D H,W i m D H->
  ((rO K a z).stop i H/\G.nx D H)\/((rO K a z).go i H/\∃N:St->Hp->Prop,(∀ d f,N d f->∃l,l<m/\W (i+ 1) l d f)/\∀x f,(rO K a z).kc i H x f->g x D f λ c j=>k { G with nx:=N,ct:=N,bk:=G.nx } c j):=by
 refine⟨λi m D H=>m=xs.length - i/\i<=xs.length/\b i D H,⟨xs.length,by simp,abS _,C⟩,?_⟩;rintro i m D H ⟨rfl,u,p⟩;have q:=s i D H u p;by_cases h:i<xs.length
 ·refine .inr ⟨⟨xs,_,q,abm h⟩,b (i+ 1),λ d f o=>⟨xs.length - (i+ 1),by omega,rfl,h,o⟩,λx f y=>?_⟩;obtain⟨r,v,A,n,rfl,rfl⟩:=y;exact t i v D H r (n xs q) A p
 ·have e:i=xs.length:=by omega
  subst e;exact .inl ⟨⟨xs,q,rfl⟩,B D H p⟩
def dI (h:Heap)(d:Addr)(a:Array DictEntry)(b:Nat):Prop:=∃o,h.get? d=some o/\o.ExactDict/\o.data=.dict a b
namespace Dk
section
variable {prog:Program}{w:World}{A:Around}{E:Value->Shared->Prop}{s:Shared}{d:Addr}{es:Array DictEntry}{ep:Nat}
theorem typ (a:dI s.heap d es ep):s.TypeIs (.ref d) "dict":=let ⟨o,b,c,_⟩:=a;⟨o,b,c.1⟩
theorem iter (h:(d==sysModules)=false)(c:dI s.heap d es ep)
 (f:Q (.ref s.heap.objs.size) { s with heap:=s.heap.push { cls:=.type "dict_keyiterator",data:=.fields #[.ref d,.int 0 0,.int es.size 0,.int ep 0] } }):wpAny (model prog w) A (pyIter (.ref d)) Q E s:=by
 have b:=typ c;obtain⟨o,e,g,a⟩:=c;refine wpAny_pyIter_slot b F.slot_dict_iter (acp F.slot_dict_iter b F.entry_dict_iter ?_ (F.args_dict_iter_1 _));unfold Builtin.«dict.__iter__»;refine abi ?_;unfold Builtin.Dict.dictSlotNone;refine abi (ad4 b ?_);show wpAny _ _ (pure (Value.ref d)) _ _ s;refine abq ?_;show wpAny _ _ (Builtin.Dict.showsAll d >>=_) _ _ s;unfold Builtin.Dict.showsAll;rw[abH (by grind)];refine abi (abq (abi (adl e a (abi (ad5 e a ?_)))));exact abi (ab4 (abq ⟨_,rfl,"dict_keyiterator",_,⟨_,abF _ rfl,rfl⟩,acT.lookup,by simpa [rawInt] using f⟩))
theorem item {it:Addr}{en:DictEntry}{Q:Option Value->Shared->Prop}(hit:s.heap.IsKeyIter it d i es.size ep)(g:dI s.heap d es ep)(l:es[i]?=some en)
 (k:∀g1,g1.IsKeyIter it d (i+ 1) es.size ep->Heap.SameBut it s.heap g1->Q (some en.key) { s with heap:=g1 }):wpAny (model prog w) A (pyNext (.ref it)) Q E s:=by
 obtain⟨o,e,h,c⟩:=id hit;obtain⟨m,b,j,a⟩:=id g;unfold pyNext;refine abi (wpAny_attempt (acf (name:=Str.ofString "__next__") hit.typeIs acT (acp acT hit.typeIs F.entry_dict_keyiterator_next ?_ (F.args_dict_keyiterator_next_1 _))));refine abi (abq (abi (abi ?_)))
 first|refine abi (adg hit.typeIs (abq ?_))|refine abi (adK hit.typeIs (abq ?_))
 refine abi (wpAny_fieldsOf e c ?_);have own:Builtin.Dict_items.ownsTuple "dict_keyiterator"=false:=by decide
 simp only[own,aeq,aea];show wpAny _ _ (if (Value.ref d==Value.none)=true then _ else _) _ _ s;rw[abH (show ¬((Value.ref d==Value.none)=true) from ab7)];refine abi (abq (abi (adl b a ?_)));rw[abH (by simp)];refine abi (abq (abi (ad5 b a ?_)));rw[abH (by simp)];refine abq ?_;simp only[show ¬((i:Int)<0) from by omega,aea,ab2,l];refine abi ?_
 first|refine abi (adg hit.typeIs (abq ?_))|refine abi (adK hit.typeIs (abq ?_))
 refine abi (wpAny_isOneOf_keyiter hit.typeIs ?_);show wpAny _ _ (setField (.ref it) 1 (rawInt ((i:Int)+ 1)) >>=_) _ _ s;refine abi (adB e c (by simp) ?_)
 have f:(s.heap.update it (Obj.mapFields (·.setIfInBounds 1 (rawInt ((i:Int)+ 1))))).IsKeyIter it d (i+ 1) es.size ep:=
  ⟨_,acb _ e (ady (acW c _)),(Obj.cls_mapFields ..).trans h,by rw[acW c];simp[rawInt]⟩
 refine abi (acD ?_);refine abi (wpAny_isOneOf_keyiter (s:={ s with heap:=s.heap.update it (Obj.mapFields (·.setIfInBounds 1 (rawInt ((i:Int)+ 1)))) }) f.typeIs ?_);show wpAny _ _ (pure en.key) _ _ _;exact abq (abq ⟨_,rfl,abq (k _ f (acR ..))⟩)
theorem fin {it:Addr}{Q:Option Value->Shared->Prop}(l:A.handled=none)(hit:s.heap.IsKeyIter it d i es.size ep)(j:dI s.heap d es ep)(n:es[i]?=none)
 (k:∀h,Heap.ExtBut it s.heap h->Q none { s with heap:=h }):wpAny (model prog w) A (pyNext (.ref it)) Q E s:=by
 obtain⟨o,f,q,g⟩:=id hit;obtain⟨r,e,p,c⟩:=id j;unfold pyNext;refine abi (wpAny_attempt (acf (name:=Str.ofString "__next__") hit.typeIs acT (acp acT hit.typeIs F.entry_dict_keyiterator_next ?_ (F.args_dict_keyiterator_next_1 _))));refine abi (abq (abi (abi ?_)))
 first|refine abi (adg hit.typeIs (abq ?_))|refine abi (adK hit.typeIs (abq ?_))
 refine abi (wpAny_fieldsOf f g ?_);have own:Builtin.Dict_items.ownsTuple "dict_keyiterator"=false:=by decide
 simp only[own,aeq,aea];show wpAny _ _ (if (Value.ref d==Value.none)=true then _ else _) _ _ s;rw[abH (show ¬((Value.ref d==Value.none)=true) from ab7)];refine abi (abq (abi (adl e c ?_)));rw[abH (by simp)];refine abi (abq (abi (ad5 e c ?_)));rw[abH (by simp)];refine abq ?_;simp only[show ¬((i:Int)<0) from by omega,aea,ab2,n];refine abi ?_
 first|refine abi (adg hit.typeIs (abq ?_))|refine abi (adK hit.typeIs (abq ?_))
 show wpAny _ _ (setField (.ref it) 0 .none >>=_) _ _ s;refine abi (adB f g (by simp) ?_);show wpAny _ _ (newExc (.type "StopIteration") [] >>=_) _ _ _;refine abi ?_;simp only[newExc,newTuple];refine abi (ab4 ?_ (by size_fits));refine abi (m:=firstArgMember _ _) (wpAny_of_eq (a:=Value.none) (by first|rfl|(simp only[firstArgMember];rfl)) ?_);refine ab4 ?_ (by size_fits);simp only[raiseNew];refine abi (wpAny_handled ?_);rw[show A.in1.handled=none from l];refine abi (abq (wpAny_throw ?_));refine abi (wpAny_isInstance (T:="StopIteration") (b:=true) ⟨_,abF _ rfl,rfl⟩ isSubtype_stop ?_);exact abq (k _ (((acR ..).extBut.push _).push _))
theorem dI.at (x:dI h d es ep)(e:∀o,h.get? d=some o->g.get? d=some o):dI g d es ep:=let ⟨o,a,r⟩:=x;⟨o,e _ a,r⟩
theorem walks (p:A.handled=none)(I:Addr)(g:d≠I):Walks prog w A I [I,d] [I] es.size (λi v=>∃j,es[i]?=some j/\v=j.key) (λi h=>h.IsKeyIter I d i es.size ep/\dI h d es ep) where
 sub:=λb c=>by grind
 frame:=λ_ _ _ st m=>⟨st.1.at λo e=>m I (by simp) o e,dI.at st.2 λo e=>m d (by simp) o e⟩
 item:=λi s Q E l st a=>by
  refine item (en:=es[i]) st.1 st.2 (by simp[l]) λk n f=>?_
  exact a _ k s.toks ⟨_,by simp[l],rfl⟩ ⟨n,dI.at st.2 λo e=>f.extBut _ _ g e⟩ λb o c e=>f.extBut b o (λh=>c (by simp[h])) e
 done:=λs Q E st a=>fin p st.1 st.2 (by simp) λk f=>a k s.toks λb o c e=>f b o (λh=>c (by simp[h])) e
 self:=λ_ _ _ _ st a=>wpAny_pyIter_keyiter st.1 a
theorem hint {Q:Bool->Shared->Prop}(e:dI s.heap d es ep)(h:Q false s):wpAny (model prog w) A (Builtin.List.listLengthHint (.ref d)) Q E s:=by
 unfold Builtin.List.listLengthHint;refine abi (wpAny_specialOf (typ e) F.slot_dict_len.lookup ?_);generalize c:("dict.__len__":String)=f
 wp_delta
 rw[show splitId f=some ("dict","__len__") from by subst c;decide];subst c;refine abi (wpAny_isInstance (T:="dict") (b:=true) (typ e) (by rw[isSubtype_type];kernel_rfl) ?_);refine aer (λa=>absurd a (by decide)) (λ_=>?_);refine aer (λ_=>?_) (λa=>absurd (by decide) a);exact abi (adw (T:="dict") (typ e) (abq h))
theorem extend {R:Result->Shared->Prop}(O:A.handled=none)(U:(d==sysModules)=false)(n:dI s.heap d es ep)(hlen:es.size<=sizeLine)(S:Addr)(res:Value)(t:Nat)(L:s.heap.get? S=some { cls:=.type "list",data:=.seq #[] t })
 (Z:∀g1 Q c m,(∀b o,b≠S->s.heap.get? b=some o->g1.get? b=some o)->g1.get? S=some { cls:=.type "list",dict:=none,data:=.seq c m,slots:=#[] }->
  ItemsOf (λi v=>∃M,es[i]?=some M/\v=M.key) c es.size->R (.ok (.ret res)) { s with heap:=g1,toks:=Q }):
 wpAny (model prog w) A.in1 (Builtin.List.listExtendWith (.ref S) (.ref d) res)
  (λfin k=>match fin with|.done f=>R (.ok f) k|.again m=>m.quiet=true/\codeAny (model prog w) A m R k) (λe k=>R (.error e) k) s:=by
 have h:S≠d:=λe=>by
  obtain⟨o,J,hc,N⟩:=n
  grind
 have G:d<s.heap.objs.size:=by obtain⟨o,J,_⟩:=n;exact abE J
 have z:S≠s.heap.objs.size:=abV (abE L);have C:d≠s.heap.objs.size:=abV G;unfold Builtin.List.listExtendWith;refine abi (adw (T:="dict") (typ n) ?_);have Y:Builtin.List.listSameRef (.ref S) (.ref d)=false:=by simp[Builtin.List.listSameRef,h]
 have V:(Value.type "dict"==Value.type "list")=false:=by decide
 have X:(Value.type "dict"==Value.type "tuple")=false:=by decide
 simp only[Y,V,X,Bool.or_false,aeq,aea];refine abi (iter U n ?_);have l:dI (s.heap.push { cls:=.type "dict_keyiterator",data:=.fields #[.ref d,.int 0 0,.int es.size 0,.int ep 0] }) d es ep:=dI.at n λo e=>abl _ e
 refine abi (acD (hint (s:={ s with heap:=s.heap.push { cls:=.type "dict_keyiterator",data:=.fields #[.ref d,.int 0 0,.int es.size 0,.int ep 0] } }) l ?_));have g:=abl { cls:=.type "dict_keyiterator",data:=.fields #[.ref d,.int 0 0,.int es.size 0,.int ep 0] } L;have r:(s.heap.push { cls:=.type "dict_keyiterator",data:=.fields #[.ref d,.int 0 0,.int es.size 0,.int ep 0] }).IsKeyIter s.heap.objs.size d 0 es.size ep:=⟨_,abF _ rfl,rfl,rfl⟩;have kp:∀b o,s.heap.get? b=some o->(s.heap.push { cls:=.type "dict_keyiterator",data:=.fields #[.ref d,.int 0 0,.int es.size 0,.int ep 0] }).get? b=some o:=λb o e=>abl _ e
 generalize s.heap.push { cls:=.type "dict_keyiterator",data:=.fields #[.ref d,.int 0 0,.int es.size 0,.int ep 0] }=y at g r kp l ⊢;refine aer (λ_=>?_) (λH=>absurd (by decide) H);refine abi (wpAny_rule ?_);refine abi ?_;show wpAny _ _ (updateSeq S (·.push .none) >>=λ_=>updateSeq S (·.pop)) _ _ _;refine abi (wpAny_updateSeq g rfl ?_);have x:=acb (Obj.mapSeq (·.push Value.none)) g rfl;refine wpAny_updateSeq (hz:=by seq_fits) x rfl ?_;have B:=acb (Obj.mapSeq (·.pop)) x rfl;have j:∀b o,b≠S->y.get? b=some o->((y.update S (Obj.mapSeq (·.push Value.none))).update S (Obj.mapSeq (·.pop))).get? b=some o:=λb o u e=>(acn _ _ (acU u)).trans ((acn _ _ (acU u)).trans e)
 have W:=(walks (prog:=prog) (w:=w) (A:=A.in1) (d:=d) (es:=es) (ep:=ep) O s.heap.objs.size C).toS
 have D:S∉[s.heap.objs.size,d]:=λa=>by
  rcases abD.mp a with e|a
  ·exact z e
  ·exact h (abp.mp a)
 refine abq ⟨plainId_quiet F.plain_extend_loop _,?_⟩;refine codeAny_extend_loopS W hlen S D res es.size 0 _ #[] _ rfl (abS _) ⟨r.at λo e=>j _ o (acU z) e,dI.at l λo e=>j _ o (acU h) e⟩ B (ItemsOf.nil _) λk c m q I p=>?_
 rw[Moved.eq_with q];refine Z k.heap k.toks c m (λb o u e=>q.heap b o (λa=>?_) (j b o u (kp b o e))) I p;rcases abD.mp a with P|a
 ·exact u P
 ·exact absurd (abE e) (by rw[abp.mp a];exact acK _)
theorem init {R:Result->Shared->Prop}(x:A.handled=none)(y:(d==sysModules)=false)(r:dI s.heap d es ep)(hlen:es.size<=sizeLine)(S:Addr)(l:s.heap.get? S=some { cls:=.type "list",data:=.seq #[] })
 (z:∀g1 m a c,(∀b o,b≠S->s.heap.get? b=some o->g1.get? b=some o)->g1.get? S=some { cls:=.type "list",dict:=none,data:=.seq a c,slots:=#[] }->
  ItemsOf (λi v=>∃t,es[i]?=some t/\v=t.key) a es.size->R (.ok (.ret .none)) { s with heap:=g1,toks:=m }):
 wpAny (model prog w) A.in1 (Builtin.«list.__init__» ⟨[.ref S,.ref d],[]⟩)
  (λfin k=>match fin with|.done f=>R (.ok f) k|.again c=>c.quiet=true/\codeAny (model prog w) A c R k) (λe k=>R (.error e) k) s:=by
 have p:d≠S:=λe=>by
  obtain⟨o,C,D,u⟩:=r
  grind
 show wpAny _ _ (do let old <-Builtin.List.listItems (.ref S);Builtin.List.listUpdate (.ref S) (λ_=>#[]);letGo old.toList.reverse;Builtin.List.listExtendWith (.ref S) (.ref d) .none) _ _ s;refine abi ?_;unfold Builtin.List.listItems;refine abi (aeI l rfl (abq ?_));show wpAny _ _ (updateSeq S (λ_=>#[]) >>=λ_=>letGo (#[]:Array Value).toList.reverse >>=λ_=>Builtin.List.listExtendWith (.ref S) (.ref d) .none) _ _ s;refine abi (wpAny_updateSeq l rfl ?_);have n:=acb (Obj.mapSeq (λ_=>(#[]:Array Value))) l rfl;have h:∀b o,b≠S->s.heap.get? b=some o->(s.heap.update S (Obj.mapSeq (λ_=>(#[]:Array Value)))).get? b=some o:=λb o j e=>(acn _ _ (acU j)).trans e
 refine abi (wpAny_letGo ?_);refine extend (s:={ s with heap:=s.heap.update S (Obj.mapSeq (λ_=>(#[]:Array Value))) }) x y (dI.at r λo e=>h _ o p e) hlen S .none _ n λg1 m a c B q g=>?_
 exact z g1 m a c (λb o j e=>B b o j (h b o j e)) q g
theorem Dz (r:A.handled=none)(t:(d==sysModules)=false)(p:dI s.heap d es ep)(hlen:es.size<=sizeLine)
 (q:∀g1 j a h,(∀b o,s.heap.get? b=some o->g1.get? b=some o)->g1.get? s.heap.objs.size=some { cls:=.type "list",dict:=none,data:=.seq a h,slots:=#[] }->ItemsOf (λi v=>∃m,es[i]?=some m/\v=m.key) a es.size->Q (.ref s.heap.objs.size) { s with heap:=g1,toks:=j }):
 wpAny (model prog w) A (call (.type "list") [.ref d]) Q E s:=by
 refine callType_codes (Q₁:=λobj c=>obj=.ref s.heap.objs.size/\c={ s with heap:=s.heap.push { cls:=.type "list",data:=.seq #[] } }) F.called_list (F.typeCall_list_1 _) F.entry_list_init (code_list_new _ ⟨rfl,rfl⟩) λobj c g=>?_
 obtain⟨rfl,rfl⟩:=g;have l:(s.heap.push { cls:=.type "list",data:=.seq #[] }).get? s.heap.objs.size=some { cls:=.type "list",data:=.seq #[] }:=abF _ rfl;refine⟨⟨_,l,rfl⟩,F.args_list_init_2 _ _,init (A:=A.in1) (s:={ s with heap:=s.heap.push { cls:=.type "list",data:=.seq #[] } }) r t (dI.at p λo e=>abl _ e) hlen _ l λg1 j a h u k f=>?_⟩;exact⟨rfl,q g1 j a h (λb o e=>u b o (abV (abE e)) (abl _ e)) k f⟩
end
end Dk
structure MDef (K:Za1) (C:Addr) (x q:Str) (st:Stmt) (ps:List Str) (f:Addr) (fd:FuncData):Prop where
 F:yj K x q st f fd
 m:Meth K C x f
 b:Binds K fd ps []
open PySem.W (KasT kas_rev kas_asc kas_desc kas_tail3 kas_descPart kas_count kas_place kas_bin kas_sort kas_ask kas_ask_eq kas_runs kas_st kas_range kas_item kas_item_eq)
namespace Srt
def Gd {b:Type}(P:Nat->Nat->Prop)(f:Nat->Nat->Bool):KasT b->(b->Prop)->Prop
 |.ret a,Q=>Q a
 |.ask i j k,Q=>P i j/\Gd P f (k (f i j)) Q
section
variable {n:Nat}{key:Nat->Int}
structure Pr (n:Nat) (p:Array Nat):Prop where
 sz:p.size=n
 lt:∀i,i<n->p.getD i 0<n
 inj:∀i j,i<n->j<n->p.getD i 0=p.getD j 0->i=j
def Up (key:Nat->Int)(p:Array Nat)(m:Nat):Prop:=∀i j,i<j->j<m->key (p.getD i 0)<key (p.getD j 0)
def Dn (key:Nat->Int)(p:Array Nat)(m:Nat):Prop:=∀i j,i<j->j<m->key (p.getD j 0)<key (p.getD i 0)
def Ok (n:Nat)(key:Nat->Int)(i j:Nat):Prop:=i<n/\j<n/\key i≠key j
def Inj (n:Nat)(key:Nat->Int):Prop:=∀i j,i<n->j<n->key i=key j->i=j
abbrev ask (key:Nat->Int) (i j:Nat):Bool:=decide (key i<key j)
end
end Srt
end L2
namespace L2
open PySem PySem.Spec PyProof.Rows
theorem DB:typeLookup (.type "list") "keys"=pure none:=by rw[typeLookup_type,builtinLookup_eq_fast];kernel_rfl
theorem F5 {j:Array Value}{k:Nat}{Q:Option Value->Shared->Prop}
 (m:s.heap.get? a=some { cls:=.type "list",data:=.seq j k }) (q:A.handled=none)
 (h:∀i l,(∀b o,s.heap.get? b=some o->i.get? b=some o)->Q none { s with heap:=i,toks:=l }):
 wpAny (model P w) A (getAttr? (.ref a) "keys") Q E s:=by
 obtain⟨p,g,d,l,os⟩:=s;have n:∀f,(⟨p,g,d,f,os⟩:Shared).TypeIs (.ref a) "list":=λ_=>⟨_,m,rfl⟩
 have x:=sub_AttributeError;have r:=F.slot_list_getattribute.lookup;have z:=F.slot_list_getattribute.bind (.ref a);have v:=am_list_getattr_none;unfold getAttr? getAttrBy? getAttrBy
 repeat (any_goals (first|assumption|exact n _|((with_reducible show wpAny _ _ (call (Value.builtin "list.__getattribute__") _ _) _ _ _);refine call_meets F.slot_list_getattribute (n _) am_entry_list_getattribute (F.args_list_getattribute_2 _ _) (meets_getattribute_miss_list a j k #[] "keys" _ DB (by decide) (by decide)) ⟨m,q,λi f e c=>?_⟩)|wp_step))
 obtain⟨t,u,y⟩:=c.there;show wpAny _ _ (getattributeRaised _ _ _ _ _ _ _) _ _ _;unfold getattributeRaised
 repeat (any_goals (first|assumption|wp_step))
 exact h _ _ c.keeps
theorem nf:entryFor table "dict.update.loop"=some Builtin.«dict.update.loop»:=entryFor_of_fast (by kernel_rfl)
theorem gB:plainId "dict.update.loop"=true:=by decide
section
variable {prog:Program} {w:World} {K:Type} [DecidableEq K] {knd:KeyKind prog w K} {A:Around} {E:Value->Shared->Prop}
theorem BL {R:Result->Shared->Prop}{it l:Addr}{its:List Value}{rs:List (K×Value)}(hh:A.in1.handled=none)(sG:l≠it)(q:d≠it)(Rw:d≠l)(hlen:its.length=rs.length)(hsz:rs.length<=sizeLine):
 ∀(k i:Nat) (s:Shared),its.length - i=k->i<=its.length->s.heap.IsListIter it l i->s.heap.IsList l its.toArray->s.heap.DictOf knd d (merged [] (rs.take i))->
 (∀(j:Nat) (u:Value) (f:K×Value),its[j]?=some u->rs[j]?=some f->∃p a,u=.ref p/\p≠d/\p≠it/\knd.is f.1 a=true/\IsTup s.heap p #[a,f.2])->
 (∀h J,h.DictOf knd d (merged [] rs)->(∀b o,b≠d->b≠it->s.heap.get? b=some o->h.get? b=some o)->R (.ok (.ret .none)) { s with heap:=h,toks:=J })->
 codeAny (model prog w) A (.builtin "dict.update.loop" ⟨[.ref d,.ref it,rawInt (i:Int),.none],[]⟩) R s:=by
 have W:=Walks.list (prog:=prog) (w:=w) (A:=A.in1) hh it l sG its.toArray;have c:∀b:Addr,b≠it->b∉[it]:=λb m z=>m (abp.mp z)
 intro k
 induction k with
 |zero=>
  intro i s hk I hit U L M hR;have ei:i=its.length:=by omega
  refine codeAny_builtin nf ?_;rw[Around.under_plainId gB _];show wpAny _ A.in1 (pyNext (.ref it) >>=_) _ _ s;refine abi (W.done s _ _ ⟨by grind,U⟩ λh J kp=>?_);show wpAny _ A.in1 (Builtin.Dict.addKeywords d [] >>=_) _ _ _;refine abi (abq (abq ?_));rw[adS (by omega)]at L;obtain⟨od,O,x2,G,t⟩:=id L;refine hR h J ⟨od,O,x2,kp _ _ (c _ q) G,t⟩ λb o _ m e=>kp b o (c _ m) e
 |succ k ih=>
  intro i s hk I hit U L M hR;have qc:i<its.length:=by omega
  refine codeAny_builtin nf ?_;rw[Around.under_plainId gB _];show wpAny _ A.in1 (pyNext (.ref it) >>=_) _ _ s;refine abi (W.item i s _ _ (by omega) ⟨hit,U⟩ λv h J hP S kp=>?_);obtain⟨D,N⟩:=S;have DC:its[i]?=some v:=by simpa using hP
  have x:rs[i]?=some (rs[i]'(by omega)):=abm (by omega)
  generalize rs[i]'(by omega)=f at x;obtain⟨p,a,rfl,pd,pi,y,o,ho,hc,n,F⟩:=M i v f DC x;have B:=kp _ _ (c _ pi) ho;have V:rs.take (i+ 1)=rs.take i++[f]:=by rw[adj,x];rfl
  have Q:h.DictOf knd d (merged [] (rs.take i)):=by
   obtain⟨od,O,x2,G,t⟩:=id L;exact⟨od,O,x2,kp _ _ (c _ q) G,t⟩
  have Y:=merged_length_le ([]:List (K×Value)) (rs.take i)
  have C:(merged [] (rs.take i)).length<=sizeLine:=by
   rw[abZ,ack]at Y;omega
  show wpAny _ A.in1 (holding [Value.ref p] _ >>=_) _ _ _;refine abi (acD ?_);refine abi (wpAny_tryCatch ?_);show wpAny _ A.in1 (typeOf (Value.ref p) >>=_) _ _ _;refine abi (adw (T:="tuple") ⟨o,B,hc⟩ ?_);rw[abN (by decide)];refine abi (aeI B F ?_);refine abq ?_;show wpAny _ A.in1 (holding [a,f.2] (dictSet d a f.2)) _ _ _;refine acD (wpAny_dictSet_pairs y Q (λg Z sb=>?_) C);have H:∀b o,b≠d->h.get? b=some o->g.get? b=some o:=λb o m e=>(sb.2 b m).trans e
  refine abq ⟨plainId_quiet gB _,?_⟩;have r:rawInt ((i:Int)+ 1)=rawInt (((i+ 1:Nat)):Int):=rfl;rw[r];refine ih (i+ 1) _ (by omega) (by omega) (D.at λo e=>H _ _ (acU q) e) (N.at λo e=>H _ _ (acU Rw) e) ?_ ?_ ?_
  ·rw[V,merged,aeE];exact Z
  ·intro j u V2 G t;obtain⟨p,a,rfl,a1,a2,a3,o,b1,b2⟩:=M j u V2 G t;exact⟨p,a,rfl,a1,a2,a3,o,H _ _ a1 (kp _ _ (c _ a2) b1),b2⟩
  ·intro t X V3 P;exact hR t X V3 λb o m I e=>P b o m I (H _ _ m (kp _ _ (c _ I) e))
theorem vR {rs:List (K×Value)}(D:A.handled=none)(hlen:N.length=rs.length)(y:rs.length<=sizeLine)
 (H:s.heap.get? a=some { cls:=.type "list",data:=.seq N.toArray n })
 (P:∀(j:Nat) (u:Value) (l:K×Value),N[j]?=some u->rs[j]?=some l->∃p d,u=.ref p/\knd.is l.1 d=true/\IsTup s.heap p #[d,l.2])
 (U:∀m I,m.DictOf knd s.heap.objs.size (merged [] rs)->(∀b o,s.heap.get? b=some o->m.get? b=some o)->Q (.ref s.heap.objs.size) { s with heap:=m,toks:=I }):
 wpAny (model prog w) A (call (.type "dict") [.ref a]) Q E s:=by
 refine callType_codes (Q₁:=λobj f=>obj=.ref s.heap.objs.size/\f={ s with heap:=s.heap.push { cls:=.type "dict",data:=.dict #[] } }) F.kt_called_dict (F.kt_typeCall_dict_1 _) F.entry_dict_init (kt_code_dict_new _ ⟨rfl,rfl⟩) ?_;rintro obj f ⟨rfl,rfl⟩;have c:(s.heap.push { cls:=.type "dict",data:=.dict #[] }).DictOf knd s.heap.objs.size []:=Heap.DictOf.new s.heap;have i:(s.heap.push { cls:=.type "dict",data:=.dict #[] }).get? a=some { cls:=.type "list",data:=.seq N.toArray n }:=abl _ H;have x:=abE H;refine⟨c.typeIs,F.args_dict_init_2 _ _,?_⟩;unfold Builtin.«dict.__init__»;refine abi ?_;unfold Builtin.Dict.selfAndRest;refine abi (ad4 c.typeIs ?_);show wpAny _ _ (pure (s.heap.objs.size,[Value.ref a])) _ _ _;refine abq ?_;show wpAny _ _ (Builtin.Dict.updateFrom "dict.__init__" s.heap.objs.size (.ref a) [] .none) _ _ _;unfold Builtin.Dict.updateFrom;refine abi (adw (T:="list") ⟨_,i,rfl⟩ ?_);rw[abN (by decide)];refine abi (F5 i D λg I kp=>?_);rw[abN (by decide)];refine abi (wpAny_rule ?_);have k:=kp _ _ i;refine abi (ad9 (items:=N.toArray) ⟨_,k,rfl,n,rfl⟩ ?_)
 have h:s.heap.objs.size<g.objs.size:=by
  obtain⟨M,_,_,r,_⟩:=id c;exact abE (kp _ _ r)
 have v:=abE k;have G:∀b o,s.heap.get? b=some o->(g.push { cls:=.type "list_iterator",data:=.fields #[.ref a,.int 0 0] }).get? b=some o:=λb o e=>abl _ (kp _ _ (abl _ e))
 refine abq ⟨plainId_quiet gB _,BL (knd:=knd) (A:=A.in1) (rs:=rs) (its:=N) (l:=a) (it:=g.objs.size) D (abV v) (abV h) (acH x) hlen y N.length 0 _ rfl (abS _) ?_ ⟨_,abl _ k,rfl,n,rfl⟩ ?_ ?_ ?_⟩
 ·exact⟨_,abF _ rfl,rfl,rfl⟩
 ·obtain⟨M,S,W,r,B⟩:=id c;exact⟨M,S,W,abl _ (kp _ _ r),B⟩
 ·intro j u l r B;obtain⟨p,d,rfl,R,o,L,V⟩:=P j u l r B;have q:=abE L;exact⟨p,d,rfl,abV q,abV (aem q h),R,o,G _ _ L,V⟩
 ·intro m z C t;refine⟨rfl,U m z C λb o e=>?_⟩;have J:=abE e;exact t b o (abV J) (abV (aem J h)) (G _ _ e)
end
section
variable {X:Cx}
inductive DE (xs:List V) (H:Hp) (Q:VK):Prop
 |mk (l:Addr) (ps:List Addr) (kvs:List (Key×V)):xs=[.ref l]->H l=some (.lst (ps.map V.ref))->ps.length=kvs.length->(∀(i:Nat) (p:Addr) (kv:Key×V),ps[i]?=some p->kvs[i]?=some kv->H p=some (.tup [kV kv.1,kv.2]))->(∀d,H d=none->Q (.ref d) (upd H d (.dK (gX [] kvs))))->DE xs H Q
theorem F6 (ok:dg P w H h):∀(d:List Addr) (a:List (Key×V)),d.length=a.length->(∀(i:Nat) (p:Addr) (b:Key×V),d[i]?=some p->a[i]?=some b->H p=some (.tup [kV b.1,b.2]))->
 ∃l:List (Key×Value),KV a l/\∀(j:Nat) (p:Addr) (b:Key×Value),d[j]?=some p->l[j]?=some b->∃f,(bR P w).is b.1 f=true/\IsTup h p #[f,b.2]:=by
 intro d
 induction d with
 |nil=>exact λa g _=>by cases a with|nil=>exact⟨[],.nil,λj p b c=>by simp at c⟩|cons=>cases g
 |cons p d s=>
  intro a g n
  cases a with
  |nil=>cases g
  |cons b a=>
   obtain⟨l,r,y⟩:=s a (by simpa using g) λi q b c k=>n (i+ 1) q b (by simpa using c) (by simpa using k)
   obtain⟨-,z,o,t⟩:=ok p _ (n 0 p b rfl rfl);obtain⟨u,v,rfl,x,m⟩:=vals2 o;refine⟨(b.1,v)::l,.cons ⟨rfl,m⟩ r,λj q e c k=>?_⟩
   cases j with
   |zero=>
    obtain rfl:p=q:=by simpa using c
    obtain rfl:(b.1,v)=e:=by simpa using k
    exact⟨u,i9 x,t⟩
   |succ j=>exact y j q e (by simpa using c) (by simpa using k)
theorem uy (B:X.calm=true):fX X (.type "dict") DE:=by
 intro k s R H N O Q I r h;obtain⟨l,m,a,rfl,z,hlen,o,q⟩:=h;obtain⟨u,rfl,C⟩:=vals1 r;cases C;obtain⟨L,M,c,t,J⟩:=I.aO l _ z;obtain rfl:=Dr t;obtain⟨rs,i,G⟩:=F6 I.aO m a hlen o;have E:a.length=rs.length:=i.length;rw[abo]at L;refine vR (knd:=bR X.prog X.w) (rs:=rs) (I.ok.hd B) (by grind) (by omega) J (λj u w b D=>?_) λg A v kp=>?_
 ·rw[aby]at b
  cases e:m[j]? with
  |none=>rw[e]at b;cases b
  |some p=>
   rw[e]at b;obtain⟨f,F,y⟩:=G j p w e D;exact⟨p,f,(Za0 b).symm,F,y⟩
 ·have n:KV (gX [] a) (merged [] rs):=KV.merge i .nil;have d:=j5 a [];rw[ack]at d;exact⟨.ref s.heap.objs.size,_,I.laid (t':=A) kp (abr _) (qb (by omega) (abG.mpr (acU (abV I.big))) n v),rfl,q _ (I.aO.fresh (abr _))⟩
end
section
variable {X:Cx}{pins:List (Addr×Obj)}{σ:St}{H:Hp}{s:Shared}{d:Addr}{u:HO}{o:Obj}
theorem Inv.freeze (I:Inv X pins σ H s)(e:H d=some u)(mu:sx (some u))(g:s.heap.get? d=some o):Inv X pins σ (upd H d (.cQ o u)) s:=by
 have a:sx (H d):=by rw[e];exact mu
 have b:∀c y,H c=some (.own y)->c≠d:=λc y r z=>by subst z;rw[r]at a;exact a
 have hY:∀c f,H c=some (.tup f)->c≠d:=λc f r z=>by subst z;rw[r]at a;exact a
 have new:bU X.prog X.w (upd H d (.cQ o u)) s.heap d u:=(I.aO d u e).fV (λc v _ r=>r) (λc r=>by rw[ak (b _ _ r)];exact r) λc f r=>by rw[ak (hY _ _ r)];exact r
 exact jt (t':=s.toks) I a (Heap.SameBut.refl _ _) ⟨o,g⟩ ⟨g,new⟩
theorem Inv.BM (I:Inv X pins σ H s)(e:H d=some (.cQ o u))(mu:sx (some u))(w:∀o u,X.tj d≠some (.cQ o u)):Inv X pins σ (upd H d u) s:=by
 have j:∀b,H b=none->b≠d:=λb n z=>by grind
 have h:∀c y,H c=some (.own y)->c≠d:=λc y r z=>by grind
 have hY:∀c g,H c=some (.tup g)->c≠d:=λc g r z=>by grind
 refine⟨I.ok,I.os,I.bare,⟨I.base.keep,I.base.slot,λb i q n t=>?_,I.base.there,λb g q=>?_,λb i v q=>?_,λb A q=>?_⟩,I.loc,I.cell,?_,λx c q=>?_,λp l=>?_,λb v q=>?_,I.len⟩
 ·have f:=I.base.free b i q n t;rw[ak (j b f)];exact f
 ·have f:=I.base.jo b g q;rw[ak (hY _ _ f)];exact f
 ·have f:=I.base.ia b i v q;rw[ak (λz=>w i v (by rw[<-z];exact q))];exact f
 ·obtain⟨m,f⟩:=I.base.j4 b A q;refine⟨m,?_⟩;rw[ak (λz=>by grind)];exact f
 ·rw[ak (j _ I.free)];exact I.free
 ·have f:=I.fW x c q;rw[ak (j _ f)];exact f
 ·obtain⟨a,b,c⟩:=I.pin p l;refine⟨a,?_,c⟩;rw[ak (j _ b)];exact b
 ·have st:∀b v,bU X.prog X.w H s.heap b v->bU X.prog X.w (upd H d u) s.heap b v:=λb v q=>q.fV (λc v _ r=>r) (λc r=>by rw[ak (h _ _ r)];exact r) λc g r=>by rw[ak (hY _ _ r)];exact r
  by_cases k:b=d
  ·subst k;rw[ai]at q;obtain rfl:=Za0 q;exact st _ _ (I.aO _ _ e).2
  ·rw[ak k]at q;exact st _ _ (I.aO b v q)
theorem Inv.F7 (I:Inv X pins σ H s)(e:H d=some u)(mu:sx (some u)):∀o u,X.tj d≠some (.cQ o u):=λo v q=>by
 rw[I.base.ia d o v q]at e;cases e;exact mu
def QH (t:TS):TS:=λD σ H=>∃(d:Addr) (u:HO),H d=some u/\sx (some u)/\
 t { nx:=λ a b=>∃o,b d=some (.cQ o u)/\D.nx a (upd b d u),rt:=λv b=>∃o,b d=some (.cQ o u)/\D.rt v (upd b d u),
     bk:=λ a b=>∃o,b d=some (.cQ o u)/\D.bk a (upd b d u),ct:=λ a b=>∃o,b d=some (.cQ o u)/\D.ct a (upd b d u) } σ H
theorem AB {st:Stmt}{t:TS}(h:PS X st t):PS X st (QH t):=by
 intro pins s σ H D I q;obtain⟨d,u,e,mu,q⟩:=q;have i:=I.F7 e mu;refine a8 (h pins s σ H _ I q) λf l p=>?_
 cases f with
 |next=>obtain⟨a,j,c,o,g,b⟩:=p;exact⟨a,_,c.BM g mu i,b⟩
 |brk=>obtain⟨a,j,c,o,g,b⟩:=p;exact⟨a,_,c.BM g mu i,b⟩
 |cont=>obtain⟨a,j,c,o,g,b⟩:=p;exact⟨a,_,c.BM g mu i,b⟩
 |ret v=>obtain⟨k,a,j,c,r,o,g,b⟩:=p;exact⟨k,a,_,c.BM g mu i,r,b⟩
end
def yD (d:Addr)(o:Obj)(a:List (Key×V)):It:=
 ⟨λi H=>i<a.length/\H d=some (.cQ o (.dK a)),λi H x c=>c=H/\∃b,a[i]?=some b/\x=kV b.1,λi H=>a.length<=i/\H d=some (.cQ o (.dK a))⟩
theorem Kd {k:Key}(h:(bR P w).is k v=true):RelV (kV k) v:=by
 cases k with
 |inl i=>
  have a:Value.isInt i v=true:=h
  cases v with
  |int j t=>simp[Value.isInt]at a;subst a;exact⟨_,rfl⟩
  |_=>simp[Value.isInt]at a
 |inr x=>
  have a:Value.isStrOf x v=true:=h
  cases v with
  |str j t=>simp[Value.isStrOf]at a;subst a;exact⟨_,rfl⟩
  |_=>simp[Value.isStrOf]at a
inductive Dt where
 |i (n:Int)|s (l:List Nat)|n|b (k:Bool)|t (xs:List Dt)|l (xs:List Dt)
inductive bS (H:Hp):Nat->V->Dt->Prop where
 |i {k:Nat} {n:Int}:bS H k (.int n) (.i n)
 |s {k:Nat} {l:List Nat}:bS H k (.str (tx l)) (.s l)
 |n {k:Nat}:bS H k .non .n
 |b {k:Nat} {c:Bool}:bS H k (.bl c) (.b c)
 |t {k:Nat} {a:Addr} {vs:List V} {ds:List Dt}:H a=some (.tup vs)->vs.length=ds.length->(∀(j:Nat) (v:V) (d:Dt),vs[j]?=some v->ds[j]?=some d->bS H k v d)->bS H (k+ 1) (.ref a) (.t ds)
 |l {k:Nat} {a:Addr} {vs:List V} {ds:List Dt}:H a=some (.lst vs)->vs.length=ds.length->(∀(j:Nat) (v:V) (d:Dt),vs[j]?=some v->ds[j]?=some d->bS H k v d)->bS H (k+ 1) (.ref a) (.l ds)
theorem bS.keep (j:∀a e,H a=some (.tup e)->I a=some (.tup e))(g:∀a e,H a=some (.lst e)->I a=some (.lst e)){k:Nat}{v:V}{d:Dt}(h:bS H k v d):bS I k v d:=by
 induction h with
 |i=>exact .i
 |s=>exact .s
 |n=>exact .n
 |b=>exact .b
 |t a b c f=>exact .t (j _ _ a) b f
 |l a b c f=>exact .l (g _ _ a) b f
theorem bS.same (s:aq H I){k:Nat}{v:V}{d:Dt}(h:bS H k v d):bS I k v d:=h.keep (λ_ _ e=>s _ _ e) (λ_ _ e=>s _ _ e)
theorem bS.up {k:Nat}{d:Dt}(h:bS H k q d):bS H (k+ 1) q d:=by
 induction h with
 |i=>exact .i
 |s=>exact .s
 |n=>exact .n
 |b=>exact .b
 |t a b c e=>exact .t a b e
 |l a b c e=>exact .l a b e
theorem bS.le {k:Nat}{d:Dt}(h:bS H k q d)(a:k<=m):bS H m q d:=by
 obtain⟨j,rfl⟩:=Nat.exists_eq_add_of_le a;clear a
 induction j with
 |zero=>exact h
 |succ j b=>exact b.up
inductive QI (x:V) (y:V) (H:Hp) (Q:VK):Prop
 |mk (d:Dt) (a b:Addr):x=.ref a->y=.ref b->bS H 8 x d->bS H 8 y d->Q (.bl true) H->QI x y H Q
inductive QJ (x:V) (y:V) (H:Hp) (Q:VK):Prop
 |mk (d:Dt) (a b:Addr):x=.ref a->y=.ref b->bS H 8 x d->bS H 8 y d->Q (.bl false) H->QJ x y H Q
def nI (l:List Nat):List Int:=l.map λn:Nat=>(n:Int)
theorem b8 (l:List Nat):(nI l).length=l.length:=abo ..
theorem ja (h:B[i]?=some n):(nI B)[i]?=some (n:Int):=by unfold nI;rw[aby,h];rfl
theorem gY (a b:List Nat):nI (a++b)=nI a++nI b:=abU ..
theorem ML (l:List Nat)(i n:Nat):(nI l).set i (n:Int)=nI (l.set i n):=by unfold nI;rw[List.map_set]
structure RS where
 L:Nat
 made:Nat
 rows:List Dt
 ways:List (List (Int×Nat))
 gaps:Za3
 aU:List Nat
 called:List (List Nat)
 aY:List Nat
def wK (l:List (Int×Nat)):List (Key×V):=l.map λp=>(Sum.inl p.1,V.int p.2)
def gK (l:List Int):List (Key×V):=l.map λs=>(Sum.inl s,V.bl true)
def eA (l:List (Int×Nat))(s:Int):Option Nat:=(l.find? λp=>decide (p.1=s)).map (·.2)
def gT (l:List (Int×Nat))(s:Int)(r:Nat):List (Int×Nat):=if (l.any λp=>decide (p.1=s))=true then l.map λp=>if p.1=s then (p.1,r) else p else l++[(s,r)]
theorem yE (l:List (Int×Nat)):(wK l).length=l.length:=abo ..
theorem MN (l:List Int):(gK l).length=l.length:=abo ..
theorem MP (a b:Int):decide ((Sum.inl a:Key)=Sum.inl b)=decide (a=b):=by
 grind
theorem jO (s:Int):∀l:List (Int×Nat),bp (wK l) (Sum.inl s)=(eA l s).map λr:Nat=>V.int (r:Int)
 |[]=>rfl
 |p::l=>by
  have b:=jO s l;by_cases h:p.1=s
  ·have e:bp (wK (p::l)) (Sum.inl s)=some (V.int p.2):=cy (p:=(Sum.inl p.1,V.int p.2)) (by rw[h]);have a:eA (p::l) s=some p.2:=by unfold eA;rw[aex (by grind)];rfl
   rw[e,a];rfl
  ·have e:bp (wK (p::l)) (Sum.inl s)=bp (wK l) (Sum.inl s):=cu (p:=(Sum.inl p.1,V.int p.2)) (λz=>h (Sum.inl.inj z));have a:eA (p::l) s=eA l s:=by unfold eA;rw[adT (by simpa using h)]
   rw[e,a,b]
theorem yF (l:List (Int×Nat))(s:Int)(r:Nat):putK (wK l) (Sum.inl s) (.int r)=wK (gT l s r):=by
 unfold putK gT
 have b:((wK l).any λa=>decide (a.1=Sum.inl s))=l.any λp=>decide (p.1=s):=by
  unfold wK;rw[List.any_map]
  congr 1
  funext p
  exact MP _ _
 rw[b];split
 ·unfold wK;rw[ab1,ab1];refine acx λp _=>?_
  grind
 ·unfold wK;rw[abU];rfl
theorem F8 (l:List (Int×Nat))(s t:Int)(r:Nat):eA (gT l s r) t=if t=s then some r else eA l t:=by
 have c:=jO t (gT l s r);rw[<-yF,kO,jO]at c
 have inj:∀a b:Option Nat,(a.map λr:Nat=>V.int (r:Int))=(b.map λr:Nat=>V.int (r:Int))->a=b:=λa b h=>by
  cases a <;> cases b <;> simp at h ⊢
  omega
 apply inj;rw[<-c];by_cases e:t=s
 ·rw[abN e,abN (by rw[e])];rfl
 ·rw[abH e,abH (λz=>e (Sum.inl.inj z))]
theorem F9 (l:List (Int×Nat))(s:Int)(r:Nat):(gT l s r).length<=l.length+ 1:=by
 unfold gT;split
 ·rw[abo];omega
 ·rw[abj];exact abr _
theorem Ke (l:List Int)(s:Int):eh (gK l) (Sum.inl s)=gK (l.filter λx=>decide (x≠s)):=by
 unfold eh gK;rw[List.filter_map]
 congr 1
 refine aeF λx _=>?_
 grind
theorem DF (s:Int):∀l:List Int,bp (gK l) (Sum.inl s)=if s∈l then some (V.bl true) else none
 |[]=>rfl
 |x::l=>by
  by_cases h:x=s
  ·rw[abN (by grind)];exact cy (p:=(Sum.inl x,V.bl true)) (by rw[h])
  ·have e:bp (gK (x::l)) (Sum.inl s)=bp (gK l) (Sum.inl s):=cu (p:=(Sum.inl x,V.bl true)) (λz=>h (Sum.inl.inj z));rw[e,DF s l]
   grind
theorem wM:∀(more acc:List (Key×V)),((acc++more).map (·.1)).Nodup->gX acc more=acc++more
 |[],acc,_=>(abO _).symm
 |p::more,acc,h=>by
  have b:bp acc p.1=none:=by
   unfold bp;rw[List.find?_eq_none.mpr ?_];rfl;intro q a;rw[acs];intro e;rw[abU,ab5]at h;exact h.2.2 q.1 (adp a) p.1 (adp abA) e
  show gX (putK acc p.1 p.2) more=_;rw[tJ _ b,wM more (acc++[(p.1,p.2)]) (by rw[aci];exact h),aci];rfl
structure RA where
 dx:Addr
 aR:Addr
 aW:Addr
 aG:Addr
 aE:Addr
 aC:Addr
 aN:Addr
 rs:List Addr
 ws:List Addr
 gs:List Addr
 cs:List Addr
def eB (L made:Int)(a:RA):List (Str×V):=[("letters",.int L),("made",.int made),("rows",.ref a.aR),("ways",.ref a.aW),("gaps",.ref a.aG),("elders",.ref a.aE),("called",.ref a.aC),("went",.ref a.aN)]
theorem DG (L m n:Int)(a:RA):bJ "made" (.int n) (eB L m a)=eB L n a:=by
 have h:¬(("letters":Str)="made"):=by decide
 unfold eB;simp only[bJ,abH h,aeP]
theorem uz (L m:Int)(a:RA):(eB L m a).lookup ("letters":Str)=some (.int L):=by kernel_rfl
theorem rP (L m:Int)(a:RA):(eB L m a).lookup ("made":Str)=some (.int m):=by kernel_rfl
theorem rQ (L m:Int)(a:RA):(eB L m a).lookup ("rows":Str)=some (.ref a.aR):=by kernel_rfl
theorem gC (L m:Int)(a:RA):(eB L m a).lookup ("ways":Str)=some (.ref a.aW):=by kernel_rfl
theorem rS (L m:Int)(a:RA):(eB L m a).lookup ("gaps":Str)=some (.ref a.aG):=by kernel_rfl
theorem iK (L m:Int)(a:RA):(eB L m a).lookup ("elders":Str)=some (.ref a.aE):=by kernel_rfl
theorem lX (L m:Int)(a:RA):(eB L m a).lookup ("called":Str)=some (.ref a.aC):=by kernel_rfl
theorem rT (L m:Int)(a:RA):(eB L m a).lookup ("went":Str)=some (.ref a.aN):=by kernel_rfl
theorem cw (L m:Int)(a:RA){x:Str}(h:x∉(["letters","made","rows","ways","gaps","elders","called","went"]:List Str)):(eB L m a).lookup x=none:=by
 simp only[abD,acd,adO,not_or]at h;obtain⟨e,f,c,i,g,j,b,d⟩:=h;unfold eB;simp only[List.lookup,abG.mpr e,abG.mpr f,abG.mpr c,abG.mpr i,abG.mpr g,abG.mpr j,abG.mpr b,abG.mpr d]
theorem dm:∀{fs:List (Str×V)},fs.lookup f=none->bJ f q fs=fs++[(f,q)]
 |[],_=>rfl
 |(g,x)::r,h=>by
  by_cases e:g=f
  ·grind
  ·have a:(f==g)=false:=abG.mpr (acU e);simp only[List.lookup,a]at h;show (if g=f then _ else _)=_;rw[abH e,dm h];rfl
inductive kU:Dt->Prop where
 |i {n:Int}:kU (.i n)
 |s {l:List Nat}:kU (.s l)
 |t {ds:List Dt}:ds.length<=100000->(∀d∈ds,kU d)->kU (.t ds)
theorem bS.gE (o:∀a e,H a=some (.tup e)->I a=some (.tup e)){k:Nat}{v:V}{d:Dt}(h:bS H k v d)(f:kU d):bS I k v d:=by
 induction h with
 |i=>exact .i
 |s=>exact .s
 |n=>exact .n
 |b=>exact .b
 |t a b c g=>
  cases f with
  |t _ q=>exact .t (o _ _ a) b λj v d p m=>g j v d p m (q d (abn m))
 |l a b c g=>cases f
def Each {a:Type}(R:Addr->a->Prop)(b:List Addr)(xs:List a):Prop:=b.length=xs.length/\∀(i:Nat) (p:Addr) (x:a),b[i]?=some p->xs[i]?=some x->R p x
theorem Each.imp {b:Type}{R c:Addr->b->Prop}{a:List b}(h:Each R F a)(f:∀p x,p∈F->x∈a->R p x->c p x):Each c F a:=
 ⟨h.1,λi p x d e=>f p x (abn d) (abn e) (h.2 i p x d e)⟩
theorem Each.snoc {d:Type}{R:Addr->d->Prop}{ps:List Addr}{xs:List d}{x:d}(h:Each R ps xs)(f:R a x):Each R (ps++[a]) (xs++[x]):=by
 refine⟨by rw[abj,abj,h.1];rfl,λi q y b c=>?_⟩;by_cases e:i<ps.length
 ·rw[abu e]at b;rw[abu (by rw[<-h.1];exact e)]at c;exact h.2 i q y b c
 ·rw[abw (by omega)]at b;rw[abw (by rw[<-h.1];omega)]at c;rw[abp.mp (abn b),abp.mp (abn c)];exact f
theorem Each.at {a:Type}{R:Addr->a->Prop}{d:List a}(h:Each R F d){i:Nat}{x:a}(b:d[i]?=some x):∃p,F[i]?=some p/\R p x:=by
 have c:i<F.length:=by rw[h.1];exact(abk.mp b).1
 exact⟨_,abm c,h.2 i _ x (abm c) b⟩
theorem Each.mem {a:Type}{R:Addr->a->Prop}{xs:List a}(h:Each R F xs){p:Addr}(d:p∈F):∃x,x∈xs/\R p x:=by
 obtain⟨i,c⟩:=aco d;have b:i<xs.length:=by rw[<-h.1];exact(abk.mp c).1
 exact⟨_,abn (abm b),h.2 i p _ c (abm b)⟩
theorem Each.set {b:Type}{R c:Addr->b->Prop}{xs:List b}{x:b}(h:Each R F xs)(g:F[i]?=some a)(m:c a x)(l:F.Nodup)(f:∀q y,q∈F->q≠a->R q y->c q y):Each c F (xs.set i x):=by
 refine⟨by rw[abP];exact h.1,λj q y d k=>?_⟩;by_cases e:i=j
 ·grind
 ·rw[acZ e]at k;refine f q y (abn d) (λz=>?_) (h.2 j q y d k);subst z;exact e ((aeG (abk.mp g).1 l).mp (g.trans d.symm))
def RA.lists (a:RA):List Addr:=a.aR::a.aW::a.aG::a.aE::a.aC::a.aN::a.cs
def RA.dQ (a:RA):List Addr:=a.ws++a.gs
def RA.own (a:RA)(r b:Addr):Prop:=b=r\/b∈a.lists\/b∈a.dQ
structure ax (C:Addr) (H:Hp) (r:Addr) (S:RS) (a:RA):Prop where
 ins:H r=some (.ins C a.dx (eB S.L S.made a))
 hR:H a.aR=some (.lst (a.rs.map V.ref))
 hW:H a.aW=some (.lst (a.ws.map V.ref))
 hG:H a.aG=some (.lst (a.gs.map V.ref))
 hE:H a.aE=some (.lst (ao (nI S.aU)))
 hC:H a.aC=some (.lst (a.cs.map V.ref))
 hN:H a.aN=some (.lst (ao (nI S.aY)))
 rR:Each (λp d=>bS H 4 (.ref p) d) a.rs S.rows
 rW:Each (λp l=>H p=some (.dK (wK l))) a.ws S.ways
 rG:Each (λp l=>H p=some (.dK (gK l))) a.gs S.gaps
 rC:Each (λp l=>H p=some (.lst (ao (nI l)))) a.cs S.called
 flat:∀d∈S.rows,kU d
 gO:a.lists.Nodup
 kX:a.dQ.Nodup
section
variable {C:Addr}{H H':Hp}{r:Addr}{S:RS}{a:RA}
theorem ax.keep (h:ax C H r S a)(k:∀b o,a.own r b->H b=some o->H' b=some o)(l:∀b g,H b=some (.tup g)->H' b=some (.tup g)):ax C H' r S a:=by
 have c:∀b o,b∈a.lists->H b=some o->H' b=some o:=λb o f=>k b o (.inr (.inl f))
 have i:∀b o,b∈a.dQ->H b=some o->H' b=some o:=λb o f=>k b o (.inr (.inr f))
 exact⟨k _ _ (.inl rfl) h.ins,c _ _ (by simp[RA.lists]) h.hR,c _ _ (by simp[RA.lists]) h.hW,c _ _ (by simp[RA.lists]) h.hG,c _ _ (by simp[RA.lists]) h.hE,c _ _ (by simp[RA.lists]) h.hC,c _ _ (by simp[RA.lists]) h.hN,
  h.rR.imp λp x _ j e=>e.gE l (h.flat x j),h.rW.imp λp x d _ e=>i _ _ (abM _ d) e,h.rG.imp λp x d _ e=>i _ _ (abv _ d) e,
  h.rC.imp λp x d _ e=>c _ _ (by simp[RA.lists,d]) e,h.flat,h.gO,h.kX⟩
theorem ax.same (h:ax C H r S a)(s:aq H H'):ax C H' r S a:=h.keep (λ_ _ _ e=>s _ _ e) (λ_ _ e=>s _ _ e)
theorem ax.there (h:ax C H r S a){b:Addr}(c:a.own r b):∃o,H b=some o:=by
 rcases c with rfl|c|c
 ·exact⟨_,h.ins⟩
 ·unfold RA.lists at c;simp only[abD]at c;rcases c with rfl|rfl|rfl|rfl|rfl|rfl|c
  ·exact⟨_,h.hR⟩
  ·exact⟨_,h.hW⟩
  ·exact⟨_,h.hG⟩
  ·exact⟨_,h.hE⟩
  ·exact⟨_,h.hC⟩
  ·exact⟨_,h.hN⟩
  ·obtain⟨x,_,e⟩:=h.rC.mem c;exact⟨_,e⟩
 ·rcases abx.mp c with c|c
  ·obtain⟨x,_,e⟩:=h.rW.mem c;exact⟨_,e⟩
  ·obtain⟨x,_,e⟩:=h.rG.mem c;exact⟨_,e⟩
theorem ax.rV (h:ax C H r S a){b:Addr}{f:List V}(e:H b=some (.tup f)):¬a.own r b:=λc=>by
 rcases c with rfl|c|c
 ·rw[h.ins]at e;cases e
 ·unfold RA.lists at c;simp only[abD]at c;rcases c with rfl|rfl|rfl|rfl|rfl|rfl|c
  ·rw[h.hR]at e;cases e
  ·rw[h.hW]at e;cases e
  ·rw[h.hG]at e;cases e
  ·rw[h.hE]at e;cases e
  ·rw[h.hC]at e;cases e
  ·rw[h.hN]at e;cases e
  ·obtain⟨x,_,d⟩:=h.rC.mem c;grind
 ·rcases abx.mp c with c|c
  ·obtain⟨x,_,d⟩:=h.rW.mem c;grind
  ·obtain⟨x,_,d⟩:=h.rG.mem c;grind
end
end L2
variable {S T:L2.RS}{O:L2.RA}
namespace L2
open PySem PySem.Spec PyProof.Rows
section
variable {C:Addr}{H:Hp}{r:Addr}{S:RS}{a:RA}
theorem e8:a.aR∈a.lists:=by simp[RA.lists]
theorem e9:a.aW∈a.lists:=by simp[RA.lists]
theorem hX:a.aG∈a.lists:=by simp[RA.lists]
theorem fE:a.aE∈a.lists:=by simp[RA.lists]
theorem gF:a.aC∈a.lists:=by simp[RA.lists]
theorem fY:a.aN∈a.lists:=by simp[RA.lists]
theorem fe (h:b∈a.cs):b∈a.lists:=by simp[RA.lists,h]
theorem cW (h:b∈a.ws):b∈a.dQ:=abM _ h
theorem fh (h:b∈a.gs):b∈a.dQ:=abv _ h
theorem ax.Ie (h:ax C H r S a){b:Addr}(c:b∈a.lists):∃d,H b=some (.lst d):=by
 unfold RA.lists at c;simp only[abD]at c;rcases c with rfl|rfl|rfl|rfl|rfl|rfl|c
 ·exact⟨_,h.hR⟩
 ·exact⟨_,h.hW⟩
 ·exact⟨_,h.hG⟩
 ·exact⟨_,h.hE⟩
 ·exact⟨_,h.hC⟩
 ·exact⟨_,h.hN⟩
 ·obtain⟨x,_,e⟩:=h.rC.mem c;exact⟨_,e⟩
theorem ax.pz (h:ax C H r S a){b:Addr}(c:b∈a.dQ):∃d,H b=some (.dK d):=by
 rcases abx.mp c with c|c
 ·obtain⟨x,_,e⟩:=h.rW.mem c;exact⟨_,e⟩
 ·obtain⟨x,_,e⟩:=h.rG.mem c;exact⟨_,e⟩
theorem ax.rl (h:ax C H r S a){b:Addr}(c:b∈a.lists):r≠b:=by obtain⟨d,e⟩:=h.Ie c;exact bW h.ins e (by grind)
theorem ax.rd (h:ax C H r S a){b:Addr}(c:b∈a.dQ):r≠b:=by obtain⟨d,e⟩:=h.pz c;exact bW h.ins e (by grind)
theorem ax.ld (h:ax C H r S a){b c:Addr}(d:b∈a.lists)(hc:c∈a.dQ):b≠c:=by
 obtain⟨f,e⟩:=h.Ie d;obtain⟨ys,g⟩:=h.pz hc
 grind
theorem ax.tl (h:ax C H r S a){b c:Addr}{e:List V}(d:H b=some (.tup e))(hc:c∈a.lists):b≠c:=λz=>h.rV d (.inr (.inl (by rw[z];exact hc)))
theorem ax.td (h:ax C H r S a){b c:Addr}{e:List V}(d:H b=some (.tup e))(hc:c∈a.dQ):b≠c:=λz=>h.rV d (.inr (.inr (by rw[z];exact hc)))
theorem ax.tr (h:ax C H r S a){b:Addr}{d:List V}(c:H b=some (.tup d)):b≠r:=λz=>h.rV c (.inl z)
theorem ax.Kf (h:ax C H r S a)(n:Nat):ax C (upd H r (.ins C a.dx (eB S.L n a))) r { S with made:=n } a:=by
 have c:∀b o,b∈a.lists->H b=some o->upd H r (.ins C a.dx (eB S.L n a)) b=some o:=λb o f e=>by rw[ak (h.rl f).symm];exact e
 have i:∀b o,b∈a.dQ->H b=some o->upd H r (.ins C a.dx (eB S.L n a)) b=some o:=λb o f e=>by rw[ak (h.rd f).symm];exact e
 exact⟨ai,c _ _ e8 h.hR,c _ _ e9 h.hW,c _ _ hX h.hG,c _ _ fE h.hE,c _ _ gF h.hC,c _ _ fY h.hN,h.rR.imp λp x _ j e=>e.gE (λb k g=>by rw[ak (h.tr g)];exact g) (h.flat x j),
  h.rW.imp λp x d _ e=>i _ _ (cW d) e,h.rG.imp λp x d _ e=>i _ _ (fh d) e,h.rC.imp λp x d _ e=>c _ _ (fe d) e,h.flat,h.gO,h.kX⟩
theorem ax.iL (h:ax C H r S a){q:Addr}{o:HO}(c:q∈a.lists):upd H q o r=some (.ins C a.dx (eB S.L S.made a))/\(∀b x,b∈a.lists->b≠q->H b=some x->upd H q o b=some x)/\(∀b x,b∈a.dQ->H b=some x->upd H q o b=some x)/\∀b d,H b=some (.tup d)->upd H q o b=some (.tup d):=
 ⟨by rw[ak (h.rl c)];exact h.ins,λb x _ n e=>by rw[ak n];exact e,λb x f e=>by rw[ak (h.ld c f).symm];exact e,λb d e=>by rw[ak (h.tl e c)];exact e⟩
theorem uA (b:a.lists.Nodup):(a.aR≠a.aW/\a.aR≠a.aG/\a.aR≠a.aE/\a.aR≠a.aC/\a.aR≠a.aN)/\(a.aW≠a.aG/\a.aW≠a.aE/\a.aW≠a.aC/\a.aW≠a.aN)/\(a.aG≠a.aE/\a.aG≠a.aC/\a.aG≠a.aN)/\(a.aE≠a.aC/\a.aE≠a.aN)/\a.aC≠a.aN/\∀p∈a.cs,p≠a.aR/\p≠a.aW/\p≠a.aG/\p≠a.aE/\p≠a.aC/\p≠a.aN:=by
 unfold RA.lists at b
 grind
theorem ax.yG (h:ax C H r S a){p:Addr}{d:Dt}(k:bS H 4 (.ref p) d)(hd:kU d):ax C (upd H a.aR (.lst (a.rs.map V.ref++[.ref p]))) r { S with rows:=S.rows++[d] } { a with rs:=a.rs++[p] }:=by
 obtain⟨s,f,i,g⟩:=h.iL (o:=.lst (a.rs.map V.ref++[.ref p])) (e8 (a:=a));obtain⟨⟨n1,n2,n,m,j⟩,-,-,-,-,l⟩:=uA h.gO
 refine⟨s,?_,f _ _ e9 n1.symm h.hW,f _ _ hX n2.symm h.hG,f _ _ fE n.symm h.hE,f _ _ gF m.symm h.hC,f _ _ fY j.symm h.hN,(h.rR.imp λq x _ b e=>e.gE g (h.flat x b)).snoc (k.gE g hd),
  h.rW.imp λq x c _ e=>i _ _ (cW c) e,h.rG.imp λq x c _ e=>i _ _ (fh c) e,h.rC.imp λq x c _ e=>f _ _ (fe c) (l q c).1 e,λx b=>?_,h.gO,h.kX⟩
 ·rw[ai,abU];rfl
 ·rcases abx.mp b with b|b
  ·exact h.flat x b
  grind
theorem ax.MQ (h:ax C H r S a){p:Addr}{l:List (Int×Nat)}(f:H p=some (.dK (wK l)))(i:p∉a.dQ):ax C (upd H a.aW (.lst (a.ws.map V.ref++[.ref p]))) r { S with ways:=S.ways++[l] } { a with ws:=a.ws++[p] }:=by
 obtain⟨u,c,g,k⟩:=h.iL (o:=.lst (a.ws.map V.ref++[.ref p])) (e9 (a:=a));obtain⟨⟨n1,-⟩,⟨n2,j,n,t⟩,-,-,-,m⟩:=uA h.gO;have d:upd H a.aW (.lst (a.ws.map V.ref++[.ref p])) p=some (.dK (wK l)):=by rw[ak (bW f h.hW (by grind))];exact f
 refine⟨u,c _ _ e8 n1 h.hR,?_,c _ _ hX n2.symm h.hG,c _ _ fE j.symm h.hE,c _ _ gF n.symm h.hC,c _ _ fY t.symm h.hN,h.rR.imp λq x _ s e=>e.gE k (h.flat x s),
  (h.rW.imp λq x b _ e=>g _ _ (cW b) e).snoc d,h.rG.imp λq x b _ e=>g _ _ (fh b) e,h.rC.imp λq x b _ e=>c _ _ (fe b) (m q b).2.1 e,h.flat,h.gO,?_⟩
 ·rw[ai,abU];rfl
 ·show (a.ws++[p]++a.gs).Nodup;rw[aci];exact(List.perm_middle.nodup_iff).mpr (ab0.mpr ⟨i,h.kX⟩)
theorem ax.MR (h:ax C H r S a){p:Addr}{l:List Int}(g:H p=some (.dK (gK l)))(j:p∉a.dQ):ax C (upd H a.aG (.lst (a.gs.map V.ref++[.ref p]))) r { S with gaps:=S.gaps++[l] } { a with gs:=a.gs++[p] }:=by
 obtain⟨v,c,i,m⟩:=h.iL (o:=.lst (a.gs.map V.ref++[.ref p])) (hX (a:=a));obtain⟨⟨-,n1,-⟩,⟨n2,-⟩,⟨k,s,u⟩,-,-,n⟩:=uA h.gO;have f:upd H a.aG (.lst (a.gs.map V.ref++[.ref p])) p=some (.dK (gK l)):=by rw[ak (bW g h.hG (by grind))];exact g
 refine⟨v,c _ _ e8 n1 h.hR,c _ _ e9 n2 h.hW,?_,c _ _ fE k.symm h.hE,c _ _ gF s.symm h.hC,c _ _ fY u.symm h.hN,h.rR.imp λq x _ d e=>e.gE m (h.flat x d),
  h.rW.imp λq x b _ e=>i _ _ (cW b) e,(h.rG.imp λq x b _ e=>i _ _ (fh b) e).snoc f,h.rC.imp λq x b _ e=>c _ _ (fe b) (n q b).2.2.1 e,h.flat,h.gO,?_⟩
 ·rw[ai,abU];rfl
 ·show (a.ws++(a.gs++[p])).Nodup;rw[<-aci];refine ab5.mpr ⟨h.kX,by simp,λx d y t z=>?_⟩;rw[abp.mp t]at z;exact j (z ▸ d)
theorem ax.wN (h:ax C H r S a)(d:List Nat):ax C (upd H a.aE (.lst (ao (nI d)))) r { S with aU:=d } a:=by
 obtain⟨n,c,f,i⟩:=h.iL (o:=.lst (ao (nI d))) (fE (a:=a));obtain⟨⟨-,-,n1,-⟩,⟨-,n2,-⟩,⟨m,-⟩,⟨l,j⟩,-,k⟩:=uA h.gO
 exact⟨n,c _ _ e8 n1 h.hR,c _ _ e9 n2 h.hW,c _ _ hX m h.hG,ai,c _ _ gF l.symm h.hC,c _ _ fY j.symm h.hN,h.rR.imp λq x _ g e=>e.gE i (h.flat x g),
  h.rW.imp λq x b _ e=>f _ _ (cW b) e,h.rG.imp λq x b _ e=>f _ _ (fh b) e,h.rC.imp λq x b _ e=>c _ _ (fe b) (k q b).2.2.2.1 e,h.flat,h.gO,h.kX⟩
theorem ax.Kg (h:ax C H r S a)(d:List Nat):ax C (upd H a.aN (.lst (ao (nI d)))) r { S with aY:=d } a:=by
 obtain⟨n,c,f,i⟩:=h.iL (o:=.lst (ao (nI d))) (fY (a:=a));obtain⟨⟨-,-,-,-,n1⟩,⟨-,-,-,n2⟩,⟨-,-,m⟩,⟨-,l⟩,j,k⟩:=uA h.gO
 exact⟨n,c _ _ e8 n1 h.hR,c _ _ e9 n2 h.hW,c _ _ hX m h.hG,c _ _ fE l h.hE,c _ _ gF j h.hC,ai,h.rR.imp λq x _ g e=>e.gE i (h.flat x g),
  h.rW.imp λq x b _ e=>f _ _ (cW b) e,h.rG.imp λq x b _ e=>f _ _ (fh b) e,h.rC.imp λq x b _ e=>c _ _ (fe b) (k q b).2.2.2.2.2 e,h.flat,h.gO,h.kX⟩
theorem ax.DH (h:ax C H r S a){p:Addr}{l:List Nat}(j:H p=some (.lst (ao (nI l))))(k:p∉a.lists):ax C (upd H a.aC (.lst (a.cs.map V.ref++[.ref p]))) r { S with called:=S.called++[l] } { a with cs:=a.cs++[p] }:=by
 obtain⟨v,c,g,n⟩:=h.iL (o:=.lst (a.cs.map V.ref++[.ref p])) (gF (a:=a));obtain⟨⟨-,-,-,n1,-⟩,⟨-,-,n2,-⟩,⟨-,m,-⟩,⟨t,-⟩,u,s⟩:=uA h.gO;have f:p≠a.aC:=λz=>k (by rw[z];exact gF)
 have d:upd H a.aC (.lst (a.cs.map V.ref++[.ref p])) p=some (.lst (ao (nI l))):=by rw[ak f];exact j
 refine⟨v,c _ _ e8 n1 h.hR,c _ _ e9 n2 h.hW,c _ _ hX m h.hG,c _ _ fE t h.hE,?_,c _ _ fY u.symm h.hN,h.rR.imp λq x _ i e=>e.gE n (h.flat x i),
  h.rW.imp λq x b _ e=>g _ _ (cW b) e,h.rG.imp λq x b _ e=>g _ _ (fh b) e,(h.rC.imp λq x b _ e=>c _ _ (fe b) (s q b).2.2.2.2.1 e).snoc d,h.flat,?_,h.kX⟩
 ·rw[ai,abU];rfl
 ·refine ab5.mpr ⟨h.gO,by simp,λx i y w z=>?_⟩
  grind
theorem ax.DJ (h:ax C H r S a){i:Nat}{p:Addr}(g:a.cs[i]?=some p)(l:List Nat):ax C (upd H p (.lst (ao (nI l)))) r { S with called:=S.called.set i l } a:=by
 have f:=abn g;obtain⟨z,b,j,m⟩:=h.iL (o:=.lst (ao (nI l))) (fe f);obtain⟨-,-,-,-,-,s⟩:=uA h.gO;obtain⟨n1,n2,k,t,w,v⟩:=s p f
 have d:a.cs.Nodup:=by
  have:=h.gO;unfold RA.lists at this;simp only[ab0]at this;exact this.2.2.2.2.2.2
 exact⟨z,b _ _ e8 n1.symm h.hR,b _ _ e9 n2.symm h.hW,b _ _ hX k.symm h.hG,b _ _ fE t.symm h.hE,b _ _ gF w.symm h.hC,b _ _ fY v.symm h.hN,h.rR.imp λq x _ u e=>e.gE m (h.flat x u),
  h.rW.imp λq x c _ e=>j _ _ (cW c) e,h.rG.imp λq x c _ e=>j _ _ (fh c) e,h.rC.set g ai d λq y c n e=>b _ _ (fe c) n e,h.flat,h.gO,h.kX⟩
theorem ax.AF (h:ax C H r S a){q:Addr}{o:HO}(c:q∈a.dQ):upd H q o r=some (.ins C a.dx (eB S.L S.made a))/\(∀b x,b∈a.dQ->b≠q->H b=some x->upd H q o b=some x)/\(∀b x,b∈a.lists->H b=some x->upd H q o b=some x)/\∀b d,H b=some (.tup d)->upd H q o b=some (.tup d):=
 ⟨by rw[ak (h.rd c)];exact h.ins,λb x _ n e=>by rw[ak n];exact e,λb x f e=>by rw[ak (h.ld f c)];exact e,λb d e=>by rw[ak (h.td e c)];exact e⟩
theorem ax.yH (h:ax C H r S a){i:Nat}{p:Addr}(f:a.ws[i]?=some p)(l:List (Int×Nat)):ax C (upd H p (.dK (wK l))) r { S with ways:=S.ways.set i l } a:=by
 have d:=abn f;obtain⟨m,g,b,j⟩:=h.AF (o:=.dK (wK l)) (cW d);have nd:=ab5.mp h.kX
 exact⟨m,b _ _ e8 h.hR,b _ _ e9 h.hW,b _ _ hX h.hG,b _ _ fE h.hE,b _ _ gF h.hC,b _ _ fY h.hN,h.rR.imp λq x _ k e=>e.gE j (h.flat x k),
  h.rW.set f ai nd.1 λq y c n e=>g _ _ (cW c) n e,h.rG.imp λq x c _ e=>g _ _ (fh c) (λz=>nd.2.2 p d q c z.symm) e,h.rC.imp λq x c _ e=>b _ _ (fe c) e,h.flat,h.gO,h.kX⟩
theorem ax.MS (h:ax C H r S a){i:Nat}{p:Addr}(f:a.gs[i]?=some p)(l:List Int):ax C (upd H p (.dK (gK l))) r { S with gaps:=S.gaps.set i l } a:=by
 have d:=abn f;obtain⟨m,g,b,j⟩:=h.AF (o:=.dK (gK l)) (fh d);have nd:=ab5.mp h.kX
 exact⟨m,b _ _ e8 h.hR,b _ _ e9 h.hW,b _ _ hX h.hG,b _ _ fE h.hE,b _ _ gF h.hC,b _ _ fY h.hN,h.rR.imp λq x _ k e=>e.gE j (h.flat x k),
  h.rW.imp λq x c _ e=>g _ _ (cW c) (λz=>nd.2.2 q c p d z) e,h.rG.set f ai nd.2.1 λq y c n e=>g _ _ (fh c) n e,h.rC.imp λq x c _ e=>b _ _ (fe c) e,h.flat,h.gO,h.kX⟩
end
def RS.jv (S:RS)(i:Nat)(l:List (Int×Nat)):RS:={ S with ways:=S.ways.set i l }
def RS.setG (S:RS)(i:Nat)(l:List Int):RS:={ S with gaps:=S.gaps.set i l }
def RS.way (S:RS)(c:Nat):List (Int×Nat):=S.ways.getD c []
def RS.gap (S:RS)(c:Nat):List Int:=S.gaps.getD c []
def RS.by (S:RS)(c:Nat)(z:Int):Option Nat:=eA (S.way c) z
def RS.bZ (S:RS)(c:Nat)(z:Int)(d:Nat):RS:=S.jv c (gT (S.way c) z d)
def RS.km (S:RS)(c:Nat)(z:Int):RS:=S.setG c ((S.gap c).filter λx=>decide (x≠z))
def RS.keep (S:RS)(c:Nat)(z:Int)(d:Nat):RS:=(((S.bZ c z d).bZ d (-z) c).km c z).km d (-z)
def qd (c:Nat)(z:Int)(n:Nat):Dt:=.t [.s [110,101,119],.i c,.i z,.i n]
def RS.grown (S:RS)(c:Nat)(z:Int)(gaps:List Int):RS:={ S with made:=S.made+ 1,rows:=S.rows++[qd c z S.made],ways:=S.ways++[[]],gaps:=S.gaps++[gaps],aU:=S.aU++[S.made],called:=S.called++[[S.made]] }
def RS.make (S:RS)(c:Nat)(z:Int)(gaps:List Int):RS:=(S.grown c z gaps).keep c z S.made
def RS.new (L:Nat)(gaps:List Int):RS:=⟨L,1,[],[[]],[gaps],[0],[[0]],[]⟩
structure RS.Wf (S:RS):Prop where
 w:S.ways.length=S.made
 g:S.gaps.length=S.made
 e:S.aU.length=S.made
 c:S.called.length=S.made
section
variable {X:Cx}{e:Expr}{f:Str}{ta:TE}{pos:Pos}
theorem Kh (c:X.K=K)(a:PE X e ta)(b:attributeBase e f X.env (eval e X.env)=eval e X.env):PE X (.Attribute e f pos) (LX K ta f):=by
 subst c;exact aF a b
end
theorem lY {J:It}{Q:VK}(n:Nat)(o:Nat->V)(R:Hp->V->Nat->Prop)(I:∀t b v i,aq t b->R t v i->R b v i)(q:n<=sizeLine)
 (k:∀(i:Nat) b,aq H b->i<n->J.go i b) (F:∀(i:Nat) (x:V) (b d:Hp),aq H b->i<n->J.kc i b x d->d=b/\x=o i) (g:∀b,aq H b->J.stop n b)
 (G:∀(i:Nat) (b:Hp) (p:VK),i<n->aq H b->(∀v d,aq b d->R d v i->p v d)->r (some (o i)::D) b p)
 (B:∀a b ys,aq H b->b a=none->ys.length=n->(∀(i:Nat) (v:V),ys[i]?=some v->R b v i)->Q (.ref a) (upd b a (.lst ys))):uv r D Q J H:=by
 refine⟨λi m ys b=>m=n - i/\i<=n/\ys.length=i/\aq H b/\∀(j:Nat) (v:V),ys[j]?=some v->R b v j,⟨n,by simp,abS _,rfl,λ_ _ e=>e,λj v h=>by simp at h⟩,?_⟩;rintro i m ys b ⟨rfl,L,s,s2,u⟩;by_cases c:i<n
 ·refine .inr ⟨k i b s2 c,by omega,λx d l=>?_⟩;obtain⟨rfl,rfl⟩:=F i x b d s2 c l;refine G i _ _ c s2 λv M y A=>⟨n - (i+ 1),by omega,rfl,c,by rw[abj,s];rfl,s2.trans y,λj w f=>?_⟩
  by_cases E:j<ys.length
  ·rw[abu E]at f;exact I _ _ _ _ y (u j w f)
  ·rw[abw (by omega)]at f
   have z:j - ys.length=0:=by
    have:=(abk.mp f).1;rw[acr]at this;omega
   rw[z]at f;have:j=i:=by omega
   subst this;rw[<-Za0 f];exact A
 ·have e:i=n:=by omega
  subst e;exact .inl ⟨g b s2,by omega,λa C=>B a b ys s2 C s u⟩
theorem vS {P:Nat->Addr->Prop}:∀(ys:List V) (k:Nat),(∀(i:Nat) (v:V),ys[i]?=some v->∃p,v=.ref p/\P (k+ i) p)->∃a:List Addr,ys=a.map V.ref/\∀(i:Nat) (p:Addr),a[i]?=some p->P (k+ i) p
 |[],_,_=>⟨[],rfl,λi p h=>by simp at h⟩
 |v::ys,k,h=>by
  obtain⟨p,rfl,f⟩:=h 0 v rfl
  obtain⟨a,rfl,b⟩:=vS (P:=P) ys (k+ 1) λi w d=>by
   obtain⟨q,e,c⟩:=h (i+ 1) w (by simpa using d)
   grind
  refine⟨p::a,rfl,λi q c=>?_⟩
  cases i with
  |zero=>grind
  |succ i=>
   grind
theorem iM {f:Str}{v:V}{n:Nat}:∀{fs:List (Str×V)},fs.length<=n->(bJ f v fs).length<=n+ 1
 |[],h=>by show 1<=n+ 1;omega
 |(g,x)::r,h=>by
  show (if g=f then (g,v)::r else (g,x)::bJ f v r).length<=n+ 1;rw[abL]at h;split
  ·rw[abL];omega
  ·have:=iM (f:=f) (v:=v) (n:=n - 1) (fs:=r) (by omega);rw[abL];omega
theorem pA (K:Za1):PySem.W.kitOne K (.type "int") (.type "tuple")=some false:=by first|rfl|kernel_rfl
theorem qe (K:Za1):PySem.W.kitOne K (.type "int") (.type "list")=some false:=by first|rfl|kernel_rfl
theorem qf (K:Za1):PySem.W.kitOne K (.type "int") (.type "dict")=some false:=by first|rfl|kernel_rfl
theorem pB (K:Za1):PySem.W.kitOne K (.type "str") (.type "tuple")=some false:=by first|rfl|kernel_rfl
theorem qg (K:Za1):PySem.W.kitOne K (.type "str") (.type "list")=some false:=by first|rfl|kernel_rfl
theorem qh (K:Za1):PySem.W.kitOne K (.type "str") (.type "dict")=some false:=by first|rfl|kernel_rfl
theorem qi:∀{d:List DictEntry} {f:List (Key×Value)} {c:List (Key×V)},Pairs (bR P w) d f->KV c f->Vals (c.map λh=>kV h.1) (d.map (·.key))
 |[],_,_,.nil,r=>by cases r;exact .nil
 |e::d,_,_,.cons i j g,r=>by
  cases r with
  |cons a b=>
   rw[acg,acg];refine .cons ?_ (qi g b);rw[a.1];exact Kd i
theorem pairs_len:∀{a:List DictEntry} {b:List (Key×Value)},Pairs (bR P w) a b->a.length=b.length
 |_,_,.nil=>rfl
 |_,_,.cons _ _ h=>by rw[abL,abL,pairs_len h]
section
variable {X:Cx}
inductive DK (xs:List V) (H:Hp) (Q:VK):Prop
 |mk (d:Addr) (kvs:List (Key×V)):xs=[.ref d]->H d=some (.dK kvs)->(∀l,H l=none->Q (.ref l) (upd H l (.lst (kvs.map λkv=>kV kv.1))))->DK xs H Q
theorem jb (E:X.calm=true):fX X (.type "list") DK:=by
 intro t s W H P R Q I r h;obtain⟨d,c,rfl,L,q⟩:=h;obtain⟨u,rfl,F⟩:=vals1 r;cases F;obtain⟨O,m,A,rel,o,j,U,z,l,e,Y,p,S⟩:=rK I.aO L;have hlen:c.length=A.length:=rel.length;have k:=pairs_len p;have C:j.size=c.length:=by rw[<-ac4,k,hlen]
 refine Dk.Dz (I.ok.hd E) m ⟨o,z,l,e⟩ (by omega) λN D a x n f b=>?_
 have J:a.toList=j.toList.map (·.key):=by
  refine adk λi=>?_
  rw[adX,aby,adX]
  cases g:a[i]? with
  |none=>
   have B:j.size<=i:=by
    have w:a.size<=i:=Array.getElem?_eq_none_iff.mp g;rw[b.1]at w;exact w
   rw[aey B];rfl
  |some v=>
   obtain⟨V,G,rfl⟩:=b.2 i v g;rw[G];rfl
 have M:a=(j.toList.map (·.key)).toArray:=by rw[<-J]
 rw[M]at f;have g:=qi p rel;exact⟨.ref s.heap.objs.size,_,I.laid (t':=D) n (abr _) (show bU X.prog X.w _ N _ (.lst (c.map λy=>kV y.1)) from ⟨by rw[abo];exact O,_,x,g,f⟩),rfl,q _ (I.aO.fresh (abr _))⟩
end
section
variable {C:Addr}{H:Hp}{r:Addr}{S:RS}{a:RA}
theorem ax.MT (h:ax C H r S a){i:Nat}(s:i<a.ws.length){q:Addr}{l:List (Int×Nat)}(d:H q=some (.dK (wK l)))(m:q∉a.dQ):ax C (upd H a.aW (.lst ((a.ws.map V.ref).set i (.ref q)))) r { S with ways:=S.ways.set i l } { a with ws:=a.ws.set i q }:=by
 obtain⟨Q,g,v,E⟩:=h.iL (o:=.lst ((a.ws.map V.ref).set i (.ref q))) (e9 (a:=a));obtain⟨⟨n1,-⟩,⟨n2,B,G,N⟩,-,-,-,F⟩:=uA h.gO;have k:upd H a.aW (.lst ((a.ws.map V.ref).set i (.ref q))) q=some (.dK (wK l)):=by rw[ak (bW d h.hW (by intro z;cases z))];exact d
 have nd:=ab5.mp h.kX
 refine⟨Q,g _ _ e8 n1 h.hR,?_,g _ _ hX n2.symm h.hG,g _ _ fE B.symm h.hE,g _ _ gF G.symm h.hC,g _ _ fY N.symm h.hN,h.rR.imp λq x _ f e=>e.gE E (h.flat x f),
  ?_,h.rG.imp λq x d _ e=>v _ _ (fh d) e,h.rC.imp λq x d _ e=>g _ _ (fe d) (F q d).2.1 e,h.flat,h.gO,?_⟩
 ·show upd H a.aW _ a.aW=some (.lst ((a.ws.set i q).map V.ref));rw[ai,List.map_set]
 ·refine⟨by show (a.ws.set i q).length=(S.ways.set i l).length;rw[abP,abP];exact h.rW.1,λj p x I D=>?_⟩;have b:(a.ws.set i q)[j]?=some p:=I
  have c:(S.ways.set i l)[j]?=some x:=D
  by_cases z:i=j
  ·subst z;rw[acm s]at b;rw[acm (by rw[<-h.rW.1];exact s)]at c;obtain rfl:=Za0 b;obtain rfl:=Za0 c;exact k
  ·rw[acZ z]at b c;exact v _ _ (cW (abn b)) (h.rW.2 j p x b c)
 ·show (a.ws.set i q++a.gs).Nodup;have L:q∉a.ws:=λz=>m (abM _ z)
  have t:q∉a.gs:=λz=>m (abv _ z)
  refine ab5.mpr ⟨?_,nd.2.1,λx f y w z=>?_⟩
  ·have:∀(l:List Addr) (i:Nat),l.Nodup->q∉l->(l.set i q).Nodup:=by
    intro l
    induction l with
    |nil=>intro i _ _;simp
    |cons x l J=>
     intro i O A;obtain⟨M,u⟩:=ab0.mp O;have P:q≠x:=λz=>A (by rw[z];exact abA)
     have n:q∉l:=λz=>A (abR _ z)
     cases i with
     |zero=>exact ab0.mpr ⟨n,u⟩
     |succ i=>
      refine ab0.mpr ⟨λz=>?_,J i u n⟩;rcases adC z with z|z
      ·exact M z
      ·exact P z.symm
   exact this a.ws i nd.1 L
  ·rcases adC f with f|f
   ·exact nd.2.2 x f y w z
   ·rw[<-f,z]at t;exact t w
end
theorem Ki (l:List (Int×Nat))(s:Int):eh (wK l) (Sum.inl s)=wK (l.filter λp=>decide (p.1≠s)):=by
 unfold eh wK;rw[List.filter_map]
 congr 1
 refine aeF λx _=>?_
 grind
theorem DL (l:List (Int×Nat))(s t:Int):eA (l.filter λp=>decide (p.1≠s)) t=if t=s then none else eA l t:=by
 induction l with
 |nil=>split <;> rfl
 |cons p l b=>
  have a:∀(q:Int×Nat) (m:List (Int×Nat)),eA (q::m) t=if q.1=t then some q.2 else eA m t:=λq m=>by
   unfold eA
   grind
  grind
abbrev Way:=Nat×Int×Nat
def RS.av (S:RS)(c:Nat):Nat:=S.aU.getD c 0
def RS.b0 (S:RS)(c:Nat):List Nat:=S.called.getD c []
def fP (c:Nat)(z:Int)(x y:Nat):Dt:=.t [.s [109,101,101,116],.i c,.i z,.i x,.i y]
def RS.joined (S:RS)(c:Nat)(z:Int)(x y:Nat):RS:=
 { S with rows:=S.rows++[fP c z x y],aY:=S.aY++[y],aU:=(S.b0 y).foldl (λa n=>a.set n x) S.aU,called:=S.called.set x (S.b0 x++S.b0 y) }
def RS.nh (S:RS)(c:Nat)(z:Int):RS:=S.jv c ((S.way c).filter λp=>decide (p.1≠z))
def iN (c:Nat)(st:RS×List Way)(p:Int×Nat):RS×List Way:=(if p.2≠c then st.1.nh p.2 (-p.1) else st.1,st.2++[(c,p.1,p.2)])
def RS.ni (S:RS)(c:Nat)(a:List Way):RS×List Way:=(S.way c).foldl (iN c) (S.jv c [],a)
def RS.meet (S:RS)(c:Nat)(z:Int)(x y:Nat)(a:List Way):RS×List Way:=(S.joined c z (min x y) (max x y)).ni (max x y) a
def RS.takeIn (S:RS)(a:List Way)(w:Way):RS×List Way:=
 if (S.by (S.av w.1) w.2.1).getD (S.av w.2.2)≠S.av w.2.2 then S.meet (S.av w.1) w.2.1 ((S.by (S.av w.1) w.2.1).getD (S.av w.2.2)) (S.av w.2.2) a
 else if (S.by (S.av w.2.2) (-w.2.1)).getD (S.av w.1)≠S.av w.1 then S.meet (S.av w.2.2) (-w.2.1) ((S.by (S.av w.2.2) (-w.2.1)).getD (S.av w.1)) (S.av w.1) a
 else (S.keep (S.av w.1) w.2.1 (S.av w.2.2),a)
structure BO (S:RS) (c:Nat):Prop where
 nd:((S.way c).map (·.1)).Nodup
 lt:∀q∈S.way c,q.2<S.made
 bk:∀q∈S.way c,q.2≠c->(S.by q.2 (-q.1)).isSome=true
theorem iu {l:List (Int×Nat)}(a:n<S.ways.length):(S.jv n l).way m=if m=n then l else S.way m:=by
 unfold RS.jv RS.way
 grind
theorem iO (a:n<S.ways.length):(S.bZ n z i).by m y=if m=n/\y=z then some i else S.by m y:=by
 unfold RS.bZ RS.by;rw[iu a];by_cases h:m=n
 ·subst h;rw[abN rfl,F8]
  grind
 grind
theorem BP (a:n<S.ways.length):(S.nh n z).by m y=if m=n/\y=z then none else S.by m y:=by
 unfold RS.nh RS.by;rw[iu a];by_cases h:m=n
 ·subst h;rw[abN rfl,DL]
  grind
 ·rw[abH h,abH (λq=>h q.1)]
theorem Kj {l:List (Int×Nat)}(a:n<S.ways.length):(S.jv n l).by m z=if m=n then eA l z else S.by m z:=by
 unfold RS.by;rw[iu a];split <;> rfl
def cE (c:Nat)(S:RS)(a:List Way)(b:List (Int×Nat)):RS×List Way:=b.foldl (iN c) (S.jv c [],a)
theorem gk (c:Nat)(S:RS)(a:List Way)(b:List (Int×Nat))(p:Int×Nat):cE c S a (b++[p])=iN c (cE c S a b) p:=by unfold cE;grind
theorem snoc_ind {b:Type}{P:List b->Prop}(f:P [])(c:∀l x,P l->P (l++[x])):∀l,P l:=λl=>by
 have:∀n (l:List b),l.length=n->P l:=by
  intro n
  induction n with
  |zero=>grind
  |succ n d=>
   intro l e;have a:l≠[]:=λz=>by rw[z]at e;cases e
   rw[<-adh a];exact c _ _ (d _ (by rw[List.length_dropLast];omega))
 exact this _ l rfl
theorem wO (c:Nat)(S:RS)(a:List Way):∀b:List (Int×Nat),(cE c S a b).2=a++b.map λp=>(c,p.1,p.2):=by
 refine snoc_ind (by simp[cE]) λb p d=>?_
 rw[gk];show (cE c S a b).2++_=_
 grind
theorem fz (c:Nat)(S:RS)(a:List Way):∀b:List (Int×Nat),(cE c S a b).1.ways.length=S.ways.length/\(cE c S a b).1={ S with ways:=(cE c S a b).1.ways }:=by
 refine snoc_ind ⟨by simp[cE,RS.jv],rfl⟩ λb p d=>?_
 rw[gk];unfold iN;by_cases h:p.2≠c
 ·simp only[h,aeP,adL,ne_eq];refine⟨?_,?_⟩
  ·show (List.set _ _ _).length=_;rw[abP];exact d.1
  ·unfold RS.nh RS.jv;rw[d.2]
 ·simp only[h,aea];exact d
theorem vT {c:List Way}(l:n<S.ways.length):∀f:List (Int×Nat),(∀q∈f,q.2<S.ways.length)->∀d z,(cE n S c f).1.by d z=if d=n\/∃q∈f,q.2=d/\z= -q.1 then none else S.by d z:=by
 refine snoc_ind (λ_ d z=>?_) λf p m i d z=>?_
 ·show (S.jv n []).by d z=_;rw[Kj l];by_cases h:d=n
  ·rw[abN h,abN (.inl h)];rfl
  grind
 ·have g:=m (λq a=>i q (abM _ a)) d z;have j:=i p (abv _ abA);rw[gk];unfold iN;by_cases h:p.2≠n
  ·simp only[h,aeP,adL,ne_eq];rw[BP (by rw[(fz n S c f).1];exact j),g];by_cases e:d=p.2/\z= -p.1
   ·rw[abN e,abN (.inr ⟨p,abv _ abA,e.1.symm,e.2⟩)]
   ·rw[abH e];by_cases b:d=n\/∃q∈f,q.2=d/\z= -q.1
    ·rw[abN b,abN (b.imp id λ⟨q,a,r⟩=>⟨q,abM _ a,r⟩)]
    ·rw[abH b,abH];rintro (q|⟨q,a,r⟩)
     ·exact b (.inl q)
     ·rcases abx.mp a with a|a
      ·exact b (.inr ⟨q,a,r⟩)
      ·rw[abp.mp a]at r;exact e ⟨r.1.symm,r.2⟩
  ·simp only[h,aea];rw[g];have k:p.2=n:=aeb.mp h;by_cases b:d=n\/∃q∈f,q.2=d/\z= -q.1
   ·rw[abN b,abN (b.imp id λ⟨q,a,r⟩=>⟨q,abM _ a,r⟩)]
   ·rw[abH b,abH];rintro (q|⟨q,a,r⟩)
    ·exact b (.inl q)
    ·rcases abx.mp a with a|a
     ·exact b (.inr ⟨q,a,r⟩)
     ·rw[abp.mp a]at r;exact b (.inl (r.1.symm.trans k))
inductive Cg (R:Za2):Nat->Nat->Prop where
 |refl (a:Nat):Cg R a a
 |symm {a b:Nat}:Cg R a b->Cg R b a
 |trans {a b c:Nat}:Cg R a b->Cg R b c->Cg R a c
 |step {a a' b b':Nat} {z:Int}:R a z b->R a' z b'->Cg R a a'->Cg R b b'
theorem Cg.mono {e:Za2}(h:∀a z b,R a z b->e a z b){a b:Nat}(c:Cg R a b):Cg e a b:=by
 induction c with
 |refl=>exact .refl _
 |symm _ d=>exact .symm d
 |trans _ _ f g=>exact .trans f g
 |step r1 r2 _ d=>exact .step (h _ _ _ r1) (h _ _ _ r2) d
def Im (S:RS)(R:Za2)(c:Nat)(z:Int)(d:Nat):Prop:=∃a b,R a z b/\S.av a=c/\S.av b=d
def wQ (S:RS)(a:List Way)(c:Nat)(z:Int)(d:Nat):Prop:=S.by c z=some d\/∃w∈a,(S.av w.1=c/\w.2.1=z/\S.av w.2.2=d)\/(S.av w.1=d/\w.2.1= -z/\S.av w.2.2=c)
structure Good (S:RS) (pend:List Way) (R:Za2):Prop where
 wf:S.Wf
 el:∀c,c<S.made->S.av c<=c/\S.av (S.av c)=S.av c
 ca:∀e,e<S.made->S.av e=e->∀c,c∈S.b0 e↔c<S.made/\S.av c=e
 cb:∀e c,c∈S.b0 e->c<S.made
 cn:∀e,(S.b0 e).Nodup
 kn:∀c,((S.way c).map (·.1)).Nodup
 st:∀c z d,S.by c z=some d->c<S.made/\d<S.made/\S.av c=c/\S.av d=d
 sy:∀c z d,S.by c z=some d->S.by d (-z)=some c
 pl:∀w∈pend,w.1<S.made/\w.2.2<S.made
 rl:∀c z d,R c z d->c<S.made/\d<S.made/\R d (-z) c
 cv:∀c z d,R c z d->wQ S pend (S.av c) z (S.av d)
 so:∀c z d,S.by c z=some d->Im S R c z d
 sp:∀w∈pend,Im S R (S.av w.1) w.2.1 (S.av w.2.2)
 cg:∀c,c<S.made->Cg R c (S.av c)
section
variable {S:RS}{pend:List Way}{R:Za2}
theorem Good.lt (h:Good S pend R){c:Nat}(hc:c<S.made):S.av c<S.made:=abz (h.el c hc).1 hc
theorem Im.back (h:Good S pend R){c d:Nat}{z:Int}(i:Im S R c z d):Im S R d (-z) c:=by
 obtain⟨b,f,r,e,a⟩:=i;exact⟨f,b,(h.rl _ _ _ r).2.2,a,e⟩
theorem Good.must (h:Good S pend R){c x y:Nat}{z:Int}(i:Im S R c z x)(j:Im S R c z y):Cg R x y:=by
 obtain⟨o,p,r1,f,d⟩:=i;obtain⟨m,n,r2,f1,g⟩:=j;obtain⟨l,l2,_⟩:=h.rl _ _ _ r1;obtain⟨k,e,_⟩:=h.rl _ _ _ r2;have a1:=h.cg _ l;have a2:=h.cg _ l2;have b:=h.cg _ k;have a:=h.cg _ e;rw[f]at a1;rw[d]at a2;rw[f1]at b;rw[g]at a;exact a2.symm.trans ((Cg.step r1 r2 (a1.trans b.symm)).trans a)
theorem Good.keep (h:Good S pend R){c d:Nat}{z:Int}(hc:c<S.made)(hd:d<S.made)(E:S.av c=c)(ed:S.av d=d)(i:Im S R c z d)(J:S.by c z=none\/S.by c z=some d)(I:S.by d (-z)=none\/S.by d (-z)=some c){f:List Way}(v:∀w∈f,w∈pend)
 (A:∀w∈pend,w∉f->S.av w.1=c/\w.2.1=z/\S.av w.2.2=d):Good (S.keep c z d) f R:=by
 have t:c<S.ways.length:=by rw[h.wf.w];exact hc
 have u:d<S.ways.length:=by rw[h.wf.w];exact hd
 have k:∀a s,(S.keep c z d).by a s=if a=d/\s= -z then some c else if a=c/\s=z then some d else S.by a s:=λa s=>by
  show ((S.bZ c z d).bZ d (-z) c).by a s=_;rw[iO (by show d<(S.ways.set c _).length;rw[abP];exact u),iO t]
 have old:∀a s b,S.by a s=some b->(S.keep c z d).by a s=some b:=λa s b e=>by
  rw[k];by_cases g:a=d/\s= -z
  ·rw[abN g];obtain⟨rfl,rfl⟩:=g;rcases I with q|q <;> rw[q]at e <;> cases e
   rfl
  ·rw[abH g];by_cases j:a=c/\s=z
   ·rw[abN j];obtain⟨rfl,rfl⟩:=j;rcases J with q|q <;> rw[q]at e <;> cases e
    rfl
   ·rw[abH j];exact e
 have el:∀a,(S.keep c z d).av a=S.av a:=λa=>rfl
 have new:∀a s b,(S.keep c z d).by a s=some b->(a=d/\s= -z/\b=c)\/(a=c/\s=z/\b=d)\/S.by a s=some b:=λa s b e=>by
  rw[k]at e;by_cases g:a=d/\s= -z
  ·rw[abN g]at e;exact .inl ⟨g.1,g.2,(Za0 e).symm⟩
  ·rw[abH g]at e;by_cases j:a=c/\s=z
   ·rw[abN j]at e;exact .inr (.inl ⟨j.1,j.2,(Za0 e).symm⟩)
   ·rw[abH j]at e;exact .inr (.inr e)
 have m:(S.keep c z d).by d (-z)=some c:=by rw[k,abN ⟨rfl,rfl⟩]
 have put2:(S.keep c z d).by c z=some d:=by
  rw[k];by_cases g:c=d/\z= -z
  ·rw[abN g,g.1]
  ·rw[abH g,abN ⟨rfl,rfl⟩]
 have n:∀(l:List (Int×Nat)) (s:Int) (r:Nat),(l.map (·.1)).Nodup->((gT l s r).map (·.1)).Nodup:=λl s r D=>by
  unfold gT;split
  ·rw[ab1]
   have:((λx:Int×Nat=>x.1) ∘ λp:Int×Nat=>if p.1=s then (p.1,r) else p)=λx=>x.1:=by
    funext p
    show (if p.1=s then (p.1,r) else p).1=p.1;split <;> rfl
   rw[this];exact D
  ·rename_i q;rw[abU];refine ab5.mpr ⟨D,by simp,λa L b H e=>q ?_⟩;obtain⟨p,v,rfl⟩:=ach.mp L;have:b=s:=by simpa using H
   exact List.any_eq_true.mpr ⟨p,v,abX (e.trans this)⟩
 refine⟨⟨?_,?_,h.wf.e,h.wf.c⟩,h.el,h.ca,h.cb,h.cn,λa=>?_,λa s b e=>?_,λa s b e=>?_,λw o=>h.pl w (v w o),h.rl,λa s b r=>?_,λa s b e=>?_,λw o=>h.sp w (v w o),h.cg⟩
 ·show ((List.set _ _ _).set _ _).length=S.made;rw[abP,abP];exact h.wf.w
 ·show ((List.set _ _ _).set _ _).length=S.made;rw[abP,abP];exact h.wf.g
 ·show ((((S.bZ c z d).bZ d (-z) c).way a).map (·.1)).Nodup;unfold RS.bZ;rw[iu (by show d<(S.ways.set c _).length;rw[abP];exact u)]
  have k1:∀a,(((S.jv c (gT (S.way c) z d)).way a).map (·.1)).Nodup:=λa=>by
   rw[iu t];split
   ·exact n _ _ _ (h.kn c)
   ·exact h.kn a
  split
  ·exact n _ _ _ (k1 d)
  ·exact k1 a
 ·rcases new a s b e with ⟨rfl,rfl,rfl⟩|⟨rfl,rfl,rfl⟩|e
  ·exact⟨hd,hc,ed,E⟩
  ·exact⟨hc,hd,E,ed⟩
  ·exact h.st a s b e
 ·rcases new a s b e with ⟨rfl,rfl,rfl⟩|⟨rfl,rfl,rfl⟩|e
  ·rw[acX];exact put2
  ·exact m
  ·exact old _ _ _ (h.sy _ _ _ e)
 ·rcases h.cv a s b r with q|⟨w,o,q⟩
  ·exact .inl (old _ _ _ q)
  ·by_cases B:w∈f
   ·exact .inr ⟨w,B,q⟩
   ·obtain⟨f1,F,C⟩:=A w o B;refine .inl ?_;show (S.keep c z d).by (S.av a) s=some (S.av b);rcases q with ⟨g,j,y⟩|⟨g,j,y⟩
    ·rw[<-g,<-j,<-y,f1,F,C];exact put2
    ·have G:s= -z:=by rw[<-F,j,acX]
     rw[<-g,<-y,f1,C,G];exact m
 ·rcases new a s b e with ⟨rfl,rfl,rfl⟩|⟨rfl,rfl,rfl⟩|e
  ·exact Im.back h i
  ·exact i
  ·exact h.so a s b e
end
theorem yI (x:Nat):∀(l b:List Nat) (a:Nat),(∀n∈l,n<b.length)->(l.foldl (λb n=>b.set n x) b).getD a 0=if a∈l then x else b.getD a 0
 |[],b,a,_=>by simp
 |n::l,b,a,h=>by
  rw[List.foldl_cons,yI x l (b.set n x) a (λm c=>by rw[abP];exact h m (abR _ c))]
  grind
theorem wR (x:Nat):∀(l a:List Nat),(l.foldl (λa n=>a.set n x) a).length=a.length
 |[],_=>rfl
 |n::l,a=>by rw[List.foldl_cons,wR x l,abP]
theorem qj {l:List (Int×Nat)}(h:eA l z=some n):(z,n)∈l:=by
 obtain⟨q,a,rfl⟩:=acz.mp h
 grind
theorem iP {l:List (Int×Nat)}(a:(l.map (·.1)).Nodup){q:Int×Nat}(h:q∈l):eA l q.1=some q.2:=by
 induction l with
 |nil=>cases h
 |cons p l b=>
  unfold eA;rw[acg,ab0]at a;by_cases e:p.1=q.1
  ·grind
  ·rw[adT (by simpa using e)];rcases abD.mp h with rfl|h
   ·exact absurd rfl e
   ·exact b a.2 h
theorem ko:∀(n:Nat) (l:List Nat),l.Nodup->(∀x∈l,x<n)->l.length<=n
 |0,[],_,_=>abr _
 |0,a::l,_,h=>absurd (h a (abA ..)) (by omega)
 |n+ 1,l,b,h=>by
  by_cases c:n∈l
  ·have:=ko n (l.erase n) (b.erase n) (λx d=>by
    grind)
   rw[adM c]at this;omega
  ·have:=ko n l b (λx d=>by
    grind)
   omega
theorem qk:∀(k l:List Int),l.Nodup->(∀x∈l,x∈k)->l.length<=k.length
 |[],[],_,_=>abr _
 |[],a::l,_,h=>by have:=h a abA;grind
 |y::k,l,b,h=>by
  by_cases c:y∈l
  ·have:=qk k (l.erase y) (b.erase y) (λx d=>by
    grind)
   rw[adM c]at this;rw[abL];omega
  ·have:=qk k l b (λx d=>by
    grind)
   rw[abL];omega
theorem Kk {pend:List Way}(g:n<S.ways.length)(i:∀a,((S.way a).map (·.1)).Nodup):∀c:List (Int×Nat),(∀q∈c,q.2<S.ways.length)->∀a,(((cE n S pend c).1.way a).map (·.1)).Nodup:=by
 refine snoc_ind (λ_ a=>?_) λc p f d a=>?_
 ·show (((S.jv n []).way a).map (·.1)).Nodup;rw[iu g];split
  ·exact ac6
  ·exact i a
 ·have b:=f (λq e=>d q (abM _ e));rw[gk];unfold iN;by_cases h:p.2≠n
  ·simp only[h,aeP,adL,ne_eq];unfold RS.nh;rw[iu (by rw[(fz n S pend c).1];exact d p (abv _ abA))];split
   ·exact List.Nodup.sublist (List.Sublist.map _ adq) (b p.2)
   ·exact b a
  ·simp only[h,aea];exact b a
section
variable {S:RS}{pend:List Way}{R:Za2}
theorem wQ.back (h:Good S pend R){b:RS}{a:List Way}(sy:∀c z d,b.by c z=some d->b.by d (-z)=some c){c d:Nat}{z:Int}(i:wQ b a c z d):wQ b a d (-z) c:=by
 rcases i with q|⟨w,j,q⟩
 ·exact .inl (sy _ _ _ q)
 ·refine .inr ⟨w,j,?_⟩;rcases q with ⟨g,e,f⟩|⟨g,e,f⟩
  ·exact .inr ⟨g,by rw[e,acX],f⟩
  ·exact .inl ⟨g,e,f⟩
theorem Good.meet (h:Good S pend R){c x y:Nat}{z:Int}(hx:S.by c z=some x)(hy:y<S.made)(ey:S.av y=y)(V4:x≠y)(iy:Im S R c z y){d:List Way}(hp:∀w∈d,w∈pend)
 (V5:∀w∈pend,w∉d->(S.av w.1=c/\w.2.1=z/\S.av w.2.2=y)\/(S.av w.1=y/\w.2.1= -z/\S.av w.2.2=c)):
 Good (S.meet c z x y d).1 (S.meet c z x y d).2 R/\(∀a,(S.meet c z x y d).1.av a=if S.av a=max x y then min x y else S.av a)/\(S.meet c z x y d).2=d++(S.way (max x y)).map (λp=>(max x y,p.1,p.2)):=by
 obtain⟨hc,hxm,ec,ex⟩:=h.st _ _ _ hx;have A:Cg R x y:=h.must (h.so _ _ _ hx) iy;have P:min x y<S.made:=by omega
 have F:max x y<S.made:=by omega
 have H:min x y<max x y:=by omega
 have T:S.av (min x y)=min x y:=by rcases aen x y with q|q;rw[ads (by omega)];exact ex;rw[adQ (by omega)];exact ey
 have O:S.av (max x y)=max x y:=by rcases aen x y with q|q;rw[aeN (by omega)];exact ey;rw[aes (by omega)];exact ex
 have L:x=min x y\/x=max x y:=by omega
 have I:y=min x y\/y=max x y:=by omega
 have j:Cg R (max x y) (min x y):=by
  rcases aen x y with q|q
  ·rw[aeN (by omega),ads (by omega)];exact A.symm
  ·rw[aes (by omega),adQ (by omega)];exact A
 unfold RS.meet;generalize max x y=v at F H O L I j ⊢;generalize min x y=u at P H T L I j ⊢;have J:v<S.ways.length:=by rw[h.wf.w];exact F
 have M:∀q∈S.way v,q.2<S.ways.length:=λq D=>by
  rw[h.wf.w];exact(h.st v q.1 q.2 (iP (h.kn v) D)).2.1
 have hP:((S.joined c z u v).ni v d)=cE v (S.joined c z u v) d (S.way v):=rfl;rw[hP];have rest:=fz v (S.joined c z u v) d (S.way v);have V6:∀a s,(S.joined c z u v).by a s=S.by a s:=λa s=>rfl
 have V:∀a s,(cE v (S.joined c z u v) d (S.way v)).1.by a s=if a=v\/S.by a s=some v then none else S.by a s:=λa s=>by
  rw[vT (S:=S.joined c z u v) J _ M,V6]
  have:(a=v\/∃q∈S.way v,q.2=a/\s= -q.1)↔(a=v\/S.by a s=some v):=by
   refine or_congr Iff.rfl ⟨?_,λe=>?_⟩
   ·rintro ⟨q,D,rfl,rfl⟩;exact h.sy _ _ _ (iP (h.kn v) D)
   ·have:=qj (h.sy _ _ _ e);exact⟨_,this,rfl,(acX s).symm⟩
  simp only[this]
 have m:(cE v (S.joined c z u v) d (S.way v)).2=d++(S.way v).map λp=>(v,p.1,p.2):=wO _ _ _ _
 have N:=Kk (S:=S.joined c z u v) (pend:=d) J h.kn (S.way v) M
 have heq:∀a,(cE v (S.joined c z u v) d (S.way v)).1.av a=if S.av a=v then u else S.av a:=λa=>by
  rw[rest.2];show ((S.b0 v).foldl (λC n=>C.set n u) S.aU).getD a 0=_;rw[yI u _ _ _ (λn hn=>by rw[h.wf.e];exact h.cb v n hn)];by_cases i:a<S.made
  ·have:=h.ca v F O a;by_cases e:S.av a=v
   ·grind
   ·rw[abH (λq=>e (this.mp q).2),abH e];rfl
  ·have Q:S.av a=0:=by unfold RS.av;rw[abt,abT (by rw[h.wf.e];omega)];rfl
   rw[abH (λq=>i (h.cb v a q)),abH (by omega)];rfl
 have k:∀e,(cE v (S.joined c z u v) d (S.way v)).1.b0 e=if e=u then S.b0 u++S.b0 v else S.b0 e:=λe=>by
  rw[rest.2];show (S.called.set u (S.b0 u++S.b0 v)).getD e []=_;rw[abt];by_cases q:e=u
  ·subst q;rw[acm (by rw[h.wf.c];exact P),abN rfl];rfl
  ·rw[acZ (acU q),abH q];unfold RS.b0;grind
 have f:(cE v (S.joined c z u v) d (S.way v)).1.made=S.made:=by rw[rest.2];rfl
 have G:(cE v (S.joined c z u v) d (S.way v)).1.Wf:=by
  refine⟨by rw[rest.1,f];exact h.wf.w,?_,?_,?_⟩
  ·rw[rest.2];exact h.wf.g
  ·rw[rest.2];show ((S.b0 v).foldl (λC n=>C.set n u) S.aU).length=S.made;rw[wR];exact h.wf.e
  ·rw[rest.2];show (S.called.set u (S.b0 u++S.b0 v)).length=S.made;rw[abP];exact h.wf.c
 generalize (cE v (S.joined c z u v) d (S.way v)).2=P2 at m ⊢;generalize (cE v (S.joined c z u v) d (S.way v)).1=g at rest V N heq k f G ⊢;refine⟨?_,heq,m⟩
 have bo:∀a s b,g.by a s=some b↔S.by a s=some b/\a≠v/\b≠v:=λa s b=>by
  grind
 have nv2:∀a,g.av (S.av a)=g.av a:=λa=>by
  rw[heq,heq];by_cases i:a<S.made
  ·rw[(h.el a i).2]
  ·have Q:∀a,¬a<S.made->S.av a=0:=λa i=>by unfold RS.av;rw[abt,abT (by rw[h.wf.e];omega)];rfl
   rw[Q a i];have:S.av 0=0:=by have:=(h.el 0 (by omega)).1;omega
   rw[this]
 have o:∀{a b},S.av a=S.av b->g.av a=g.av b:=λ{a b} e=>by grind
 have E:∀a s b,g.by a s=some b->g.by b (-s)=some a:=λa s b e=>by
  rw[bo]at e ⊢;exact⟨h.sy _ _ _ e.1,e.2.2,e.2.1⟩
 have std:∀{a},S.av a=a->g.av a=if a=v then u else a:=λ{a} e=>by rw[heq,e]
 have kept:∀p s q,S.by p s=some q->wQ g P2 (g.av p) s (g.av q):=λp s q e=>by
  obtain⟨lp,lq,ep,eq⟩:=h.st _ _ _ e;by_cases h1:p=v
  ·refine .inr ⟨(v,s,q),?_,.inl ⟨by rw[h1],rfl,rfl⟩⟩;rw[m];rw[h1]at e;exact abv _ (ach.mpr ⟨(s,q),qj e,rfl⟩)
  ·by_cases h2:q=v
   ·refine .inr ⟨(v,-s,p),?_,.inr ⟨by rw[h2],rfl,rfl⟩⟩;rw[m];have e':=h.sy _ _ _ e;rw[h2]at e';exact abv _ (ach.mpr ⟨(-s,p),qj e',rfl⟩)
   ·refine .inl ?_
    grind
 have eu2:g.av u=u:=by rw[std T,abH (by omega)]
 have V7:g.av v=u:=by rw[std O,abN rfl]
 have W:g.av x=g.av y:=by
  have l:g.av x=u:=by grind
  have t:g.av y=u:=by grind
  rw[l,t]
 have V8:∀{a b s},Im S R (S.av a) s (S.av b)->Im g R (g.av a) s (g.av b):=λ{a b s} ⟨a',b',r,e1,e2⟩=>⟨a',b',r,o e1,o e2⟩
 refine⟨G,λa i=>?_,λe he ee a=>?_,λe a i=>?_,λe=>?_,N,λa s b e=>?_,E,λw hw=>?_,λa s b r=>?_,λa s b r=>?_,λa s b e=>?_,λw hw=>?_,λa i=>?_⟩
 ·rw[f]at i;obtain⟨U,l2⟩:=h.el a i;rw[heq]
  grind
 ·rw[f]at he ⊢;rw[k];have nev:e≠v:=λz=>by rw[z,V7]at ee;omega
  by_cases q:e=u
  ·subst q;rw[abN rfl,abx,h.ca _ P T,h.ca v F O,heq]
   grind
  ·rw[abH q]
   have Q:S.av e=e:=by
    rw[heq]at ee;by_cases B:S.av e=v
    ·grind
    ·grind
   rw[h.ca e he Q,heq]
   grind
 ·rw[f];rw[k]at i;split at i
  ·rcases abx.mp i with i|i
   ·exact h.cb _ _ i
   ·exact h.cb _ _ i
  ·exact h.cb _ _ i
 ·rw[k];split
  ·refine ab5.mpr ⟨h.cn _,h.cn _,λa i b hb e=>?_⟩;have l:=((h.ca _ P T a).mp i).2;have t:=((h.ca v F O b).mp hb).2;rw[e,t]at l;omega
  ·exact h.cn _
 ·rw[bo]at e;obtain⟨U,l2,l3,X⟩:=h.st _ _ _ e.1;exact⟨by rw[f];exact U,by rw[f];exact l2,by rw[std l3,abH e.2.1],by rw[std X,abH e.2.2]⟩
 ·rw[f];rw[m]at hw;rcases abx.mp hw with hw|hw
  ·exact h.pl w (hp w hw)
  ·obtain⟨q,D,rfl⟩:=ach.mp hw;exact⟨F,(h.st v q.1 q.2 (iP (h.kn v) D)).2.1⟩
 ·rw[f];exact h.rl a s b r
 ·rcases h.cv a s b r with q|⟨w,hw,q⟩
  ·grind
  ·by_cases hm:w∈d
   ·refine .inr ⟨w,by grind,?_⟩;rcases q with ⟨l,t,B⟩|⟨l,t,B⟩
    ·exact .inl ⟨o l,t,o B⟩
    ·exact .inr ⟨o l,t,o B⟩
   ·have base:wQ g P2 (g.av c) z (g.av y):=by rw[<-W];exact kept _ _ _ hx
    have one:∀{p q:Nat},S.av p=c->S.av q=y->g.av p=g.av c/\g.av q=g.av y:=λ{p q} e1 e2=>⟨by grind,by grind⟩
    rcases V5 w hw hm with ⟨f1,Z,f3⟩|⟨f1,Z,f3⟩
    ·rcases q with ⟨l,t,B⟩|⟨l,t,B⟩
     ·grind
     ·obtain⟨g1,Y⟩:=one (l.symm.trans f1) (B.symm.trans f3);have C:s= -z:=by rw[<-Z,t,acX]
      rw[g1,Y,C];exact wQ.back h E base
    ·rcases q with ⟨l,t,B⟩|⟨l,t,B⟩
     ·obtain⟨g1,Y⟩:=one (B.symm.trans f3) (l.symm.trans f1);have C:s= -z:=by rw[<-t,Z]
      rw[g1,Y,C];exact wQ.back h E base
     grind
 ·rw[bo]at e;obtain⟨U,l2,l3,X⟩:=h.st _ _ _ e.1;have:=h.so _ _ _ e.1
  grind
 ·rw[m]at hw;rcases abx.mp hw with hw|hw
  ·exact V8 (h.sp w (hp w hw))
  ·obtain⟨q,D,rfl⟩:=ach.mp hw;have e:=iP (h.kn v) D;obtain⟨U,l2,l3,X⟩:=h.st v q.1 q.2 e;have:=h.so _ _ _ e
   grind
 ·rw[f]at i;rw[heq];split
  ·rename_i q;have:=h.cg a i;rw[q]at this;exact this.trans j
  ·exact h.cg a i
end
def RS.stand (S:RS):Nat:=(List.range S.made).countP λc=>decide (S.av c=c)
theorem kr {p p':Nat->Bool}{v:Nat}(h:∀a,p' a=(p a && decide (a≠v)))(b:p v=true):∀n,(List.range n).countP p'+ (if v<n then 1 else 0)=(List.range n).countP p
 |0=>rfl
 |n+ 1=>by
  have d:=kr h b n;rw[acY,List.countP_append,List.countP_append,<-d];rw[List.countP_singleton,List.countP_singleton,h n];by_cases e:n=v
  ·subst e;rw[b,abH (acK n),abN (acL n)];simp
  ·have:decide (n≠v)=true:=abX e;rw[this,Bool.and_true];have c:(v<n+ 1)=(v<n):=propext ⟨λ_=>by omega,λ_=>by omega⟩;simp only[c];omega
def mu (k:Nat)(S:RS)(pend:List Way):Nat:=S.stand* (k+ 1)+ pend.length
section
variable {S:RS}{pend:List Way}{R:Za2}{w:Way}{ks:List Int}
theorem Good.DM (h:Good S pend R)(g:∀c z d,R c z d->z∈ks)(c:Nat):(S.way c).length<=ks.length:=by
 have:=qk ks ((S.way c).map (·.1)) (h.kn c) (λx f=>by
  obtain⟨q,e,rfl⟩:=ach.mp f;obtain⟨a,b,r,_⟩:=h.so c q.1 q.2 (iP (h.kn c) e);exact g _ _ _ r)
 rw[abo]at this;exact this
theorem Good.MV (h:Good S pend R)(c:Nat):(S.b0 c).length<=S.made:=ko _ _ (h.cn c) λx a=>h.cb c x a
theorem Good.take (h:Good S (pend++[w]) R)(V:∀c z d,R c z d->z∈ks):Good (S.takeIn pend w).1 (S.takeIn pend w).2 R/\mu ks.length (S.takeIn pend w).1 (S.takeIn pend w).2<mu ks.length S (pend++[w])/\(S.takeIn pend w).1.made=S.made/\(S.takeIn pend w).1.L=S.L/\
 ((S.takeIn pend w).1.stand=S.stand/\(S.takeIn pend w).1.rows=S.rows/\(S.takeIn pend w).1.aY=S.aY\/(S.takeIn pend w).1.stand+ 1=S.stand/\∃c z x y,S.by c z=some x/\Im S R c z y/\y<S.made/\S.av y=y/\x≠y/\(S.takeIn pend w).1.rows=S.rows++[fP c z (min x y) (max x y)]/\(S.takeIn pend w).1.aY=S.aY++[max x y]/\∀a,(S.takeIn pend w).1.av a=if S.av a=max x y then min x y else S.av a):=by
 have hw:=h.pl w (abv _ abA);have l:=h.sp w (abv _ abA);have hc:=h.lt hw.1;have hd:=h.lt hw.2;have k:=(h.el _ hw.1).2;have ed:=(h.el _ hw.2).2;have F:∀x∈pend,x∈pend++[w]:=λx b=>abM _ b
 have last:∀x∈pend++[w],x∉pend->x=w:=λx b nx=>by
  grind
 have met:∀{c x y:Nat} {z:Int},S.by c z=some x->y<S.made->S.av y=y->x≠y->Im S R c z y->((S.av w.1=c/\w.2.1=z/\S.av w.2.2=y)\/(S.av w.1=y/\w.2.1= -z/\S.av w.2.2=c))->
  Good (S.meet c z x y pend).1 (S.meet c z x y pend).2 R/\mu ks.length (S.meet c z x y pend).1 (S.meet c z x y pend).2<mu ks.length S (pend++[w])/\(S.meet c z x y pend).1.made=S.made/\(S.meet c z x y pend).1.L=S.L/\(S.meet c z x y pend).1.stand+ 1=S.stand/\(S.meet c z x y pend).1.rows=S.rows++[fP c z (min x y) (max x y)]/\(S.meet c z x y pend).1.aY=S.aY++[max x y]/\∀a,(S.meet c z x y pend).1.av a=if S.av a=max x y then min x y else S.av a:=by
  intro c x y z b U m B Q D;obtain⟨g,J,T⟩:=h.meet b U m B Q F (λx b nx=>by rw[last x b nx];exact D);obtain⟨hc,N,k,ex⟩:=h.st _ _ _ b;have rest:=(fz (max x y) (S.joined c z (min x y) (max x y)) pend ((S.joined c z (min x y) (max x y)).way (max x y))).2
  have E:(S.meet c z x y pend).1.made=S.made:=by
   show (cE (max x y) (S.joined c z (min x y) (max x y)) pend ((S.joined c z (min x y) (max x y)).way (max x y))).1.made=_;rw[rest];rfl
  have L:(S.meet c z x y pend).1.L=S.L:=by
   show (cE (max x y) (S.joined c z (min x y) (max x y)) pend ((S.joined c z (min x y) (max x y)).way (max x y))).1.L=_;rw[rest];rfl
  have O:(S.meet c z x y pend).1.rows=S.rows++[fP c z (min x y) (max x y)]:=by
   show (cE (max x y) (S.joined c z (min x y) (max x y)) pend ((S.joined c z (min x y) (max x y)).way (max x y))).1.rows=_;rw[rest];rfl
  have M:(S.meet c z x y pend).1.aY=S.aY++[max x y]:=by
   show (cE (max x y) (S.joined c z (min x y) (max x y)) pend ((S.joined c z (min x y) (max x y)).way (max x y))).1.aY=_;rw[rest];rfl
  have I:S.av (max x y)=max x y:=by rcases aen x y with q|q;rw[aeN (by omega)];exact m;rw[aes (by omega)];exact ex
  have G:(S.meet c z x y pend).1.stand+ 1=S.stand:=by
   unfold RS.stand;rw[E]
   have:=kr (p:=λc=>decide (S.av c=c)) (p':=λa=>decide ((S.meet c z x y pend).1.av a=a)) (v:=max x y) (λa=>by
    rw[J,acV,acM,acs,acs,acs];by_cases q:S.av a=max x y
    ·rw[abN q];constructor
     ·intro e;have j:S.av (min x y)=min x y:=by rcases aen x y with q|q;rw[ads (by omega)];exact ex;rw[adQ (by omega)];exact m
      rw[e]at j;omega
     ·rintro ⟨P,j⟩;exact absurd (P.symm.trans q) j
    ·rw[abH q];exact⟨λe=>⟨e,λj=>q (by rw[j];exact I)⟩,λe=>e.1⟩) (abX I) S.made
   rw[abN (by omega)]at this;exact this
  have X:=h.DM V (max x y);refine⟨g,?_,E,L,G,O,M,J⟩;unfold mu;rw[T,<-G,abj,abj,abo,ad6,Nat.one_mul];omega
 unfold RS.takeIn;by_cases i:(S.by (S.av w.1) w.2.1).getD (S.av w.2.2)≠S.av w.2.2
 ·rw[abN i]
  cases e:S.by (S.av w.1) w.2.1 with
  |none=>rw[e]at i;exact absurd rfl i
  |some x=>
   rw[e]at i;obtain⟨A,s,r,C,n,o,u,t⟩:=met e hd ed i l (.inl ⟨rfl,rfl,rfl⟩);exact⟨A,s,r,C,.inr ⟨n,_,_,x,_,e,l,hd,ed,i,o,u,t⟩⟩
 ·rw[abH i];by_cases f:(S.by (S.av w.2.2) (-w.2.1)).getD (S.av w.1)≠S.av w.1
  ·rw[abN f]
   cases e:S.by (S.av w.2.2) (-w.2.1) with
   |none=>rw[e]at f;exact absurd rfl f
   |some x=>
    rw[e]at f;have H:=Im.back h l;obtain⟨A,s,r,C,n,o,u,t⟩:=met e hc k f H (.inr ⟨rfl,(acX _).symm,rfl⟩);exact⟨A,s,r,C,.inr ⟨n,_,_,x,_,e,H,hc,k,f,o,u,t⟩⟩
  ·rw[abH f]
   have k1:S.by (S.av w.1) w.2.1=none\/S.by (S.av w.1) w.2.1=some (S.av w.2.2):=by
    cases e:S.by (S.av w.1) w.2.1 with
    |none=>exact .inl rfl
    |some x=>rw[e]at i;exact .inr (ade some (aeb.mp i))
   have k2:S.by (S.av w.2.2) (-w.2.1)=none\/S.by (S.av w.2.2) (-w.2.1)=some (S.av w.1):=by
    cases e:S.by (S.av w.2.2) (-w.2.1) with
    |none=>exact .inl rfl
    |some x=>rw[e]at f;exact .inr (ade some (aeb.mp f))
   refine⟨h.keep hc hd k ed l k1 k2 F (λx b nx=>by rw[last x b nx];exact⟨rfl,rfl,rfl⟩),?_,rfl,rfl,.inl ⟨rfl,rfl,rfl⟩⟩;show S.stand* _+ pend.length<S.stand* _+ (pend++[w]).length;rw[abj];have:([w]:List Way).length=1:=rfl;omega
theorem Good.fin (h:Good S [] R){a b:Nat}(k:a<S.made)(i:b<S.made):S.av a=S.av b↔Cg R a b:=by
 have det:∀{a f b d:Nat} {z:Int},R a z b->R f z d->S.av a=S.av f->S.av b=S.av d:=λ{a f b d z} r1 r2 e=>by
  rcases h.cv _ _ _ r1 with q|⟨w,l,_⟩
  ·rcases h.cv _ _ _ r2 with p|⟨w,l,_⟩
   ·grind
   grind
  grind
 constructor
 ·intro e;have j:=h.cg a k;have o:=h.cg b i;rw[e]at j;exact j.trans o.symm
 ·intro c;clear k i
  induction c with
  |refl=>rfl
  |symm _ g=>exact g.symm
  |trans _ _ m n=>exact m.trans n
  |step r1 r2 _ g=>exact det r1 r2 g
theorem Good.uB (h:Good S [] R){c d:Nat}{z:Int}:S.by c z=some d↔Im S R c z d:=by
 constructor
 ·exact h.so c z d
 ·rintro ⟨a,b,r,rfl,rfl⟩;rcases h.cv _ _ _ r with q|⟨w,e,_⟩
  ·exact q
  grind
end
def eD (R:Za2)(c:Nat)(z:Int)(d:Nat):Za2:=λa s b=>R a s b\/(a=c/\s=z/\b=d)\/(a=d/\s= -z/\b=c)
theorem iw:∀a s b,R a s b->eD R n z m a s b:=λ_ _ _ r=>.inl r
theorem oK:eD R n z m n z m:=.inr (.inl ⟨rfl,rfl,rfl⟩)
theorem tL (L:Nat)(g:List Int):Good (RS.new L g) [] (λ_ _ _=>False) where
 wf:=⟨rfl,rfl,rfl,rfl⟩
 el:=λc a=>by
  have:c=0:=by have:c<1:=a;omega
  subst this;exact⟨abr _,rfl⟩
 ca:=λe f _ c=>by
  have:e=0:=by have:e<1:=f;omega
  subst this;show c∈[0]↔c<1/\(RS.new L g).av c=0
  grind
 cb:=λe c a=>by
  have:(RS.new L g).b0 e=[0]\/(RS.new L g).b0 e=[]:=by
   rcases e with _|e
   ·exact .inl rfl
   ·exact .inr rfl
  show c<1
  grind
 cn:=λe=>by
  rcases e with _|e
  ·show [0].Nodup;simp
  ·exact ac6
 kn:=λc=>by
  rcases c with _|c <;> exact ac6
 st:=λc z d h=>by
  have:(RS.new L g).by c z=none:=by rcases c with _|c <;> rfl
  grind
 sy:=λc z d h=>by
  have:(RS.new L g).by c z=none:=by rcases c with _|c <;> rfl
  grind
 pl:=λw b=>by cases b
 rl:=λ_ _ _ h=>h.elim
 cv:=λ_ _ _ h=>h.elim
 so:=λc z d h=>by
  have:(RS.new L g).by c z=none:=by rcases c with _|c <;> rfl
  grind
 sp:=λw b=>by cases b
 cg:=λc a=>by
  have:c=0:=by have:c<1:=a;omega
  subst this;exact .refl _
section
variable {S:RS}{R:Za2}
theorem Good.lay (h:Good S [] R){c d:Nat}(z:Int)(hc:c<S.made)(hd:d<S.made)(rows:List Dt):Good { S with rows:=rows } [(c,z,d)] (eD R c z d) where
 wf:=⟨h.wf.w,h.wf.g,h.wf.e,h.wf.c⟩
 el:=h.el
 ca:=h.ca
 cb:=h.cb
 cn:=h.cn
 kn:=h.kn
 st:=h.st
 sy:=h.sy
 pl:=λw f=>by rw[abp.mp f];exact⟨hc,hd⟩
 rl:=by
  rintro a s b (r|⟨rfl,rfl,rfl⟩|⟨rfl,rfl,rfl⟩)
  ·obtain⟨j,i,n⟩:=h.rl _ _ _ r;exact⟨j,i,.inl n⟩
  ·exact⟨hc,hd,.inr (.inr ⟨rfl,rfl,rfl⟩)⟩
  ·exact⟨hd,hc,.inr (.inl ⟨rfl,acX _,rfl⟩)⟩
 cv:=by
  rintro a s b (r|⟨rfl,rfl,rfl⟩|⟨rfl,rfl,rfl⟩)
  ·rcases h.cv _ _ _ r with q|⟨w,f,_⟩
   ·exact .inl q
   ·cases f
  ·exact .inr ⟨_,abA,.inl ⟨rfl,rfl,rfl⟩⟩
  ·exact .inr ⟨_,abA,.inr ⟨rfl,(acX _).symm,rfl⟩⟩
 so:=λa s b e=>by
  obtain⟨g,l,r,m,k⟩:=h.so a s b e;exact⟨g,l,.inl r,m,k⟩
 sp:=λw f=>by
  rw[abp.mp f];exact⟨c,d,oK,rfl,rfl⟩
 cg:=λa o=>(h.cg a o).mono iw
theorem eI (hw:S.Wf)(c:Nat)(z:Int)(g:List Int)(a:Nat):(S.grown c z g).av a=if a=S.made then S.made else S.av a:=by
 unfold RS.av;show (S.aU++[S.made]).getD a 0=_;rw[abt];by_cases e:a=S.made
 ·rw[abN e,e,abw (by rw[hw.e];exact abr _),hw.e,acC];rfl
 ·rw[abH e,abt];by_cases q:a<S.made
  ·rw[abu (by rw[hw.e];exact q)]
  ·rw[abT (by rw[abj,hw.e];show S.made+ 1<=a;omega),abT (by rw[hw.e];omega)]
theorem ql (hw:S.Wf)(c:Nat)(z:Int)(g:List Int)(a:Nat):(S.grown c z g).b0 a=if a=S.made then [S.made] else S.b0 a:=by
 unfold RS.b0;show (S.called++[[S.made]]).getD a []=_;rw[abt];by_cases e:a=S.made
 ·rw[abN e,e,abw (by rw[hw.c];exact abr _),hw.c,acC];rfl
 ·rw[abH e,abt];by_cases q:a<S.made
  ·rw[abu (by rw[hw.c];exact q)]
  ·rw[abT (by rw[abj,hw.c];show S.made+ 1<=a;omega),abT (by rw[hw.c];omega)]
theorem lZ (d:S.Wf)(c:Nat)(z:Int)(g:List Int)(a:Nat):(S.grown c z g).way a=S.way a:=by
 unfold RS.way;show (S.ways++[[]]).getD a []=_;rw[abt,abt];by_cases q:a<S.ways.length
 ·rw[abu q]
 ·rw[abw (by omega),abT (l:=S.ways) (by omega)];by_cases b:a - S.ways.length=0
  ·rw[b];rfl
  ·grind
theorem Good.make (h:Good S [] R){c:Nat}{z:Int}(hc:c<S.made)(A:S.av c=c)(x:S.by c z=none)(g:List Int):Good (S.make c z g) [] (eD R c z S.made):=by
 have hw:=h.wf;have d:∀a,a<S.made->(S.grown c z g).av a=S.av a:=λa m=>by rw[eI hw,abH (by omega)]
 have j:(S.grown c z g).av S.made=S.made:=by rw[eI hw,abN rfl]
 have f:∀a s,(S.grown c z g).by a s=S.by a s:=λa s=>by unfold RS.by;rw[lZ hw]
 have G:Good (S.grown c z g) [(c,z,S.made)] (eD R c z S.made):=by
  refine⟨⟨?_,?_,?_,?_⟩,λa m=>?_,λe D ee a=>?_,λe a m=>?_,λe=>?_,λa=>?_,λa s b e=>?_,λa s b e=>?_,λw hw=>?_,?_,?_,λa s b e=>?_,λw hw=>?_,λa m=>?_⟩
  ·show (S.ways++[[]]).length=S.made+ 1;rw[abj,hw.w];rfl
  ·show (S.gaps++[_]).length=S.made+ 1;rw[abj,hw.g];rfl
  ·show (S.aU++[_]).length=S.made+ 1;rw[abj,hw.e];rfl
  ·show (S.called++[_]).length=S.made+ 1;rw[abj,hw.c];rfl
  ·have t:a<S.made+ 1:=m;by_cases e:a=S.made
   ·rw[e,j];exact⟨abr _,j⟩
   ·have o:a<S.made:=by omega
    rw[d a o];obtain⟨l,k⟩:=h.el a o;exact⟨l,by rw[d _ (by omega)];exact k⟩
  ·have B:e<S.made+ 1:=D;show _↔a<S.made+ 1/\_;rw[ql hw,eI hw];by_cases q:e=S.made
   ·subst q;rw[abN rfl,abp];constructor
    ·rintro rfl;exact⟨by omega,by grind⟩
    ·rintro ⟨l,k⟩;by_cases n:a=S.made
     ·exact n
     ·rw[abH n]at k;have:=(h.el a (by omega)).1;omega
   ·have o:e<S.made:=by omega
    rw[d e o]at ee;rw[abH q,h.ca e o ee a]
    grind
  ·show a<S.made+ 1;rw[ql hw]at m;split at m
   ·rw[abp.mp m];omega
   ·exact acS (h.cb e a m)
  ·rw[ql hw];split
   ·simp
   ·exact h.cn e
  ·rw[lZ hw];exact h.kn a
  ·rw[f]at e;obtain⟨l,k,n,C⟩:=h.st a s b e;exact⟨acS l,acS k,by rw[d a l];exact n,by rw[d b k];exact C⟩
  ·rw[f]at e ⊢;exact h.sy a s b e
  ·rw[abp.mp hw];exact⟨acS hc,acL _⟩
  ·rintro a s b (r|⟨rfl,rfl,rfl⟩|⟨rfl,rfl,rfl⟩)
   ·obtain⟨l,k,n⟩:=h.rl _ _ _ r;exact⟨acS l,acS k,.inl n⟩
   ·exact⟨acS hc,acL _,.inr (.inr ⟨rfl,rfl,rfl⟩)⟩
   ·exact⟨acL _,acS hc,.inr (.inl ⟨rfl,acX _,rfl⟩)⟩
  ·rintro a s b (r|⟨rfl,rfl,rfl⟩|⟨rfl,rfl,rfl⟩)
   ·obtain⟨l,k,_⟩:=h.rl _ _ _ r;rcases h.cv _ _ _ r with q|⟨w,hw,_⟩
    ·exact .inl (by rw[d a l,d b k,f];exact q)
    ·cases hw
   ·exact .inr ⟨_,abA,.inl ⟨rfl,rfl,rfl⟩⟩
   ·exact .inr ⟨_,abA,.inr ⟨rfl,(acX _).symm,rfl⟩⟩
  ·rw[f]at e;obtain⟨u,v,r,p,y⟩:=h.so a s b e;obtain⟨l,k,_⟩:=h.rl _ _ _ r;exact⟨u,v,.inl r,by rw[d u l];exact p,by rw[d v k];exact y⟩
  ·rw[abp.mp hw];exact⟨c,S.made,oK,rfl,rfl⟩
  ·have t:a<S.made+ 1:=m;by_cases e:a=S.made
   ·rw[e,j];exact .refl _
   ·rw[d a (by omega)];exact(h.cg a (by omega)).mono iw
 have p:(S.grown c z g).av c=c:=by rw[d c hc];exact A
 have i:=G.sp _ abA;rw[show (c,z,S.made).1=c from rfl,show (c,z,S.made).2.2=S.made from rfl,p,j]at i;refine G.keep (acS hc) (acL _) p j i (.inl (by rw[f];exact x)) (.inl ?_) (λw hw=>by cases hw) (λw hw _=>by rw[abp.mp hw];exact⟨p,rfl,j⟩);rw[f]
 cases e:S.by S.made (-z) with
 |none=>rfl
 |some b=>have:=(h.st _ _ _ e).1;omega
end
def UX (n:Nat)(s:Int):Za2:=λa z b=>(z=s/\b=a+ 1/\b<n)\/(z= -s/\a=b+ 1/\a<n)
inductive QK (x:V) (y:V) (H:Hp) (Q:VK):Prop
 |mk (a b:Addr) (xs:List V) (t:Str):x=.ref a->y=.ref b->H a=some (.tup xs)->H b=some (.tup [.str t])->(xs=[]\/(∃n,xs=[.int n])\/∃t',xs=[.str t'])->Q (.bl (decide (xs=[V.str t]))) H->QK x y H Q
section
variable {X:Cx}
theorem BQ {z v:Str}{scope:Scope}(l:closureFor scope X.env=pure [(f,c),(z,d),(v,a)])(J:X.env.cells.lookup f=some c)(L:X.env.cells.lookup z=some d)(I:X.env.cells.lookup v=some a)(y:∀q∈scope.names,q.2≠.cell)(H:scope.kind=.function)
 (C:∀q∈scope.names,q.2=.local->scope.names.lookup q.1=some .local) (F:scope.names.lookup x=some .local) (e:∀q∈scope.names,q.2=.free->q.1=f\/q.1=z\/q.1=v) (b:(x≠f/\x≠z/\x≠v)/\f≠z/\f≠v/\z≠v) (E:X.N[i]?=some f) (G:X.N[j]?=some z) (D:X.N[n]?=some v)
 (o:X.env.kindOf f=some .cell) (p:X.env.kindOf z=some .cell) (m:X.env.kindOf v=some .cell) (g:X.env.scope.kind=.function) (t:scope.names.lookup f=some .free) (r:scope.names.lookup z=some .free) (s:scope.names.lookup v=some .free):dS X x [f,z,v] [i,j,n] scope [(f,c),(z,d),(v,a)] where
 yl:=l
 sub:=λw q h=>by
  grind
 cell:=y
 kind:=H
 names:=C
 own:=F
 has:=λw h=>by
  have B:w=f\/w=z\/w=v:=by
   rcases h with h|h
   ·exact e _ (fN h (.inl rfl) y) rfl
   ·exact e _ (fN h (.inr rfl) y) rfl
  grind
 nd:=by simp[b.1.1,b.1.2.1,b.1.2.2,b.2.1,b.2.2.1,b.2.2.2]
 len:=rfl
 at_:=λk w h=>by
  match k,h with
  |0,h=>
   have a:f=w:=by simpa using h
   subst a;exact⟨i,rfl,E,.inl o,c,by simp[adv],.inl (cx g o t)⟩
  |1,h=>
   have a:z=w:=by simpa using h
   subst a;have A:(z==f)=false:=abG.mpr (λq=>b.2.1 q.symm);exact⟨j,rfl,G,.inl p,d,by simp[adv,A],.inl (cx g p r)⟩
  |2,h=>
   have B:v=w:=by simpa using h
   subst B;have A:(v==f)=false:=abG.mpr (λq=>b.2.2.1 q.symm);have u:(v==z)=false:=abG.mpr (λq=>b.2.2.2 q.symm);exact⟨n,rfl,D,.inl m,a,by simp[adv,A,u],.inl (cx g m s)⟩
  |k+ 3,h=>simp at h
end
end L2
namespace L2
theorem oM {a z:TS}(h:let b:TS:=z;aP a b G D H):(aP a z) G D H:=h
theorem cX {b a z:TS}(h:let d:TS:=z;let c:TS:=aP a d;aP b c G D H):(aP b (aP a z)) G D H:=h
theorem fF {c b a z:TS}(h:let e:TS:=z;let f:TS:=aP a e;let d:TS:=aP b f;aP c d G D H):(aP c (aP b (aP a z))) G D H:=h
theorem yJ {d b a c z:TS}(h:let e:TS:=z;let g:TS:=aP c e;let i:TS:=aP a g;let f:TS:=aP b i;aP d f G D H):(aP d (aP b (aP a (aP c z)))) G D H:=h
theorem tM {e c b d a z:TS}(h:let g:TS:=z;let f:TS:=aP a g;let j:TS:=aP d f;let k:TS:=aP b j;let i:TS:=aP c k;aP e i G D H):(aP e (aP c (aP b (aP d (aP a z))))) G D H:=h
theorem tN {f d c e a b z:TS}(h:let i:TS:=z;let j:TS:=aP b i;let g:TS:=aP a j;let l:TS:=aP e g;let m:TS:=aP c l;let k:TS:=aP d m;aP f k G D H):(aP f (aP d (aP c (aP e (aP a (aP b z)))))) G D H:=h
theorem yK {g d c f a b e z:TS}(h:let l:TS:=z;let n:TS:=aP e l;let m:TS:=aP b n;let k:TS:=aP a m;let o:TS:=aP f k;let j:TS:=aP c o;let i:TS:=aP d j;aP g i G D H):(aP g (aP d (aP c (aP f (aP a (aP b (aP e z))))))) G D H:=h
theorem Ga {i d c g a b f e z:TS}(h:let o:TS:=z;let m:TS:=aP e o;let p:TS:=aP f m;let n:TS:=aP b p;let l:TS:=aP a n;let q:TS:=aP g l;let k:TS:=aP c q;let j:TS:=aP d k;aP i j G D H):(aP i (aP d (aP c (aP g (aP a (aP b (aP f (aP e z)))))))) G D H:=h
theorem Gb {j d c i a b g e f z:TS}(h:let l:TS:=z;let q:TS:=aP f l;let o:TS:=aP e q;let r:TS:=aP g o;let p:TS:=aP b r;let n:TS:=aP a p;let s:TS:=aP i n;let m:TS:=aP c s;let k:TS:=aP d m;aP j k G D H):(aP j (aP d (aP c (aP i (aP a (aP b (aP g (aP e (aP f z))))))))) G D H:=h
theorem DN {l f e k c d j g i a z:TS}(h:let b:TS:=z;let n:TS:=aP a b;let s:TS:=aP i n;let q:TS:=aP g s;let t:TS:=aP j q;let r:TS:=aP d t;let p:TS:=aP c r;let u:TS:=aP k p;let o:TS:=aP e u;let m:TS:=aP f o;aP l m G D H):(aP l (aP f (aP e (aP k (aP c (aP d (aP j (aP g (aP i (aP a z)))))))))) G D H:=h
theorem args_is1 {b:Type}:∀{us:List b},us.length=1->∃a,us=[a]
 |[a],_=>⟨a,rfl⟩
theorem args_is2 {c:Type}:∀{us:List c},us.length=2->∃b a,us=[b,a]
 |[b,a],_=>⟨b,a,rfl⟩
theorem args_is3 {d:Type}:∀{us:List d},us.length=3->∃b a c,us=[b,a,c]
 |[b,a,c],_=>⟨b,a,c,rfl⟩
theorem args_is4 {e:Type}:∀{us:List e},us.length=4->∃d c a b,us=[d,c,a,b]
 |[d,c,a,b],_=>⟨d,c,a,b,rfl⟩
theorem args_is5 {f:Type}:∀{us:List f},us.length=5->∃e d a c b,us=[e,d,a,c,b]
 |[e,d,a,c,b],_=>⟨e,d,a,c,b,rfl⟩
theorem args_is6 {g:Type}:∀{us:List g},us.length=6->∃f e a c b d,us=[f,e,a,c,b,d]
 |[f,e,a,c,b,d],_=>⟨f,e,a,c,b,d,rfl⟩
structure dR (S:RS) (R:Za2) (ks:List Int):Prop where
 sub:∀c,c<S.made->(S.gap c).Sublist ks
 im:∀c,c<S.made->S.av c=c->∀z∈ks,z∉S.gap c->∃d,Im S R c z d
 by_:∀c z d,S.by c z=some d->z∉S.gap c
section
variable {S:RS}{pend:List Way}{R:Za2}{ks:List Int}
theorem iQ {x:Nat}(a:n<S.gaps.length):(S.km n z).gap x=if x=n then (S.gap n).filter (λy=>decide (y≠z)) else S.gap x:=by
 unfold RS.km RS.setG RS.gap
 grind
theorem wU:(S.km n z).gaps.length=S.gaps.length:=by
 exact abP ..
theorem oN {x:Nat}(b:n<S.gaps.length)(c:m<S.gaps.length):y∈(S.keep n z m).gap x↔y∈S.gap x/\¬(x=n/\y=z)/\¬(x=m/\y= -z):=by
 unfold RS.keep;have a:∀x,((S.bZ n z m).bZ m (-z) n).gap x=S.gap x:=λx=>rfl
 rw[iQ (by rw[wU];exact c),iQ (by exact b),iQ (by exact b),a,a,a]
 grind
theorem qm {x:Nat}(c:n<S.gaps.length)(e:m<S.gaps.length):((S.keep n z m).gap x).Sublist (S.gap x):=by
 unfold RS.keep;have b:∀x,((S.bZ n z m).bZ m (-z) n).gap x=S.gap x:=λx=>rfl
 rw[iQ (by rw[wU];exact e),iQ (by exact c),iQ (by exact c),b,b,b];by_cases d:x=m
 ·subst d;rw[abN rfl];by_cases a:x=n
  ·subst a;rw[abN rfl];exact List.Sublist.trans adq adq
  ·rw[abH a];exact adq
 ·rw[abH d];by_cases a:x=n
  ·subst a;rw[abN rfl];exact adq
  grind
theorem AG {x:Nat}(b:n<S.ways.length)(a:m<S.ways.length):(S.keep n z m).by x y=if x=m/\y= -z then some n else if x=n/\y=z then some m else S.by x y:=by
 show (((S.bZ n z m).bZ m (-z) n)).by x y=_;rw[iO (by unfold RS.bZ RS.jv;rw[abP];exact a),iO b]
theorem dR.keep (h:dR S R ks)(g:Good S pend R){c d:Nat}{z:Int}(hc:c<S.made)(hd:d<S.made)(i:Im S R c z d):dR (S.keep c z d) R ks:=by
 have b:c<S.gaps.length:=by rw[g.wf.g];exact hc
 have j:d<S.gaps.length:=by rw[g.wf.g];exact hd
 refine⟨λx a=>(qm b j).trans (h.sub x a),λx a ex y p m=>?_,λx y e k=>?_⟩
 ·rw[oN b j]at m;by_cases l:x=c/\y=z
  ·rw[l.1,l.2];exact⟨d,i⟩
  ·by_cases f:x=d/\y= -z
   ·rw[f.1,f.2];exact⟨c,i.back g⟩
   ·exact h.im x a ex y p λq=>m ⟨q,l,f⟩
 ·rw[AG (by rw[g.wf.w];exact hc) (by rw[g.wf.w];exact hd)]at k;rw[oN b j];rintro ⟨q,o,n⟩;rw[abH n,abH o]at k;exact h.by_ x y e k q
theorem Ge {x:Nat}:(S.meet n z x m pend).1.gaps=S.gaps:=by
 have:=(fz (max x m) (S.joined n z (min x m) (max x m)) pend ((S.joined n z (min x m) (max x m)).way (max x m))).2;have:=ade RS.gaps this;exact this
theorem dR.meet (h:dR S R ks)(g:Good S pend R){c x y:Nat}{z:Int}(v:S.by c z=some x)(I:y<S.made)(E:S.av y=y)(u:x≠y){d:List Way}
 (made:(S.meet c z x y d).1.made=S.made) (av:∀a,(S.meet c z x y d).1.av a=if S.av a=max x y then min x y else S.av a):dR (S.meet c z x y d).1 R ks:=by
 have k:∀a,(S.meet c z x y d).1.gap a=S.gap a:=λa=>by unfold RS.gap;rw[Ge]
 obtain⟨_,w,_,ex⟩:=g.st _ _ _ v;have l:max x y<S.made:=by rcases aeM x y with q|q <;> omega
 have fV:∀a,a<S.made->(S.meet c z x y d).1.av a=a->S.av a=a/\a≠max x y:=λa i e=>by
  rw[av]at e;have o:=(g.el a i).1;by_cases q:S.av a=max x y
  ·rw[abN q]at e;omega
  ·grind
 refine⟨λa i=>by rw[k];exact h.sub a (by rw[<-made];exact i),λa i D s p m=>?_,λa s b B=>?_⟩
 ·rw[k]at m;obtain⟨C,H⟩:=fV a (by rw[<-made];exact i) D;obtain⟨b,n,A,r,G,F⟩:=h.im a (by rw[<-made];exact i) C s p m;exact⟨_,n,A,r,by grind,rfl⟩
 ·rw[k]
  have j:∀q∈(S.joined c z (min x y) (max x y)).way (max x y),q.2<(S.joined c z (min x y) (max x y)).ways.length:=λq t=>by
   show q.2<S.ways.length;rw[g.wf.w];exact(g.st _ _ _ (iP (g.kn (max x y)) t)).2.1
  have f:(cE (max x y) (S.joined c z (min x y) (max x y)) d ((S.joined c z (min x y) (max x y)).way (max x y))).1.by a s=some b:=B;rw[vT (by show max x y<S.ways.length;rw[g.wf.w];exact l) _ j]at f;split at f
  ·cases f
  ·exact h.by_ a s b f
theorem wV {x:Nat}:(S.meet n z x m pend).1.made=S.made:=by
 have:=(fz (max x m) (S.joined n z (min x m) (max x m)) pend ((S.joined n z (min x m) (max x m)).way (max x m))).2;have:=ade RS.made this;exact this
theorem dR.take {w:Way}(hG:dR S R ks)(h:Good S (pend++[w]) R):dR (S.takeIn pend w).1 R ks:=by
 have hw:=h.pl w (abv _ abA);have d:=h.sp w (abv _ abA);have hc:=h.lt hw.1;have hd:=h.lt hw.2;have i:=(h.el _ hw.1).2;have ed:=(h.el _ hw.2).2;have g:∀x∈pend,x∈pend++[w]:=λx b=>abM _ b
 have last:∀x∈pend++[w],x∉pend->x=w:=λx b nx=>by
  grind
 unfold RS.takeIn;by_cases c:(S.by (S.av w.1) w.2.1).getD (S.av w.2.2)≠S.av w.2.2
 ·rw[abN c]
  cases e:S.by (S.av w.1) w.2.1 with
  |none=>grind
  |some x=>
   rw[e]at c;obtain⟨_,f,_⟩:=h.meet e hd ed c d g (λx b nx=>by rw[last x b nx];exact .inl ⟨rfl,rfl,rfl⟩);exact hG.meet h e hd ed c wV f
 ·rw[abH c];by_cases a:(S.by (S.av w.2.2) (-w.2.1)).getD (S.av w.1)≠S.av w.1
  ·rw[abN a]
   cases e:S.by (S.av w.2.2) (-w.2.1) with
   |none=>rw[e]at a;exact absurd rfl a
   |some x=>
    rw[e]at a;obtain⟨_,f,_⟩:=h.meet e hc i a (d.back h) g (λx b nx=>by rw[last x b nx];exact .inr ⟨rfl,(acX _).symm,rfl⟩);exact hG.meet h e hc i a wV f
  ·rw[abH a];exact hG.keep h hc hd d
theorem dR.more {e:Za2}(h:dR S R ks)(m:∀a z b,R a z b->e a z b):dR S e ks:=⟨h.sub,λc hc k z hz i=>by
 obtain⟨d,g,l,r,j,f⟩:=h.im c hc k z hz i;exact⟨d,g,l,m _ _ _ r,j,f⟩,h.by_⟩
theorem dR.rows (h:dR S R ks)(rows:List Dt):dR { S with rows:=rows } R ks:=⟨h.sub,h.im,h.by_⟩
theorem Kl (L:Nat)(g:List Int):dR (RS.new L g) (λ_ _ _=>False) g:=by
 refine⟨λc a=>?_,λc a _ z f b=>?_,λc z d e=>?_⟩
 ·have a:c<1:=a;rw[show c=0 by omega];exact List.Sublist.refl _
 ·have a:c<1:=a;rw[show c=0 by omega]at b;exact absurd f b
 ·have:(RS.new L g).by c z=none:=by rcases c with _|c <;> rfl
  grind
theorem dR.make (h:dR S R ks)(g:Good S [] R){c:Nat}{z:Int}(hc:c<S.made)(G:S.av c=c)(J:S.by c z=none):dR (S.make c z ks) (eD R c z S.made) ks:=by
 have p:∀x,(S.grown c z ks).gap x=if x=S.made then ks else S.gap x:=λx=>by
  unfold RS.gap;show (S.gaps++[ks]).getD x []=_;rw[abt,abt];by_cases i:x=S.made
  ·subst i;rw[abN rfl,abw (by rw[g.wf.g];exact abr _),g.wf.g,acC];rfl
  ·rw[abH i];by_cases F:x<S.gaps.length
   ·rw[abu F]
   ·have:=g.wf.g;rw[abw (by omega),abT (by rw[acr];omega),abT (by omega)]
 have C:∀x y,(S.grown c z ks).by x y=S.by x y:=λx y=>by unfold RS.by;rw[lZ g.wf]
 have l:c<(S.grown c z ks).gaps.length:=by show c<(S.gaps++[ks]).length;rw[abj,g.wf.g];omega
 have m:S.made<(S.grown c z ks).gaps.length:=by show S.made<(S.gaps++[ks]).length;rw[abj,g.wf.g,acr];omega
 have t:c<(S.grown c z ks).ways.length:=by show c<(S.ways++[[]]).length;rw[abj,g.wf.w];omega
 have u:S.made<(S.grown c z ks).ways.length:=by show S.made<(S.ways++[[]]).length;rw[abj,g.wf.w,acr];omega
 have ee:∀x,(S.make c z ks).av x=if x=S.made then S.made else S.av x:=λx=>eI g.wf c z ks x
 have j:∀a s b,S.by a s=some b->a≠S.made:=λa s b e q=>by have:=(g.st _ _ _ e).1;omega
 refine⟨λx i=>?_,λx i ex y w f=>?_,λx y e n=>?_⟩
 ·refine(qm l m).trans ?_;rw[p];by_cases q:x=S.made
  ·grind
  ·rw[abH q];have i:x<S.made+ 1:=i;exact h.sub x (by omega)
 ·have f:y∉((S.grown c z ks).keep c z S.made).gap x:=f;rw[oN l m,p]at f;by_cases v:x=c/\y=z
  ·refine⟨S.made,c,S.made,by rw[v.2];exact oK,?_,?_⟩
   ·grind
   grind
  ·by_cases o:x=S.made/\y= -z
   ·refine⟨c,S.made,c,by rw[o.2];exact .inr (.inr ⟨rfl,rfl,rfl⟩),?_,?_⟩
    ·rw[ee,abN rfl,o.1]
    ·rw[ee,abH (by omega)];exact G
   ·by_cases q:x=S.made
    ·rw[abN q]at f;exact absurd ⟨w,v,o⟩ f
    ·rw[abH q]at f;have i:x<S.made+ 1:=i;rw[ee,abH q]at ex;obtain⟨d,A,H,r,I,E⟩:=h.im x (by omega) ex y w λk=>f ⟨k,v,o⟩
     have L:=g.rl _ _ _ r;exact⟨d,A,H,.inl r,by rw[ee,abH (by omega)];exact I,by rw[ee,abH (by omega)];exact E⟩
 ·have n:((S.grown c z ks).keep c z S.made).by x y=some e:=n;rw[AG t u,C]at n;show y∉((S.grown c z ks).keep c z S.made).gap x;rw[oN l m,p];rintro ⟨q,D,B⟩;rw[abH B,abH D]at n;rw[abH (j _ _ _ n)]at q;exact h.by_ x y e n q
theorem dR.fin (h:dR S R ks)(g:Good S [] R)(nd:ks.Nodup){c:Nat}(hc:c<S.made)(j:S.av c=c):S.gap c=ks.filter λz=>(S.by c z).isNone:=by
 have sl:∀{l k:List Int},l.Sublist k->k.Nodup->l=k.filter λz=>decide (z∈l):=λ{l k} s=>by
  induction s with
  |slnil=>intro _;rfl
  |cons a s b=>
   grind
  |cons_cons a s b=>
   intro f;have m:=ab0.mp f;rw[aeu (by simp)]
   congr 1
   conv=>lhs;rw[b m.2]
   refine aeF λz hz=>?_
   grind
 rw[sl (h.sub c hc) nd];refine aeF λz hz=>?_
 cases e:S.by c z with
 |some d=>
  have:=h.by_ c z d e;simp[this]
 |none=>
  by_cases q:z∈S.gap c
  ·simp[q]
  ·obtain⟨d,i⟩:=h.im c hc j z hz q;have:=g.uB.mpr i
   grind
end
end L2
namespace L2
open PySem PySem.Spec PyProof.Rows
structure Fly (B:Heap) (l:List Env) (x:Addr) (cls a0:Value) (h:Heap):Prop where
 stays:B.StaysIn h
 new:B.get? x=none
 aaw:h.FunFrames B l
 tr:∃fl,h.TracedAtW B x cls a0 fl
theorem Km {tg:Expr}(d it:Addr)(o:Obj)(m:Array DictEntry)(ep:Nat)(a:List (Key×V))(A:o.data=.dict m ep):Turn P w K tg (yD d o a) [it] it (λi h=>h.IsKeyIter it d i m.size ep) where
 mem:=by simp
 obj:=λi h st b n=>by
  have e:b=it:=by simpa using n
  subst e;obtain⟨o,e,c,d⟩:=st
  grind
 keep:=λi h y st k=>st.at λo e=>k it (by simp) o e
 item:=by
  intro X T S O hc i g s σ H E I z st hg;subst T S O;obtain⟨B,Y⟩:=hg;obtain⟨f,-,MX,M,rel,o2,D,Q,v,Z,r,h4,C,h6⟩:=I.aO d _ Y;rw[f]at v;obtain rfl:=Za0 v;rw[A]at r;injection r with W N
  subst W N;have hv:=qi C rel;have j:=pairs_len C;have p:a.length=M.length:=KV.length rel;have R:m.size=a.length:=by rw[<-ac4,j,p]
  have l:m[i]?=some (m[i]'(by omega)):=Array.getElem?_eq_getElem (by omega)
  generalize m[i]'(by omega)=en at l;have t:a[i]?=some (a[i]'B):=abm B
  generalize a[i]'B=G at t;obtain⟨u0,u,rk⟩:=hv.get (i:=i) (x:=kV G.1) (by grind);rw[aby,adX,l]at u;obtain rfl:en.key=u0:=Za0 u;obtain⟨J,f1,f2,F,L,U⟩:=z it (by simp);refine Dk.item st ⟨_,f,Z,A⟩ l λy q sb=>?_
  have I1:Inv X g σ H { s with heap:=y }:=I.turned (t':=s.toks) (λb o n e=>(sb.2 b n).trans e) J f1 F L U;obtain⟨oi,e,c,dd⟩:=id q;exact⟨_,rfl,xV (s:={ s with heap:=y }) e c dd (by decide) ⟨kV G.1,H,I1,rk,⟨rfl,G,t,rfl⟩,q,λb n=>(z b n).1⟩⟩
 done:=by
  intro X T S O hc i g s σ H E I z st hg;subst T S O;obtain⟨B,Y⟩:=hg;obtain⟨f,-,MX,M,rel,o2,D,Q,v,Z,r,h4,C,h6⟩:=I.aO d _ Y;rw[f]at v;obtain rfl:=Za0 v;rw[A]at r;injection r with W N
  subst W N;have j:=pairs_len C;have p:a.length=M.length:=KV.length rel;have R:m.size=a.length:=by rw[<-ac4,j,p]
  obtain⟨J,f1,f2,F,L,U⟩:=z it (by simp);exact Dk.fin (I.ok.hd hc) st ⟨_,f,Z,A⟩ (aey (by omega)) λy eb=>⟨rfl,I.turned (t':=s.toks) (λb o n e=>eb b o n e) J f1 F L U⟩
 self:=λ_ _ _ _ _ st h=>wpAny_pyIter_keyiter st h
section
variable {X:Cx}{tg:Expr}
def V9 (tl:TE):TI:=λ c H R=>tl c H λx b=>∃d a,x=.ref d/\b d=some (.dK a)/\∀o,R (yD d o a) (upd b d (.cQ o (.dK a)))
theorem QL {tl:TE}(r:PE X e tl):PI X tg e (V9 tl):=by
 intro c s B H R I h;refine a8 (r c s B H _ I h) λu s1 ⟨x,G,f,y,d,i,ex,m,q⟩=>?_
 subst ex;cases y;obtain⟨-,j,F,rel,o,l,k,p,A,n,J,L,E⟩:=f.aO d _ m;refine Dk.iter j ⟨o,p,A,n⟩ ?_;have t:=(f.freeze m True.intro p).kept (h':=s1.heap.push { cls:=.type "dict_keyiterator",data:=.fields #[.ref d,.int 0 0,.int l.size 0,.int k 0] }) (t':=s1.toks) λb o a=>abl _ a
 have T:=Km (P:=X.prog) (w:=X.w) (K:=X.K) (tg:=tg) d s1.heap.objs.size o l k i n;refine⟨_,_,_,_,_,rfl,t,T,⟨_,abF _ rfl,rfl,rfl⟩,λb v=>?_,q o⟩;rw[abp.mp v];have g:=f.aO.fresh (abr s1.heap.objs.size);exact f.mP (abr _) (by rw[ak (λz=>by grind)];exact g)
end
theorem MY {o:Obj}{kvs:List (Key×V)}{g:TG}{l:TS}(a:Nat->St->Hp->Prop)(A:a 0 D H)(s:∀i D H,i<=kvs.length->a i D H->H d=some (.cQ o (.dK kvs)))
 (t:∀i j D H,kvs[i]?=some j->a i D H->g (kV j.1) D H λ b k=>l { G with nx:=a (i+ 1),ct:=a (i+ 1),bk:=G.nx } b k) (w:∀ D H,a kvs.length D H->G.nx D H):
 ∃W:Nat->Nat->St->Hp->Prop,(∃m,W 0 m D H)/\∀i m D H,W i m D H->
  ((yD d o kvs).stop i H/\G.nx D H)\/((yD d o kvs).go i H/\∃N:St->Hp->Prop,(∀ c f,N c f->∃n,n<m/\W (i+ 1) n c f)/\∀x f,(yD d o kvs).kc i H x f->g x D f λ b k=>l { G with nx:=N,ct:=N,bk:=G.nx } b k):=by
 refine⟨λi m D H=>m=kvs.length - i/\i<=kvs.length/\a i D H,⟨kvs.length,by simp,abS _,A⟩,?_⟩;rintro i m D H ⟨rfl,u,p⟩;have q:=s i D H u p;by_cases h:i<kvs.length
 ·refine .inr ⟨⟨h,q⟩,a (i+ 1),λ c f r=>⟨kvs.length - (i+ 1),by omega,rfl,h,r⟩,λx f y=>?_⟩;obtain⟨rfl,j,z,rfl⟩:=y;exact t i j D _ z p
 ·have e:i=kvs.length:=by omega
  subst e;exact .inl ⟨⟨abr _,q⟩,w D H p⟩
inductive Rx (a:Addr) (y z:V) (H:Hp) (Q:VK):Prop
 |mk (kvs:List (Key×V)) (k:Key):H a=some (.dK kvs)->y=kV k->kvs.length<sizeLine->(∀v,bp kvs k=some v->Q v H)->(bp kvs k=none->Q z (upd H a (.dK (putK kvs k z))))->Rx a y z H Q
def QM (td d tx:TE):TE:=λ b H Q=>td b H λx c=>Aw x c λa=>d b c λy e=>tx b e λz f=>Rx a y z f Q
section
variable {X:Cx}{o e f:Expr}{apos ck:Pos}{td ty tx:TE}
theorem l0 (P:PE X o td)(r:PE X e ty)(O:PE X f tx)(m:M2 X o "setdefault" apos e f ck):PE X (.Call (.Attribute o "setdefault" apos) [e,f] [] ck) (QM td ty tx):=by
 intro c s p H Q I h;refine adI m.base m.few m.line acE adi PySem.F.type_dict_setdefault (a8 (P c s p H _ I h) λu S ⟨x,Y,B,rx,a,ex,d,R⟩=>?_);subst ex;obtain rfl:u=Value.ref a:=rx;obtain⟨t1,t2,_⟩:=kQ B d;refine⟨t1,t2,?_⟩;rw[m.trees]
 refine acu rfl (ac0 (acq (a8 (r c S p Y _ B R) λiv Z ⟨y,W,T,ry,G⟩=>
  acq (a8 (O c Z p W _ T G) λJ s3 ⟨z,H3,t,D,g,k,C,L,F,q3,q4⟩=>ac5 ?_))))
 subst L;obtain⟨hz,E,A,rel,w⟩:=rK t.aO C;have b:=rel.val k;have j:A.length<=sizeLine:=by rw[<-rel.length];exact hz
 refine adN adi w.typeIs PySem.F.entry_dict_setdefault (PySem.F.args_dict_setdefault_3 _ _ _) (kt_meets_setdefault (bR X.prog X.w) a (i9 ry) E J) ⟨A,w,j,λv N=>?_,λM g1 i sb=>?_⟩
 ·rw[N]at b
  cases l:bp g k with
  |none=>rw[l]at b;exact b.elim
  |some n=>
   rw[l]at b;exact⟨n,H3,t.tok _,b,q3 n l⟩
 ·rw[M]at b
  cases l:bp g k with
  |some n=>rw[l]at b;exact b.elim
  |none=>
   have U:(putK g k z).length<=sizeLine:=by have:=fO g k z;omega
   have r:∃q,g1.get? a=some q:=let ⟨q,_,_,V,_⟩:=i;⟨q,V⟩
   exact⟨z,_,jt t (by rw[C];exact True.intro) sb r (qb U E (rel.put k D) i),D,q4 l⟩
end
namespace Di
section
variable {prog:Program}{w:World}{A:Around}{E:Value->Shared->Prop}{s:Shared}{d:Addr}{es:Array DictEntry}{ep:Nat}
theorem meets (d:Addr)(b:(d==sysModules)=false):MeetsIn prog w (Builtin.«dict.items» ⟨[.ref d],[]⟩) (λ_ R s=>(∃es ep,dI s.heap d es ep)/\R (.ok (.ret (.ref s.heap.objs.size))) { s with heap:=s.heap.push { cls:=.type "dict_items",data:=.fields #[.ref d] } }):=
 .of_wp λA R s ⟨⟨es,ep,a⟩,h⟩=>by
  refine abi ?_;refine abi (ad4 (Dk.typ a) ?_);refine abq ?_;unfold Builtin.Dict.showsAll;rw[abH (by rw[b];decide)];exact abi (abq (abi (ab4 (abq ⟨_,rfl,h⟩))))
theorem iter (e:s.heap.IsItemsView a d)(h:dI s.heap d es ep)
 (i:Q (.ref s.heap.objs.size) { s with heap:=s.heap.push { cls:=.type "dict_itemiterator",data:=.fields #[.none,.bool false,.ref d,.int 0 0,.int es.size 0,.int ep 0,.none,.none] } }):wpAny (model prog w) A (pyIter (.ref a)) Q E s:=by
 obtain⟨l,c,j,f⟩:=id e;obtain⟨o,g,k,b⟩:=id h;refine wpAny_pyIter_slot e.typeIs F.slot_dict_items_iter (acp F.slot_dict_items_iter e.typeIs F.entry_dict_items_iter ?_ (F.args_dict_items_iter_1 _));refine abi (abq (abi ?_));refine abi (ace c f (x:=.ref d) rfl (abq (abi ?_)));refine abi (adl g b (abi (ad5 g b ?_)));have own:Builtin.Dict_items.ownsTuple "dict_itemiterator"=true:=by decide
 simp only[own,aeP];refine ab4 (abq ⟨_,rfl,"dict_itemiterator",_,⟨_,abF _ rfl,rfl⟩,acO.lookup,?_⟩) (by simp only[sizeOk,Builtin.Dict_items.ownedTupleFields,abK,abj,abL,ack,sizeLine_eq];omega);simpa [rawInt,Builtin.Dict_items.ownedTupleFields] using i
theorem item {it:Addr}{en:DictEntry}{ok:Value}{Q:Option Value->Shared->Prop}(hit:IsItemIter s.heap it d i es.size ep ok v)(y:dI s.heap d es ep)(J:es[i]?=some en)
 (B:∀g,IsItemIterOut g it d (i+ 1) es.size ep en.key en.val s.heap.objs.size->g.get? s.heap.objs.size=some { cls:=.type "tuple",data:=.seq #[en.key,en.val] }->
  (∀b o,b≠it->s.heap.get? b=some o->g.get? b=some o)->Q (some (.ref s.heap.objs.size)) { s with heap:=g }):wpAny (model prog w) A (pyNext (.ref it)) Q E s:=by
 obtain⟨f,q,n,p,os⟩:=s;obtain⟨S,m,L,k⟩:=id y;have c:Shared.TypeIs ⟨f,q,n,p,os⟩ (.ref it) "dict_itemiterator":=⟨_,hit,rfl⟩;refine abi (wpAny_attempt (acf (name:=Str.ofString "__next__") c acO (acp acO c F.entry_dict_itemiterator_next ?_ (F.args_dict_itemiterator_next_1 _))));refine abi (abq (abi (abi ?_)))
 first|(refine abi (ac9 c (abq ?_));skip)|(refine abi (adD c (abq ?_));skip)
 refine abi (wpAny_fieldsOf hit rfl ?_);have own:Builtin.Dict_items.ownsTuple "dict_itemiterator"=true:=by decide
 show wpAny _ _ (if (Value.ref d==Value.none)=true then _ else _) _ _ _;rw[abH (show ¬((Value.ref d==Value.none)=true) by grind)];refine abi (abq (abi (adl m k ?_)));rw[abH (by simp)];refine abi (abq (abi (ad5 m k ?_)));rw[abH (by simp)];refine abq ?_;simp only[show ¬((i:Int)<0) by omega,aea,ab2,J];refine abi ?_
 first|(refine abi (ac9 c (abq ?_));skip)|(refine abi (adD c (abq ?_));skip)
 refine abi (wpAny_isOneOf_itemiter c ?_);show wpAny _ _ (setField (.ref it) 3 (rawInt ((i:Int)+ 1)) >>=_) _ _ ⟨f,q,n,p,os⟩
 refine abi (acB hit (by simp) λg1 u s1=>?_);have h:Shared.TypeIs ⟨g1,q,n,p,os⟩ (.ref it) "dict_itemiterator":=⟨_,u,rfl⟩;refine abi (acD (abi (wpAny_isOneOf_itemiter h (abi (wpAny_isOneOf_itemiter h ?_)))));refine abi (wpAny_newTuple ?_);have j:IsItemIter (g1.push { cls:=.type "tuple",data:=.seq #[en.key,en.val] }) it d (i+ 1) es.size ep ok v:=abl _ u;generalize l:g1.push { cls:=.type "tuple",data:=.seq #[en.key,en.val] }=g2 at j;have z1:g1.objs.size=f.objs.size:=s1.1;have M:it<f.objs.size:=abE hit;have N:g2.get? f.objs.size=some { cls:=.type "tuple",data:=.seq #[en.key,en.val] }:=by rw[<-l,<-z1];exact abF _ rfl
 have D:∀b o,b≠it->f.get? b=some o->g2.get? b=some o:=λb o a e=>by rw[<-l];exact abl _ (s1.extBut b o a e)
 show wpAny _ _ (Builtin.Dict_items.ownedTupleIsFree (.ref it) >>=_) _ _ ⟨g2,q,n,p,os⟩;rw[z1];refine abi ?_;refine abi (ace j rfl (x:=.none) rfl (abq ?_));refine abi (ace j rfl (x:=ok) rfl (abi (ace j rfl (x:=v) rfl ?_)));refine abi (acB j (by simp) λO C s3=>?_);refine abi (acB C (by simp) λR H s4=>?_);refine abi (acB H (by simp) λP I s5=>?_);refine abi (acB I (by simp) λt z G=>?_);have r:∀b o,b≠it->g2.get? b=some o->t.get? b=some o:=λb o a e=>G.extBut b o a (s5.extBut b o a (s4.extBut b o a (s3.extBut b o a e)))
 exact abi (wpAny_letGo (abq (abq ⟨_,rfl,abq (B t z (r _ _ (acH M) N) λb o a e=>r b o a (D b o a e))⟩)))
theorem fin {it:Addr}{ok:Value}{Q:Option Value->Shared->Prop}(n:A.handled=none)(hit:IsItemIter s.heap it d i es.size ep ok v)(h:dI s.heap d es ep)(j:es[i]?=none)
 (l:∀g,Heap.ExtBut it s.heap g->Q none { s with heap:=g }):wpAny (model prog w) A (pyNext (.ref it)) Q E s:=by
 obtain⟨o,f,k,e⟩:=id h;have c:s.TypeIs (.ref it) "dict_itemiterator":=⟨_,hit,rfl⟩;refine abi (wpAny_attempt (acf (name:=Str.ofString "__next__") c acO (acp acO c F.entry_dict_itemiterator_next ?_ (F.args_dict_itemiterator_next_1 _))));refine abi (abq (abi (abi ?_)))
 first|(refine abi (ac9 c (abq ?_));skip)|(refine abi (adD c (abq ?_));skip)
 refine abi (wpAny_fieldsOf hit rfl ?_);have own:Builtin.Dict_items.ownsTuple "dict_itemiterator"=true:=by decide
 show wpAny _ _ (if (Value.ref d==Value.none)=true then _ else _) _ _ s;rw[abH (show ¬((Value.ref d==Value.none)=true) by grind)];refine abi (abq (abi (adl f e ?_)));rw[abH (by simp)];refine abi (abq (abi (ad5 f e ?_)));rw[abH (by simp)];refine abq ?_;simp only[show ¬((i:Int)<0) by omega,aea,ab2,j];refine abi ?_
 first|(refine abi (ac9 c (abq ?_));skip)|(refine abi (adD c (abq ?_));skip)
 show wpAny _ _ (setField (.ref it) 2 .none >>=_) _ _ s;refine abi (adB hit rfl (by simp) ?_);refine abi ?_;refine abi (m:=firstArgMember _ _) (wpAny_of_eq (a:=Value.none) (by first|rfl|(simp only[firstArgMember];rfl)) ?_);refine ab4 ?_ (by size_fits);refine abi (wpAny_handled ?_);rw[show A.in1.handled=none from n];refine abi (abq (wpAny_throw ?_));refine abi (wpAny_isInstance (T:="StopIteration") (b:=true) ⟨_,abF _ rfl,rfl⟩ isSubtype_stop ?_);exact abq (l _ (((acR ..).extBut.push _).push _))
end
end Di
theorem wW {b c:Type}{R:b->c->Prop}:∀{d:List b} {ys:List c},Paired R d ys->∀{i:Nat} {x:b} {y:c},d[i]?=some x->ys[i]?=some y->R x y
 |[],_,h,i,x,y,a,_=>by simp at a
 |k::j,_,h,i,x,y,a,e=>by
  cases h with
  |cons f g=>
   cases i with
   |zero=>rw[<-Za0 a,<-Za0 e];exact f
   |succ i=>exact wW g a e
def yL (d:Addr)(o:Obj)(a:List (List Key×V)):It:=
 ⟨λi H=>i<a.length/\H d=some (.cQ o (.dT a)),λi H x c=>∃p kp b,a[i]?=some b/\H p=none/\H kp=some (.tup (b.1.map kV))/\x=.ref p/\c=upd H p (.tup [.ref kp,b.2]),λi H=>a.length<=i/\H d=some (.cQ o (.dT a))⟩
theorem Kn {elts:List Expr}{x1:Nat}{tp:Pos}(d it:Addr)(o:Obj)(C:Array DictEntry)(ep:Nat)(c:List (List Key×V))(x:o.data=.dict C ep):
 Turn P w K (.Tuple elts x1 tp) (yL d o c) [it] it (λi h=>∃ok n,IsItemIter h it d i C.size ep ok n) where
 mem:=by simp
 obj:=λi h st b p=>by
  grind
 keep:=λi h h' ⟨ok,n,e⟩ k=>⟨ok,n,k it (by simp) _ e⟩
 item:=by
  intro X hP hw hK hc i t s σ H E I v st hg;obtain⟨ok,n,hit⟩:=st;obtain⟨D,Z⟩:=hg;obtain⟨f,-,MX,ys,B,o2,F,R,j,h2,u,S,h5⟩:=I.aO d _ Z;rw[f]at j;obtain rfl:=Za0 j;rw[x]at u;injection u with W N
  subst W N;have MZ:c.length=ys.length:=Paired.length B;have Y:ys[i]?=some (ys[i]'(by omega)):=abm (by omega)
  generalize ys[i]'(by omega)=y at Y;have L:C[i]?=some (entryOfKey (tupleKind (bR X.prog X.w)) y):=by rw[entry_at S,Y];rfl
  have l:c[i]?=some (c[i]'D):=abm D
  generalize c[i]'D=r at l;have hk:r.1=y.1/\H y.2.1=some (.tup (r.1.map kV))/\RelV r.2 y.2.2:=wW B l Y;have il:it<s.heap.objs.size:=abE hit;refine Di.item hit ⟨_,f,h2,x⟩ L λg U hT J=>⟨_,rfl,wpAny_letOwnedTupleGo_items U λg2 T sb=>?_⟩
  have G:g2.get? s.heap.objs.size=some { cls:=.type "tuple",data:=.seq #[.ref y.2.1,y.2.2] }:=(sb.2 _ (acH il)).trans hT
  have O:∀b m,b∉[it]->s.heap.get? b=some m->g2.get? b=some m:=λb m p q=>by
   have j:b≠it:=λz=>p (by simp[z])
   exact(sb.2 b j).trans (J b m j q)
  have M:=I.aO.fresh (abr s.heap.objs.size);refine⟨.ref s.heap.objs.size,_,I.oJ (fp:=[it]) (a:=s.heap.objs.size) (o:=.tup [.ref y.2.1,r.2]) (h':=g2) (t':=s.toks) O v (abr _) ?_,rfl,⟨_,y.2.1,r,l,M,hk.2.1,rfl,rfl⟩,⟨_,_,T⟩,λb p=>?_⟩
  ·exact⟨by show 2<=sizeLine;decide,[.ref y.2.1,y.2.2],.cons rfl (.cons hk.2.2 .nil),_,G,rfl,_,rfl⟩
  ·rw[abp.mp p,ak (abV il)];exact(v it (by simp)).1
 done:=by
  intro X hP hw hK hc i t s σ H E I v st hg;obtain⟨ok,n,hit⟩:=st;obtain⟨D,Z⟩:=hg;obtain⟨f,-,MX,ys,B,o2,F,R,j,h2,u,S,h5⟩:=I.aO d _ Z;rw[f]at j;obtain rfl:=Za0 j;rw[x]at u;injection u with W N
  subst W N;have MZ:c.length=ys.length:=Paired.length B;have hsz:C.size=ys.length:=size_of_entries S;exact Di.fin (I.ok.hd hc) hit ⟨_,f,h2,x⟩ (aey (by omega)) λg eb=>⟨rfl,I.rM (fp:=[it]) (t':=s.toks) (λb m p q=>eb b m (λz=>p (by simp[z])) q) v⟩
 self:=λA i s Q E ⟨ok,n,hit⟩ h=>PySem.W.kcp_self hit h
section
variable {X:Cx}
def Wa (tl:TE):TI:=λ c H R=>tl c H λx b=>∃d a,x=.ref d/\b d=some (.dT a)/\∀o,R (yL d o a) (upd b d (.cQ o (.dT a)))
theorem QN {tl:TE}{elts:List Expr}{apos c:Pos}(J:PE X e tl)(f:attributeBase e "items" X.env (eval e X.env)=eval e X.env:=by rfl)(hline:(apos.endLine==c.line)=true:=by rfl):
 PI X (.Tuple elts n p) (.Call (.Attribute e "items" apos) [] [] c) (Wa tl):=by
 intro r s S H R I h;refine wpAny_Call_method0_late f hline (a8 (J r s S H _ I h) λu s1 ⟨x,M,l,O,d,t,ex,A,q⟩=>?_);subst ex;cases O;obtain⟨-,B,ys,W,o,m,j,D,E,C,Y,Z⟩:=l.aO d _ A;have i:dI s1.heap d m j:=⟨o,D,E,C⟩;have v:Av M d:=.inr ⟨t,.inl A⟩;obtain⟨F,Q,_⟩:=kQ l v;refine⟨"dict","dict.items",acE,PySem.F.slot_dict_items,PySem.F.type_dict_items,F,Q,acu rfl (PySem.evalArgs_none ?_)⟩;refine adN PySem.F.slot_dict_items F PySem.F.entry_dict_items (PySem.F.args_dict_items_1 _) (Di.meets d B) ⟨⟨m,j,i⟩,?_⟩;have G:(s1.heap.push { cls:=.type "dict_items",data:=.fields #[.ref d] }).IsItemsView s1.heap.objs.size d:=⟨_,abF _ rfl,rfl,rfl⟩;have g:dI (s1.heap.push { cls:=.type "dict_items",data:=.fields #[.ref d] }) d m j:=⟨o,abl _ D,E,C⟩;refine Di.iter (s:={ s1 with heap:=s1.heap.push { cls:=.type "dict_items",data:=.fields #[.ref d] } }) G g ?_;have L:=(l.freeze A True.intro D).kept (h':=(s1.heap.push { cls:=.type "dict_items",data:=.fields #[.ref d] }).push { cls:=.type "dict_itemiterator",data:=.fields #[.none,.bool false,.ref d,.int 0 0,.int m.size 0,.int j 0,.none,.none] }) (t':=s1.toks) λb o a=>abl _ (abl _ a)
 have k:s1.heap.objs.size<=(s1.heap.push { cls:=.type "dict_items",data:=.fields #[.ref d] }).objs.size:=by rw[adA];omega
 have T:=Kn (P:=X.prog) (w:=X.w) (K:=X.K) (elts:=elts) (x1:=n) (tp:=p) d (s1.heap.push { cls:=.type "dict_items",data:=.fields #[.ref d] }).objs.size o m j t C;refine⟨_,_,_,_,_,rfl,L,T,⟨_,_,abF _ rfl⟩,λb N=>?_,q o⟩;rw[abp.mp N];have y:=l.aO.fresh k;exact l.mP k (by rw[ak (λz=>by grind)];exact y)
end
theorem M0 {o:Obj}{kvs:List (List Key×V)}{g:TG}{l:TS}(a:Nat->St->Hp->Prop)(E:a 0 D H)(t:∀i D H,i<=kvs.length->a i D H->H d=some (.cQ o (.dT kvs)))
 (u:∀i j D H p kp,kvs[i]?=some j->H p=none->H kp=some (.tup (j.1.map kV))->a i D H->g (.ref p) D (upd H p (.tup [.ref kp,j.2])) λ b k=>l { G with nx:=a (i+ 1),ct:=a (i+ 1),bk:=G.nx } b k) (z:∀ D H,a kvs.length D H->G.nx D H):
 ∃W:Nat->Nat->St->Hp->Prop,(∃m,W 0 m D H)/\∀i m D H,W i m D H->
  ((yL d o kvs).stop i H/\G.nx D H)\/((yL d o kvs).go i H/\∃N:St->Hp->Prop,(∀ c f,N c f->∃n,n<m/\W (i+ 1) n c f)/\∀x f,(yL d o kvs).kc i H x f->g x D f λ b k=>l { G with nx:=N,ct:=N,bk:=G.nx } b k):=by
 refine⟨λi m D H=>m=kvs.length - i/\i<=kvs.length/\a i D H,⟨kvs.length,by simp,abS _,E⟩,?_⟩;rintro i m D H ⟨rfl,v,p⟩;have q:=t i D H v p;by_cases h:i<kvs.length
 ·refine .inr ⟨⟨h,q⟩,a (i+ 1),λ c f s=>⟨kvs.length - (i+ 1),by omega,rfl,h,s⟩,λx f y=>?_⟩;obtain⟨r,kp,j,C,A,B,rfl,rfl⟩:=y;exact u i j D _ r kp C A B p
 ·have e:i=kvs.length:=by omega
  subst e;exact .inl ⟨⟨abr _,q⟩,z D H p⟩
theorem tO:∀(n:Nat) (l:List Int) (lo:Int),l.Nodup->(∀x∈l,lo<=x/\x<lo+ n)->l.length<=n
 |0,[],_,_,_=>abr _
 |0,x::l,lo,_,h=>by have:=h x (abA ..);omega
 |n+ 1,l,lo,b,h=>by
  by_cases c:lo+ n∈l
  ·have d:=tO n (l.erase (lo+ n)) lo (b.erase _) λx a=>by
    have f:=(b.mem_erase_iff.mp a);have e:=h x f.2;omega
   rw[adM c]at d;omega
  ·have d:=tO n l lo b λx a=>by
    have e:=h x a;have g:x≠lo+ n:=λz=>c (by rw[<-z];exact a)
    omega
   omega
section
variable {κ:Type} [DecidableEq κ]
theorem DP (b:List (κ×V))(k j:κ):bp (eh b k) j=if j=k then none else bp b j:=by
 unfold eh
 induction b with
 |nil=>split <;> rfl
 |cons p r d=>
  by_cases c:p.1=k
  ·rw[List.filter_cons_of_neg (by simp[c]),d];by_cases a:j=k
   ·grind
   ·rw[abH a,abH a,cu (λz=>a (z.symm.trans c))]
  ·rw[aeu (by simp[c])];by_cases a:p.1=j
   ·rw[cy a,abH (λz=>c (a.trans z)),cy a]
   ·rw[cu a,d];by_cases e:j=k
    ·grind
    ·rw[abH e,abH e,cu a]
theorem yM (a:List (κ×V))(k:κ)(v:V):(putK a k v).map (·.1)=if k∈a.map (·.1) then a.map (·.1) else a.map (·.1)++[k]:=by
 unfold putK;by_cases h:(a.any λb=>decide (b.1=k))=true
 ·have c:k∈a.map (·.1):=by
   obtain⟨b,d,e⟩:=List.any_eq_true.mp h;exact ach.mpr ⟨b,d,ab9 e⟩
  rw[abN h,abN c,ab1];refine acx λb _=>?_
  grind
 grind
theorem M3 {a:List (κ×V)}(k:κ)(v:V)(h:(a.map (·.1)).Nodup):((putK a k v).map (·.1)).Nodup:=by
 rw[yM]
 grind
theorem Ko {a:List (κ×V)}(k:κ)(h:(a.map (·.1)).Nodup):((eh a k).map (·.1)).Nodup:=by
 exact List.Nodup.sublist ((adq).map _) h
theorem yN {a:List (κ×V)}(h:(a.map (·.1)).Nodup){b:κ×V}(hm:b∈a):bp a b.1=some b.2:=by
 induction a with
 |nil=>cases hm
 |cons p r c=>
  rw[acg,ab0]at h;rcases abD.mp hm with e|hm
  ·rw[e];exact cy rfl
  ·rw[cu (λz=>h.1 (by rw[z];exact adp hm))];exact c h.2 hm
theorem Gf {a:List (κ×V)}{k:κ}(h:bp a k=some q):(k,q)∈a:=by
 unfold bp at h
 cases e:a.find? λb=>decide (b.1=k) with
 |none=>rw[e]at h;cases h
 |some b=>
  grind
end
def DI (H:Hp)(d:Addr)(f:Int->Option V):Prop:=∃a:List (Key×V),H d=some (.dK a)/\(a.map (·.1)).Nodup/\(∀b∈a,∃i:Int,b.1=Sum.inl i)/\∀i:Int,bp a (Sum.inl i)=f i
theorem DI.at {f:Int->Option V}(h:DI H d f)(k:∀o,H d=some o->I d=some o):DI I d f:=by
 obtain⟨a,b,c⟩:=h;exact⟨a,k _ b,c⟩
theorem DI.congr {f g:Int->Option V}(h:DI H d f)(e:∀i,f i=g i):DI H d g:=by
 obtain⟨a,j,k,b,c⟩:=h;exact⟨a,j,k,b,λi=>(c i).trans (e i)⟩
theorem yO {a:List (Key×V)}{f:Int->Option V}(e:(a.map (·.1)).Nodup)(g:∀c∈a,∃i:Int,c.1=Sum.inl i)(h:∀i:Int,bp a (Sum.inl i)=f i)(i:Int)(v:V):DI (upd H d (.dK (putK a (Sum.inl i) v))) d (λj=>if j=i then some v else f j):=by
 refine⟨_,ai,M3 _ _ e,λc b=>?_,λj=>?_⟩
 ·have:c.1∈(putK a (Sum.inl i) v).map (·.1):=adp b;rw[yM]at this
  grind
 ·rw[kO]
  grind
theorem Kp {a:List (Key×V)}{f:Int->Option V}(g:(a.map (·.1)).Nodup)(e:∀c∈a,∃i:Int,c.1=Sum.inl i)(h:∀i:Int,bp a (Sum.inl i)=f i)(i:Int):DI (upd H d (.dK (eh a (Sum.inl i)))) d (λj=>if j=i then none else f j):=by
 refine⟨_,ai,Ko _ g,λc b=>e c ((ac7.mp b).1),λj=>?_⟩;rw[DP]
 grind
theorem uC {c:List (Key×V)}{f:Int->Option V}(k:(c.map (·.1)).Nodup)(l:∀d∈c,∃i:Int,d.1=Sum.inl i)(o:∀i:Int,bp c (Sum.inl i)=f i){n:Nat}{lo:Int}(r:∀i v,f i=some v->lo<=i/\i<lo+ n):c.length<=n:=by
 have h:=tO n (c.map λd=>match d.1 with|Sum.inl i=>i|Sum.inr _=>0) lo ?_ λx p=>?_
 ·rw[abo]at h;exact h
 ·have e:c.map (·.1)=(c.map λd=>match d.1 with|Sum.inl i=>i|Sum.inr _=>(0:Int)).map Sum.inl:=by
   rw[ab1];refine acx λd g=>?_
   obtain⟨i,j⟩:=l d g;show d.1=Sum.inl (match d.1 with|Sum.inl i=>i|Sum.inr _=>(0:Int));rw[j]
  rw[e]at k;exact List.Pairwise.imp (λ{a b} q z=>q (ade Sum.inl z)) (adn.mp k)
 ·obtain⟨d,g,rfl⟩:=ach.mp p;obtain⟨i,j⟩:=l d g;have m:=yN k g;rw[j,o]at m;rw[j];exact r i _ m
abbrev bG:=Int->Int->Int->Bool
structure dw (H:Hp) (k:Addr) (D:Int->Option Addr) (E:Int->Int->Option Addr) (S:bG):Prop where
 top:DI H k λc=>(D c).map V.ref
 row:∀c d,D c=some d->DI H d λs=>(E c s).map V.ref
 wX:∀c s e,E c s=some e->DI H e λo=>if S c s o=true then some (.bl true) else none
 ed:∀c s e,E c s=some e->∃d,D c=some d
 se:∀c s o,S c s o=true->∃e,E c s=some e
 nd:∀c d,D c=some d->d≠k
 ne:∀c s e,E c s=some e->e≠k
 dd:∀c c' d,D c=some d->D c'=some d->c=c'
 de:∀c c' s d,D c=some d->E c' s=some d->False
 ee:∀c s c' s' e,E c s=some e->E c' s'=some e->c=c'/\s=s'
def tP (k:Addr)(D:Int->Option Addr)(E:Int->Int->Option Addr)(b:Addr):Prop:=b=k\/(∃c,D c=some b)\/∃c s,E c s=some b
section
variable {H H':Hp}{k:Addr}{D:Int->Option Addr}{E:Int->Int->Option Addr}{S:bG}
theorem dw.keep (h:dw H k D E S)(f:∀b o,tP k D E b->H b=some o->H' b=some o):dw H' k D E S:=
 ⟨h.top.at λo e=>f _ _ (.inl rfl) e,λc d e=>(h.row c d e).at λo q=>f _ _ (.inr (.inl ⟨c,e⟩)) q,λc s e q=>(h.wX c s e q).at λo r=>f _ _ (.inr (.inr ⟨c,s,q⟩)) r,h.ed,h.se,h.nd,h.ne,h.dd,h.de,h.ee⟩
theorem dw.same (h:dw H k D E S)(s:aq H H'):dw H' k D E S:=h.keep λb o _ e=>s b o e
theorem dw.there (h:dw H k D E S){b:Addr}(d:tP k D E b):∃a,H b=some (.dK a):=by
 rcases d with rfl|⟨c,e⟩|⟨c,s,e⟩
 ·obtain⟨a,q,_⟩:=h.top;exact⟨a,q⟩
 ·obtain⟨a,q,_⟩:=h.row c b e;exact⟨a,q⟩
 ·obtain⟨a,q,_⟩:=h.wX c s b e;exact⟨a,q⟩
theorem dw.congr (h:dw H k D E S){d:Int->Option Addr}{a:Int->Int->Option Addr}{b:bG}(f:∀c,D c=d c)(e:∀c s,E c s=a c s)(g:∀c s o,S c s o=b c s o):dw H k d a b:=by
 obtain rfl:D=d:=funext f;obtain rfl:E=a:=funext λc=>funext (e c)
 obtain rfl:S=b:=funext λc=>funext λs=>funext (g c s)
 exact h
theorem dw.M4 (h:dw H k D E S):∃a:List (Key×V),H k=some (.dK a)/\(a.map (·.1)).Nodup/\(∀b∈a,∃i:Int,b.1=Sum.inl i)/\∀i:Int,bp a (Sum.inl i)=(D i).map V.ref:=h.top
theorem dw.Gh (h:dw H k D E S){c:Int}{d:Addr}(hd:D c=some d):∃a:List (Key×V),H d=some (.dK a)/\(a.map (·.1)).Nodup/\(∀b∈a,∃i:Int,b.1=Sum.inl i)/\∀i:Int,bp a (Sum.inl i)=(E c i).map V.ref:=h.row c d hd
theorem dw.M5 (h:dw H k D E S){c s:Int}{e:Addr}(d:E c s=some e):∃a:List (Key×V),H e=some (.dK a)/\(a.map (·.1)).Nodup/\(∀b∈a,∃i:Int,b.1=Sum.inl i)/\∀i:Int,bp a (Sum.inl i)=if S c s i=true then some (.bl true) else none:=h.wX c s e d
theorem dw.Kq (h:dw H k D E S){c s:Int}{d e:Addr}(hd:D c=some d)(N:E c s=none){j:List (Key×V)}(L:H d=some (.dK j))(C:H e=some (.dK []))(nw:¬tP k D E e):
 dw (upd H d (.dK (putK j (Sum.inl s) (.ref e)))) k D (λb f=>if b=c/\f=s then some e else E b f) S:=by
 have w:e≠d:=λz=>nw (.inr (.inl ⟨c,by rw[z];exact hd⟩))
 obtain⟨r,G,B,I,J⟩:=h.row c d hd;rw[L]at G;obtain rfl:j=r:=by grind
 refine⟨h.top.at λo q=>?_,λb u i=>?_,λb f l a=>?_,λb f l a=>?_,λb f o F=>?_,h.nd,λb f l a=>?_,h.dd,λb p f u i a=>?_,λb f p x l t n=>?_⟩
 ·rw[ak (h.nd c d hd).symm];exact q
 ·by_cases g:b=c
  ·subst g;have:u=d:=by rw[hd]at i;exact(Za0 i).symm
   subst this;refine(yO B I J s (.ref e)).congr λf=>?_
   grind
  ·have y:u≠d:=λz=>g (h.dd _ _ _ i (by rw[z];exact hd))
   refine((h.row b u i).at λo q=>by rw[ak y];exact q).congr λf=>?_
   grind
 ·by_cases g:b=c/\f=s
  ·rw[abN g]at a;obtain rfl:=Za0 a;obtain⟨rfl,rfl⟩:=g;refine⟨[],by rw[ak w];exact C,by simp,(λM A=>by cases A),λo=>?_⟩
   cases q:S b f o with
   |true=>obtain⟨l,z⟩:=h.se _ _ _ q;grind
   |false=>dsimp only;rw[q];rfl
  ·rw[abH g]at a;exact(h.wX b f l a).at λo q=>by rw[ak (λz=>h.de c b f d hd (by grind))];exact q
 ·by_cases g:b=c/\f=s
  ·grind
  ·rw[abH g]at a;exact h.ed _ _ _ a
 ·by_cases g:b=c/\f=s
  ·exact⟨e,abN g⟩
  ·obtain⟨l,z⟩:=h.se _ _ _ F;grind
 ·by_cases g:b=c/\f=s
  ·rw[abN g]at a;obtain rfl:=Za0 a;exact λz=>nw (.inl z)
  ·rw[abH g]at a;exact h.ne _ _ _ a
 ·by_cases g:p=c/\f=s
  ·rw[abN g]at a;obtain rfl:=Za0 a;exact nw (.inr (.inl ⟨b,i⟩))
  ·rw[abH g]at a;exact h.de _ _ _ _ i a
 ·by_cases v:b=c/\f=s
  ·rw[abN v]at t;obtain rfl:=Za0 t;by_cases m:p=c/\x=s
   ·exact⟨v.1.trans m.1.symm,v.2.trans m.2.symm⟩
   ·rw[abH m]at n;exact(nw (.inr (.inr ⟨p,x,n⟩))).elim
  ·rw[abH v]at t;by_cases m:p=c/\x=s
   ·rw[abN m]at n;obtain rfl:=Za0 n;exact(nw (.inr (.inr ⟨b,f,t⟩))).elim
   ·rw[abH m]at n;exact h.ee _ _ _ _ _ t n
theorem dw.setCell (h:dw H k D E S){c s:Int}{e:Addr}(j:E c s=some e){u:HO}{g:Int->Bool}(p:DI (upd H e u) e λo=>if g o=true then some (.bl true) else none):
 dw (upd H e u) k D E (λa b o=>if a=c/\b=s then g o else S a b o):=by
 refine⟨h.top.at λo q=>?_,λa m f=>(h.row a m f).at λo q=>?_,λa b n d=>?_,h.ed,λa b o l=>?_,h.nd,h.ne,h.dd,h.de,h.ee⟩
 ·rw[ak (h.ne _ _ _ j).symm];exact q
 ·rw[ak (λz=>h.de _ _ _ _ f (by rw[z];exact j))];exact q
 ·by_cases i:a=c/\b=s
  ·grind
  ·refine((h.wX a b n d).at λo q=>?_).congr λo=>by rw[abH i]
   rw[ak (λz=>i (h.ee _ _ _ _ _ d (by rw[z];exact j)))];exact q
 ·by_cases i:a=c/\b=s
  ·grind
  ·rw[abH i]at l;exact h.se _ _ _ l
theorem dw.M6 (h:dw H k D E S){c s:Int}{e:Addr}(j:E c s=some e){b:List (Key×V)}(q:H e=some (.dK b))(o:Int):
 dw (upd H e (.dK (putK b (Sum.inl o) (.bl true)))) k D E (λf i a=>S f i a || (decide (f=c) && decide (i=s) && decide (a=o))):=by
 obtain⟨d,p,l,m,n⟩:=h.wX c s e j;rw[q]at p;obtain rfl:b=d:=by grind
 refine(h.setCell (g:=λa=>S c s a || decide (a=o)) j ((yO l m n o (.bl true)).congr λa=>?_)).congr (λ_=>rfl) (λ_ _=>rfl) λf i a=>?_
 ·grind
 grind
theorem dw.Kr (h:dw H k D E S){n:Int}{d:Addr}(hd:D n=none){g:List (Key×V)}(B:H k=some (.dK g))(w:H d=some (.dK []))(nw:¬tP k D E d):
 dw (upd H k (.dK (putK g (Sum.inl n) (.ref d)))) k (λc=>if c=n then some d else D c) E S:=by
 obtain⟨m,x,v,y,A⟩:=h.top;rw[B]at x;obtain rfl:g=m:=by grind
 have u:d≠k:=λz=>nw (.inl z)
 have en:∀s,E n s=none:=λs=>by
  cases q:E n s with
  |none=>rfl
  |some e=>obtain⟨i,z⟩:=h.ed _ _ _ q;grind
 refine⟨(yO v y A n (.ref d)).congr λc=>?_,λc i a=>?_,λc s e p=>(h.wX c s e p).at λo q=>?_,λc s e p=>?_,h.se,λc i a=>?_,h.ne,λc r i b f=>?_,λc r s i b f=>?_,h.ee⟩
 ·grind
 ·by_cases e:c=n
  ·rw[abN e]at a;obtain rfl:=Za0 a;subst e;refine⟨[],by rw[ak u];exact w,by simp,(λC t=>by cases t),λs=>?_⟩;dsimp only;rw[en s];rfl
  ·rw[abH e]at a;exact(h.row c i a).at λo q=>by rw[ak (h.nd _ _ a)];exact q
 ·rw[ak (h.ne _ _ _ p)];exact q
 ·obtain⟨i,z⟩:=h.ed _ _ _ p
  grind
 ·by_cases e:c=n
  ·grind
  ·rw[abH e]at a;exact h.nd _ _ a
 ·by_cases j:c=n
  ·rw[abN j]at b;obtain rfl:=Za0 b;by_cases l:r=n
   ·rw[j,l]
   ·rw[abH l]at f;exact(nw (.inr (.inl ⟨_,f⟩))).elim
  ·rw[abH j]at b;by_cases l:r=n
   ·rw[abN l]at f;obtain rfl:=Za0 f;exact(nw (.inr (.inl ⟨_,b⟩))).elim
   ·rw[abH l]at f;exact h.dd _ _ _ b f
 ·by_cases j:c=n
  ·rw[abN j]at b;obtain rfl:=Za0 b;exact nw (.inr (.inr ⟨_,_,f⟩))
  ·rw[abH j]at b;exact h.de _ _ _ _ b f
end
namespace Et
section
variable {prog:Program}{w:World}{A:Around}{E:Value->Shared->Prop}{s:Shared}
theorem item {it:Addr}{items:Array Value}{x:Value}(hit:s.heap.IsTupleIter it a i)(h:s.heap.IsTuple a items)(k:items[i]?=some x)
 (j:∀g,g.IsTupleIter it a (i+ 1)->Heap.SameBut it s.heap g->Q x { s with heap:=g }):wpAny (model prog w) A (Builtin.SmallTypes.nextOf (.ref it)) Q E s:=by
 obtain⟨o,c,f,b⟩:=id hit;obtain⟨l,d,_,m,e⟩:=h;refine abi (acf (name:=Str.ofString "__next__") hit.typeIs adt (acp adt hit.typeIs F.entry_tuple_iterator_next ?_ (F.args_tuple_iterator_next_1 _)));show wpAny _ _ (field (.ref it) 0 >>=_) _ _ s;refine abi (ace c b (x:=.ref a) rfl ?_);rw[abH (show ¬((Value.ref a==Value.none)=true) by grind)];refine abi (ace c b (x:=.int i 0) rfl ?_);refine abi (aeI d e ?_);simp only[ab2,k];exact abi (adB c b (by simp) (abq ⟨x,rfl,abq (j _ ⟨_,acb _ c (ady (acW b _)),(Obj.cls_mapFields ..).trans f,by rw[acW b];simp[rawInt]⟩ (acR ..))⟩))
theorem fin {it:Addr}{items:Array Value}(j:A.handled=none)(hit:s.heap.IsTupleIter it a i)(n:s.heap.IsTuple a items)(k:items[i]?=none)
 (l:∀g e,Heap.ExtBut it s.heap g->(∃o,g.get? e=some o/\o.cls=.type "StopIteration")->E (.ref e) { s with heap:=g }):wpAny (model prog w) A (Builtin.SmallTypes.nextOf (.ref it)) Q E s:=by
 obtain⟨o,c,q,f⟩:=id hit;obtain⟨r,h,_,p,d⟩:=n;refine abi (acf (name:=Str.ofString "__next__") hit.typeIs adt (acp adt hit.typeIs F.entry_tuple_iterator_next ?_ (F.args_tuple_iterator_next_1 _)));show wpAny _ _ (field (.ref it) 0 >>=_) _ _ s;refine abi (ace c f (x:=.ref a) rfl ?_);rw[abH (show ¬((Value.ref a==Value.none)=true) by grind)];refine abi (ace c f (x:=.int i 0) rfl ?_);refine abi (aeI h d ?_);simp only[ab2,k];refine abi (wpAny_rule (abi (adB c f (by simp) ?_)));refine abi ?_;refine abi (m:=firstArgMember _ _) (wpAny_of_eq (a:=Value.none) (by first|rfl|(simp only[firstArgMember];rfl)) ?_);refine ab4 ?_ (by size_fits);refine abi (wpAny_handled ?_);first|rw[show A.in1.handled=none from j]|rw[j]
 refine abi (abq (wpAny_throw ?_));exact l _ _ (((acR ..).extBut.push _).push _) ⟨_,abF _ rfl,rfl⟩
end
theorem meets (l:Addr)(items:Array Value)(n:Nat)(dct:Option Addr)(j:Array (Option Value)):
 Meets (Builtin.«enumerate.__new__» ⟨[.type "enumerate",.ref l],[]⟩) (λ_ R s=>s.heap.get? l=some { cls:=.type "tuple",dict:=dct,data:=.seq items n,slots:=j }/\
  R (.ok (.ret (.ref (s.heap.push { cls:=.type "tuple_iterator",data:=.fields #[.ref l,.int 0 0] }).objs.size)))
    { s with heap:=(s.heap.push { cls:=.type "tuple_iterator",data:=.fields #[.ref l,.int 0 0] }).push { cls:=.type "enumerate",data:=.fields #[.none,.bool false,.ref s.heap.objs.size,rawInt 0,.none,.none] } }):=
 .of_wp λf w A R s h=>by
  obtain⟨i,g,d,k,os⟩:=s;obtain⟨a,h⟩:=h;have e:=sub_enumerate;have b:Heap.IsTuple (Shared.heap ⟨i,g,d,k,os⟩) l items:=⟨_,a,rfl,n,rfl⟩
  wp_walk using adJ a;refine wpAny_stack_any λst=>abq ?_
  split
  ·rename_i c _ _ _ _ _;cases (c==Value.type "enumerate") <;> (wp_walk using adJ a,wpAny_pyIter_tuple b;exact⟨_,rfl,h⟩)
  ·wp_walk using adJ a,wpAny_pyIter_tuple b;exact⟨_,rfl,h⟩
theorem call {items:Array Value}(j:s.heap.IsTuple a items)
 (h:∀g,IsEnum g (s.heap.objs.size+ 1) s.heap.objs.size 0 .none->g.IsTupleIter s.heap.objs.size a 0->g.objs.size=s.heap.objs.size+ 2->(∀b o,s.heap.get? b=some o->g.get? b=some o)->Q (.ref (s.heap.objs.size+ 1)) { s with heap:=g }):
 wpAny (model P w) A (call (.type "enumerate") [.ref a]) Q E s:=by
 obtain⟨⟨c,dct,k,m⟩,l,e,n,f⟩:=j;replace e:c=.type "tuple":=e;replace f:k=.seq items n:=f;subst e f;refine callType_new F.called_enumerate (by decide) (F.typeCall_enumerate_1 _) (F.newCall_enumerate_1 _) (λobj=>F.args_object_init_2 obj _) F.entry_enumerate_new (meets a items n dct m) ⟨l,?_⟩;have d:(s.heap.push { cls:=.type "tuple_iterator",data:=.fields #[.ref a,.int 0 0] }).objs.size=s.heap.objs.size+ 1:=adA ..;show _/\_;rw[d]
 have i:IsEnum ((s.heap.push { cls:=.type "tuple_iterator",data:=.fields #[.ref a,.int 0 0] }).push { cls:=.type "enumerate",data:=.fields #[.none,.bool false,.ref s.heap.objs.size,rawInt 0,.none,.none] }) (s.heap.objs.size+ 1) s.heap.objs.size 0 .none:=by
  have:=abF (s.heap.push { cls:=.type "tuple_iterator",data:=.fields #[.ref a,.int 0 0] }) (o:={ cls:=.type "enumerate",data:=.fields #[.none,.bool false,.ref s.heap.objs.size,rawInt 0,.none,.none] }) rfl;rw[d]at this;exact this
 exact⟨⟨_,i,rfl⟩,h _ i ⟨_,abl _ (abF _ rfl),rfl,rfl⟩ (by rw[adA,d]) λb o x=>abl _ (abl _ x)⟩
end Et
section
variable {K:Za1}{mg:Str->Option Value}{h:Heap}{C f:Addr}{x q:Str}{st:Stmt}{ps:List Str}{oc kV doc pm cf ct:Value}{od an:Option Addr}{yk:Array (Option Value)}
theorem Def.of (X:K.In h)(G:h.Ns mainGlobals mg)(a:PySem.W.nsIn K mainGlobals x=some (some (.ref f)))(l:K.lookup f=some ⟨oc,od,.func (PySem.W.fnOf x x (c9 st) (cM st) (aH st) .none kV doc pm an cf ct),yk⟩)(c:PySem.W.codeIn K cf x=true)(k:PySem.W.keepIn K (.ref f)=true)
 (b:∀(kV doc pm:Value) (an:Option Addr) (cf ct:Value) (us:List Value),us.length=ps.length->bindArgs (PySem.W.fnOf x x (c9 st) (cM st) (aH st) .none kV doc pm an cf ct) ⟨us,[]⟩=pure (ps.zip us)):Def K mg x st ps f (PySem.W.fnOf x x (c9 st) (cM st) (aH st) .none kV doc pm an cf ct):=
 have F:=C8 (st:=st) l c k
 ⟨F,PySem.W.mg_of X G a,F.binds (ps:=ps) b⟩
theorem MDef.of (a:PySem.W.findIn K (.ref C) x=some (some (.ref f)))(i:PySem.W.isFn K (.ref f)=true)(l:K.lookup f=some ⟨oc,od,.func (PySem.W.fnOf x q (c9 st) (cM st) (aH st) .none kV doc pm an cf ct),yk⟩)(c:PySem.W.codeIn K cf q=true)(k:PySem.W.keepIn K (.ref f)=true)
 (b:∀(kV doc pm:Value) (an:Option Addr) (cf ct:Value) (us:List Value),us.length=ps.length->bindArgs (PySem.W.fnOf x q (c9 st) (cM st) (aH st) .none kV doc pm an cf ct) ⟨us,[]⟩=pure (ps.zip us)):MDef K C x q st ps f (PySem.W.fnOf x q (c9 st) (cM st) (aH st) .none kV doc pm an cf ct):=
 have F:=C8 (st:=st) l c k
 ⟨F,⟨a,i,k⟩,F.binds (ps:=ps) b⟩
theorem Def.fd {fd:FuncData}(D:Def K mg x st ps f fd):∃(kV doc pm:Value) (an:Option Addr) (cf ct:Value),fd=PySem.W.fnOf x x (c9 st) (cM st) (aH st) .none kV doc pm an cf ct:=by
 obtain⟨oc,od,kV,doc,pm,an,cf,ct,yk,e,_⟩:=D.F.ex;exact⟨kV,doc,pm,an,cf,ct,e⟩
end
end L2
namespace L2
def wk (b:Nat->Int->Option Nat):Nat->List Int->Option Nat
 |c,[]=>some c
 |c,z::w=>match b c z with
  |none=>none
  |some d=>wk b d w
section
variable {b:Nat->Int->Option Nat}
theorem gG (h:b n z=some m):wk b n (z::l)=wk b m l:=by
 show (match b n z with|none=>none|some m=>wk b m l)=_;rw[h]
theorem gn (h:wk b n (z::l)=some m):∃d,b n z=some d/\wk b d l=some m:=by
 cases q:b n z with
 |none=>
  have a:(match b n z with|none=>none|some d=>wk b d l)=some m:=h;rw[q]at a;cases a
 |some d=>rw[gG q]at h;exact⟨d,rfl,h⟩
theorem nj:∀{u v:List Int} {c d:Nat},wk b c u=some d->wk b c (u++v)=wk b d v
 |[],v,c,d,h=>by rw[Za0 h];rfl
 |z::u,v,c,d,h=>by
  obtain⟨e,a,f⟩:=gn h;rw[ac1,gG a];exact nj f
theorem yP:∀{u v:List Int} {c e:Nat},wk b c (u++v)=some e->∃d,wk b c u=some d/\wk b d v=some e
 |[],v,c,e,h=>⟨c,rfl,h⟩
 |z::u,v,c,e,h=>by
  obtain⟨d,g,i⟩:=gn h;obtain⟨f,a,j⟩:=yP i;exact⟨f,by rw[gG g];exact a,j⟩
theorem M7 (h:b n z=some m):wk b n [z]=some m:=by rw[gG h];rfl
theorem take_snoc (h:l[i]?=some z):l.take (i+ 1)=l.take i++[z]:=by rw[adj,h];rfl
theorem drop_cons (h:l[i]?=some z):l.drop i=z::l.drop (i+ 1):=by
 have a:=(abk.mp h).1;rw[aed a,(abk.mp h).2]
end
structure Later (S S':RS):Prop where
 el:∀c,c<S.made->S'.av (S.av c)=S'.av c
 by_:∀c z d,S.by c z=some d->S'.by (S'.av c) z=some (S'.av d)
theorem Later.of {l:Za2}(h:Good S [] R)(i:Good T [] l)(k:∀a z b,R a z b->l a z b)(f:S.made<=T.made):Later S T:=by
 have el:∀c,c<S.made->T.av (S.av c)=T.av c:=λc hc=>(i.fin (abW (h.lt hc) f) (abW hc f)).mpr ((h.cg c hc).mono k).symm
 refine⟨el,λc z d e=>?_⟩;obtain⟨g,j,r,o,m⟩:=h.so _ _ _ e;obtain⟨n,l2,_⟩:=h.rl _ _ _ r;rw[<-o,<-m,el g n,el j l2];exact i.uB.mpr ⟨g,j,k _ _ _ r,rfl,rfl⟩
theorem Later.wk (h:Later S T):∀{w:List Int} {c d:Nat},wk S.by c w=some d->wk T.by (T.av c) w=some (T.av d)
 |[],c,d,e=>by rw[Za0 e];rfl
 |z::w,c,d,e=>by
  obtain⟨f,a,b⟩:=gn e;rw[gG (h.by_ _ _ _ a)];exact Later.wk h b
structure Gg where
 which:Nat
 word:List Int
 start:Nat
 front:Nat
 first:Nat
 bh:Nat
 last:Nat
def Gg.z1 (g:Gg):Int:=g.word.getD g.first 0
def Gg.z2 (g:Gg):Int:=-(g.word.getD g.last 0)
structure GI (S:RS) (g:Gg):Prop where
 fl:g.first<=g.last
 ll:g.last<g.word.length
 s:g.start<S.made
 f:g.front<S.made
 r:g.bh<S.made
 wf:wk S.by (S.av g.start) (g.word.take g.first)=some (S.av g.front)
 wr:wk S.by (S.av g.bh) (g.word.drop (g.last+ 1))=some (S.av g.start)
theorem GI.later {g:Gg}(h:GI S g)(l:Later S T)(a:S.made<=T.made):GI T g:=by
 have b:=l.wk h.wf;have c:=l.wk h.wr;rw[l.el _ h.s,l.el _ h.f]at b;rw[l.el _ h.r,l.el _ h.s]at c;exact⟨h.fl,h.ll,abW h.s a,abW h.f a,abW h.r a,b,c⟩
theorem Gg.pC {g:Gg}(h:g.first<g.word.length):g.word[g.first]?=some g.z1:=by
 unfold Gg.z1
 grind
theorem Gg.at2 {g:Gg}(h:g.last<g.word.length):g.word[g.last]?=some (-g.z2):=by
 unfold Gg.z2
 grind
structure Rz (S:RS) (g g':Gg):Prop where
 wh:g'.which=g.which
 wo:g'.word=g.word
 st:g'.start=g.start
 gi:GI S g'
 ef:S.av g'.front=g'.front
 er:S.av g'.bh=g'.bh
 n1:g'.first<g'.last->S.by g'.front g'.z1=none
 n2:g'.first<g'.last->S.by g'.bh g'.z2=none
 k1:S.av g.front=g.front->S.by g.front g.z1=none->g'.front=g.front/\g'.first=g.first
 k2:S.av g.bh=g.bh->S.by g.bh g.z2=none->g'.bh=g.bh/\g'.last=g.last
theorem GI.whole {g:Gg}(h:GI S g)(e:g.first=g.last)(a:S.av g.start=g.start)(ef:S.av g.front=g.front)(er:S.av g.bh=g.bh)(d:S.by g.front g.z1=some g.bh):wk S.by g.start g.word=some g.start:=by
 have b:=h.wf;have c:=h.wr;rw[a,ef]at b;rw[a,er,<-e]at c;have hz:=Gg.pC (g:=g) (by rw[e];exact h.ll);have:g.word=g.word.take g.first++(g.z1::g.word.drop (g.first+ 1)):=by rw[<-drop_cons hz,adz]
 rw[this,nj b,gG d];exact c
def eN (m:Nat)(W:bG)(n:Int):Nat:=(List.range (m* 2001)).countP λc=>W ((c / 2001:Nat):Int) (((c % 2001:Nat):Int) - 1000) n
def qo (m G:Nat)(W:bG):Nat:=((List.range G).map λn:Nat=>eN m W n).sum
def fi (W:bG)(r s:Int):bG:=λb a n=>W b a n && !(decide (b=r) && decide (a=s))
theorem M8 (a:n<m)(b: -1000<=z/\z<=1000):n* 2001+ (z+ 1000).toNat<m* 2001:=by
 have:(n+ 1)* 2001<=m* 2001:=acG _ a;omega
theorem DQ {c r:Nat}(d: -1000<=z/\z<=1000):(((c / 2001:Nat):Int)=(r:Int)/\((c % 2001:Nat):Int) - 1000=z)↔c=r* 2001+ (z+ 1000).toNat:=by
 constructor
 ·rintro ⟨e,f⟩;have:=Nat.div_add_mod c 2001;omega
 ·intro h;subst h
  have b:(r* 2001+ (z+ 1000).toNat) / 2001=r:=by
   rw[aeL,Nat.mul_add_div (by decide),Nat.div_eq_of_lt (by omega)];omega
  have a:(r* 2001+ (z+ 1000).toNat) % 2001=(z+ 1000).toNat:=by
   rw[aeL,Nat.mul_add_mod,Nat.mod_eq_of_lt (by omega)]
  rw[b,a];omega
theorem M9 {W:bG}(a:Int)(g:n<m)(d: -1000<=z/\z<=1000):eN m (fi W n z) a+ (if W n z a=true then 1 else 0)=eN m W a:=by
 have f:=M8 g d
 have dec:∀c:Nat,(decide (((c / 2001:Nat):Int)=(n:Int)) && decide (((c % 2001:Nat):Int) - 1000=z))=decide (c=n* 2001+ (z+ 1000).toNat):=λc=>by
  rw[<-Bool.decide_and,decide_eq_decide];exact DQ d
 have at_:=(DQ (c:=n* 2001+ (z+ 1000).toNat) (r:=n) d).mpr rfl;unfold eN fi;by_cases b:W n z a=true
 ·rw[abN b]
  have:=kr (p:=λc:Nat=>W ((c / 2001:Nat):Int) (((c % 2001:Nat):Int) - 1000) a) (p':=λc:Nat=>W ((c / 2001:Nat):Int) (((c % 2001:Nat):Int) - 1000) a && !(decide (((c / 2001:Nat):Int)=(n:Int)) && decide (((c % 2001:Nat):Int) - 1000=z))) (v:=n* 2001+ (z+ 1000).toNat) (λc=>by
   rw[dec c,<-decide_not]) (by rw[at_.1,at_.2];exact b) (m* 2001)
  rw[abN f]at this;exact this
 ·rw[abH b,Nat.add_zero];refine List.countP_congr λc _=>?_
  rw[acM];refine⟨λh=>h.1,λh=>⟨h,?_⟩⟩;rw[dec c]
  cases e:decide (c=n* 2001+ (z+ 1000).toNat) with
  |false=>rfl
  |true=>
   rw[ab9 e,at_.1,at_.2]at h;exact absurd h b
theorem wY:∀(l:List Nat) (f g h:Nat->Nat),(∀n∈l,f n+ g n=h n)->(l.map f).sum+ (l.map g).sum=(l.map h).sum
 |[],_,_,_,_=>rfl
 |a::l,f,g,h,e=>by
  have c:=wY l f g h λn b=>e n (abR _ b)
  have:=e a (abA ..);simp only[acg,List.sum_cons];omega
theorem AH (p:Nat->Bool):∀l:List Nat,(l.map λn=>if p n=true then 1 else 0).sum=l.countP p
 |[]=>rfl
 |a::l=>by
  rw[acg,List.sum_cons,AH p l,List.countP_cons];omega
theorem Ks {G:Nat}{W:bG}(c:n<m)(b: -1000<=z/\z<=1000):qo m G (fi W n z)+ (List.range G).countP (λa:Nat=>W n z a)=qo m G W:=by
 unfold qo;rw[<-AH (λa:Nat=>W n z a)];exact wY _ _ _ _ λa _=>M9 a c b
theorem Kt:∀{l:List Nat} {a b:Nat},l.Nodup->(∀x∈l,x=a\/x=b)->l.length<=2
 |[],_,_,_,_=>by decide
 |[_],_,_,_,_=>ado 1
 |[_,_],_,_,_,_=>abr 2
 |x::y::z::r,a,b,c,h=>by
  have f:=h x (by simp);have d:=h y (by simp);have e:=h z (by simp)
  grind
theorem Nb {W:bG}{p q:Int×Int}(h:∀r s,W r s z=true->(r,s)=p\/(r,s)=q):eN m W z<=2:=by
 unfold eN;rw[List.countP_eq_length_filter];refine Kt (a:=(p.1* 2001+ (p.2+ 1000)).toNat) (b:=(q.1* 2001+ (q.2+ 1000)).toNat) (List.nodup_range.filter _) λc d=>?_
 have f:=Nat.div_add_mod c 2001;rcases h _ _ (ac7.mp d).2 with e|e
 ·left;rw[<-e];dsimp only;omega
 ·right;rw[<-e];dsimp only;omega
theorem DR:∀(l:List Nat) (f:Nat->Nat) (k:Nat),(∀n∈l,f n<=k)->(l.map f).sum<=l.length* k
 |[],_,_,_=>by simp
 |a::l,f,k,h=>by
  have c:=DR l f k λn b=>h n (abR _ b)
  have:=h a (abA ..);rw[acg,List.sum_cons,abL,ad6];omega
theorem Ku {W:bG}(h:∀a:Nat,∃p q:Int×Int,∀r s,W r s a=true->(r,s)=p\/(r,s)=q):qo m n W<=2* n:=by
 have:=DR (List.range n) (λa:Nat=>eN m W a) 2 λa _=>by
  obtain⟨p,q,e⟩:=h a;exact Nb e
 rw[abY]at this;unfold qo;omega
structure CI (S:RS) (bs:List (Nat×List Int×Nat)) (gs:List (Option Gg)) (ag:List Nat) (W:bG) (Ex:Nat->Int->Prop) (x:Option Nat):Prop where
 len:gs.length=bs.length
 al:∀(n:Nat) (g:Gg),gs[n]?=some (some g)->bs[n]?=some (g.which,g.word,g.start)/\GI S g/\(n∈ag\/some n=x\/(g.first<g.last/\W g.front g.z1 n=true/\W g.bh g.z2 n=true))
 de:∀(n:Nat) (b:Nat×List Int×Nat),gs[n]?=some none->some n≠x->bs[n]?=some b->S.av b.2.2≠b.2.2\/wk S.by b.2.2 b.2.1=some b.2.2
 ab:∀n∈ag,n<gs.length
 en:∀r s n,W r s n=true->∃r' n':Nat,r=r'/\n=n'/\r'<S.made/\n'<gs.length/\(-1000<=s/\s<=1000)/\(S.av r'=r'/\S.by r' s=none\/Ex r' s)
 sl:∀n:Nat,∃p q:Int×Int,(∀r s,W r s n=true->(r,s)=p\/(r,s)=q)/\∀g,gs[n]?=some (some g)->p=((g.front:Int),g.z1)/\q=((g.bh:Int),g.z2)
 bd:∀b∈bs,∀z∈b.2.1,-1000<=z/\z<=1000
def eT:Nat->Int->Prop:=λ_ _=>False
section
variable {S:RS}{bs:List (Nat×List Int×Nat)}{gs:List (Option Gg)}{ag:List Nat}{W:bG}{Ex:Nat->Int->Prop}{x:Option Nat}{n:Nat}
theorem CI.pop (h:CI S bs gs (ag++[n]) W Ex none):CI S bs gs ag W Ex (some n):=by
 refine⟨h.len,λk g e=>?_,λk b e _=>h.de k b e (λz=>by cases z),λk a=>h.ab k (abM _ a),h.en,h.sl,h.bd⟩;obtain⟨d,f,c⟩:=h.al k g e
 grind
theorem CI.done (h:CI S bs gs ag W Ex (some n))(e:gs[n]?=some none)(k:∀b,bs[n]?=some b->S.av b.2.2≠b.2.2\/wk S.by b.2.2 b.2.1=some b.2.2):CI S bs gs ag W Ex none:=by
 refine⟨h.len,λm g d=>?_,λm b d _ c=>?_,h.ab,h.en,h.sl,h.bd⟩
 ·obtain⟨f,i,a⟩:=h.al m g d;refine⟨f,i,?_⟩;rcases a with a|a|a
  ·exact .inl a
  ·grind
  ·exact .inr (.inr a)
 ·by_cases q:m=n
  ·rw[q]at c;exact k b c
  ·exact h.de m b d (λz=>q (Za0 z)) c
theorem eJ {c:Type}{l:List c}{a b:c}(h:(l.set i a)[j]?=some b):(j=i/\b=a)\/(j≠i/\l[j]?=some b):=by
 grind
theorem CI.kill (h:CI S bs gs ag W Ex (some n)):CI S bs (gs.set n none) ag W Ex (some n):=by
 refine⟨by rw[abP];exact h.len,λm g e=>?_,λm b e q d=>?_,λk f=>by rw[abP];exact h.ab k f,λr s k e=>?_,λm=>?_,h.bd⟩
 ·rcases eJ e with ⟨_,z⟩|⟨z,e⟩
  ·cases z
  ·exact h.al m g e
 ·rcases eJ e with ⟨z,_⟩|⟨z,e⟩
  ·grind
  ·exact h.de m b e q d
 ·rw[abP];exact h.en r s k e
 ·obtain⟨p,q,a,c⟩:=h.sl m;refine⟨p,q,a,λg e=>?_⟩;rcases eJ e with ⟨_,z⟩|⟨_,e⟩
  ·cases z
  ·exact c g e
def addW (W:bG)(r s n:Int):bG:=λc a b=>W c a b || (decide (c=r) && decide (a=s) && decide (b=n))
theorem cY {W:bG}{n c a b:Int}:addW W z y n c a b=true↔W c a b=true\/(c=z/\a=y/\b=n):=by
 unfold addW
 grind
theorem cR {W:bG}{b a c:Int}:fi W z y b a c=true↔W b a c=true/\¬(b=z/\a=y):=by
 unfold fi
 grind
theorem CI.waits (h:CI S bs gs ag W eT (some n)){g c:Gg}(e:gs[n]?=some (some g))(a:Rz S g c)(d:c.first<c.last):CI S bs (gs.set n (some c)) ag (addW (addW W c.front c.z1 n) c.bh c.z2 n) eT none:=by
 obtain⟨B,O,_⟩:=h.al n g e;have o:=(abk.mp e).1;have gi:=a.gi;have C:∀z∈c.word,-1000<=z/\z<=1000:=λz hz=>h.bd _ (abn B) z (by rw[<-a.wo];exact hz)
 have H:=C _ (abn (Gg.pC (g:=c) (by have:=gi.ll;omega)));have M:=C _ (abn (Gg.at2 (g:=c) gi.ll));refine⟨by rw[abP];exact h.len,λm u q=>?_,λm b q _ G=>?_,λk L=>by rw[abP];exact h.ab k L,λr s k q=>?_,λm=>?_,h.bd⟩
 ·rcases eJ q with ⟨rfl,z⟩|⟨z,q⟩
  ·cases z;refine⟨by rw[B,a.wh,a.wo,a.st],gi,.inr (.inr ⟨d,cY.mpr (.inl (cY.mpr (.inr ⟨rfl,rfl,rfl⟩))),cY.mpr (.inr ⟨rfl,rfl,rfl⟩)⟩)⟩
  ·obtain⟨i,l,f⟩:=h.al m u q;refine⟨i,l,?_⟩;rcases f with f|f|⟨f,E,J⟩
   ·exact .inl f
   ·grind
   ·exact .inr (.inr ⟨f,cY.mpr (.inl (cY.mpr (.inl E))),cY.mpr (.inl (cY.mpr (.inl J)))⟩)
 ·rcases eJ q with ⟨_,z⟩|⟨z,q⟩
  ·cases z
  ·exact h.de m b q (λy=>z (Za0 y)) G
 ·rw[abP];rcases cY.mp q with q|⟨rfl,rfl,rfl⟩
  ·rcases cY.mp q with q|⟨rfl,rfl,rfl⟩
   ·exact h.en r s k q
   ·exact⟨_,n,rfl,rfl,gi.f,o,H,.inl ⟨a.ef,a.n1 d⟩⟩
  ·exact⟨_,n,rfl,rfl,gi.r,o,by omega,.inl ⟨a.er,a.n2 d⟩⟩
 ·obtain⟨p,q,i,l⟩:=h.sl m;by_cases F:m=n
  ·subst F;obtain⟨D,eq⟩:=l g e;refine⟨((c.front:Int),c.z1),((c.bh:Int),c.z2),λr s w=>?_,λu t=>?_⟩
   ·rcases cY.mp w with w|⟨rfl,rfl,_⟩
    ·rcases cY.mp w with w|⟨rfl,rfl,_⟩
     ·obtain⟨A,N,er,_,_,_,_,j⟩:=h.en r s m w;rcases j with ⟨v,I⟩|j
      ·rcases i r s w with z|z
       ·rw[D]at z;injection z with z1 z2
        have:A=g.front:=by omega
        subst this;obtain⟨k1,k2⟩:=a.k1 v (by grind)
        left
        rw[Prod.mk.injEq];refine⟨by rw[k1];exact er,?_⟩;rw[z2];unfold Gg.z1;rw[a.wo,k2]
       ·rw[eq]at z;injection z with z1 z2
        have:A=g.bh:=by omega
        subst this;obtain⟨k1,k2⟩:=a.k2 v (by grind)
        right
        rw[Prod.mk.injEq];refine⟨by rw[k1];exact er,?_⟩;rw[z2];unfold Gg.z2;rw[a.wo,k2]
      ·exact j.elim
     ·exact .inl rfl
    ·exact .inr rfl
   ·rcases eJ t with ⟨_,z⟩|⟨z,_⟩
    ·grind
    ·exact absurd rfl z
  ·refine⟨p,q,λr s w=>?_,λu t=>?_⟩
   ·rcases cY.mp w with w|⟨_,_,z⟩
    ·rcases cY.mp w with w|⟨_,_,z⟩
     ·exact i r s w
     ·omega
    ·omega
   grind
theorem CI.wake (h:CI S bs gs ag W Ex x){r s:Int}{ns:List Nat}(b:∀k:Nat,k∈ns↔W r s k=true):CI S bs gs (ag++ns) (fi W r s) Ex x:=by
 refine⟨h.len,λm g e=>?_,h.de,λk u=>?_,λo t k q=>h.en _ _ _ (cR.mp q).1,λm=>?_,h.bd⟩
 ·obtain⟨i,f,a⟩:=h.al m g e;refine⟨i,f,?_⟩;rcases a with a|a|⟨a,j,l⟩
  ·exact .inl (abM _ a)
  ·exact .inr (.inl a)
  ·by_cases d:(g.front:Int)=r/\g.z1=s
   ·exact .inl (abv _ ((b m).mpr (by rw[<-d.1,<-d.2];exact j)))
   ·by_cases c:(g.bh:Int)=r/\g.z2=s
    ·exact .inl (abv _ ((b m).mpr (by rw[<-c.1,<-c.2];exact l)))
    ·exact .inr (.inr ⟨a,cR.mpr ⟨j,d⟩,cR.mpr ⟨l,c⟩⟩)
 ·rcases abx.mp u with q|q
  ·exact h.ab k q
  ·obtain⟨_,y,_,en,_,v,_⟩:=h.en _ _ _ ((b k).mp q);omega
 ·obtain⟨p,q,i,f⟩:=h.sl m;exact⟨p,q,λo t w=>i _ _ (cR.mp w).1,f⟩
theorem CI.ex {e:Nat->Int->Prop}(h:CI S bs gs ag W Ex x)(k:∀(r:Nat) s n,W r s n=true->r<S.made->Ex r s->(S.av r=r/\S.by r s=none)\/e r s):CI S bs gs ag W e x:=by
 refine⟨h.len,h.al,h.de,h.ab,λr s n q=>?_,h.sl,h.bd⟩;obtain⟨g,f,rfl,rfl,a,b,c,d⟩:=h.en r s n q;exact⟨g,f,rfl,rfl,a,b,c,d.elim .inl (k g s f q a)⟩
end
structure eK (S:RS):Prop where
 a:∀c,c<S.made->S.av c≠c->c∈S.aY
 b:∀c∈S.aY,S.av c≠c
 c:∀c∈S.aY,c<S.made
section
variable {S S':RS}{pend:List Way}{w:Way}{R:Za2}{ks:List Int}
theorem DS {x:Nat}:(S.meet n z x m pend).1.aY=S.aY++[max x m]:=by
 have:=(fz (max x m) (S.joined n z (min x m) (max x m)) pend ((S.joined n z (min x m) (max x m)).way (max x m))).2;have:=ade RS.aY this;exact this
theorem sH (h:(S.takeIn pend w).1.aY=S.aY):(S.takeIn pend w).1.aU=S.aU:=by
 have no:∀{c x y:Nat} {z:Int},(S.meet c z x y pend).1.aY=S.aY->False:=λ{c x y z} e=>by
  rw[DS]at e;have:=ade List.length e
  grind
 unfold RS.takeIn at h ⊢;split
 ·rename_i q;rw[abN q]at h;exact(no h).elim
 ·rename_i q;rw[abH q]at h;split
  ·rename_i a;rw[abN a]at h;exact(no h).elim
  ·rfl
theorem eK.take (f:eK S)(h:Good S (pend++[w]) R)(o:∀c z d,R c z d->z∈ks):eK (S.takeIn pend w).1/\∃l,(S.takeIn pend w).1.aY=S.aY++l:=by
 obtain⟨_,_,g,_,q⟩:=h.take o;rcases q with ⟨_,_,e⟩|⟨_,c,z,x,y,k,_,r,p,j,_,e,el⟩
 ·have ee:=sH e;have el:∀a,(S.takeIn pend w).1.av a=S.av a:=λa=>by unfold RS.av;rw[ee]
  refine⟨⟨λc hc=>?_,λc hc=>?_,λc hc=>by rw[g];rw[e]at hc;exact f.c c hc⟩,[],by rw[e,abO]⟩
  ·rw[g]at hc;rw[el,e];exact f.a c hc
  ·rw[e]at hc;rw[el];exact f.b c hc
 ·obtain⟨_,m,_,ex⟩:=h.st _ _ _ k;refine⟨⟨λa b=>?_,λa b=>?_,λa b=>?_⟩,[max x y],e⟩
  ·rw[g]at b;rw[el,e];intro i;by_cases q:S.av a=a
   ·grind
   ·exact abM _ (f.a a b q)
  ·rw[el];rw[e]at b;rcases abx.mp b with q|q
   ·have i:=f.b a q
    grind
   grind
  ·rw[g];rw[e]at b;rcases abx.mp b with q|q
   ·exact f.c a q
   ·rw[abp.mp q];rcases aeM x y with n|n <;> omega
inductive jw:RS->List Way->RS->Prop where
 |nil (S:RS):jw S [] S
 |take {S S':RS} {pend:List Way} {w:Way}:jw (S.takeIn pend w).1 (S.takeIn pend w).2 S'->jw S (pend++[w]) S'
theorem jw.all (l:jw S pend S'):Good S pend R->(∀c z d,R c z d->z∈ks)->eK S->Good S' [] R/\eK S'/\S'.made=S.made/\S'.L=S.L/\∃l,S'.aY=S.aY++l:=by
 induction l with
 |nil S=>exact λg _ w=>⟨g,w,rfl,rfl,[],(abO _).symm⟩
 |take _ i=>
  intro g e w;obtain⟨h,_,m,n,_⟩:=g.take e;obtain⟨f,l2,j⟩:=w.take g e;obtain⟨a,b,c,d,k,o⟩:=i h e f
  grind
end
section
variable {S S':RS}{R:Za2}{bs:List (Nat×List Int×Nat)}{gs:List (Option Gg)}{ag:List Nat}{W:bG}{n c d:Nat}{z:Int}
theorem CI.lay (h:CI S bs gs ag W eT (some n))(e:gs[n]?=some none)(g:Good S [] R)(x:Good S' [] (eD R c z d))(hm:S'.made=S.made)(Q:eK S)(E:eK S'){l:List Nat}(M:S'.aY=S.aY++l)(hc:c<S.made)(N:S.av c=c)(hd:d<S.made)(ed:S.av d=d)
 (k:∀b,bs[n]?=some b->S'.av b.2.2≠b.2.2\/wk S'.by b.2.2 b.2.1=some b.2.2):CI S' bs gs ag W (λr s=>(r=c/\s=z)\/(r=d/\s= -z)\/∃m∈l,r=m\/r=S'.av m) none:=by
 have lt:=Later.of g x iw (aei hm.symm)
 have p:∀e,e<S.made->S.av e=e->S'.av e≠e->e∈l:=λe j i D=>by
  have:=E.a e (by rw[hm];exact j) D;rw[M]at this;rcases abx.mp this with q|q
  ·exact absurd i (Q.b e q)
  omega
 have h0:CI S' bs gs ag W (λr s=>(r=c/\s=z)\/(r=d/\s= -z)\/∃m∈l,r=m\/r=S'.av m) (some n):=by
  refine⟨h.len,λm u q=>?_,λm b y F P=>?_,h.ab,λr s m q=>?_,h.sl,h.bd⟩
  ·obtain⟨j,i,D⟩:=h.al m u q;exact⟨j,i.later lt (aei hm.symm),D⟩
  ·by_cases t:S'.av b.2.2=b.2.2
   ·right
    rcases h.de m b y F P with q|q
    ·by_cases C:b.2.2<S.made
     ·have j:=(g.el _ C).1;have i:=(x.el _ (by rw[hm];exact g.lt C)).1;rw[lt.el _ C,t]at i;exact absurd (Nat.le_antisymm j i) q
     ·exfalso
      have G:S.aU.length=S.made:=g.wf.e;have J:S'.aU.length=S'.made:=x.wf.e;have T:S.av b.2.2=0:=by unfold RS.av;rw[abt,abT (by omega)];rfl
      have A:S'.av b.2.2=0:=by unfold RS.av;rw[abt,abT (by omega)];rfl
      exact q (by rw[T,<-A,t])
    ·have:=lt.wk q;rw[t]at this;exact this
   ·exact .inl t
  ·obtain⟨f,U,t,L,H,I,G,q⟩:=h.en r s m q;refine⟨f,U,t,L,by rw[hm];exact H,I,G,?_⟩;rcases q with ⟨y,F⟩|q
   ·by_cases j:S'.av f=f
    ·cases i:S'.by f s with
     |none=>exact .inl ⟨j,rfl⟩
     |some o=>
      right
      obtain⟨v,O,w,f1,Y⟩:=x.so _ _ _ i
      have stand:∀e,e<S.made->S.av e=e->S'.av e=f->e=f\/∃m∈l,f=m\/f=S'.av m:=λe Z X V=>by
       grind
      rcases w with w|⟨rfl,rfl,rfl⟩|⟨rfl,rfl,rfl⟩
      ·obtain⟨B,l2,_⟩:=g.rl _ _ _ w;rcases stand (S.av v) (g.lt B) (g.el _ B).2 (by rw[lt.el _ B];exact f1) with a|a
       ·have:=g.uB.mpr ⟨v,O,w,a,rfl⟩
        grind
       ·exact .inr (.inr a)
      ·rcases stand v hc N f1 with a|a
       ·exact .inl ⟨a.symm,rfl⟩
       ·exact .inr (.inr a)
      ·rcases stand v hd ed f1 with a|a
       ·exact .inr (.inl ⟨a.symm,rfl⟩)
       ·exact .inr (.inr a)
    ·exact .inr (.inr (.inr ⟨f,p f H y j,.inl rfl⟩))
   ·exact q.elim
 exact h0.done e k
end
def b6 (a:Nat->Int->Option Nat):Nat->List Int->List Nat
 |_,[]=>[]
 |r,z::c=>match a r z with
  |none=>[]
  |some b=>b::b6 a b c
theorem wZ {a:Nat->Int->Option Nat}(h:a n z=none):b6 a n (z::l)=[]:=by
 show (match a n z with|none=>[]|some b=>b::b6 a b l)=[];rw[h]
theorem mh {a:Nat->Int->Option Nat}(h:a n z=some m):b6 a n (z::l)=m::b6 a m l:=by
 show (match a n z with|none=>[]|some m=>m::b6 a m l)=_;rw[h]
def kD (w:Nat)(p:List Nat)(k:Nat):Dt:=.t [.s [114,117,108,101],.i w,.t (p.map λc:Nat=>Dt.i (c:Int)),.i k]
structure yQ (ws:Za3) (nr:Nat) (S:RS) (which:Nat) (word:List Int) (start m c d:Nat) (z:Int):Prop where
 w:ws[which]?=some word
 n:which<nr\/start=0
 s:start<S.made/\S.av start=start
 hz:word[m]?=some z
 f:wk S.by start (word.take m)=some c
 r:wk S.by d (word.drop (m+ 1))=some start
 hc:c<S.made/\S.av c=c
 hd:d<S.made/\S.av d=d
 o:S.by c z≠some d
def oO (S:RS)(a:Nat)(word:List Int)(start m d:Nat):RS:={ S with rows:=S.rows++[kD a ((start::b6 S.by start (word.take m))++(d::b6 S.by d (word.drop (m+ 1)))) m] }
inductive Tr (ws:Za3) (nr:Nat):RS->RS->Prop where
 |refl (S:RS):Tr ws nr S S
 |step {S S1 S2:RS} {which:Nat} {word:List Int} {start m c d:Nat} {z:Int}:Tr ws nr S S1->yQ ws nr S1 which word start m c d z->jw (oO S1 which word start m d) [(c,z,d)] S2->Tr ws nr S S2
def Ig (S:RS)(c:Nat)(word:List Int):Prop:=wk S.by c word=some c\/∃(i j f r:Nat) (y z:Int),i<j/\word[i]?=some y/\word[j]?=some z/\wk S.by c (word.take i)=some f/\S.by f y=none/\wk S.by r (word.drop (j+ 1))=some c/\S.by r (-z)=none
structure yR (rs ps:Za3) (S:RS):Prop where
 r:∀w∈rs,∀c,c<S.made->S.av c=c->Ig S c w
 p:∀w∈ps,Ig S 0 w
def UW (U:Za2):Nat->List Int->Nat->Prop
 |p,[],q=>p=q
 |p,z::w,q=>∃r,U p z r/\UW U r w q
structure RB (ws:Za3) (nr M:Nat) (φ:Nat->Nat) (U:Za2):Prop where
 sy:∀p z q,U p z q->U q (-z) p
 fn:∀p z q q',U p z q->U p z q'->q=q'
 cl:∀(which:Nat) (word:List Int) (start m c d:Nat) (z:Int),ws[which]?=some word->which<nr\/start=0->start<M->word[m]?=some z->UW U (φ start) (word.take m) (φ c)->UW U (φ d) (word.drop (m+ 1)) (φ start)->U (φ c) z (φ d)
section
variable {S S':RS}{R:Za2}{φ:Nat->Nat}{U:Za2}{ks:List Int}
theorem DT (k:∀p z q d,U p z q->U p z d->q=d)(e:∀a z b,R a z b->U (φ a) z (φ b)){a b:Nat}(h:Cg R a b):φ a=φ b:=by
 induction h with
 |refl=>rfl
 |symm _ c=>exact c.symm
 |trans _ _ f i=>exact f.trans i
 |step g j _ c=>exact k _ _ _ _ (e _ _ _ g) (by rw[c];exact e _ _ _ j)
theorem DU (g:Good S [] R)(i:∀p z q e,U p z q->U p z e->q=e)(f:∀a z b,R a z b->U (φ a) z (φ b)){c d:Nat}{z:Int}(h:S.by c z=some d):U (φ c) z (φ d):=by
 obtain⟨m,t,r,n,l⟩:=g.so _ _ _ h;obtain⟨j,k,_⟩:=g.rl _ _ _ r;have o:=DT i f (g.cg _ j);have s:=DT i f (g.cg _ k)
 grind
theorem yS (h:∀c z d,S.by c z=some d->U (φ c) z (φ d)):∀{w:List Int} {c d:Nat},wk S.by c w=some d->UW U (φ c) w (φ d)
 |[],c,d,e=>by rw[Za0 e];rfl
 |z::w,c,d,e=>by
  obtain⟨f,a,b⟩:=gn e;exact⟨_,h _ _ _ a,yS h b⟩
theorem Tr.sound {ws:Za3}(t:Tr ws n S S')(l:RB ws n m φ U)(B:∀w∈ws,∀z∈w,z∈ks/\-z∈ks):Good S [] R->eK S->S.made<=m->(∀a z b,R a z b->z∈ks)->(∀a z b,R a z b->U (φ a) z (φ b))->
 ∃j,Good S' [] j/\eK S'/\S'.made=S.made/\S'.L=S.L/\(∀a z b,R a z b->j a z b)/\(∀a z b,j a z b->z∈ks)/\∀a z b,j a z b->U (φ a) z (φ b):=by
 induction t with
 |refl=>exact λg w _ k h=>⟨R,g,w,rfl,rfl,λ_ _ _ r=>r,k,h⟩
 |step _ ra s H=>
  rename_i J L which word start f c d z _;intro g I C k h;obtain⟨A,g1,o,G,x,v,k1,q⟩:=H g I C k h;have p:=λc z d=>DU (c:=c) (d:=d) (z:=z) g1 l.fn q
  have u:=l.cl which word start f c d z ra.w ra.n (by have:=ra.s.1;omega) ra.hz (yS p ra.f) (yS p ra.r);have hz:=B word (abn ra.w) z (abn ra.hz)
  have i:∀a y b,eD A c z d a y b->y∈ks:=by
   rintro a y b (r|⟨_,e,_⟩|⟨_,e,_⟩)
   ·exact k1 _ _ _ r
   ·rw[e];exact hz.1
   ·rw[e];exact hz.2
  obtain⟨F,D,E,l2,_⟩:=s.all (g1.lay z ra.hc.1 ra.hd.1 _) i ⟨o.a,o.b,o.c⟩;refine⟨_,F,D,E.trans G,l2.trans x,λa y b r=>.inl (v _ _ _ r),i,?_⟩;rintro a y b (r|⟨rfl,rfl,rfl⟩|⟨rfl,rfl,rfl⟩)
  ·exact q _ _ _ r
  ·exact u
  ·exact l.sy _ _ _ u
end
end L2
namespace L2
open PySem PySem.Spec PyProof.Rows
section
variable {X:Cx}
def Kv (K:Za1)(g:TA)(e:TE):TI:=λ b H R=>g b H λh f=>e b f λz c=>∃a n,h=[.ref a]/\z=.int n/\0<=n/\n<1000/\(∃d,aD K c a d)/\R (rO K a n) c
def Nc (Q:V->Hp->Prop):List V->Hp->Prop
 |[z],H=>Q z H
 |_,_=>False
theorem Kw {Q:V->Hp->Prop}:∀{a:List V} {H:Hp},Nc Q a H->∃z,a=[z]/\Q z H
 |[z],_,h=>⟨z,rfl,h⟩
 |[],_,h=>h.elim
 |_::_::_,_,h=>h.elim
theorem DV {b:Expr}{F:TE}{elts:List Expr}{c a kp:Pos}(hg:Gl X "enumerate")(G:X.mg "enumerate"=none)(he:PE X e r)(o:PE X b F)
 (E:starEach [e] X.env=(false,eval e X.env)::starEach [] X.env:=by rfl)
 (B:((backTo a (starEach [e] X.env)).any (·.1) || (backToKw a (keywordEach [⟨some "start",b,kp⟩] X.env)).any (·.1.isNone))=false:=by rfl):
 PI X (.Tuple elts n p) (.Call (.Name "enumerate" c) [e] [⟨some "start",b,kp⟩] a) (Kv X.K (uk r vH) F):=by
 intro i s C H R I h;refine acI (gU I hg G boot_enumerate ?_);refine PySem.W.callWith_of (P:=λ_=>True) B (λ_ _=>⟨.machine,.inr (.inl rfl),λ_ _ _ _ _ q=>abq q⟩) (evalArgs_kw2 rfl (a8 ((ae he aj E) a i s C H _ I h) λus M ⟨J,S,O,g,q⟩=>?_) E);refine a8 ((JP o L3:PK X [⟨some "start",b,kp⟩] _) a i M C S (Nc λz k=>∃e f,J=[.ref e]/\z=.int f/\0<=f/\f<1000/\(∃D,aD X.K k e D)/\R (rO X.K e f) k) O q) λws s2 ⟨zs,k,j,W,Q⟩=>⟨True.intro,?_⟩
 obtain⟨z,rfl,l,f,L,rfl,A,x,v,N⟩:=Kw Q;subst L;obtain⟨D,v⟩:=v;obtain⟨u,rfl,Z⟩:=vals1 g;cases Z;obtain⟨u2,rfl,Y,rfl⟩:=vals1 W;obtain⟨V,rv,pl,hz⟩:=j.list v;show wpAny _ _ (call (.type "enumerate") [.ref l] [("start",.int f Y)]) _ _ s2;refine En.zT pl.isList A x λt y hit hk=>?_
 have U:Inv X i C k { s2 with heap:=t }:=j.kept (t':=s2.toks) hk;have m:(∃old,IsEnum t (s2.heap.objs.size+ 1) s2.heap.objs.size (f+ ((0:Nat):Int)) old)/\t.IsListIter s2.heap.objs.size l 0:=⟨⟨_,by rw[show f+ ((0:Nat):Int)=f by omega];exact y⟩,hit⟩;have T:=zU (P:=X.prog) (w:=X.w) (K:=X.K) (elts:=elts) (x1:=n) (tp:=p) (s2.heap.objs.size+ 1) s2.heap.objs.size l f (Nat.succ_ne_self _);refine T.self _ 0 { s2 with heap:=t } _ _ m ⟨_,_,_,_,k,rfl,U,T,m,λb o=>?_,N⟩;rcases abD.mp o with d|o
 ·subst d;exact j.mP (ado _) (j.aO.fresh (ado _))
 ·rw[abp.mp o];exact j.mP (abr _) (j.aO.fresh (abr _))
end
section
variable {prog:Program} {w:World} {K:Type} [DecidableEq K] {knd:HeapKind prog w K} {A:Around} {E:Value->Shared->Prop} {s:Shared} {d a:Addr} {k:K} {xs:List (K×Addr×Value)}
theorem zV {dflt:Value}(n:knd.room A)(b:knd.is s.heap k a)(r:s.heap.DictOfH knd d xs)
 (C:∀v,(atKey xs k).map (·.2)=some v->Q v { s with toks:=s.toks+ knd.draws k })
 (B:atKey xs k=none->∀i,i.DictOfH knd d (storedH xs k a dflt)->Heap.SameBut d s.heap i->Q dflt { s with heap:=i,toks:=s.toks+ knd.draws k })
 (t:xs.length<=sizeLine):wpAny (model prog w) A (dictSetDefault d (.ref a) dflt) Q E s:=by
 obtain⟨G,x,u,f,g2,c,h,l,m⟩:=r;unfold dictSetDefault
 first|(with_reducible refine acD ?_)|skip
 refine abi (knd.pyHash n b (abi (wpAny_dictFind_heap (s:={ s with toks:=s.toks+ knd.draws k }) n b f c h l m (λno=>?_) (λj p o=>?_))))
 ·have H:k∉xs.map (·.1):=not_mem_keys_of_get no;have g:=atKey_none_of_get no;refine abi (wpAny_rule (abi (wpAny_updateDictKeys (hz:=by have e:=size_of_entries h;omega) (s:={ s with toks:=s.toks+ knd.draws k }) f c (abq (B g _ ?_ (acR ..))))));refine⟨_,_,u+ 1,acb _ f (Obj.isFreed_of_dict (Obj.data_mapDictKeys c _)),g2.mapDictKeys _,Obj.data_mapDictKeys c _,?_,?_,?_⟩
  ·rw[storedH_new g];simp[h,entryOfKey]
  ·rw[storedH_new g];intro y z;rcases abx.mp z with q|q
   ·exact knd.keeps (l y q) f c (acR ..)
   ·rw[abp.mp q];exact knd.keeps b f c (acR ..)
  ·rw[storedH_new g,abU,ab5]
   grind
 ·have F:=atKey_of_get m o;refine abi (adl (s:={ s with toks:=s.toks+ knd.draws k }) f c ?_)
  have D:x[j]?=some (entryOfKey knd (k,p)):=by
   rw[entry_at h j,o];rfl
  rw[D];exact abi (wpAny_rule (abq (C _ (by rw[F];rfl))))
theorem xJ (knd:HeapKind prog w K)(d a:Addr)(j:(d==sysModules)=false)(dflt:Value):MeetsIn prog w (Builtin.«dict.setdefault» ⟨[.ref d,.ref a,dflt],[]⟩) (λA R s=>knd.room A.in1/\∃k xs,knd.is s.heap k a/\s.heap.DictOfH knd d xs/\xs.length<=sizeLine/\
 (∀v,(atKey xs k).map (·.2)=some v->R (.ok (.ret v)) { s with toks:=s.toks+ knd.draws k })/\(atKey xs k=none->∀b,b.DictOfH knd d (storedH xs k a dflt)->Heap.SameBut d s.heap b->R (.ok (.ret dflt)) { s with heap:=b,toks:=s.toks+ knd.draws k })):=
 .of_wp λA R s ⟨n,k,xs,c,hm,m,h,i⟩=>by
  unfold Builtin.«dict.setdefault» Builtin.Dict.keyAndDefault;refine abi (abi (ad4 hm.typeIs ?_));show wpAny _ _ (pure (d,Value.ref a,some dflt)) _ _ s;refine abq ?_;show wpAny _ _ (if (d==sysModules)=true then _ else (dictSetDefault d (.ref a) dflt >>=_)) _ _ s;rw[j];exact abi (zV n c hm (λv f=>abq ⟨v,rfl,h v f⟩) (λe b l g=>abq ⟨dflt,rfl,i e b l g⟩) m)
end
inductive Nf (a:Addr) (y z:V) (H:Hp) (Q:VK):Prop
 |mk (kvs:List (List Key×V)) (k:List Key) (b:Addr):H a=some (.dT kvs)->y=.ref b->H b=some (.tup (k.map kV))->kvs.length<sizeLine->(∀v,bp kvs k=some v->Q v H)->(bp kvs k=none->Q z (upd H a (.dT (putK kvs k z))))->Nf a y z H Q
def Ng (td d tx:TE):TE:=λ b H Q=>td b H λx c=>Aw x c λa=>d b c λy e=>tx b e λz f=>Nf a y z f Q
section
variable {X:Cx}{o e f:Expr}{apos ck:Pos}{td ty tx:TE}
theorem Gi (hu:X.A.units+ 1<cLine)(V:PE X o td)(he:PE X e ty)(U:PE X f tx)(m:M2 X o "setdefault" apos e f ck):PE X (.Call (.Attribute o "setdefault" apos) [e,f] [] ck) (Ng td ty tx):=by
 intro i s A H Q I h;refine adI m.base m.few m.line acE adi PySem.F.type_dict_setdefault (a8 (V i s A H _ I h) λu Z ⟨x,H1,C,rx,a,ex,d,W⟩=>?_);subst ex;obtain rfl:u=Value.ref a:=rx;obtain⟨t1,t2,_⟩:=kQ C d;refine⟨t1,t2,?_⟩;rw[m.trees]
 refine acu rfl (ac0 (acq (a8 (he i Z A H1 _ C W) λiv s2 ⟨y,H2,I2,ry,N⟩=>
  acq (a8 (U i s2 A H2 _ I2 N) λO s3 ⟨z,L,n,F,j,k,b,t,P,J,M,q3,q4⟩=>ac5 ?_))))
 subst P;cases (show iv=Value.ref b from ry);obtain⟨hz,G,xs,rel,B⟩:=HV n.aO t;have g:=rel.val k;have p:xs.length<=sizeLine:=by rw[<-Paired.length rel];exact hz
 refine adN adi B.typeIs PySem.F.entry_dict_setdefault (PySem.F.args_dict_setdefault_3 _ _ _) (xJ _ a b G O) ⟨adx hu,k,xs,kP n.aO J,B,p,λv S=>?_,λR g1 w sb=>?_⟩
 ·rw[S]at g
  cases l:bp j k with
  |none=>rw[l]at g;exact g.elim
  |some r=>
   rw[l]at g;exact⟨r,L,n.tok _,g,q3 r l⟩
 ·rw[R]at g
  cases l:bp j k with
  |some r=>rw[l]at g;exact g.elim
  |none=>
   have hl:(putK j k z).length<=sizeLine:=by have:=fO j k z;omega
   obtain⟨q,es,Y,D,h2,h3,h4,_,T⟩:=w;refine⟨z,upd L a (.dT (putK j k z)),jt n (by rw[t];exact True.intro) sb ⟨q,D⟩ ⟨hl,G,_,(rel.put k J F).keeps λc ys E=>?_,q,es,Y,D,h2,h3,h4,T⟩,F,q4 l⟩;rw[ak (bW E t (λz=>nomatch z))];exact E
end
section
variable {H:Hp}{k:Addr}{D:Int->Option Addr}{E:Int->Int->Option Addr}{S:bG}
theorem dw.Gj (h:dw H k D E S){c s:Int}{d:Addr}(hd:D c=some d){l:List (Key×V)}(F:H d=some (.dK l)):
 dw (upd H d (.dK (eh l (Sum.inl s)))) k D (λf g=>if f=c/\g=s then none else E f g) (fi S c s):=by
 obtain⟨m,x,v,y,A⟩:=h.row c d hd;rw[F]at x;obtain rfl:l=m:=by grind
 have un:∀{f g:Int} {z:Addr},(if f=c/\g=s then none else E f g)=some z->¬(f=c/\g=s)/\E f g=some z:=λ{f g z} q=>by
  grind
 refine⟨h.top.at λo q=>?_,λf p j=>?_,λf g n i=>?_,λf g n i=>h.ed _ _ _ (un i).2,λf g o w=>?_,h.nd,λf g n i=>h.ne _ _ _ (un i).2,h.dd,λf u g p j i=>h.de _ _ _ _ j (un i).2,λf g u G n C B=>h.ee _ _ _ _ _ (un C).2 (un B).2⟩
 ·rw[ak (h.nd c d hd).symm];exact q
 ·by_cases t:f=c
  ·subst t;obtain rfl:p=d:=by grind
   refine(Kp v y A s).congr λg=>?_
   grind
  ·refine((h.row f p j).at λo q=>by rw[ak λz=>t (h.dd _ _ _ j (by rw[z];exact hd))];exact q).congr λg=>?_
   grind
 ·obtain⟨ne,r⟩:=un i;refine((h.wX f g n r).at λo q=>by rw[ak (λz=>h.de c f g d hd (by rw[<-z];exact r))];exact q).congr λo=>?_
  have:fi S c s f g o=S f g o:=by
   rw[acV,cR];exact⟨λz=>z.1,λz=>⟨z,ne⟩⟩
  rw[this]
 ·obtain⟨a,b⟩:=cR.mp w;obtain⟨e,r⟩:=h.se _ _ _ a
  grind
end
structure Nh (k:Addr) (D:Int->Option Addr) (E:Int->Int->Option Addr) (W:bG) (O:Addr->Prop):Prop where
 o:∀b,tP k D E b->O b
 d:∀c x,D c=some x->0<=c/\c<100000
 e:∀c s x,E c s=some x-> -1000<=s/\s<=1000
 w:∀c s n,W c s n=true->0<=n/\n<100000
def nk (H:Hp)(k:Addr)(W:bG)(O:Addr->Prop):Prop:=∃D E,dw H k D E W/\Nh k D E W O
def eM (H:Hp)(k:Addr)(W:bG)(O:Addr->Prop)(c:Int)(d:Addr):Prop:=∃D E,dw H k D E W/\Nh k D E W O/\D c=some d
def oP (H:Hp)(k:Addr)(W:bG)(O:Addr->Prop)(c s:Int)(e:Addr):Prop:=∃D E,dw H k D E W/\Nh k D E W O/\E c s=some e
def DW (O:Addr->Prop)(p:Addr):Addr->Prop:=λb=>O b\/b=p
section
variable {H H':Hp}{k:Addr}{W:bG}{O:Addr->Prop}{c s:Int}{d e p:Addr}
theorem nk.keep (h:nk H k W O)(f:∀b o,O b->H b=some o->H' b=some o):nk H' k W O:=by
 obtain⟨D,E,i,a⟩:=h;exact⟨D,E,i.keep λb o g q=>f b o (a.o b g) q,a⟩
theorem nk.pz (h:nk H k W O):Av H k:=by
 obtain⟨D,E,b,_⟩:=h;obtain⟨a,q,_⟩:=b.top;exact .inl ⟨a,.inl q⟩
theorem nk.room (h:nk H k W O)(w:H p=none)(hc:0<=c/\c<100000):∃a,upd H p (.dK []) k=some (.dK a)/\a.length<sizeLine/\(∀v,bp a (Sum.inl c)=some v->∃d,v=.ref d/\eM (upd H p (.dK [])) k W O c d)/\
 (bp a (Sum.inl c)=none->eM (upd (upd H p (.dK [])) k (.dK (putK a (Sum.inl c) (.ref p)))) k W (DW O p) c p):=by
 obtain⟨D,E,r,g⟩:=h;have u:=aq.upd (o:=.dK []) w;have k1:=r.same u;obtain⟨a,m,t,A,l⟩:=k1.M4;have nw:¬tP k D E p:=λz=>by obtain⟨B,q⟩:=r.there z;grind
 refine⟨a,m,?_,λv f=>?_,λf=>?_⟩
 ·refine abz (uC (n:=100000) (lo:=0) t A l λi v f=>?_) (by decide)
  cases e:D i with
  |none=>rw[e]at f;cases f
  |some x=>have:=g.d i x e;omega
 ·rw[l]at f;obtain⟨d,hd,rfl⟩:=acz.mp f;exact⟨d,rfl,D,E,k1,g,hd⟩
 ·rw[l]at f;have hd:D c=none:=aez.mp f;refine⟨_,E,k1.Kr hd m ai nw,⟨λb y=>?_,λj x q=>?_,g.e,g.w⟩,abN rfl⟩
  ·rcases y with z|⟨j,z⟩|z
   ·exact .inl (g.o b (.inl z))
   ·dsimp only at z;by_cases e:j=c
    ·rw[abN e]at z;exact .inr (Za0 z).symm
    ·rw[abH e]at z;exact .inl (g.o b (.inr (.inl ⟨j,z⟩)))
   ·exact .inl (g.o b (.inr (.inr z)))
  ·by_cases e:j=c
   ·rw[e];exact hc
   ·rw[abH e]at q;exact g.d j x q
theorem eM.pz (h:eM H k W O c d):Av H d:=by
 obtain⟨D,E,f,g,a⟩:=h;obtain⟨b,q,_⟩:=f.row c d a;exact .inl ⟨b,.inl q⟩
theorem eM.own (h:eM H k W O c d):O d:=by
 obtain⟨D,E,f,b,a⟩:=h;exact b.o d (.inr (.inl ⟨c,a⟩))
theorem eM.same (h:eM H k W O c d)(s:aq H H'):eM H' k W O c d:=by
 obtain⟨D,E,b,f,a⟩:=h;exact⟨D,E,b.same s,f,a⟩
theorem eM.cell (h:eM H k W O c d)(B:H p=none)(A: -1000<=s/\s<=1000):∃a,upd H p (.dK []) d=some (.dK a)/\a.length<sizeLine/\(∀v,bp a (Sum.inl s)=some v->∃e,v=.ref e/\oP (upd H p (.dK [])) k W O c s e)/\
 (bp a (Sum.inl s)=none->oP (upd (upd H p (.dK [])) d (.dK (putK a (Sum.inl s) (.ref p)))) k W (DW O p) c s p):=by
 obtain⟨D,E,u,g,hd⟩:=h;have y:=aq.upd (o:=.dK []) B;have k1:=u.same y;obtain⟨a,t,w,F,m⟩:=k1.Gh hd;have nw:¬tP k D E p:=λz=>by obtain⟨G,q⟩:=u.there z;grind
 refine⟨a,t,?_,λv f=>?_,λf=>?_⟩
 ·refine abz (uC (n:=2001) (lo:=-1000) w F m λi v f=>?_) (by decide)
  cases e:E c i with
  |none=>rw[e]at f;cases f
  |some x=>have:=g.e c i x e;omega
 ·rw[m]at f;obtain⟨e,r,rfl⟩:=acz.mp f;exact⟨e,rfl,D,E,k1,g,r⟩
 ·rw[m]at f;have r:E c s=none:=aez.mp f;refine⟨D,_,k1.Kq hd r t ai nw,⟨λb C=>?_,g.d,λj l x q=>?_,g.w⟩,abN ⟨rfl,rfl⟩⟩
  ·rcases C with z|z|⟨j,l,z⟩
   ·exact .inl (g.o b (.inl z))
   ·exact .inl (g.o b (.inr (.inl z)))
   ·dsimp only at z;by_cases e:j=c/\l=s
    ·rw[abN e]at z;exact .inr (Za0 z).symm
    ·rw[abH e]at z;exact .inl (g.o b (.inr (.inr ⟨j,l,z⟩)))
  ·by_cases e:j=c/\l=s
   ·rw[e.2];exact A
   ·rw[abH e]at q;exact g.e j l x q
theorem oP.own (h:oP H k W O c s e):O e:=by
 obtain⟨D,E,f,b,a⟩:=h;exact b.o e (.inr (.inr ⟨c,s,a⟩))
theorem oP.put (h:oP H k W O c s e){n:Int}(m:0<=n/\n<100000):∃a,H e=some (.dK a)/\a.length<sizeLine/\nk (upd H e (.dK (putK a (Sum.inl n) (.bl true)))) k (addW W c s n) O:=by
 obtain⟨D,E,g,b,j⟩:=h;obtain⟨a,f,l,o,r⟩:=g.M5 j;refine⟨a,f,?_,D,E,g.M6 j f n,b.o,b.d,b.e,λt x y q=>?_⟩
 ·refine abz (uC (n:=100000) (lo:=0) l o r λi v u=>?_) (by decide);by_cases w:W c s i=true
  ·have:=b.w _ _ _ w;omega
  grind
 ·rcases cY.mp q with q|⟨_,_,q⟩
  ·exact b.w _ _ _ q
  ·rw[q];exact m
theorem nk.get (h:nk H k W O):∃o,dX H k (.int c) o/\((o=none/\∀s n,W c s n=false)\/∃d,o=some (.ref d)/\eM H k W O c d):=by
 obtain⟨D,E,a,j⟩:=h;obtain⟨i,f,m,q,b⟩:=a.M4;have g:=dX.k (k:=Sum.inl c) f;rw[b]at g;refine⟨_,g,?_⟩
 cases e:D c with
 |none=>
  refine .inl ⟨rfl,λs n=>?_⟩
  cases w:W c s n with
  |false=>rfl
  |true=>
   obtain⟨x,l⟩:=a.se _ _ _ w;obtain⟨y,r⟩:=a.ed _ _ _ l
   grind
 |some d=>exact .inr ⟨d,rfl,D,E,a,j,e⟩
theorem yT:∀{a:List (Key×V)},(a.map (·.1)).Nodup->(∀b∈a,∃n:Nat,b.1=Sum.inl (n:Int))->∃ns:List Nat,a.map (λb=>kV b.1)=ao (nI ns)/\ns.Nodup/\∀n:Nat,n∈ns↔Sum.inl (n:Int)∈a.map (·.1)
 |[],_,_=>⟨[],rfl,ac6,λn=>⟨(λz=>by cases z),(λz=>by cases z)⟩⟩
 |b::r,f,h=>by
  rw[acg,ab0]at f;obtain⟨ns,j,i,l⟩:=yT f.2 λx o=>h x (abR _ o)
  obtain⟨m,g⟩:=h b (abA ..);refine⟨m::ns,?_,ab0.mpr ⟨λz=>f.1 (by rw[g];exact(l m).mp z),i⟩,λn=>?_⟩
  ·rw[acg,j,g];rfl
  grind
theorem AI {a:List (Key×V)}{v:V}(h:bp a (Sum.inl z)=some v):Sum.inl z∈a.map (·.1):=ach.mpr ⟨_,Gf h,rfl⟩
theorem eM.pop (h:eM H k W O c d)(s:Int):∃a,H d=some (.dK a)/\(bp a (Sum.inl s)=none->∀n,W c s n=false)/\
 ∀v,bp a (Sum.inl s)=some v->∃(e:Addr) (f:List (Key×V)) (ns:List Nat),v=.ref e/\e≠d/\H e=some (.dK f)/\f.map (λt=>kV t.1)=ao (nI ns)/\ns.Nodup/\(∀n:Nat,n∈ns↔W c s n=true)/\nk (upd H d (.dK (eh a (Sum.inl s)))) k (fi W c s) O:=by
 obtain⟨D,E,o,l,hd⟩:=h;obtain⟨a,A,Q,S,C⟩:=o.Gh hd;refine⟨a,A,λu n=>?_,λv u=>?_⟩
 ·rw[C]at u
  cases w:W c s n with
  |false=>rfl
  |true=>
   obtain⟨x,R⟩:=o.se _ _ _ w
   grind
 ·rw[C]at u;obtain⟨e,F,rfl⟩:=acz.mp u;obtain⟨f,G,y,I,M⟩:=o.M5 F
  have r:∀i:Int,Sum.inl i∈f.map (·.1)↔W c s i=true:=λi=>by
   constructor
   ·intro z;obtain⟨t,g,e⟩:=ach.mp z;have:=yN y g
    grind
   ·intro w;exact AI (v:=.bl true) (by rw[M,abN w])
  obtain⟨ns,P,L,J⟩:=yT y λt g=>by
   obtain⟨i,B⟩:=I t g;have:=l.w _ _ _ ((r i).mp (by rw[<-B];exact adp g));exact⟨i.toNat,by rw[B];congr 1;omega⟩
  refine⟨e,f,ns,rfl,λz=>o.de _ _ _ _ hd (by rw[<-z];exact F),G,P,L,λn=>(J n).trans (r n),_,_,o.Gj hd A,⟨λb N=>l.o b ?_,l.d,λj m x q=>?_,λj m n q=>l.w _ _ _ (cR.mp q).1⟩⟩
  ·rcases N with z|z|⟨j,m,z⟩
   ·exact .inl z
   ·exact .inr (.inl z)
   ·dsimp only at z;by_cases e:j=c/\m=s
    ·grind
    ·rw[abH e]at z;exact .inr (.inr ⟨j,m,z⟩)
  ·by_cases e:j=c/\m=s
   ·rw[abN e]at q;cases q
   ·rw[abH e]at q;exact l.e _ _ _ q
theorem DX {P:Nat->Bool}{G:Nat}:∀{ns:List Nat},ns.Nodup->(∀n∈ns,n<G/\P n=true)->ns.length<=(List.range G).countP P:=by
 intro ns
 induction ns generalizing P with
 |nil=>exact λ_ _=>abS _
 |cons m r j=>
  intro f h;rw[ab0]at f;obtain⟨b,g⟩:=h m (abA ..);have:=kr (p:=P) (p':=λa=>P a && decide (a≠m)) (v:=m) (λa=>rfl) g G;rw[abN b]at this
  grind
theorem vU {W:bG}{c s:Int}(h:∀n,W c s n=false):fi W c s=W:=by
 funext b a n
 rw[acV,cR]
 grind
end
end L2
namespace L2
section
variable {S:RS}{R:Za2}
theorem yU (g:Good S [] R):∀{w:List Int} {c d e:Nat},wk S.by c w=some e->wk S.by d w=some e->c=d
 |[],c,d,e,a,b=>by rw[Za0 a,Za0 b]
 |z::w,c,d,e,a,b=>by
  obtain⟨m,j,f⟩:=gn a;obtain⟨l,i,h⟩:=gn b;have:=yU g f h;subst this;have n:=g.sy _ _ _ j;have k:=g.sy _ _ _ i
  grind
theorem Gk (g:Good S [] R){p c d m:Nat}{word:List Int}{z:Int}(h:Ig S p word)(t:word[m]?=some z)(o:wk S.by p (word.take m)=some c)(n:wk S.by d (word.drop (m+ 1))=some p):S.by c z=some d:=by
 have I:=(abk.mp t).1;rcases h with h|⟨i,j,f,r,y,u,w,A,E,D,M,C,s⟩
 ·have:word=word.take m++(z::word.drop (m+ 1)):=by rw[<-drop_cons t,adz]
  rw[this,nj o]at h;obtain⟨e,H,B⟩:=gn h;rw[H,yU g B n]
 ·exfalso
  have a:m<=i:=by
   rcases aen i m with q|q
   ·exfalso
    have e:word.take m=word.take i++(y::(word.take m).drop (i+ 1)):=by
     have l:(word.take m)[i]?=some y:=by rw[List.getElem?_take,abN q];exact A
     rw[<-drop_cons l];have:word.take i=(word.take m).take i:=by rw[List.take_take,ads (by omega)]
     rw[this,adz]
    rw[e,nj D]at o;obtain⟨x,L,_⟩:=gn o
    grind
   ·exact q
  have b:j<=m:=by
   rcases aen m j with q|q
   ·exfalso
    have k:(word.drop (m+ 1))[j - (m+ 1)]?=some u:=by rw[aev,show m+ 1+ (j - (m+ 1))=j by omega];exact E
    have e:word.drop (m+ 1)=(word.drop (m+ 1)).take (j - (m+ 1))++(u::word.drop (j+ 1)):=by
     have:word.drop (j+ 1)=(word.drop (m+ 1)).drop (j - (m+ 1)+ 1):=by rw[List.drop_drop];congr 1;omega
     rw[this,<-drop_cons k,adz]
    rw[e]at n;obtain⟨x,_,v⟩:=yP n;obtain⟨J,F,G⟩:=gn v;have:=yU g G C;subst this;rw[g.sy _ _ _ F]at s;cases s
   ·exact q
  omega
theorem BR {b:Nat->Int->Option Nat}:∀{w:List Int} {p q:Nat},UW (λp z q=>b p z=some q) p w q->wk b p w=some q
 |[],p,q,h=>by rw[show p=q from h];rfl
 |z::w,p,q,h=>by
  obtain⟨r,a,c⟩:=h;rw[gG a];exact BR c
end
end L2
namespace L2
open PySem PySem.Spec PyProof.Rows
def aax (b:Addr)(pos:Pos)(qual:Str)(H:Hp):Prop:=
 H b=some (.lQ #[])\/∃(c:Addr) (a:Obj) (d:Array Value) (t:Tok),H b=some (.lQ #[rawInt pos.line,rawInt pos.col,.ref c])/\H c=some (.cQ a (.own c))/\a.data=.fields d/\d[1]?=some (.str qual t)
section
variable {X:Cx}{H:Hp}
structure Fp (X:Cx) (pq:List (Addr×Obj)) (H:Hp) (b:Addr):Prop where
 none:H b=none
 loc:b≠X.env.locals
 fs:b∉X.fs
 new:X.dP.heap.objs.size<=b
 cell:∀x c,X.env.cells.lookup x=some c->c≠b
 pin:∀p∈X.pn++pq,p.1≠b
end
structure aak (K:Za1) (fd:FuncData) (c Pt:Addr):Prop where
 code:fd.code=.ref c
 hd:PySem.W.codeHdIn K c Pt=true
 no:K.lookup Pt=none
namespace Lr
theorem Ni:typeLookup (.type "list_reverseiterator") "__len__"=pure none:=by kernel_rfl
theorem Kx:typeLookup (.type "list_reverseiterator") "__length_hint__"=pure (some (.builtin "list_reverseiterator.__length_hint__")):=by kernel_rfl
section
variable {prog:Program}{w:World}{A:Around}{E:Value->Shared->Prop}{s:Shared}{it l:Addr}{items:Array Value}
theorem hint {Q:Bool->Shared->Prop}(hm:s.heap.IsRevIter it l z)(h:Q false s):wpAny (model prog w) A (Builtin.List.listLengthHint (.ref it)) Q E s:=by
 refine abi (wpAny_specialOf hm.typeIs Ni ?_);refine abi (wpAny_specialOf hm.typeIs Kx ?_);generalize c:("list_reverseiterator.__length_hint__":String)=d
 wp_delta
 subst c;refine abi (wpAny_isInstance (T:="list_reverseiterator") (b:=true) hm.typeIs (by kernel_rfl) ?_);refine aer (λa=>absurd a (by decide)) (λ_=>?_);refine aer (λ_=>?_) (λa=>absurd (by decide) a);exact abq h
theorem extend {R:Result->Shared->Prop}(r:A.handled=none)(hit:s.heap.IsRevIter it l ((items.size:Int) - 1))(t:s.heap.IsList l items)(n:l≠it)(hlen:items.size<=sizeLine)(S:Addr)(k:S≠it)(z:S≠l)(res:Value)(j:Nat)(u:s.heap.get? S=some { cls:=.type "list",data:=.seq #[] j })
 (G:∀g1 y a d,(∀b o,b≠S->b≠it->s.heap.get? b=some o->g1.get? b=some o)->g1.get? S=some { cls:=.type "list",dict:=none,data:=.seq a d,slots:=#[] }->
  ItemsOf (λi v=>items[items.size - 1 - i]?=some v) a items.size->R (.ok (.ret res)) { s with heap:=g1,toks:=y }):
 wpAny (model prog w) A.in1 (Builtin.List.listExtendWith (.ref S) (.ref it) res)
  (λfin c=>match fin with|.done f=>R (.ok f) c|.again d=>d.quiet=true/\codeAny (model prog w) A d R c) (λe c=>R (.error e) c) s:=by
 refine abi (adw (T:="list_reverseiterator") hit.typeIs ?_);have D:Builtin.List.listSameRef (.ref S) (.ref it)=false:=by simp[Builtin.List.listSameRef,k]
 have B:(Value.type "list_reverseiterator"==Value.type "list")=false:=by decide
 have C:(Value.type "list_reverseiterator"==Value.type "tuple")=false:=by decide
 simp only[D,B,C,Bool.or_false,aeq,aea];refine abi (wpAny_pyIter_revIter hit ?_);refine abi (acD (hint hit ?_));have W:=(Walks.listRev (prog:=prog) (w:=w) (A:=A.in1) r it l n items).toS
 have m:S∉[it,l]:=λH=>by
  grind
 refine abq ⟨plainId_quiet F.plain_extend_loop _,?_⟩;refine codeAny_extend_loopS W hlen S m res items.size 0 _ #[] _ rfl (abS _) ⟨abS _,by simpa using hit,t⟩ u (ItemsOf.nil _) λc a d h p g=>?_
 rw[Moved.eq_with h];refine G c.heap c.toks a d (λb o I x e=>h.heap b o (λq=>?_) e) p g
 grind
theorem init {R:Result->Shared->Prop}(u:A.handled=none)(hit:s.heap.IsRevIter it l ((items.size:Int) - 1))(x:s.heap.IsList l items)(r:l≠it)(hlen:items.size<=sizeLine)(S:Addr)(g:S≠it)(j:S≠l)(n:s.heap.get? S=some { cls:=.type "list",data:=.seq #[] })
 (z:∀g1 q a d,(∀b o,b≠S->b≠it->s.heap.get? b=some o->g1.get? b=some o)->g1.get? S=some { cls:=.type "list",dict:=none,data:=.seq a d,slots:=#[] }->
  ItemsOf (λi v=>items[items.size - 1 - i]?=some v) a items.size->R (.ok (.ret .none)) { s with heap:=g1,toks:=q }):
 wpAny (model prog w) A.in1 (Builtin.«list.__init__» ⟨[.ref S,.ref it],[]⟩)
  (λfin m=>match fin with|.done f=>R (.ok f) m|.again d=>d.quiet=true/\codeAny (model prog w) A d R m) (λe m=>R (.error e) m) s:=by
 show wpAny _ _ (do let old <-Builtin.List.listItems (.ref S);Builtin.List.listUpdate (.ref S) (λ_=>#[]);letGo old.toList.reverse;Builtin.List.listExtendWith (.ref S) (.ref it) .none) _ _ s;refine abi ?_;unfold Builtin.List.listItems;refine abi (aeI n rfl (abq ?_));show wpAny _ _ (updateSeq S (λ_=>#[]) >>=λ_=>letGo (#[]:Array Value).toList.reverse >>=λ_=>Builtin.List.listExtendWith (.ref S) (.ref it) .none) _ _ s;refine abi (wpAny_updateSeq n rfl ?_);have y:=acb (Obj.mapSeq (λ_=>(#[]:Array Value))) n rfl;have c:∀b o,b≠S->s.heap.get? b=some o->(s.heap.update S (Obj.mapSeq (λ_=>(#[]:Array Value)))).get? b=some o:=λb o k e=>(acn _ _ (acU k)).trans e
 refine extend (s:={ s with heap:=s.heap.update S (Obj.mapSeq (λ_=>(#[]:Array Value))) }) u (hit.at λo e=>c _ o g.symm e) (x.at λo e=>c _ o j.symm e) r hlen S g j .none _ y λg1 q a d B t h=>?_
 exact z g1 q a d (λb o k p e=>B b o k p (c b o k e)) t h
theorem call (x:A.handled=none)(hit:s.heap.IsRevIter it l ((items.size:Int) - 1))(q:s.heap.IsList l items)(n:l≠it)(hlen:items.size<=sizeLine)
 (u:∀g1 m a g,(∀b o,b≠it->s.heap.get? b=some o->g1.get? b=some o)->g1.get? s.heap.objs.size=some { cls:=.type "list",dict:=none,data:=.seq a g,slots:=#[] }->ItemsOf (λi v=>items[items.size - 1 - i]?=some v) a items.size->Q (.ref s.heap.objs.size) { s with heap:=g1,toks:=m }):
 wpAny (model prog w) A (PySem.call (.type "list") [.ref it]) Q E s:=by
 refine callType_codes (Q₁:=λobj c=>obj=.ref s.heap.objs.size/\c={ s with heap:=s.heap.push { cls:=.type "list",data:=.seq #[] } }) F.called_list (F.typeCall_list_1 _) F.entry_list_init (code_list_new _ ⟨rfl,rfl⟩) λobj c f=>?_
 obtain⟨rfl,rfl⟩:=f;have r:(s.heap.push { cls:=.type "list",data:=.seq #[] }).get? s.heap.objs.size=some { cls:=.type "list",data:=.seq #[] }:=abF _ rfl;have k:it<s.heap.objs.size:=let ⟨o,h,_⟩:=hit;abE h
 have j:l<s.heap.objs.size:=let ⟨o,h,_⟩:=q;abE h
 refine⟨⟨_,r,rfl⟩,F.args_list_init_2 _ _,init (A:=A.in1) (s:={ s with heap:=s.heap.push { cls:=.type "list",data:=.seq #[] } }) x (hit.at λo e=>abl _ e) (q.at λo e=>abl _ e) n hlen _ (acH k) (acH j) r λg1 m a g z p d=>?_⟩;exact⟨rfl,u g1 m a g (λb o y e=>z b o (abV (abE e)) y (abl _ e)) p d⟩
end
end Lr
section
variable {X:Cx}{e:Expr}{p pos:Pos}
def Nj (C:Addr):TE:=λ_ H Q=>∀x d,H x=none->H d=none->d≠x->Q (.ref x) (upd (upd H d (.own x)) x (.ins C d []))
theorem Gm (d:PySem.W.makesIn X.K b=true)(k:PySem.W.findIn X.K (.ref b) "__init__"=some (some (.builtin "object.__init__")))(kp:PySem.W.keepIn X.K (.ref b)=true)(q:Gl X x)(i:X.mg x=some (.ref b))
 (f:(x==("__debug__":Str))=false:=by decide):PE X (.Call (.Name x p) [] [] pos) (Nj b):=by
 intro g s r H Q I h;refine acI (jq I q i ?_ f);refine PySem.W.callWith_K0 I.da kp (aeD ?_);have j:=Inv.made (C:=b) I;have l:=h (s.heap.objs.size+ 1) s.heap.objs.size (I.aO.fresh (ado _)) (I.aO.fresh (abr _)) (abV (acL _));have Y:=PySem.W.makes_of (M:=model X.prog X.w) I.da d;refine CZ I.da d k (λself=>PySem.W.Looks.of_pure (PySem.W.oi_bind self)) ?_
 have n:((s.heap.push PySem.W.emptyDict).push (PySem.W.instObj b s.heap.objs.size)).get? (s.heap.objs.size+ 1)=some (PySem.W.instObj b s.heap.objs.size):=by
  have:=abF (s.heap.push PySem.W.emptyDict) (o:=PySem.W.instObj b s.heap.objs.size) rfl
  rwa [adA]at this
 have t1:PySem.W.Looks (model X.prog X.w) ((s.heap.push PySem.W.emptyDict).push (PySem.W.instObj b s.heap.objs.size)) (typeOf (.ref (s.heap.objs.size+ 1))) (.ref b):=(PySem.W.Looks.ld n).andThen .now;have m:PySem.W.Looks (model X.prog X.w) ((s.heap.push PySem.W.emptyDict).push (PySem.W.instObj b s.heap.objs.size)) (isInstance (.ref (s.heap.objs.size+ 1)) (.type "object")) true:=t1.andThen (Y.top.keeps λc o e=>abl _ (abl _ e));refine adF PySem.W.oi_plain PySem.W.entry_oi (@PySem.W.check_slot (model X.prog X.w) _ _ _ "object.__init__" "object" "__init__" (.ref (s.heap.objs.size+ 1)) [] [] _ PySem.W.oi_kind PySem.W.oi_split m (PySem.W.oi_args (.ref (s.heap.objs.size+ 1))) ?_);exact abq (And.intro rfl ⟨.ref (s.heap.objs.size+ 1),_,j,rfl,l⟩)
inductive QO (K:Za1) (xs:List V) (H:Hp) (Q:VK):Prop
 |mk (x:V) (D:Addr) (t:Value) (b:Bool):xs=[x,.ref D]->i6 K H x t->PySem.W.kitOne K t (.ref D)=some b->Q (.bl b) H->QO K xs H Q
end
end L2
namespace L2
def nm (E:List Nat)(c:Nat):Nat:=E.getD c 0
def pD (R:Za2)(E:List Nat)(a:Nat)(z:Int)(b:Nat):Prop:=∃d c,R d z c/\nm E d=a/\nm E c=b
def uD (x y a:Nat):Nat:=if a=y then x else a
theorem uE (h:n<m)(E:List Nat)(c:Nat):nm (E.map (uD n m)) c=uD n m (nm E c):=by
 unfold nm;rw[abt,abt,aby]
 cases E[c]? with
 |some x=>rfl
 |none=>show 0=uD n m 0;unfold uD;rw[abH (by omega)]
def Nk (u v:Nat)(W:Za2)(a:Nat)(z:Int)(b:Nat):Prop:=∃d c,W d z c/\uD u v d=a/\uD u v c=b
inductive One (ws:Za3) (nr:Nat):List Nat->(Za2)->Dt->List Nat->(Za2)->Prop
 |meet {E:List Nat} {W:Za2} {c u v:Nat} {z:Int}:u<v->E[u]?=some u->E[v]?=some v->W c z u->W c z v->One ws nr E W (fP c z u v) (E.map (uD u v)) (Nk u v W)
 |rule {E:List Nat} {W:Za2} {which k c d:Nat} {word:List Int} {p:List Nat} {z:Int}:ws[which]?=some word->p.length=word.length+ 1->p[0]?=p[word.length]?->(which<nr\/p[0]?=some 0)->(∀x∈p,E[x]?=some x)->word[k]?=some z->p[k]?=some c->p[k+ 1]?=some d->
  (∀(i a b:Nat) (y:Int),i≠k->word[i]?=some y->p[i]?=some a->p[i+ 1]?=some b->W a y b)->One ws nr E W (kD which p k) E (eD W c z d)
inductive Go (ws:Za3) (nr:Nat):List Nat->(Za2)->List Dt->List Nat->(Za2)->Prop
 |nil {E:List Nat} {W W':Za2}:(∀a z b,W a z b↔W' a z b)->Go ws nr E W [] E W'
 |cons {E E1 E2:List Nat} {W W1 W2:Za2} {row:Dt} {ms:List Dt}:One ws nr E W row E1 W1->Go ws nr E1 W1 ms E2 W2->Go ws nr E W (row::ms) E2 W2
section
variable {ws:Za3}{nr:Nat}{E E1 E2:List Nat}{W W' W1 W2:Za2}{ms ns:List Dt}
theorem Go.congr (h:Go ws nr E W ms E1 W1):∀{W':Za2},(∀a z b,W' a z b↔W a z b)->Go ws nr E W' ms E1 W1:=by
 induction h with
 |nil e=>exact λh=>.nil λa z b=>(h a z b).trans (e a z b)
 |cons o _ m=>
  intro W' h
  cases o with
  |meet k g j f l=>exact .cons (.meet k g j ((h _ _ _).mpr f) ((h _ _ _).mpr l)) (m λa z b=>by
   constructor
   ·rintro ⟨d,c,q,r⟩;exact⟨d,c,(h _ _ _).mp q,r⟩
   ·rintro ⟨d,c,q,r⟩;exact⟨d,c,(h _ _ _).mpr q,r⟩)
  |rule k g j f l s u n v=>exact .cons (.rule k g j f l s u n λi a b y t p w x=>(h _ _ _).mpr (v i a b y t p w x)) (m λa z b=>by
   unfold eD;rw[h])
theorem Go.app (h:Go ws nr E W ms E1 W1):∀{E2:List Nat} {W2:Za2} {ns:List Dt},Go ws nr E1 W1 ns E2 W2->Go ws nr E W (ms++ns) E2 W2:=by
 induction h with
 |nil e=>exact λg=>g.congr e
 |cons o _ a=>exact λg=>.cons o (a g)
end
theorem Ky (h:n<m)(a:Nat)(z:Int)(b:Nat):Nk n m (pD R B) a z b↔pD R (B.map (uD n m)) a z b:=by
 constructor
 ·rintro ⟨i,g,⟨f,c,r,rfl,rfl⟩,e,d⟩;exact⟨f,c,r,by rw[uE h,e],by rw[uE h,d]⟩
 ·rintro ⟨f,c,r,e,d⟩;exact⟨_,_,⟨f,c,r,rfl,rfl⟩,by rw[<-uE h,e],by rw[<-uE h,d]⟩
section
variable {ws:Za3}{nr:Nat}{S S':RS}{pend:List Way}{R:Za2}{ks:List Int}
theorem oQ {S:RS}(wf:S.Wf){c:Nat}(a:c<S.made):S.aU[c]?=some (S.av c):=by
 unfold RS.av;rw[abt,abm (by rw[wf.e];exact a)];rfl
theorem Nm (l:jw S pend S'):Good S pend R->(∀c z d,R c z d->z∈ks)->∃e,S'.rows=S.rows++e/\Go ws nr S.aU (pD R S.aU) e S'.aU (pD R S'.aU):=by
 induction l with
 |nil S=>exact λ_ _=>⟨[],(abO _).symm,.nil λ_ _ _=>Iff.rfl⟩
 | @take S S' pend w _ F=>
   intro g v;obtain⟨g1,_,A,_,q⟩:=g.take v;obtain⟨e,u,p⟩:=F g1 v;rcases q with ⟨_,h,G⟩|⟨_,c,z,x,y,t,m,E,B,j,h,_,C⟩
   ·rw[sH G]at p;exact⟨e,by rw[u,h],p⟩
   ·obtain⟨_,k,_,ex⟩:=g.st _ _ _ t;have f:min x y<max x y:=by rcases Nat.lt_or_gt_of_ne j with q|q <;> omega
    have D:(S.takeIn pend w).1.aU=S.aU.map (uD (min x y) (max x y)):=by
     refine adk λi=>?_
     rw[aby];by_cases r:i<S.made
     ·rw[oQ g1.wf (by rw[A];exact r),oQ g.wf r,C];rfl
     ·rw[abT (by rw[g1.wf.e,A];omega),abT (by rw[g.wf.e];omega)];rfl
    have ix:pD R S.aU c z x:=g.so _ _ _ t;have m:pD R S.aU c z y:=m;have o:=oQ g.wf k;have n:=oQ g.wf E;rw[ex]at o;rw[B]at n;refine⟨fP c z (min x y) (max x y)::e,by rw[u,h,aci];rfl,.cons (.meet f ?_ ?_ ?_ ?_) ((D ▸ p).congr λa s b=>Ky f a s b)⟩
    ·rcases aeM x y with q|q
     ·rw[ads q];exact o
     ·rw[adQ q];exact n
    ·rcases aeM x y with q|q
     ·rw[aeN q];exact n
     ·rw[aes q];exact o
    ·rcases aeM x y with q|q
     ·grind
     ·rw[adQ q];exact m
    ·rcases aeM x y with q|q
     ·grind
     ·rw[aes q];exact ix
theorem qp {c:Nat->Int->Option Nat}:∀{w:List Int} {r e:Nat},wk c r w=some e->(r::b6 c r w).length=w.length+ 1/\(r::b6 c r w)[w.length]?=some e/\∀(i:Nat) (y:Int),w[i]?=some y->∃a b,(r::b6 c r w)[i]?=some a/\(r::b6 c r w)[i+ 1]?=some b/\c a y=some b
 |[],r,e,h=>by
  refine⟨rfl,by rw[<-Za0 h];rfl,λi y q=>by simp at q⟩
 |z::w,r,e,h=>by
  obtain⟨d,f,k⟩:=gn h;obtain⟨l,j,g⟩:=qp k;rw[mh f];refine⟨by rw[abL,l];rfl,j,λi y q=>?_⟩
  cases i with
  |zero=>exact⟨r,d,rfl,rfl,by rw[<-Za0 q];exact f⟩
  |succ i=>exact g i y q
theorem tQ (g:Good S [] R):∀{w:List Int} {r e:Nat},wk S.by r w=some e->S.aU[r]?=some r->∀x∈r::b6 S.by r w,S.aU[x]?=some x
 |[],r,e,h,b,x,a=>by rw[abp.mp a];exact b
 |z::w,r,e,h,b,x,a=>by
  obtain⟨d,c,j⟩:=gn h;rcases abD.mp a with rfl|a
  ·exact b
  ·rw[mh c]at a;obtain⟨_,i,_,f⟩:=g.st _ _ _ c;have:=oQ g.wf i;rw[f]at this;exact tQ g j this x a
theorem Gn (f:nm B n=n)(e:nm B m=m)(a:Nat)(y:Int)(b:Nat):eD (pD R B) n z m a y b↔pD (eD R n z m) B a y b:=by
 constructor
 ·rintro (⟨h,g,r,d,c⟩|⟨rfl,rfl,rfl⟩|⟨rfl,rfl,rfl⟩)
  ·exact⟨h,g,.inl r,d,c⟩
  ·exact⟨_,_,.inr (.inl ⟨rfl,rfl,rfl⟩),f,e⟩
  ·exact⟨_,_,.inr (.inr ⟨rfl,rfl,rfl⟩),e,f⟩
 ·rintro ⟨h,g,r|⟨rfl,rfl,rfl⟩|⟨rfl,rfl,rfl⟩,d,c⟩
  ·exact .inl ⟨h,g,r,d,c⟩
  ·exact .inr (.inl ⟨d.symm.trans f,rfl,c.symm.trans e⟩)
  ·exact .inr (.inr ⟨d.symm.trans e,rfl,c.symm.trans f⟩)
theorem Gp {start:Nat}{word:List Int}(g:Good S [] R)(c:yQ ws nr S n word start m i j z):One ws nr S.aU (pD R S.aU) (kD n ((start::b6 S.by start (word.take m))++(j::b6 S.by j (word.drop (m+ 1)))) m) S.aU (eD (pD R S.aU) i z j):=by
 have H:m<word.length:=(abk.mp c.hz).1;obtain⟨k,w,B⟩:=qp c.f;obtain⟨v,G,F⟩:=qp c.r;have lt:(word.take m).length=m:=by rw[abZ];omega
 have ld:(word.drop (m+ 1)).length=word.length - (m+ 1):=acy ..;rw[lt]at k w;rw[ld]at v G;have A:=oQ g.wf c.s.1;rw[c.s.2]at A;have t:=oQ g.wf c.hd.1;rw[c.hd.2]at t;have left:∀f,f<=m->((start::b6 S.by start (word.take m))++(j::b6 S.by j (word.drop (m+ 1))))[f]?=(start::b6 S.by start (word.take m))[f]?:=λf u=>abu (by rw[k];omega)
 have right:∀f,((start::b6 S.by start (word.take m))++(j::b6 S.by j (word.drop (m+ 1))))[m+ 1+ f]?=(j::b6 S.by j (word.drop (m+ 1)))[f]?:=λf=>by
  rw[abw (by rw[k];omega),k]
  congr 1
  omega
 refine .rule c.w (by rw[abj,k,v];omega) ?_ ?_ (λx d=>?_) c.hz ?_ ?_ λf a b y u E o l=>?_
 ·grind
 ·rw[left 0 (by omega)];exact c.n.imp id λe=>by rw[e];rfl
 ·rcases abx.mp d with d|d
  ·exact tQ g c.f A x d
  ·exact tQ g c.r t x d
 ·rw[left m (abr _)];exact w
 ·rw[right 0];rfl
 ·rcases Nat.lt_or_gt_of_ne u with q|q
  ·obtain⟨D,C,r,p,s⟩:=B f y (by grind);rw[left f (by omega),r]at o;rw[left (f+ 1) (by omega),p]at l;obtain rfl:=Za0 o;obtain rfl:=Za0 l;exact g.so _ _ _ s
  ·obtain⟨h,rfl⟩:∃h,f=m+ 1+ h:=⟨f - (m+ 1),by omega⟩;obtain⟨D,C,r,p,s⟩:=F h y (by rw[aev];exact E);rw[right,r]at o;rw[show m+ 1+ h+ 1=m+ 1+ (h+ 1) by omega,right,p]at l;obtain rfl:=Za0 o;obtain rfl:=Za0 l;exact g.so _ _ _ s
theorem Ih (t:Tr ws nr S S')(x:∀w∈ws,∀z∈w,z∈ks/\-z∈ks):Good S [] R->eK S->(∀a z b,R a z b->z∈ks)->∃p,Good S' [] p/\eK S'/\(∀a z b,p a z b->z∈ks)/\∃l,S'.rows=S.rows++l/\Go ws nr S.aU (pD R S.aU) l S'.aU (pD p S'.aU):=by
 induction t with
 |refl=>exact λg w k=>⟨R,g,w,k,[],(abO _).symm,.nil λ_ _ _=>Iff.rfl⟩
 |step _ i q C=>
  rename_i j G f word start m c d z _;intro g D k;obtain⟨F,g1,n,E,l,H,o⟩:=C g D k;have s:=x word (abn i.w) z (abn i.hz)
  have h:∀a y b,eD F c z d a y b->y∈ks:=by
   rintro a y b (r|⟨_,e,_⟩|⟨_,e,_⟩)
   ·exact E _ _ _ r
   ·rw[e];exact s.1
   ·rw[e];exact s.2
  have gl:=g1.lay z i.hc.1 i.hd.1 (j.rows++[kD f ((start::b6 j.by start (word.take m))++(d::b6 j.by d (word.drop (m+ 1)))) m]);obtain⟨B,A,_⟩:=q.all gl h ⟨n.a,n.b,n.c⟩;obtain⟨u,v,go2⟩:=Nm (ws:=ws) (nr:=nr) q gl h;refine⟨_,B,A,h,l++(_::u),?_,o.app (.cons (Gp g1 i) (go2.congr λa y b=>Gn i.hc.2 i.hd.2 a y b))⟩;rw[v];show (j.rows++[_])++u=_
  grind
end
end L2
namespace L2
open PySem PySem.Spec PyProof.Rows
def RC (a:Program)(w:World)(A:Around)(env:Env):List Expr->(Bool->Shared->Prop)->Shared->Prop
 |[],K,s=>K true s
 |c::_,K,s=>wpAny (model a w) A (isTrue c env (eval c env)) K (λ_ _=>False) s
theorem yV {R:Result->Shared->Prop}{elt target iter:Expr}{cs:List Expr}{scope:Scope}{it acc:Value}{env:Env}(i:cs.length<=1)(I:Nat->Shared->Prop)
 (turn:∀n s,I n s->wpAny (model P w) A (pyNext it) (λr a=>match r with
  |none=>R (.ok .next) a
  |some v=>wpAny (model P w) A (letOwnedTupleGo target it v) (λ_ f=>wpAny (model P w) A (assign target env v) (λ_ d=>RC P w A env cs (λb c=>
   match b with
   |true=>wpAny (model P w) A (eval elt env) (λx e=>wpAny (model P w) A (call (.builtin "list.append") [acc,x]) (λ_ g=>∃m,m<n/\I m g) (λ_ _=>False) e) (λ_ _=>False) c
   |false=>∃m,m<n/\I m c) d) (λ_ _=>False) f) (λ_ _=>False) a) (λ_ _=>False) s)
 (n:Nat) (h:I n s):codeAny (model P w) A (.compLoop (.ListComp elt [⟨target,iter,cs,0⟩] scope p) 0 it acc env) R s:=
 match cs,i,turn with
 |[],_,turn=>zR I turn n h
 |[_],_,turn=>xH I turn n h
def Ii (X:Cx):List Expr->TT->Prop
 |[],a=>a=λ_ H Q=>Q true H
 |c::_,a=>PT X c a
theorem Kz {e:TT}{Q:Bool->Hp->Prop}{K:Bool->Shared->Prop}(h:Ii X C e)(i:X.xe=λ_ _=>False)(I:Inv X o D H s)(q:e D H Q)(k:∀b a d,Inv X o D d a->Q b d->K b a):RC X.prog X.w X.A X.env C K s:=
 match C,h with
 |[],h=>by
  rw[h]at q;exact k true s H I q
 |c::_,h=>by
  have:=h o s D H Q I q;rw[i]at this;exact a8 this λb a ⟨d,g,f⟩=>k b a d g f
section
variable {X:Cx}{elt iter Dq:Expr}{x:Str}{px pos:Pos}{scope:Scope}{cl:List (Str×Addr)}{fns:List Str}{ixs:List Nat}{wi:TI}{tt:TT}{te:TE}
theorem w4 {cs:List Expr}{use:Option (Value->Sem Unit)}{RQ:Value->Shared->Prop}{Q:VK}(hl:cs.length<=1)(hc:X.calm=true)(hi:PI X (.Name x px) iter wi)(S:dS X x fns ixs scope cl)
 (ht:∀(C:Addr) (s:Shared) (H:Hp) (ex:List Addr),Ii (dB X (x::fns) scope cl C s H ex) cs tt) (he:∀(C:Addr) (s:Shared) (H:Hp) (ex:List Addr),PE (dB X (x::fns) scope cl C s H ex) elt te)
 (hs:∀x,foldedSetIterable iter X.env x=pure x) (I:Inv X o D H s) (h:rN wi (ik ixs) tt te D H Q)
 (fin:∀(C f:Addr) (H3:Hp) (ys:List V) (s4:Shared) (m:Str->Option Value),s4.heap.Ns C m->(∀F,Heap.SameBut C s4.heap F->Inv X o D (upd H3 f (.lst ys)) { s4 with heap:=F })->upd H3 f (.lst ys) C=none->X.env.locals≠C->(∀z c,X.env.cells.lookup z=some c->c≠C)->X.dP.heap.objs.size<=C->(∀g∈X.pn++o,g.1≠C)->Q (.ref f) (upd H3 f (.lst ys))->compPost (model X.prog X.w) X.A X.xe use RQ (.ref f) C (.ok .next) s4):
 wpAny (model X.prog X.w) X.A (comprehension (.ListComp elt [⟨.Name x px,iter,cs,0⟩] scope pos) scope X.env p (newList []) false (eval iter X.env) use) RQ X.xe s:=by
 refine wpAny_comprehension_free rfl hs S.yl S.kind S.names (a8 (hi o s D H _ I h) λv s1 h1=>a8 h1 λVB s2 h2=>?_);obtain⟨it,Y,tn,J,H2,e,A,T,w6,f2,W,⟨m0,w0⟩,turn⟩:=h2;subst e
 have E:∀b∈Y,b<s2.heap.objs.size:=λb t=>by
  obtain⟨k,ho,_⟩:=T.obj _ _ w6 b t;exact abE ho
 refine ab4 (wpAny_newFunctionEnv S.cell (by intro y hy;simp at hy) (λGq P O=>?_) S.kind);generalize yW:s2.heap.push { cls:=.type "list",dict:=none,data:=.seq ([]:List Value).toArray }=M at P O ⊢;generalize hD:s2.heap.objs.size=f at E ⊢;have hC:M.objs.size=f+ 1:=by rw[<-yW,adA,hD]
 generalize Wb:M.objs.size=C at hC P O ⊢;have w:f<C:=by omega
 have DY:f≠C:=abV w;have L:∀b u,s2.heap.get? b=some u->M.get? b=some u:=λb u q=>by rw[<-yW];exact abl _ q
 have Ij:∀{b u},s2.heap.get? b=some u->b<f:=λq=>by rw[<-hD];exact abE q
 have U:∀b u,M.get? b=some u->Gq.get? b=some u:=λb u q=>
  O.extBut b u (abV (abW (abE q) (aei Wb))) (abl _ q)
 have Wc:M.get? f=some { cls:=.type "list",dict:=none,data:=.seq ([]:List Value).toArray }:=by rw[<-yW,<-hD];exact abF _ rfl
 have I3:Inv X o D H2 { s2 with heap:=M }:=A.kept (t':=s2.toks) L;have Ik:H2 f=none:=A.aO.fresh (by omega);have Wd:H2 C=none:=A.aO.fresh (by omega)
 have Gr:∀b∈f::Y,b∉cH X.stack:=λb t z=>by
  rcases abD.mp (A.x8 b z) with e|z
  ·rcases abD.mp t with Z|t
   ·exact absurd A.lt (by rw[<-e,Z,<-hD];exact acK _)
   ·exact(f2 b t).2.1 e
  ·rcases abD.mp t with Z|t
   ·exact A.Li (by rw[Z,<-hD];exact abr _) z
   ·exact(f2 b t).2.2.1 z
 have p6:∀y c,cl.lookup y=some c->∀b∈f::Y,c≠b:=λy c q b t z=>by
  obtain⟨v,hv⟩:=A.cell y c (S.sub y c q);rcases abD.mp t with Z|t
  ·exact absurd hv.lt (by rw[z,Z,<-hD];exact acK _)
  ·exact(f2 b t).2.2.2.2.1 y c (S.sub y c q) z
 let R:Cx:=dB X (x::fns) scope cl C { s2 with heap:=M } H2 (f::Y)
 have ok:R.Ok:={
  mod:=A.ok.mod
  kind:=S.kind
  glob:=A.ok.glob
  blt:=A.ok.blt
  above:=by show M.objs.size<=C;omega
  inj:=λy z c q1 q2=>A.ok.inj y z c (S.sub _ _ q1) (S.sub _ _ q2)
  has:=S.has
  x6:=λy c q=>nomatch q
  hd:=A.ok.hd
  frames:=A.ok.frames
  Ag:=.inl rfl
  Hw:=λb t=>⟨by
   rcases abD.mp t with Z|t
   ·rw[Z];exact DY
   ·exact abV (aem (E b t) w),λy c q=>p6 y c q b t⟩
  bs:=I3.bs
  sC:=abB I3.ok.sC I3.sz
  tm:=λb k q t=>by
   rcases abD.mp t with Z|t
   ·exact absurd (Ij (A.bs b k q).1) (by rw[Z];exact acK _)
   ·rcases (f2 b t).2.2.2.1 with z|z
    ·exact A.ok.tm b k q z
    ·exact absurd (abE (A.ok.bs b k q).1) (Nat.not_lt.mpr z)
  vC:=Gr
  iY:=I3.stack
  ud:=I3.rD }
 have start:∀(v0:Option V),v0=none->Inv R [(f,{ cls:=.type "list",dict:=none,data:=.seq ([]:List Value).toArray })] (v0::ik ixs D) H2 { s2 with heap:=Gq,toks:=s2.toks+ ([]:List (Str×Value)).length }:=λv0 Wg=>{
  ok:=ok
  os:=rfl
  bare:=A.bare
  base:=Un.kept U
  loc:=⟨_,P,λi y v e1 Z e3=>by
   cases i with
   |zero=>rw[Wg]at Z;cases Z
   |succ j=>
    have Wh:fns[j]?=some y:=e1
    have Nn:(ik ixs D)[j]?=some (some v):=Z
    obtain⟨i,Wi,Wj,hk,c,RD,Wk⟩:=S.at_ j y Wh;unfold ik at Nn;rw[aby,Wi]at Nn
    have Wm:D[i]?=some (some v):=by
     have z:(D[i]?).join=some v:=Za0 Nn
     cases q:D[i]? with
     |none=>rw[q]at z;cases z
     |some k=>rw[q]at z;rw[show k=some v from z]
    obtain⟨m,_,hl⟩:=A.loc;obtain⟨u,r,l⟩:=hl i y v Wj Wm (hk.elim (λz=>.inr (.inl z)) λz=>.inr (.inr z));refine⟨u,r,.inr ⟨Wk,c,RD,?_⟩⟩;rcases l with ⟨z,_⟩|⟨_,c',Lj,QP⟩
    ·rcases hk with hk|hk <;> grind
    ·have:c'=c:=Za0 (Lj.symm.trans (S.sub _ _ RD));subst this;obtain⟨k,ho,hd⟩:=QP;exact⟨k,U _ _ (L _ _ ho),hd⟩⟩
  cell:=λy c q=>by
   obtain⟨v,k,ho,hd⟩:=A.cell y c (S.sub y c q);exact⟨v,k,U _ _ (L _ _ ho),hd⟩
  free:=Wd
  fW:=λy c q=>A.fW y c (S.sub y c q)
  pin:=λg hp=>by
   have Np:g=(f,{ cls:=.type "list",dict:=none,data:=.seq ([]:List Value).toArray }):=by simpa [R,dB] using hp
   subst Np;exact⟨U _ _ Wc,Ik,DY,Gr f (abA ..),λv z=>nomatch z⟩
  aO:=(A.aO.kept L).kept U
  len:=by show (v0::ik ixs D).length=(x::fns).length;simp[ik,S.len] }
 have Nq:∀{H':Hp} {N:List (Addr×Obj)},(∀b∈Y,H' b=none)->(∀g∈N,g.1=f)->∀b∈Y,oC R N H' b:=λ{H' N} hn hp b t=>
  ⟨hn b t,abV (aem (E b t) w),Gr b (abR _ t),.inl (abR _ t),λy c q=>p6 y c q b (abR _ t),λg q=>by
   have q':g∈N:=by simpa [R,dB] using q
   rw[hp g q'];exact acH (E b t)⟩
 have loop:codeAny (model X.prog X.w) X.A (.compLoop (.ListComp elt [⟨.Name x px,iter,cs,0⟩] scope pos) 0 (.ref it) (.ref f) (compEnvC scope cl C X.env))
  (compPost (model X.prog X.w) X.A X.xe use RQ (.ref f) C) { s2 with heap:=Gq,toks:=s2.toks+ ([]:List (Str×Value)).length }:=by
  refine yV hl (λn s'=>∃(i:Nat) (ys:List V) (G:List Value) (nn:Nat) (v0:Option V) (H':Hp),Inv R [(f,{ cls:=.type "list",dict:=none,data:=.seq G.toArray nn })] (v0::ik ixs D) H' s'/\tn i s'.heap/\(∀b∈Y,H' b=none)/\Vals ys G/\W i n ys H') ?_ m0
   ⟨0,[],[],0,none,H2,start none rfl,T.keep _ _ _ w6 λb _ k q=>U _ _ (L _ _ q),λb t=>(f2 b t).1,.nil,w0⟩
  rintro n s3 ⟨i,ys,G,nn,v0,H3,J3,RG,RH,vv,w3⟩
  have Gs:∀g∈([(f,({ cls:=.type "list",dict:=none,data:=.seq G.toArray nn }:Obj))]:List (Addr×Obj)),g.1=f:=λg hp=>by
   grind
  rcases turn i n ys H3 w3 with ⟨stop,hlen,q⟩|⟨go,hlen,step⟩
  ·-- the end
   refine a8 (T.done R rfl rfl rfl hc i _ s3 _ H3 _ J3 (Nq RH Gs) RG stop) λr s4 ⟨hr,J4⟩=>?_
   subst hr;obtain⟨m,hn,_⟩:=J4.loc;obtain⟨gD,nD,_,_,_⟩:=J4.pin (f,{ cls:=.type "list",dict:=none,data:=.seq G.toArray nn }) (by simp[R,dB]);have B:=J4.base
   have inv:∀F,Heap.SameBut C s4.heap F->Inv X o D (upd H3 f (.lst ys)) { s4 with heap:=F }:=λF Wn=>by
    have kC:∀b u,b≠C->s4.heap.get? b=some u->F.get? b=some u:=λb u t q=>(Wn.2 b t).trans q
    have ne:∀{b k},s2.heap.get? b=some k->b≠C/\b≠f:=λq=>⟨abV (aem (Ij q) w),abV (Ij q)⟩
    have uF:∀{b k},s2.heap.get? b=some k->b∉Y->b∉f::Y:=λq hx z=>(abD.mp z).elim (ne q).2 hx
    have uu:Un (cH X.stack) Y H2 (upd H3 f (.lst ys)) s2.heap F:={
     keep:=λb k q n t hx=>kC b k (ne q).1 (B.keep b k (L b k q) n t (uF q hx))
     slot:=λb k q n t hx=>by
      obtain⟨sl,e⟩:=B.slot b k (L b k q) n t (uF q hx);exact⟨sl,kC b _ (ne q).1 e⟩
     free:=λb k q n hx=>by rw[ak (ne q).2];exact B.free b k (L b k q) n (uF q hx)
     there:=λb k q hx=>by
      obtain⟨o',e⟩:=B.there b k (L b k q) (uF q hx);exact⟨o',kC b _ (ne q).1 e⟩
     jo:=λb xs q=>by rw[ak (aw q Ik)];exact B.jo b xs q
     ia:=λb k xs q=>by rw[ak (aw q Ik)];exact B.ia b k xs q
     j4:=λb ps q=>by
      obtain⟨more,e⟩:=B.j4 b ps q;exact⟨more,by rw[ak (aw q Ik)];exact e⟩ }
    have aO:dg X.prog X.w (upd H3 f (.lst ys)) F:=λb u e=>by
     by_cases t:b=f
     ·subst t;rw[ai]at e;cases e;exact⟨hlen,G,nn,vv,kC _ _ DY gD⟩
     ·rw[ak t]at e;refine(J4.aO b u e).fV (λc v hc q=>kC c v ?_ q) (λc q=>by rw[ak (aw q nD)];exact q) λc xs q=>by rw[ak (aw q nD)];exact q
      have fC:H3 C=none:=J4.free
      grind
    exact A.Hx (s':={ s4 with heap:=F }) J4.os uu aO J4.bare (λb t=>⟨(f2 b t).2.2.2.1,(f2 b t).2.1,(f2 b t).2.2.2.2.1,(f2 b t).2.2.2.2.2⟩)
   have ab:∀{b k},s2.heap.get? b=some k->b≠C:=λq z=>absurd (Ij q) (by rw[z];exact Nat.not_lt.mpr (aeK w))
   refine fin C f H3 ys s4 m hn inv (by rw[ak (acU DY)];exact J4.free) (λz=>?_) (λz c hz=>?_) (abB (by have:=A.sz;rw[hD]at this;exact this) (aeK w)) (λg hp=>ab (A.pin g hp).1) (q f nD)
   ·have h1:=A.lt
    grind
   ·obtain⟨v,k,ho,_⟩:=A.cell z c hz;exact ab ho
  ·-- a turn
   refine a8 (T.item R rfl rfl rfl hc i _ s3 _ H3 _ J3 (Nq RH Gs) RG go) λr s4 ⟨u,hr,h4⟩=>?_
   subst hr;refine a8 h4 λ_ s5 ⟨xv,H5,J5,r5,y5,DZ,Il⟩=>?_
   have Wo:=J5.pinned (Nq Il Gs) (T.obj _ _ DZ);have hg:PG R (.Name x px) (uf 0):=bK (X:=R) (i:=0) S.nd rfl (.inl (sF S.own)) (.inr (sF S.own));refine a8 (hg _ s5 _ H5 xv u (λ iG H'=>iG=some xv::ik ixs D/\H'=H5) Wo r5 ⟨rfl,rfl⟩) λ_ s6 ⟨σ6,H6,J6,e6,Wq⟩=>?_
   subst e6 Wq;refine Kz (ht C { s2 with heap:=M } H2 (f::Y)) rfl J6 (step xv H6 y5) λbt RJ Nr D0 q6=>?_
   cases bt with
   |true=>
    refine a8 (he C { s2 with heap:=M } H2 (f::Y) _ RJ _ Nr _ D0 q6) λyv s7 ⟨y,H7,J7,r7,m',Nt,w7⟩=>?_
    obtain⟨gD,nD,_,_,_⟩:=J7.pin (f,{ cls:=.type "list",dict:=none,data:=.seq G.toArray nn }) (by simp[R,dB]);have Nu:tn (i+ 1) s7.heap:=T.keep _ _ _ DZ λb t k e=>(J7.pin (b,k) (abv _ (abv _ (gA t e)))).1
    have Nv:∀b∈Y,H7 b=none:=λb t=>by
     obtain⟨k,e,d⟩:=T.obj _ _ DZ b t;exact(J7.pin (b,k) (abv _ (abv _ (gA t e)))).2.1
    have Wr:Inv R [] (some xv::ik ixs D) H7 s7:=J7.mZ λg hp=>nomatch hp
    refine wpAny_list_append_plain (hsz:=by rw[abK,<-vv.length];omega) ⟨nn,gD⟩ λh8 Wt RK=>?_
    obtain⟨n8,g8⟩:=Wt
    have J8:Inv R [] (some xv::ik ixs D) H7 { s7 with heap:=h8 }:=Wr.turned (t':=s7.toks) (it:=f) (λb k t e=>(RK.2 b t).trans e) nD (DY) (.inl (abA ..))
     (λy c q=>p6 y c q f (abA ..)) (λg hp=>by simp[R,dB]at hp)
    refine⟨m',Nt,i+ 1,ys++[y],G++[yv],n8,some xv,H7,J8.mZ λg hp=>?_,?_,Nv,vv.append (.cons r7 .nil),w7⟩
    ·grind
    ·exact T.keep _ _ _ Nu λb t k e=>(RK.2 b (abV (E b t))).trans e
   |false=>
    obtain⟨m',Nt,w7⟩:=q6;obtain⟨gD,nD,_,_,_⟩:=D0.pin (f,{ cls:=.type "list",dict:=none,data:=.seq G.toArray nn }) (by simp[R,dB]);have Nu:tn (i+ 1) RJ.heap:=T.keep _ _ _ DZ λb t k e=>(D0.pin (b,k) (abv _ (abv _ (gA t e)))).1
    have Nv:∀b∈Y,Nr b=none:=λb t=>by
     obtain⟨k,e,d⟩:=T.obj _ _ DZ b t;exact(D0.pin (b,k) (abv _ (abv _ (gA t e)))).2.1
    refine⟨m',Nt,i+ 1,ys,G,nn,some xv,Nr,D0.mZ λg hp=>?_,Nu,Nv,vv,w7⟩
    grind
 exact codeAny_compStart_list loop (T.self _ 0 _ _ _ (T.keep _ _ _ w6 λb _ k q=>U _ _ (L _ _ q)) loop)
theorem yX {cs:List Expr}(e:cs.length<=1)(i:X.calm=true)(g:PI X (.Name x px) iter wi)(S:dS X x fns ixs scope cl)(j:∀(C:Addr) (s:Shared) (H:Hp) (ex:List Addr),Ii (dB X (x::fns) scope cl C s H ex) cs tt)
 (k:∀(C:Addr) (s:Shared) (H:Hp) (ex:List Addr),PE (dB X (x::fns) scope cl C s H ex) elt te) (f:∀x,foldedSetIterable iter X.env x=pure x):PE X (.ListComp elt [⟨.Name x px,iter,cs,0⟩] scope pos) (rN wi (ik ixs) tt te):=by
 intro c s n H Q I h;exact w4 e i g S j k f I h λC D o ys l m d inv _ _ _ _ _ q=>⟨m,d,λb a=>⟨.ref D,_,inv b a,rfl,q⟩⟩
theorem zW {cs:List Expr}{a:Pos}(B:cs.length<=1)(N:X.N.Nodup)(j:X.N[n]?=some f)(P:Loc X.env.scope f)(L:X.calm=true)(F:PI X (.Name x px) iter wi)(S:dS X x fns ixs scope cl)(Q:∀(C:Addr) (s:Shared) (H:Hp) (ex:List Addr),Ii (dB X (x::fns) scope cl C s H ex) cs tt)
 (R:∀(C:Addr) (s:Shared) (H:Hp) (ex:List Addr),PE (dB X (x::fns) scope cl C s H ex) elt te) (E:∀x,foldedSetIterable iter X.env x=pure x) (u:swapsWith (.ListComp elt [⟨.Name x px,iter,cs,0⟩] scope pos) (some (.Name f p)) a.line X.env=pure true)
 (k:X.fn f=true\/X.env.scope.names.lookup f=some .local):PS X (.Assign [.Name f p] (.ListComp elt [⟨.Name x px,iter,cs,0⟩] scope pos) a) (Bk (rN wi (ik ixs) tt te) (uf n)):=by
 intro d s σ H O I h;rw[exec_Assign_Name_used _ _ _ _ u];refine abi (ad8 (abi ?_));refine abi (acv (w4 (RQ:=λ_ y=>SP X d O .next y) B L F S Q R E I h λC D H3 ys Z m A inv r U z sz J q=>?_) (λ_ y G=>abq (abq G)) λ_ _ e=>e);refine wpAny_assign_Name (wj (inv _ ⟨rfl,λ_ _=>rfl⟩) N j P (v:=.ref D) rfl (λs5 T c=>?_) k);obtain⟨w,i,g⟩:=c
 have l:C≠w:=by
  rcases g with e|e
  ·grind
  ·exact acU (z f w e)
 refine⟨m,A.sameBut i l,λY t=>?_⟩;exact⟨_,_,T.turned (t':=s5.toks) (it:=C) (λb o M e=>(t.2 b M).trans e) r (acU U) (.inr sz) z J,q⟩
theorem iz (d:X.calm=true)(b:PI X (.Name x px) iter wi)(S:dS X x fns ixs scope cl)
 (c:∀(C:Addr) (s:Shared) (H:Hp) (ex:List Addr),PE (dB X (x::fns) scope cl C s H ex) elt te)
 (a:∀x,foldedSetIterable iter X.env x=pure x:=by intro _;rfl):
 PE X (.ListComp elt [⟨.Name x px,iter,[],0⟩] scope pos) (HP wi (ik ixs) te):=yX (cs:=[]) (by decide) d b S (λ_ _ _ _=>rfl) c a
theorem BU (e:X.calm=true)(b:PI X (.Name x px) iter wi)(S:dS X x fns ixs scope cl)
 (c:∀(C:Addr) (s:Shared) (H:Hp) (ex:List Addr),PT (dB X (x::fns) scope cl C s H ex) Dq tt) (d:∀(C:Addr) (s:Shared) (H:Hp) (ex:List Addr),PE (dB X (x::fns) scope cl C s H ex) elt te)
 (a:∀x,foldedSetIterable iter X.env x=pure x:=by intro _;rfl):
 PE X (.ListComp elt [⟨.Name x px,iter,[Dq],0⟩] scope pos) (rN wi (ik ixs) tt te):=yX (cs:=[Dq]) (abr _) e b S c d a
theorem jH {iy:Nat}{a:Pos}(h:X.N.Nodup)(b:X.N[iy]?=some f)(i:Loc X.env.scope f)(k:X.calm=true)(g:PI X (.Name x px) iter wi)(S:dS X x fns ixs scope cl)
 (j:∀(C:Addr) (s:Shared) (H:Hp) (ex:List Addr),PE (dB X (x::fns) scope cl C s H ex) elt te)
 (e:∀x,foldedSetIterable iter X.env x=pure x:=by intro _;rfl) (c:swapsWith (.ListComp elt [⟨.Name x px,iter,[],0⟩] scope pos) (some (.Name f p)) a.line X.env=pure true:=by rfl)
 (d:X.fn f=true\/X.env.scope.names.lookup f=some .local:=by first|exact .inl rfl|exact .inr rfl|assumption):
 PS X (.Assign [.Name f p] (.ListComp elt [⟨.Name x px,iter,[],0⟩] scope pos) a) (Bk (HP wi (ik ixs) te) (uf iy)):=zW (cs:=[]) (by decide) h b i k g S (λ_ _ _ _=>rfl) j e c d
end
def Wu (h base:Heap)(e:Addr)(cls:Value)(g:Option Addr)(f:Value):Prop:=
 ∃a d T b c,h.get? e=some a/\(a.cls=cls/\a.dict=g)/\a.data=.fields d/\d[1]?=some (.ref T)/\base.get? T=none/\T≠e/\h.get? T=some b/\b.data=.fields c/\c[3]?=some f
def mR (base:Heap)(l:List Env)(e:Addr)(cls:Value)(b:Option Addr)(a:Value)(h:Heap):Prop:=base.StaysIn h/\base.get? e=none/\h.FunFrames base l/\Wu h base e cls b a
theorem w9 (f:Array Value->Array Value)(o:Obj):(Obj.mapFields f o).dict=o.dict:=by
 obtain⟨a,b,d,e⟩:=o;cases d <;> rfl
section
variable {M:Model}{A:Around}{E:Value->Shared->Prop}{s:Shared}{base:Heap}{env:Env}{outer:List Env}{L e:Addr}{cls:Value}{dx:Option Addr}
theorem Ea {x:Obj}{y:Array Value}{head:Value}{m:Bool}(F:A.frames=some (env::outer))(z:s.heap.FunFrames base (env::outer))(P:env.frame=some L)
 (Q:s.heap.get? e=some x) (J:base.StaysIn s.heap) (D:base.get? e=none) (O:x.data=.fields y) (u:1<y.size)
 (h:∀C,mR base (env::outer) e x.cls x.dict (rawInt L) C->s.heap.UpToSlots C->U () { s with heap:=C }):
 wpAny M A (do let a <-frameOf env;let pl <-entryPlaceOf L m;let b <-EntryCells.newEntry head a .none (rawInt L) .none pl;setField (.ref e) 1 b) U E s:=by
 have v:e∉(env::outer).filterMap (·.frame):=λB=>by
  obtain⟨_,o,R,n⟩:=z.mem B
  grind
 refine abi (wpAny_frameOf_fun F z P λc f=>?_);refine abi (wpAny_entryPlaceOf λpl H=>?_);unfold EntryCells.newEntry newFields;refine abi (ab4 ?_ (H.sizeOk5 _ _ _ _ _));have i:c.get? e=some x:=(f.2.1 e v).trans Q;have g:base.StaysIn c:=λb o j=>(f.2.1 b λB=>by rw[(z.mem B).1]at j;cases j).trans (J b o j)
 have l:=abl (h:=c) { cls:=.type "traceback",dict:=none,data:=.fields ([head,.ref L,.none,rawInt L,.none]++(if pl.isEmpty then List.replicate 6 Value.none else pl)).toArray } i;refine adB l O u ?_;have w:c.objs.size≠e:=acH (abE i);have k:=acW O (·.setIfInBounds 1 (Value.ref c.objs.size));have t:=acb (Obj.mapFields (·.setIfInBounds 1 (Value.ref c.objs.size))) l (ady k)
 have r:=(acn (c.push { cls:=.type "traceback",dict:=none,data:=.fields ([head,.ref L,.none,rawInt L,.none]++(if pl.isEmpty then List.replicate 6 Value.none else pl)).toArray })
  (Obj.mapFields (·.setIfInBounds 1 (Value.ref c.objs.size))) (acU w)).trans (abF c rfl)
 have keep:∀b o,b≠e->c.get? b=some o->_=some o:=λb o I p=>(acn (c.push { cls:=.type "traceback",dict:=none,data:=.fields ([head,.ref L,.none,rawInt L,.none]++(if pl.isEmpty then List.replicate 6 Value.none else pl)).toArray }) (Obj.mapFields (·.setIfInBounds 1 (Value.ref c.objs.size))) (acU I)).trans (abl _ p)
 have d:∀b o,s.heap.get? b=some o->(∀y,o.data≠.fields y)->b≠e:=λb o p n q=>by
  grind
 refine h _ ⟨λb o j=>keep b o (λq=>by grind) (g b o j),D,z.of_keeps λb o p n=>?_,?_⟩ λb o p n=>?_
 ·obtain⟨N,G⟩:=f.2.2 b o p;exact⟨_,keep b _ (d b o p n) G,rfl⟩
 ·exact⟨_,_,c.objs.size,_,_,t,⟨Obj.cls_mapFields _ _,w9 _ _⟩,k,by simp[u],g.fresh,w,r,rfl,by grind⟩
 ·obtain⟨N,G⟩:=f.2.2 b o p;exact⟨N,keep b _ (d b o p n) G⟩
theorem Nw {z:Obj}{t:Array Value}{m:Obj}{j:Array Value}{l:List Env}(w:base.StaysIn s.heap)(p:base.get? e=none)(B:s.heap.FunFrames base l)
 (G:s.heap.get? e=some m) (C:m.cls=cls/\m.dict=dx) (D:m.data=.fields j) (H:j[1]?=some (.ref a)) (x:base.get? a=none) (k:a≠e) (y:s.heap.get? a=some z) (i:z.data=.fields t) (F:t[3]?=some v)
 (h:∀n,mR base l e cls dx u n->s.heap.UpToSlots n->U () { s with heap:=n }):wpAny M A (setField (.ref a) 3 u) U E s:=by
 have g:3<t.size:=(ac3.mp F).1;have other:∀b,b≠a->(s.heap.update a (Obj.mapFields (·.setIfInBounds 3 u))).get? b=s.heap.get? b:=λb f=>acn _ _ (acU f)
 have c:∀b o,s.heap.get? b=some o->(∀j,o.data≠.fields j)->b≠a:=λb o f d q=>by
  grind
 refine adB y i g (h _ ⟨λb o r=>(other b λq=>by grind).trans (w b o r),p,
  B.of_keeps λb o f d=>⟨o,(other b (c b o f d)).trans f,rfl⟩,?_⟩ λb o f d=>⟨o.slots,(other b (c b o f d)).trans f⟩)
 exact⟨m,j,a,_,_,(other e (acU k)).trans G,C,D,H,x,k,acb _ y (ady (acW i _)),acW i _,by simp[g]⟩
theorem yZ {l:List Env}(n:mR base l e cls dx v s.heap)(m:∀c,mR base l e cls dx .none c->s.heap.UpToSlots c->U () { s with heap:=c }):wpAny M A (setFlight (.ref e) none) U E s:=by
 obtain⟨g,d,o,u,r,T,t,w,j,a,i,k,h,f,p,b,q⟩:=n;unfold setFlight;refine abi (ace j i k ?_);rw[abN (show (Value.ref T !=Value.none)=true from by simp)];exact Nw g d o j a i k h f p b q m
theorem QQ (g:A.frames=some (env::outer))(n:env.frame=some L)(f:mR base (env::outer) e cls dx .none s.heap)
 (x:∀d,mR base (env::outer) e cls dx (rawInt L) d->s.heap.UpToSlots d->U () { s with heap:=d }):wpAny M A (noteFrame (.ref e) env) U E s:=by
 obtain⟨b,a,j,O,I,T,N,P,t,⟨rfl,rfl⟩,p,u,m,k,o,c,r⟩:=f;unfold noteFrame;simp only[n];refine abi (ace t p u ?_);rw[abN (show (Value.ref T !=Value.none)=true from by simp)];refine abi (ace o c r ?_);rw[abH (show ¬((Value.none==rawInt L)=true) from by simp[rawInt])];refine abi (Nw b a j t ⟨rfl,rfl⟩ p u m k o c r λG D y=>?_);obtain⟨b,a,j,w,H,J,C,z,l,⟨v,F⟩,h,i,_⟩:=D;refine Ea (s:={ s with heap:=G }) g j n l b a h (ac3.mp i).1 λd q B=>?_
 rw[v,F]at q;exact x d q (y.trans B)
theorem Gu {a:Obj}{i:Array Value}(f:A.frames=some (env::outer))(p:s.heap.FunFrames base (env::outer))(h:env.frame=some L)
 (k:s.heap.get? e=some a) (g:base.StaysIn s.heap) (d:base.get? e=none) (j:a.data=.fields i) (b:i[1]?=some .none)
 (m:∀c,mR base outer e a.cls a.dict .none c->s.heap.UpToSlots c->U () { s with heap:=c }):wpAny M A (leaving env (.ref e)) U E s:=by
 unfold leaving noteFrame;simp only[h];refine abi (abi (ace k j b ?_));rw[abH (by decide)];exact Ea f p h k g d j (ac3.mp b).1 λb u l=>yZ (s:={ s with heap:=b }) u λt ⟨v,o,⟨_,_,r⟩,q⟩ n=>m t ⟨v,o,r,q⟩ (l.trans n)
end
end L2
namespace L2
open PySem PySem.Spec PyProof.Rows PySem.Calls PySem.W Builtin Builtin.ObjectAttr
def xc (x C:Addr)(d:Option Addr)(e:Bool)(h:Heap):Prop:=∃b c,h.get? x=some b/\b.cls=.ref C/\b.dict=d/\b.data=.fields c/\(e=true->c[1]?=some .none/\∃a,c[0]?=some (.ref a))
def XO (x C:Addr)(b:Option Addr)(a:Bool):HO:=.ext (xc x C b a)
theorem xc.fV {x:Addr}{dx:Option Addr}{nw:Bool}(p:xc x a dx nw h)(k:∀o,h.get? x=some o->g.get? x=some o):xc x a dx nw g:=by
 obtain⟨b,c,e,r⟩:=p;exact⟨b,c,k _ e,r⟩
theorem xc.ex {x:Addr}{dx:Option Addr}{nw:Bool}(p:xc x a dx nw h):F1 x a h:=let ⟨b,f,e,c,_,d,_⟩:=p;⟨b,f,e,c,d⟩
def y1 (d:Addr)(fs:List (Str×V))(h:Heap):Prop:=∃a,h.Ns1 d a/\(∀f,dU (fs.lookup f) (a f))/\Within a (fs.map (·.1))
def XD (d:Addr)(fs:List (Str×V)):HO:=.ext (y1 d fs)
theorem y1.fV {fs:List (Str×V)}(p:y1 d fs h)(k:∀o,h.get? d=some o->g.get? d=some o):y1 d fs g:=by
 obtain⟨a,n,r⟩:=p;exact⟨a,n.at k,r⟩
theorem BV {x:Addr}{b:Option Addr}{c:Bool}(p:xc x a b c h):bU P w H h x (XO x a b c):=⟨p,let ⟨d,_,e,_⟩:=p;⟨d,e⟩,λ_ _ q k=>q.fV k⟩
theorem Io {fs:List (Str×V)}(p:y1 d fs h):bU P w H h d (XD d fs):=⟨p,let ⟨_,⟨o,_,_,e,_⟩,_⟩:=p;⟨o,e⟩,λ_ _ q k=>q.fV k⟩
def kY:List Value->Bool
 |.ref _::r=>kY r
 |l=>l==BD
theorem BW (e:kY N=true):(∃c r,N=.ref c::r/\kY r=true)\/N=BD:=by
 cases N with
 |nil=>exact .inr (aeC.mp e)
 |cons c r=>cases c <;> first|exact .inl ⟨_,_,rfl,e⟩|exact .inr (aeC.mp e)
theorem pE (self:Value):∀(l:List Value),kY l=true->refuseLoop self "__setattr__" l=pure ()/\l.contains (.type "object")=true/\l.isEmpty=false
 |[],e=>by cases e
 |v::l,e=>by
  rcases BW e with ⟨c,r,q,e⟩|q
  ·injection q with d a
   subst d a;have b:=pE self l e;exact⟨by rw[refuseLoop_ref];exact b.1,by grind,rfl⟩
  ·rw[q];exact⟨PySem.F.store_ValueError.passes self,by decide,rfl⟩
structure y3 (K:Za1) (C:Addr):Prop where
 mr:(clsIn K C).any (λcd=>kY cd.mro)=true
 hd:hasDictIn K C=true
 sa:findIn K (.ref C) "__setattr__"=some (some (.builtin "object.__setattr__"))
 ga:findIn K (.ref C) "__getattribute__"=some (some (.builtin "BaseException.__getattribute__"))
 gt:findIn K (.ref C) "__getattr__"=some none
 be:subIn K (.ref C) (.type "BaseException")=some true
section
variable {prog:Program}{w:World}{A:Around}{R:Result->Shared->Prop}{s:Shared}{K:Za1}{x C:Addr}{name:Str}{v:Value}
theorem AJ {n:Obj}{u:Option Obj}{d:Tok}(X:K.In s.heap)(I:PySem.W.InstAt s.heap x n C u)(k:(clsIn K C).any (λcd=>kY cd.mro)=true)(t:takerIn K C name=some none)
 (h:∀b,wpAny (model prog w) A.in1 (storeInOwnDict (.ref x) (.ref C) (.str name d) name v b)
  (λfin g=>match fin with|.done f=>R (.ok f) g|.again i=>i.quiet=true/\codeAny (model prog w) A i R g) (λe g=>R (.error e) g) s):
 codeAny (model prog w) A (.call (.builtin "object.__setattr__") ⟨[.ref x,.str name d,v],[]⟩) R s:=by
 have c:=PySem.F.store_object;obtain⟨cd,o,l⟩:=any_some k;obtain⟨j,B,z⟩:=pE (.ref x) _ l;have sub:Looks (model prog w) s.heap (isInstance (.ref x) (.type "object")) true:=I.type.andThen (looks_mroIn X (by unfold mroIn;grind));refine adF c.slot.plain c.entry (@check_slot (model prog w) _ _ s "object.__setattr__" "object" "__setattr__" (.ref x) [.str name d,v] [] _ c.kind c.split sub (c.args (.ref x) (.str name d) v) ?_);obtain⟨attr,y,p⟩:=Option.bind_eq_some_iff.mp t;have hm:Looks (model prog w) s.heap (mroOf (.ref C)) cd.mro:=(looks_clsIn X o).andThen .now
 have m:Looks (model prog w) s.heap (storeTaker? attr) none:=by
  cases attr with
  |none=>exact .now
  |some a=>
   obtain⟨b,r,q⟩:=acz.mp p;refine(looks_takesIn X r).andThen ?_
   cases b with
   |true=>cases q
   |false=>exact .now
 rw[osa_eq,refuse_eq];refine abi (abi (I.type.here (abi (hm.here ?_))));rw[j];refine abq (abi (I.type.here (abi ((looks_findIn X y).here (abi (m.here ?_))))));exact h _
theorem UY {ns:List Str}{f:Obj}{u:Array Value}(X:K.In s.heap)(c:y3 K C)(z:s.heap.get? x=some f)(j:f.cls=.ref C)(B:f.data=.fields u)(N:takerIn K C name=some none)
 (e:f.dict=some d) (t:s.heap.Ns1 d M) (L:PySem.Within M ns) (H:ns.length<=sizeLine)
 (h:∀i,i.Ns1 d (λy=>if y=name then some v else M y)->Heap.SameBut d s.heap i->U () { s with heap:=i,toks:=s.toks+ 2 }):
 wpAny (model prog w) A (setAttr (.ref x) name v) U E s:=by
 obtain⟨Q,D,G,o⟩:=f;dsimp only at j B e;subst j B e;obtain⟨q,S,P,O,r⟩:=id t;have J:PySem.W.InstAt s.heap x ⟨.ref C,some d,.fields u,o⟩ C (some q):=⟨z,rfl,rfl,O⟩;refine set_plain X J c.sa (AJ (s:={ s with toks:=s.toks+ 1 }) X J c.mr N λb=>?_);obtain⟨T,j,p⟩:=any_some c.hd;refine abi (abq (abi (abi (wpAny_loadPart z (abi (Looks.here (s:={ s with toks:=s.toks+ 1 }) (looks_clsIn X j) ?_))))));rw[p];refine abq (a:=some d) (abi (abq (abi ?_)));refine wpAny_nsSet1 (s:={ s with toks:=s.toks+ 1 }) t λi g l=>?_
 obtain⟨q,F,I,k,n,m⟩:=g.count (PySem.Within.cons name v L);refine abi (wpAny_lookBehind k (by rw[n];exact pastItsLine_dict (abB m (by rw[abL];omega))) ?_);exact abq (h _ g l)
theorem QR {f:Obj}{r:Array Value}(X:K.In s.heap)(c:y3 K C)(p:s.heap.get? x=some f)(n:f.cls=.ref C)(F:f.data=.fields r)(N:takerIn K C name=some none)(i:f.dict=none)
 (h:∀g,g.Ns1 s.heap.objs.size (λy=>if y=name then some v else none)->g.get? x=some { f with dict:=some s.heap.objs.size }->(∀b o,b≠x->s.heap.get? b=some o->g.get? b=some o)->U () { s with heap:=g,toks:=s.toks+ 2 }):
 wpAny (model prog w) A (setAttr (.ref x) name v) U E s:=by
 obtain⟨Q,G,I,m⟩:=f;dsimp only at n F i;subst n F i;have J:PySem.W.InstAt s.heap x ⟨.ref C,none,.fields r,m⟩ C none:=⟨p,rfl,rfl,True.intro⟩;refine set_plain X J c.sa (AJ (s:={ s with toks:=s.toks+ 1 }) X J c.mr N λb=>?_);obtain⟨S,n,D⟩:=any_some c.hd;refine abi (abq (abi (abi (wpAny_loadPart p (abi (Looks.here (s:={ s with toks:=s.toks+ 1 }) (looks_clsIn X n) ?_))))));rw[D];have d:(s.heap.push { cls:=.type "dict",data:=.dict #[] }).get? x=some ⟨.ref C,none,.fields r,m⟩:=abl _ p;have l:x≠s.heap.objs.size:=abV (abE p);refine abi (wpAny_alloc' ?_);refine abi (wpAny_update' d ?_);refine abq (a:=some s.heap.objs.size) (abi (abq (abi ?_)))
 have u:((s.heap.push { cls:=.type "dict",data:=.dict #[] }).update x λo=>{ cls:=o.cls,dict:=some s.heap.objs.size,data:=o.data,slots:=o.slots }).get? s.heap.objs.size
  =some { cls:=.type "dict",data:=.dict #[] }:=(Heap.get?_update_ne _ _ _ _ l.symm).trans (Heap.get?_push_at rfl rfl)
 have t:((s.heap.push { cls:=.type "dict",data:=.dict #[] }).update x λo=>{ cls:=o.cls,dict:=some s.heap.objs.size,data:=o.data,slots:=o.slots }).Ns s.heap.objs.size (λ_=>none):=
  ⟨_,#[],_,u,rfl,λe O=>absurd O (by simp),λ_=>rfl⟩
 refine wpAny_nsSet1 (s:={ s with heap:=(s.heap.push { cls:=.type "dict",data:=.dict #[] }).update x λo=>{ cls:=o.cls,dict:=some s.heap.objs.size,data:=o.data,slots:=o.slots },toks:=s.toks+ 1 }) (Heap.Ns1.of_empty t) λg j k=>?_
 obtain⟨P,H,L,q,B,z⟩:=j.count (Within.cons name v Within.nil);refine abi (wpAny_lookBehind q (by rw[B];exact pastItsLine_dict (abB z (by rw[abL,ack,sizeLine_eq];omega))) ?_);refine abq (h _ j ?_ λb o M e=>?_)
 ·exact(k.2 x l).trans (acb _ d rfl)
 ·exact(k.2 b (abV (abE e))).trans ((Heap.get?_update_ne _ _ _ _ M).trans (abl _ e))
end
end L2
namespace L2
open PySem PySem.Spec PyProof.Rows PySem.Calls PySem.W
def vV (K:Frag)(C f:Addr):Bool:=match K.lookup C with
 |some ⟨.type "type",_,.cls cd,b⟩=>(match cd.mro,b.toList with
  |.ref c::a,[_,_,_,_,some (.builtin n),_]=>c==C && n=="ValueError.__new__" && !cd.hasDel && tailIn K BD a && nsOkIn K cd.ns && nsIn K cd.ns "__init__"==some (some (.ref f))
  |_,_=>false)
 |_=>false
theorem KC {K:Frag}(X:K.In h)(G:h.Ns a M)(e:nsIn K a x=some (some v)):M x=some v:=by
 obtain⟨o,l,k,f,i,_,b⟩:=G;unfold nsIn at e;split at e
 ·rename_i c d g p m q;have:=X _ _ q;rw[f]at this;cases this;cases i;split at e
  ·rename_i n j;cases e;rw[<-b];unfold nsFind findBy;rw[<-Array.find?_toList,j];rfl
  ·split at e <;> cases e
 ·cases e
theorem y4 (XK:K.In h)(q:vV K a b=true):∃n N nm s bs m o sub t col p D G A C F x,
 h.get? a=some (excClassObj nm s a N bs n m o sub t col p D G A C F "ValueError.__new__")/\h.Ns N x/\x "__init__"=some (.ref b)/\OwnTail h BD n:=by
 unfold vV at q;split at q
 ·rename_i p cls k i;split at q
  ·rename_i H n y z w v nid u f c;simp only[acM,aeC,Bool.not_eq_true']at q;obtain⟨⟨⟨⟨⟨rfl,rfl⟩,e⟩,j⟩,g⟩,d⟩:=q;obtain⟨nm,bs,mro,B,s,E,o,sub,t,col,del⟩:=cls;dsimp only at f e g d;subst f e
   have r:k=#[y,z,w,v,some (.builtin "ValueError.__new__"),u]:=by
    obtain⟨l⟩:=k;simp only at c;rw[c]
   subst r;exact⟨n,B,nm,s,bs,E,o,sub,t,col,p,y,z,w,v,u,_,XK _ _ i,.of_isNs (PySem.W.isNs_of_in XK g),KC XK (.of_isNs (PySem.W.isNs_of_in XK g)) d,PySem.W.tail_of_in XK j⟩
  ·cases q
 ·cases q
section
variable {prog:Program}{w:World}{A:Around}{E:Value->Shared->Prop}{h:Heap}{g:Array GenState}{d:Drawn}{t:Nat}{os:OsState}
variable {nm q:Str}{C N:Addr}{bs bm Ip:List Value}{hdct:Bool}{sn:List Str}{sub:List Value}{ab:Bool}{col:Option Bool}{dd:Option Addr}{k0 k1 k2 k3 k5:Option Value}{B newId Eb:String}
theorem uG (F:ExcBaseFacts B newId Eb Ip)(T:OwnTail h Ip bm){n:Str->Option Value}{rest:List Value}{u:Addr}{v:Obj}{Q:Fin->Shared->Prop}
 (j:h.get? C=some (excClassObj nm q C N bs bm hdct sn sub ab col dd k0 k1 k2 k3 k5 newId)) (z:h.Ns N n) (H:n "__init__"=some (.ref u))
 (p:h.get? u=some v) (l:v.cls=.type "function")
 (I:∀m e,Heap.MadeExcOf h m e (.ref C) rest->
  wpAny (model prog w) A (call (.ref u) (.ref e::rest)) (λr y=>r=.none/\Q (.done (.ret (.ref e))) y) E ⟨m,g,d,t,os⟩) (QS:rest.length<=sizeLine):
 wpAny (model prog w) A (Builtin.«type.__call__» ⟨.ref C::rest,[]⟩) Q E ⟨h,g,d,t,os⟩:=by
 repeat (first|with_reducible refine aec j ?_|with_reducible refine wpAny_madeBy_exc j ?_|wp_step)
 refine codeAny_call_builtin_code (Code.quiet_builtin _ F.quiet) (wpAny_check_new_subT F T j ?_);refine codeAny_exc_new_subT F T j ?_ QS;show wpAny _ _ _ _ _ _
 have a:=abl { cls:=.ref C,data:=.fields #[.ref h.objs.size,.none,.none,.none,.bool false,.none] }
  (abl { cls:=.type "tuple",data:=.seq rest.toArray } j)
 have c:=abl { cls:=.ref C,data:=.fields #[.ref h.objs.size,.none,.none,.none,.bool false,.none] }
  (abl { cls:=.type "tuple",data:=.seq rest.toArray } p)
 have i:((h.push { cls:=.type "tuple",data:=.seq rest.toArray }).push { cls:=.ref C,data:=.fields #[.ref h.objs.size,.none,.none,.none,.bool false,.none] }).Ns N n:=
  let ⟨o,J,G,e,r⟩:=z;⟨o,J,G,abl _ (abl _ e),r⟩
 have f:((h.push { cls:=.type "tuple",data:=.seq rest.toArray }).push
  { cls:=.ref C,data:=.fields #[.ref h.objs.size,.none,.none,.none,.bool false,.none] }).get? (h.objs.size+ 1)=some
  { cls:=.ref C,data:=.fields #[.ref h.objs.size,.none,.none,.none,.bool false,.none] }:=by heap_get
 have s:(Value.ref C::bm).contains (.ref C)=true:=by simp
 have k:=T.keeps (h':=(h.push { cls:=.type "tuple",data:=.seq rest.toArray }).push { cls:=.ref C,data:=.fields #[.ref h.objs.size,.none,.none,.none,.bool false,.none] })
  λb o e=>abl _ (abl _ e)
 unfold isInstance
 repeat (first|with_reducible refine aec f ?_|(with_reducible refine wpAny_isSubtype_exc a ?_;rw[s])|wp_step)
 show wpAny _ _ (typeLookup (.ref C) _) _ _ _;refine wpAny_typeLookup_tail a i k F.mroIs F.init.lookup ?_;rw[H];refine acD (abi ?_);unfold bindSpecial;refine abi (adw (T:="function") ⟨_,c,l⟩ ?_);rw[abN (by decide)];refine abq (abi (acv (I _ (h.objs.size+ 1) ⟨λb o M=>abl _ (abl _ M),Heap.get?_none_of_le (ado _),h.objs.size,f,Heap.get?_none_of_le (abr _),?_⟩) (λr y L=>?_) λ_ _ x=>x))
 ·exact abl _ (Heap.get?_push_at rfl rfl)
 ·obtain⟨rfl,D⟩:=L
  wp_walk
  exact D
theorem BX (F:ExcBaseFacts B newId Eb Ip)(T:OwnTail h Ip bm){k:Str->Option Value}{rest:List Value}{j:Addr}{l:Obj}{Q:Value->Shared->Prop}
 (c:h.get? C=some (excClassObj nm q C N bs bm hdct sn sub ab col dd k0 k1 k2 k3 k5 newId)) (n:h.Ns N k) (o:k "__init__"=some (.ref j))
 (i:h.get? j=some l) (f:l.cls=.type "function")
 (p:∀b e,Heap.MadeExcOf h b e (.ref C) rest->
  wpAny (model prog w) (A.under (.builtin "type.__call__" ⟨.ref C::rest,[]⟩)) (call (.ref j) (.ref e::rest)) (λr s=>r=.none/\Q (.ref e) s) E ⟨b,g,d,t,os⟩) (a:rest.length<=sizeLine):
 wpAny (model prog w) A (call (.ref C) rest) Q E ⟨h,g,d,t,os⟩:=by
 have x:=tc_lookup;have v:=tc_bind (.ref C);have u:(⟨h,g,d,t,os⟩:Shared).TypeIs (.ref C) "type":=⟨_,c,rfl⟩;refine aeD (codeAny_of_tree ?_);show wpAny _ _ (callAny (.ref C) _) _ _ _
 repeat (any_goals (first|assumption|with_reducible refine aec c ?_|wp_step))
 refine⟨rfl,?_⟩;refine codeAny_call_builtin_at (Code.quiet_builtin _ (by decide)) entry_typeCall (wpAny_check_type_call_sub c (uG (QS:=a) F T c n o i f λb e m=>?_));exact p b e m
theorem Gv {M:Model}{env:Env}{x:Sem Value}{Q:Flow->Shared->Prop}(b:bm.contains (.type "BaseException")=true)(o:A.handled=none)
 (h:wpAny M A x (λv a=>∃e c i,v=.ref e/\a.heap.get? C=some (excClassObj nm q C N bs bm hdct sn sub ab col dd k0 k1 k2 k3 k5 newId)/\
  a.heap.get? e=some c/\c.cls=.ref C/\c.data=.fields i/\i[1]?=some .none/\E (.ref e) a) E s):
 wpAny M A (raiseStmt env (some x) none) Q E s:=by
 have j:(Value.ref C::bm).contains (.type "BaseException")=true:=by rw[List.contains_cons,b,Bool.or_true]
 unfold raiseStmt;refine abi (acv h (λv a f=>?_) λ_ _ x=>x);obtain⟨e,c,i,rfl,l,n,k,m,y,r⟩:=f;obtain⟨z,g,d,F,os⟩:=a;obtain⟨D,G,p,u⟩:=c;dsimp only at k m;subst k m
 repeat (first|with_reducible refine aec n ?_|with_reducible refine aec l ?_|(with_reducible refine wpAny_isSubtype_exc l ?_;rw[j])|with_reducible refine abi (ace n rfl y ?_)|wp_step)
 all_goals exact wpAny_raiseNew_none o r
end
end L2
namespace L2
open PySem PySem.Spec PyProof.Rows
inductive bF (P:Program) (w:World) (outer:List Env) (H:Hp) (s:Shared) (E:XK) (e:Value) (s':Shared):Prop
 |mk (x C:Addr) (dx:Option Addr) (B:Heap) (H':Hp):e=.ref x->s'.os=s.os->AllBare s'.gens->mR B outer x (.ref C) dx .none s'.heap->Un (cH outer) [] H H' s.heap s'.heap->dg P w H' B->(∀b o,s.heap.get? b=some o->H b=none->b∉cH outer->B.get? b=some o)->(∀b o,s.heap.get? b=some o->b∉cH outer->∃o',B.get? b=some o')->E (.ref C) dx H'->bF P w outer H s E e s'
def del (H:Hp)(x:Addr):Hp:=λb=>if b=x then none else H b
theorem qq {x:Addr}(h:b≠x):del H x b=H b:=by unfold del;rw[abH h]
theorem Gw {x:Addr}{u:HO}(h:del H x b=some u):b≠x/\H b=some u:=by
 unfold del at h
 grind
theorem aM:Passes (bF P w) X (λ_ _ _=>False):=λ_ _ _ _ _ _ _ ⟨_,_,_,_,_,_,_,_,_,_,_,_,_,q⟩=>q.elim
theorem Iq {a:List Env}(h:bF P w a H s (λ_ _ _=>False) v t):False:=let ⟨_,_,_,_,_,_,_,_,_,_,_,_,_,q⟩:=h;q
section
variable {P:Program}{w:World}{K:Za1}{mg:Str->Option Value}{base:Heap}{N:List Str}{qual:Str}{scope:Scope}{f:Addr}{cd:Value}{A:Around}{outer:List Env}{s:Shared}{H:Hp}{E:XK}{pins:List (Addr×Obj)}{σ:St}{H1:Hp}{s1:Shared}
theorem BZ {o:Obj}(I:Inv (dG (bF P w) P w K mg base N qual scope f cd A outer s H E) pins σ H1 s1)(e:s.heap.get? b=some o)(a:b∉cH outer):b∉cH (dG (bF P w) P w K mg base N qual scope f cd A outer s H E).stack:=λz=>by
 rcases abD.mp (show b∈s.heap.objs.size::cH outer from z) with z|z
 ·exact absurd (abE e) (by rw[z];exact acK _)
 ·exact a z
theorem Nx {x:Addr}{O:Option Addr}(I:Inv (dG (bF P w) P w K mg base N qual scope f cd A outer s H E) pins σ H1 s1)(G:H1 x=some (XO x a O true))(h0:s.heap.get? x=none)(q:E (.ref a) O (del H1 x)):
 (dG (bF P w) P w K mg base N qual scope f cd A outer s H E).xe (.ref x) s1:=by
 have C:=I.ok.frames;have J:∀env∈(dG (bF P w) P w K mg base N qual scope f cd A outer s H E).stack,∀b,env.frame=some b->b∈x::cH (dG (bF P w) P w K mg base N qual scope f cd A outer s H E).stack:=λenv X b k=>abR _ (List.mem_filterMap.mpr ⟨env,X,k⟩)
 have y:=PySem.W.funFrames_hide I.stack J;obtain⟨⟨ob,vs,d,rfl',rfl,i,l⟩,_,_⟩:=I.aO x _ G;have nx:∀b o,s.heap.get? b=some o->b≠x:=λb o e z=>by grind
 have out:∀b o,s.heap.get? b=some o->b∉cH outer->b∉x::cH (dG (bF P w) P w K mg base N qual scope f cd A outer s H E).stack:=λb o e k z=>(abD.mp z).elim (nx b o e) (BZ I e k)
 refine Gu (s:=s1) (base:=PySem.W.hideAll s1.heap (x::cH (dG (bF P w) P w K mg base N qual scope f cd A outer s H E).stack)) (L:=s.heap.objs.size) C y rfl d (λb o z=>PySem.W.of_hideAll _ z) (PySem.W.hideAll_none _ (.head _)) i (l rfl).1 λB r ups=>?_
 have S:∀b o,s.heap.get? b=some o->H b=none->b∉cH outer->(PySem.W.hideAll s1.heap (x::cH (dG (bF P w) P w K mg base N qual scope f cd A outer s H E).stack)).get? b=some o:=λb o d g h=>
  aef _ (I.base.keep b o d g h (by simp[dG])) (out b o d h)
 have Q:∀b o,s.heap.get? b=some o->b∉cH outer->∃j,(PySem.W.hideAll s1.heap (x::cH (dG (bF P w) P w K mg base N qual scope f cd A outer s H E).stack)).get? b=some j:=λb o d h=>by
  obtain⟨j,i⟩:=I.base.there b o d (by simp[dG]);exact⟨j,aef _ i (out b o d h)⟩
 have R:∀b o,s1.heap.get? b=some o->b∈cH outer->∃D,B.get? b=some { o with slots:=D }:=λb o d g=>by
  obtain⟨_,Z,h,T⟩:=I.stack.mem (show b∈cH (dG (bF P w) P w K mg base N qual scope f cd A outer s H E).stack from abR _ g);rw[d]at h;cases h;exact ups b o d T
 have dl:∀{b:Addr} {u:HO},H1 b=some u->(∀ U,u≠.ext U)->del H1 x b=some u:=λ{b u} e n=>by
  rw[qq]
  ·exact e
  ·intro z;rw[z,G]at e;exact n _ (Za0 e).symm
 rw[rfl']at r;refine⟨x,a,_,_,del H1 x,rfl,I.os,I.bare,r,⟨λb o d g h _=>r.1 b o (S b o d g h),λb o d g h _=>?_,λb o d g _=>?_,λb o d _=>?_,λb M e=>dl (I.base.jo b M e) (by grind),λb o u e=>dl (I.base.ia b o u e) (by grind),λb Y e=>?_⟩,?_,S,Q,q⟩
 ·obtain⟨D,i⟩:=I.base.slot b o d g h (by simp[dG]);obtain⟨t,l⟩:=R b _ i h;exact⟨t,l⟩
 ·rw[qq (nx b o d)];exact I.base.free b o d g (by simp[dG])
 ·by_cases k:b∈cH outer
  ·obtain⟨j,i⟩:=I.base.there b o d (by simp[dG]);obtain⟨D,l⟩:=R b j i k;exact⟨_,l⟩
  ·obtain⟨j,i⟩:=Q b o d k;exact⟨j,r.1 b j i⟩
 ·obtain⟨m,g⟩:=I.base.j4 b Y e;exact⟨m,dl g (by grind)⟩
 ·intro b u d;obtain⟨V,d⟩:=Gw d
  have p:∀c v,c≠x->H1 c=some v->c∉x::cH (dG (bF P w) P w K mg base N qual scope f cd A outer s H E).stack:=λc v F g z=>by
   rcases abD.mp z with z|z
   ·exact F z
   ·rw[I.rD c z]at g;cases g
  refine(I.aO b u d).fV (λc v F z=>aef _ z ?_) (λc z=>dl z (by grind)) λc M z=>dl z (by grind)
  rcases F with z2|z2
  ·rw[z2];exact p b u V d
  ·exact p c _ (λz=>by rw[z,G]at z2;cases z2) z2
end
section
variable {X:Cx}{pins:List (Addr×Obj)}{σ:St}{H:Hp}{s:Shared}{h':Heap}{e C:Addr}{vs:List Value}
theorem Inv.QT (I:Inv X pins σ H s)(hm:Heap.MadeExcOf s.heap h' e (.ref C) vs)(hex:X.ex=[]):H e=none/\X.dP.heap.get? e=none/\Inv X pins σ (upd H e (XO e C none true)) { s with heap:=h' }:=by
 have a:H e=none:=by
  cases q:H e with
  |none=>rfl
  |some u=>
   obtain⟨o,d⟩:=(I.aO e u q).get;rw[hm.new]at d;cases d
 have ne:∀b o,s.heap.get? b=some o->b≠e:=λb o q z=>by rw[z,hm.new]at q;cases q
 have i:X.dP.heap.get? e=none:=by
  cases q:X.dP.heap.get? e with
  |none=>rfl
  |some o=>
   obtain⟨k,d⟩:=I.base.there e o q (by rw[hex];simp)
   grind
 refine⟨a,i,I.un (t':=s.toks) ⟨λb u q _ _ _=>hm.keeps b u q,λb u q _ _ _=>⟨u.slots,hm.keeps b u q⟩,λb u q n _=>by rw[ak (ne b u q)];exact n,λb u q _=>⟨u,hm.keeps b u q⟩,λb f q=>by rw[ak (aw q a)];exact q,λb u f q=>by rw[ak (aw q a)];exact q,λb l q=>⟨#[],by rw[ak (aw q a),q];simp⟩⟩ λb u q=>?_⟩;by_cases g:b=e
 ·subst g;rw[ai]at q;cases q;obtain⟨t,h,_,_⟩:=hm.there;exact BV ⟨_,_,h,rfl,rfl,rfl,λ_=>⟨rfl,_,rfl⟩⟩
 ·rw[ak g]at q;exact(I.aO b u q).fV (λc v _ q=>hm.keeps c v q) (λc q=>by rw[ak (aw q a)];exact q) λc f q=>by rw[ak (aw q a)];exact q
end
section
variable {X:Cx}{k:Nat}{f C:Addr}{fd:FuncData}{ps:List Str}{sp:Sp}{x:Str}{p pos ck:Pos}{e:Expr}{es:List Expr}{t:TA}{E:XK}
def RL (X:Cx)(C:Addr)(E:XK):Prop:=∀(a:List (Addr×Obj)) (c:St) (H:Hp) (s:Shared) (x:Addr) (b:Option Addr),Inv X a c H s->H x=some (XO x C b true)->X.dP.heap.get? x=none->E (.ref C) b (del H x)->X.xe (.ref x) s
theorem Wv {base:Heap}{qual:Str}{scope:Scope}{f C:Addr}{a:List Env}{E:XK}:RL (dG (bF P w) P w K M base Z qual scope f v A a s H E) C E:=λ_ _ _ _ _ _ I c b q=>Nx I c b q
def KD (C:Addr)(sp:Sp)(E:XK)(t:TA):TS:=λ_ d H=>t d H λg c=>∀x,c x=none->sp (.ref x::g) (upd c x (XO x C none true)) (λv a=>v=.non/\∃b,a x=some (XO x C b true)/\E (.ref C) b (del a x)) (λ_ _ _=>False)
theorem Ec (F:bj X.prog X.w X.K X.mg X.base (bF X.prog X.w) k f fd ps sp)(hr:df (k+ 1) X.A)(hb:Binds X.K fd ps [])(hc:X.calm=true)(hg:Gl X x)(hm:X.mg x=some (.ref C))(hC:vV X.K C f=true)(hf:PySem.W.isFn X.K (.ref f)=true)(hk:PySem.W.keepIn X.K (.ref C)=true)
 (ha:PA X (e::es) t) (lv:RL X C E) (hex:X.ex=[]:=by rfl) (Ed:ps.length<=1000:=by decide) (w:(x==("__debug__":Str))=false:=by decide) (he:starEach (e::es) X.env=(false,eval e X.env)::starEach es X.env:=by rfl) (z:(backTo ck (starEach es X.env)).any (·.1)=false:=by rfl):
 PS X (.Raise (some (.Call (.Name x p) (e::es) [] ck)) none pos) (KD C sp E t):=by
 intro c s σ H D I h;obtain⟨bm,N,nm,qn,bs,i,S,sub,ab,col,Y,k0,k1,k2,k3,W,mN,R,o2,o3,o4⟩:=y4 I.ok.mod.uc hC;have kp:∀{B G n},Inv X c B G n->∀b o,X.base.get? b=some o->n.heap.get? b=some o:=λJ b o q=>(J.bs b o q).1
 rw[arm_exec_Raise];refine abi (ad8 (Gv (C:=C) (nm:=nm) (q:=qn) (N:=N) (bs:=bs) (bm:=bm) (hdct:=i) (sn:=S) (sub:=sub) (ab:=ab) (col:=col) (dd:=Y) (k0:=k0) (k1:=k1) (k2:=k2) (k3:=k3) (k5:=W) (newId:="ValueError.__new__") (o4.hasType (by decide)) (I.ok.hd hc) (abi (acv (E:=X.xe) ?_ (λv U l=>abi (ad8 (abq l))) λ_ _ x=>x))));refine acI (jq I hg hm ?_ w);refine adU (h₀:=X.base) I.ok.mod.uc hk (a8 (ha ck c s σ H _ I h) λus s1 ⟨vs,H1,j,r,q⟩=>⟨j.da,?_⟩) he z;obtain⟨oI,L,O⟩:=acz.mp (aeC.mp hf)
 have len:us.length<=1000:=by
  have h1:=F.len _ _ _ _ (q (s1.heap.objs.size) (j.aO.fresh (abr _)));rw[abL]at h1;rw[<-r.length];omega
 obtain⟨hh,g,d,tk,os⟩:=s1;refine BX (A:=X.A) adu (o4.keeps (kp j)) (kp j _ _ R) (o2.keeps (kp j)) o3 (j.da _ _ L) O (λh' y P=>?_) (abB len (by decide));obtain⟨hn,h0,J⟩:=j.QT P hex;have Z:=q y hn;have Q:Vals (V.ref y::vs) (Value.ref y::us):=.cons rfl r
 have hl:(Value.ref y::us++[]).length=ps.length:=by
  rw[abO,<-Q.length];exact F.len _ _ _ _ Z
 have m:=hb _ (Value.ref y::us) J.da hl;rw[abO]at m;refine aeD (adW (F.run _ X.stack _ _ ⟨Value.ref y::us,[]⟩ (Value.ref y::us) _ _ _ (hr.make C us []) (J.Bu.make C us []) m Q Z) λr n a=>?_)
 cases r with
 |error e=>exact(Iq a).elim
 |ok fl=>
  cases fl with
  |ret u=>
   obtain⟨v,G,M,rv,ev,dx,T,q3⟩:=J.after a;subst ev;obtain⟨⟨ob,ws,a1,a2,a3,a4,a5⟩,_,_⟩:=M.aO y _ T;exact⟨rv,y,ob,ws,rfl,kp M _ _ R,a1,a2,a4,(a5 rfl).1,lv c σ G n y dx M T h0 q3⟩
  |next=>exact False.elim a
  |brk=>exact False.elim a
  |cont=>exact False.elim a
end
end L2
namespace L2
open PySem PySem.Spec PyProof.Rows PySem.W
section
variable {M:Model}{A:Around}{E:Value->Shared->Prop}{s:Shared}{x a:Addr}{ob:Obj}{vs:Array Value}{tv:Value}
theorem Gx {Q:Fin->Shared->Prop}(e:s.heap.get? x=some ob)(c:ob.data=.fields vs)(d:vs[0]?=some (.ref a))
 (h:Q (.done (.ret .none)) { s with heap:=(s.heap.push { cls:=.type "tuple",data:=.seq #[tv] }).update x (Obj.mapFields (·.setIfInBounds 0 (.ref s.heap.objs.size))) }):wpAny M A (Builtin.«BaseException.__init__» ⟨[.ref x,tv],[]⟩) Q E s:=by
 have b:=abl { cls:=.type "tuple",data:=.seq #[tv] } e;unfold Builtin.«BaseException.__init__»;refine abi (wpAny_newTuple ?_);unfold Builtin.BaseException.bexcPut;refine abi (abi (ace b c d (abi (adB b c (ac3.mp d).1 ?_))))
 wp_walk
 exact h
end
section
variable {X:Cx}{Y:Addr}{y f:Str}{np apos pos pos':Pos}{e:Expr}{es:List Expr}{t:TA}
structure Gy (K:Za1) (Y:Addr):Prop where
 sp:specialIn K (.ref Y) "__getattribute__"=some (some (.builtin "type.__getattribute__"))
 rd:readsIn K Y (.type "type")=true
 fc:(match findCls K (.ref Y) (.type "type") "__init__" with|some (.val (.builtin i))=>i=="ValueError.__init__" | _=>false)=true
theorem Gy.find {Y:Addr}(b:Gy K Y):findCls K (.ref Y) (.type "type") "__init__"=some (.val (.builtin "ValueError.__init__")):=by
 have:=b.fc
 grind
def UZ (C:Addr)(t:TA):TE:=λ b H Q=>t b H λd a=>∃(x:Addr) (c:Option Addr) (l:List Nat),d=[.ref x,.str (tx l)]/\a x=some (XO x C c true)/\Q .non a
theorem Gz {pl:Sem Bool}(U:vV X.K a b=true)(C:Gy X.K Y)(hg:Gl X y)(Z:X.mg y=some (.ref Y))(ha:PA X (e::es) t)(n:(y==("__debug__":Str))=false:=by decide)
 (p:starEach (e::es) X.env=(false,eval e X.env)::starEach es X.env:=by rfl) (w:(backTo pos (starEach es X.env)).any (·.1)=false:=by rfl)
 (ht:eval (.Call (.Attribute (.Name y np) "__init__" apos) (e::es) [] pos) X.env=(do
  let P <-eval (.Name y np) X.env
  standAt apos.atName
  let (f,first) <-holding [P] (getMethod P "__init__" pl)
  callWith pos f first (backTo pos (starEach (e::es) X.env)) (backToKw pos (keywordEach [] X.env))):=by rfl):
 PE X (.Call (.Attribute (.Name y np) "__init__" apos) (e::es) [] pos) (UZ a t):=by
 intro k s σ H Q I h;refine methodCall_KW (pl:=pl) (jq I hg Z ?_ n) ht;refine method_cls I.da C.sp (cls_value I.da C.rd C.find rfl ?_);refine PyProof.Rows.callWith_builtin1 (a8 (ha pos k _ σ H _ (I.tok _) h) λus s1 ⟨vs,A,D,r,x,G,l,ev,v,q⟩=>?_) p w;subst ev;obtain⟨u,L,rfl,V,ry⟩:=vals2 r;cases V;obtain⟨bm,N,nm,qn,bs,M,sn,sub,ab,col,dd,k0,k1,k2,k3,k5,mN,W,o2,o3,o4⟩:=y4 I.ok.mod.uc U;have kp:∀d o,X.base.get? d=some o->s1.heap.get? d=some o:=λd o q=>(D.bs d o q).1
 obtain⟨⟨ob,ws,m,O,S,F,R⟩,_,_⟩:=D.aO x _ v;obtain⟨b1,c,E⟩:=R rfl;obtain⟨g,gg,dr,tk,os⟩:=s1;refine aeD (adF adu.init.plain adu.initEntry (wpAny_check_init_subT adu (o4.keeps kp) (kp _ _ W) m O ?_));refine Gx m F E ?_;have sG:x≠g.objs.size:=abV (abE m);have B:=abl { cls:=.type "tuple",data:=.seq #[L] } m;have j:=acW F (·.setIfInBounds 0 (Value.ref g.objs.size));have i:=acb (Obj.mapFields (·.setIfInBounds 0 (Value.ref g.objs.size))) B (ady j)
 have J:=D.write (h':=(g.push { cls:=.type "tuple",data:=.seq #[L] }).update x (Obj.mapFields (·.setIfInBounds 0 (.ref g.objs.size)))) (t':=tk) (o:=XO x a G true) (x:=x) (e:=x) (by rw[v];exact True.intro) (.inl rfl) (λd u hb z=>(acn _ _ (acU hb)).trans (abl _ z)) ⟨_,i⟩
  (BV ⟨_,_,i,(Obj.cls_mapFields _ _).trans O,(w9 _ _).trans S,j,λ_=>⟨by grind,g.objs.size,by simp[(ac3.mp E).1]⟩⟩)
 have T:upd A x (XO x a G true)=A:=by
  funext d
  by_cases z:d=x
  ·rw[z,ai,v]
  ·rw[ak z]
 rw[T]at J;exact⟨.non,A,J,rfl,q⟩
def QV (K:Za1)(k i:TE)(f:Str):TS:=λD c H=>i c H λy j=>k c j λx b=>∃(a C:Addr) (g:Option Addr) (h:Bool),x=.ref a/\b a=some (XO a C g h)/\y3 K C/\jN K C f/\
 match g with
 |none=>∀d,b d=none->D.nx c (upd (upd b d (XD d [(f,y)])) a (XO a C (some d) h))
 |some d=>∃fs,d≠a/\b d=some (XD d fs)/\fs.length<1000/\D.nx c (upd b d (XD d (bJ f y fs)))
theorem Ee {fs:List (Str×V)}{mA:Str->Option Value}{y:V}(r:∀f,dU (fs.lookup f) (mA f))(c:PySem.Within mA (fs.map (·.1)))(a:RelV y u):(∀g,dU ((bJ f y fs).lookup g) (if g=f then some u else mA g))/\PySem.Within (λg=>if g=f then some u else mA g) ((bJ f y fs).map (·.1)):=by
 refine⟨λg=>?_,λg b=>?_⟩
 ·rw[mQ];by_cases q:g=f
  ·rw[abN q,abN q];exact a
  grind
 ·by_cases q:g=f
  ·rw[q];exact(jM f y fs).1
  ·refine(jM f y fs).2 g (c g λz=>b ?_)
   grind
theorem AK {o value:Expr}{Q:TE}(ha:PE X o r)(hv:PE X value Q)(hs:swapsWith value (some (.Attribute o f pos')) pos.line X.env=pure false):PS X (.Assign [.Attribute o f pos'] value pos) (QV X.K r Q f):=by
 intro k s A H D I h;refine plainObj_wpAny_Assign_Attribute (a8 (hv k s A H _ I h) λu s1 ⟨y,H1,I1,R,q⟩=>a8 (ha k s1 A H1 _ I1 q) λov s2 ⟨x,H2,l,rx,a,C,Z,nw,ex,S,c,n,p⟩=>?_) hs;subst ex;obtain rfl:ov=Value.ref a:=rx;obtain⟨⟨ob,vs,O,F,P,N,V⟩,_,_⟩:=l.aO a _ S
 cases Z with
 |some d=>
  obtain⟨fs,nd,U,hl,p⟩:=p;obtain⟨⟨mA,W,i,T⟩,_,_⟩:=l.aO d _ U;refine UY l.da c O F N n.Bo P W T (by rw[abo,sizeLine_eq];omega) λv j sb=>?_
  obtain⟨E,G⟩:=Ee (f:=f) i T R;obtain⟨B,_,_,w,_⟩:=id j;exact⟨A,_,l.write (x:=d) (e:=d) (by rw[U];exact True.intro) (.inl rfl) (λb u L z=>(sb.2 b L).trans z) ⟨B,w⟩ (Io ⟨_,j,E,G⟩),p⟩
 |none=>
  refine QR l.da c O F N n.Bo P λv j m kp=>?_
  have hd:H2 s2.heap.objs.size=none:=l.aO.fresh (abr _);have M:s2.heap.objs.size≠a:=acH (abE O);obtain⟨B,es,ep,w,r'⟩:=id j;obtain⟨E,G⟩:=Ee (fs:=[]) (mA:=λ_=>none) (f:=f) (λ_=>True.intro) (λg hg=>absurd rfl hg) R;have J:=l.laid (a:=s2.heap.objs.size) (o:=XD s2.heap.objs.size [(f,y)]) (h':=s2.heap.push B) (t':=s2.toks) (λb u z=>abl _ z) (abr _) (Io ⟨_,⟨B,es,ep,Heap.get?_push_at rfl (Heap.get?_some_iff.mp w).2,r'⟩,E,G⟩);refine⟨A,_,J.write (h':=v) (x:=a) (e:=a) (o:=XO a C (some s2.heap.objs.size) nw) (by rw[ak M.symm,S];exact True.intro) (.inl rfl) (λb u L z=>?_) ⟨_,m⟩ (BV ⟨_,_,m,F,rfl,N,V⟩),p _ hd⟩;rcases Heap.get?_push_cases z with ⟨rfl,rfl⟩|z
  ·exact w
  ·exact kp b u L z
inductive U0 (K:Za1) (f:Str) (x:V) (H:Hp) (Q:VK):Prop
 |mk (a C d:Addr) (nw:Bool) (fs:List (Str×V)) (v:V):x=.ref a->H a=some (XO a C (some d) nw)->H d=some (XD d fs)->y3 K C->jN K C f->fs.lookup f=some v->Q v H->U0 K f x H Q
end
end L2
namespace L2
open PySem PySem.Spec PyProof.Rows
def fG (X:Cx)(a:List (Addr×Obj))(e:St)(d:Hp)(x C:Addr)(f:Option Addr)(s:Shared):Prop:=
 ∃(B:Heap) (c:Hp) (s1:Shared),Inv X a e c s1/\s.os=s1.os/\AllBare s.gens/\mR B X.stack x (.ref C) f .none s.heap/\Un (cH X.stack) [] c d s1.heap s.heap/\dg X.prog X.w d B/\
  (∀b o,s1.heap.get? b=some o->c b=none->b∉cH X.stack->B.get? b=some o)/\(∀b o,s1.heap.get? b=some o->b∉cH X.stack->∃g,B.get? b=some g)
section
variable {X:Cx}{pins:List (Addr×Obj)}{σ:St}{H':Hp}{x C:Addr}{dx:Option Addr}{s:Shared}
theorem fG.of {E:XK}(I:Inv X pins σ H t)(c:bF X.prog X.w X.stack H t E v s):∃x C dx H',v=.ref x/\fG X pins σ H' x C dx s/\E (.ref C) dx H':=by
 obtain⟨x,C,dx,B,H',rfl,os,bare,fl,un,a,b,d,q⟩:=c;exact⟨x,C,dx,H',rfl,⟨B,H,t,I,os,bare,fl,un,a,b,d⟩,q⟩
theorem fG.step {fl:Value}{s1:Shared}(I:Inv X pins σ H s1)(os:s.os=s1.os)(bare:AllBare s.gens)(un:Un (cH X.stack) [] H H' s1.heap s.heap)(aO:dg X.prog X.w H' g)
 (q:∀b o,s1.heap.get? b=some o->H b=none->b∉cH X.stack->g.get? b=some o) (n:∀b o,s1.heap.get? b=some o->b∉cH X.stack->∃i,g.get? b=some i) (a:mR g X.stack x (.ref C) dx .none h) (u:s.heap.UpToSlots h):fG X pins σ H' x C dx { s with heap:=h }:=by
 have p:∀b o,s1.heap.get? b=some o->b∈cH X.stack->∃sl,h.get? b=some { o with slots:=sl }:=λb o e c=>by
  obtain⟨t,f,r⟩:=I.Qz c;rw[e]at f;cases f;obtain⟨sl,l⟩:=un.slot b o e (I.rD b c) c (by simp);obtain⟨j,m⟩:=u b _ l r;exact⟨j,m⟩
 refine⟨g,H,s1,I,os,bare,a,⟨λb o d f k _=>a.1 b o (q b o d f k),λb o d _ k _=>p b o d k,un.free,λb o d _=>?_,un.jo,un.ia,un.j4⟩,aO,q,n⟩;by_cases c:b∈cH X.stack
 ·obtain⟨sl,m⟩:=p b o d c;exact⟨_,m⟩
 ·obtain⟨i,l⟩:=n b o d c;exact⟨i,a.1 b i l⟩
theorem fG.look (t:fG X pins σ H' x C dx s)(a:X.stack=X.env::X.outer)(f:X.env.frame=some X.env.locals)(hA:A.frames=some X.stack)
 (h:∀d,fG X pins σ H' x C dx { s with heap:=d }->U () { s with heap:=d }):
 wpAny (model X.prog X.w) A (noteFrame (.ref x) X.env) (λ_ j=>wpAny (model X.prog X.w) A (setFlight (.ref x) none) U E j) E s:=by
 obtain⟨B,p,o,I,os,bare,fl,un,aO,n,k⟩:=t;have b:=fl;rw[a]at b;refine QQ (base:=B) (hA.trans (by rw[a])) f b λl g e=>?_
 refine yZ (s:={ s with heap:=l }) g λm c i=>h m (fG.step (fl:=.none) I os bare un aO n k (by rw[a];exact c) (e.trans i))
theorem fG.again (t:fG X pins σ H' x C dx s)(h:∀b,fG X pins σ H' x C dx { s with heap:=b }->U () { s with heap:=b }):
 wpAny (model X.prog X.w) A (setFlight (.ref x) none) U E s:=by
 obtain⟨B,g,f,I,os,bare,fl,un,aO,d,e⟩:=t;exact yZ fl λc a u=>h c (fG.step (fl:=.none) I os bare un aO d e a u)
theorem fG.inv (t:fG X pins σ H' x C dx s):Inv X pins σ H' s:=by
 obtain⟨B,e,a,I,os,bare,fl,un,aO,c,d⟩:=t;exact I.Hx (ch:=[]) os un (aO.kept fl.1) bare (λb z=>absurd z (by simp))
theorem fG.at (t:fG X pins σ H' x C dx s):xc x C dx false s.heap:=by
 obtain⟨B,g,d,I,os,bare,fl,un,aO,e,f⟩:=t;obtain⟨_,_,_,a,c,_,_,_,b,hc,hd,_⟩:=fl;exact⟨a,c,b,hc.1,hc.2,hd,λz=>by cases z⟩
end
abbrev Ef:=Addr->Option Addr->St->Hp->Prop
abbrev Ir:=St->Hp->VK->Ef->Prop
abbrev Iu:=Ends->Ef->St->Hp->Prop
def RM (X:Cx)(a:List (Addr×Obj))(R:Ef)(e:Value)(s:Shared):Prop:=∃x C c b H,e=.ref x/\fG X a b H x C c s/\R C c b H
def RN (X:Cx)(e:Expr)(t:Ir):Prop:=
 ∀(a:List (Addr×Obj)) (s:Shared) (b:St) (H:Hp) (Q:VK) (R:Ef),Inv X a b H s->t b H Q R->wpAny (model X.prog X.w) X.A (eval e X.env) (EP X a b Q) (RM X a R) s
def RP (X:Cx)(st:Stmt)(t:Iu):Prop:=
 ∀(a:List (Addr×Obj)) (s:Shared) (b:St) (H:Hp) (D:Ends) (R:Ef),Inv X a b H s->t D R b H->wpAny (model X.prog X.w) X.A (exec st X.env) (SP X a D) (RM X a R) s
section
variable {X:Cx}{k:Nat}{f:Addr}{fd:FuncData}{ps:List Str}{sp:Sp}{x:Str}{p pos:Pos}{e:Expr}{es:List Expr}{t:TA}{ds:List Value}{dvs:List V}
def Ny (sp:Sp)(dvs:List V)(t:TA):Ir:=λ a H Q R=>t a H λh g=>sp (h++dvs) g Q λc d b=>∃C,c=.ref C/\R C d a b
theorem GA (F:bj X.prog X.w X.K X.mg X.base (bF X.prog X.w) k f fd ps sp)(M:df k X.A)(W:Gl X x)(A:X.mg x=some (.ref f))(Y:PySem.W.keepIn X.K (.ref f)=true)(N:Binds X.K fd ps ds)(S:Vals dvs ds)
 (E:PA X.CK (e::es) t) (g:(x==("__debug__":Str))=false:=by decide) (U:starEach (e::es) X.env=(false,eval e X.env)::starEach es X.env:=by rfl) (l:(backTo pos (starEach es X.env)).any (·.1)=false:=by rfl):
 RN X (.Call (.Name x p) (e::es) [] pos) (Ny sp dvs t):=by
 intro d s m H Q R I h;refine acI (jq I W A ?_ g);refine adU (h₀:=X.base) I.ok.mod.uc Y (acv (E pos d s m H _ (I.wish _) h) (λb j ⟨n,v,o,r,q⟩=>⟨o.da,?_⟩) λ_ _ z=>False.elim z) U l;have J:=o.i3;have y:Vals (n++dvs) (b++ds):=r.append S;have D:(b++ds).length=ps.length:=by rw[<-y.length];exact F.len _ _ _ _ q
 refine aeD (adW (F.run X.A X.stack j v ⟨b,[]⟩ (b++ds) (n++dvs) Q _ M J.Bu (N j b J.da D) y q) λr T a=>?_)
 cases r with
 |error e=>
  have a:bF X.prog X.w X.stack v j (λc i G=>∃C,c=Value.ref C/\R C i m G) e T:=a;obtain⟨x,C,i,B,rfl,L,Z,P,z⟩:=fG.of J a;cases P;exact⟨x,C,i,m,B,rfl,L,z⟩
 |ok O=>
  cases O with
  |ret u=>exact J.after a
  |next=>exact False.elim a
  |brk=>exact False.elim a
  |cont=>exact False.elim a
def QW (i:Nat)(c:Ir):Iu:=λD R a H=>c a H (λv b=>D.nx (a.set i (some v)) b) R
theorem KG {x:Str}{b:Ir}{pos':Pos}(r:X.N.Nodup)(l:X.N[i]?=some x)(q:Loc X.env.scope x)(w:RN X e b)(j:swapsWith e (some (.Name x pos')) pos.line X.env=pure false:=by rfl)(c:X.fn x=true\/X.env.scope.names.lookup x=some .local:=by first|exact .inl rfl|exact .inr rfl|assumption):
 RP X (.Assign [.Name x pos'] e pos) (QW i b):=by
 intro a s u H D R I h;refine wpAny_Assign_Name (a8 (w a s u H _ R I h) λv z ⟨y,o,m,n,d⟩=>?_) j;exact tq m r l q n (λA g=>⟨_,o,g,d⟩) c
end
abbrev xg:=Ends->Addr->Option Addr->St->Hp->Prop
def Iv (X:Cx)(d:List ExceptHandler)(t:xg):Prop:=
 ∀(a:List (Addr×Obj)) (s:Shared) (b:St) (H:Hp) (x C:Addr) (c:Option Addr) (D:Ends),fG X a b H x C c s->t D C c b H->wpAny (model X.prog X.w) X.A (handleBy (.ref x) X.env d) (SP X a D) X.xe s
section
variable {X:Cx}{pos:Pos}{rest:List ExceptHandler}
def QX:xg:=λ_ _ _ _ _=>False
theorem Nz:Iv X rest QX:=λ_ _ _ _ _ _ _ _ _ h=>h.elim
def QY (t:Iu)(d:xg):TS:=λD b H=>t D (λC c a e=>d D C c a e) b H
theorem KH {st:Stmt}{t:Iu}{b:ExceptHandler}{j:List ExceptHandler}{c:xg}(d:X.stack=X.env::X.outer)(l:X.env.frame=some X.env.locals)(r:RP X st t)(m:Iv X (b :: j) c):
 PS X (.Try [st] (b :: j) [] [] pos) (QY t c):=by
 intro a s w H D I h;refine wpAny_Try_except (wpAny_execs_cons (acv (r a s w H D _ I h) (λu o q=>?_) λe o q=>?_))
 ·cases u with
  |next=>exact adV (adV q)
  |ret v=>exact q
  |brk=>exact q
  |cont=>exact q
 ·obtain⟨x,C,k,f,p,rfl,c,q⟩:=q;exact c.look d l I.ok.frames λz g=>m a _ f p x C k D g q
end
def B1 (K:Za1)(C:Addr):Bool:=match PySem.W.findIn K (.ref C) "__init__" with
 |some (some (.ref f))=>vV K C f
 |_=>false
theorem AO (h:B1 K a=true)(e:PySem.W.findIn K (.ref a) "__init__"=some (some (.ref b))):vV K a b=true:=by
 unfold B1 at h;rw[e]at h;exact h
structure U1 (K:Za1) (x qual:Str) (st:Stmt) (f:Addr) (fd:FuncData) (dV:Value):Prop where
 ex:∃(oc:Value) (od:Option Addr) (kV doc pm:Value) (an:Option Addr) (cf ct:Value) (yk:Array (Option Value)),
  fd=PySem.W.fnOf x qual (c9 st) (cM st) (aH st) dV kV doc pm an cf ct/\K.lookup f=some ⟨oc,od,.func fd,yk⟩/\PySem.W.codeIn K cf qual=true
 kp:PySem.W.keepIn K (.ref f)=true
structure DDef (K:Za1) (mg:Str->Option Value) (x:Str) (st:Stmt) (ps:List Str) (f:Addr) (fd:FuncData) (d:Str):Prop where
 F:∃dV,U1 K x x st f fd dV
 kp:PySem.W.keepIn K (.ref f)=true
 m:mg x=some (.ref f)
 b:Binds K fd ps []
 bd:∃t,Binds K fd ps [.str d t]
section
variable {P:Program}{w:World}{K:Za1}{mg:Str->Option Value}{base:Heap}
theorem DDef.Ww {st:Stmt}{fd:FuncData}{e:List Str}{k:Nat}{sp:Sp}(D:DDef K mg x st e a fd f)(S:aX Z e (aH st))(len:∀c H Q E,sp c H Q E->c.length=e.length)
 (d:∀(b:Value) (A:Around) (outer:List Env) (s:Shared) (H:Hp) (c:List V) (Q:VK) (E:XK),df k (A.deeper (envOfC x (aH st) s.heap.objs.size a b))->sp c H Q E->
  ∃t,kH (dG (bF P w) P w K mg base Z x (aH st) a b A outer s H E) (cM st) t/\t { nx:=λ_ l=>Q .non l,rt:=Q } (start Z c) H):bj P w K mg base (bF P w) (k+ 1) a fd e sp:=by
 obtain⟨n,F⟩:=D.F;obtain⟨m,p,kV,doc,pm,o,b,ct,j,rfl,lk,h⟩:=F.ex;exact HG lk h S len λA outer s H c Q E i g=>d b A outer s H c Q E i g
theorem DDef.of {st:Stmt}{y d:Option Addr}{j p:Array (Option Value)}{kV doc pm ct z:Value}{dd:Option Addr}{t:Tok}(X:K.In h)(G:h.Ns mainGlobals mg)(g:PySem.W.nsIn K mainGlobals x=some (some (.ref a)))(l:K.lookup a=some ⟨v,y,.func (PySem.W.fnOf x x (c9 st) (cM st) (aH st) (.ref b) kV doc pm d u ct),j⟩)(c:PySem.W.codeIn K u x=true)(k:PySem.W.keepIn K (.ref a)=true)
 (lt:K.lookup b=some ⟨z,dd,.seq #[.str f t] n,p⟩)
 (e:∀(kV doc pm:Value) (d:Option Addr) (u ct:Value) (us:List Value),us.length=Z.length->∃i:Option (Array Value)->Sem (List (Str×Value)),bindArgs (PySem.W.fnOf x x (c9 st) (cM st) (aH st) (.ref b) kV doc pm d u ct) ⟨us,[]⟩=seqItems? (.ref b) >>=i/\i (some #[.str f t])=pure (Z.zip us))
 (A:∀(kV doc pm:Value) (d:Option Addr) (u ct:Value) (us:List Value),us.length+ 1=Z.length->∃i:Option (Array Value)->Sem (List (Str×Value)),bindArgs (PySem.W.fnOf x x (c9 st) (cM st) (aH st) (.ref b) kV doc pm d u ct) ⟨us,[]⟩=seqItems? (.ref b) >>=i/\i (some #[.str f t])=pure (Z.zip (us++[.str f t]))):
 DDef K mg x st Z a (PySem.W.fnOf x x (c9 st) (cM st) (aH st) (.ref b) kV doc pm d u ct) f:=by
 refine⟨⟨_,⟨v,y,kV,doc,pm,d,u,ct,j,rfl,l,c⟩,k⟩,k,PySem.W.mg_of X G g,λs us o m=>?_,t,λs us o m=>?_⟩
 ·rw[abO]at m ⊢;obtain⟨i,r,q⟩:=e kV doc pm d u ct us m;exact BindsTo.of_defaults (T:=b) rfl (o _ _ lt) rfl r q
 ·obtain⟨i,r,q⟩:=A kV doc pm d u ct us (by simpa using m);exact BindsTo.of_defaults (T:=b) rfl (o _ _ lt) rfl r q
end
end L2
namespace L2
theorem B6 {c:Nat}{g:List Int}(b:S.Wf):(S.make c z g).stand=S.stand+ 1:=by
 unfold RS.stand;show (List.range (S.made+ 1)).countP _=_;rw[acY,List.countP_append,List.countP_singleton]
 have d:(S.make c z g).av S.made=S.made:=by
  show (S.grown c z g).av S.made=S.made;rw[eI b,abN rfl]
 rw[show decide ((S.make c z g).av S.made=S.made)=true from abX d,abN rfl]
 congr 1
 refine List.countP_congr λa e=>?_
 have:(S.make c z g).av a=S.av a:=by
  show (S.grown c z g).av a=S.av a;rw[eI b,abH (by have:=aca.mp e;omega)]
 rw[this]
theorem GB (hw:S.Wf)(d:n<S.made):(S.make n z l).by m y=if m=S.made/\y= -z then some n else if m=n/\y=z then some S.made else S.by m y:=by
 unfold RS.make RS.keep;have b:(S.grown n z l).ways.length=S.made+ 1:=by show (S.ways++[[]]).length=_;rw[abj,hw.w];rfl
 have c:∀a s,(S.grown n z l).by a s=S.by a s:=λa s=>by unfold RS.by;rw[lZ hw]
 show (((S.grown n z l).bZ n z S.made).bZ S.made (-z) n).by m y=_;rw[iO (by show ((S.grown n z l).ways.set n _).length > _;rw[abP,b];omega),iO (by rw[b];omega),c]
theorem qt (h:eK S)(g:S.Wf)(c:Nat)(z:Int)(f:List Int):eK (S.make c z f):=by
 have e:∀b,(S.make c z f).av b=if b=S.made then S.made else S.av b:=λb=>eI g c z f b
 refine⟨λb a d=>?_,λb a=>?_,λb a=>?_⟩
 ·have a:b<S.made+ 1:=a;rw[e]at d;by_cases q:b=S.made
  ·grind
  ·rw[abH q]at d;exact h.a b (by omega) d
 ·have a:b∈S.aY:=a;have:=h.c b a;rw[e,abH (by omega)];exact h.b b a
 ·have a:b∈S.aY:=a;have:=h.c b a;show b<S.made+ 1;omega
def AQ (d:Dt):Prop:=(∃n,d=.i n)\/∃l,d=.s l
theorem AQ.low {k:Nat}{d:Dt}(h:AQ d)(b:bS H k q d):bS H n q d:=by
 rcases h with ⟨a,rfl⟩|⟨l,rfl⟩
 ·cases b;exact .i
 ·cases b;exact .s
theorem KJ {k:Nat}{b:List Dt}(h:∀x∈b,AQ x)(a:bS H (k+ 1) q (.t b)):bS H (n+ 1) q (.t b):=by
 cases a with
 |t g i e=>exact .t g i λj q d f c=>(h d (abn c)).low (e j q d f c)
def Dp (d:Dt):Prop:=∃a,d=.t a/\∀x∈a,AQ x\/∃as,x=.t as/\∀y∈as,AQ y
theorem Dp.low {d:Dt}(h:Dp d)(b:bS H 4 q d):bS H 2 q d:=by
 obtain⟨k,rfl,h⟩:=h
 cases b with
 |t g i e=>
  refine .t g i λj q d f c=>?_
  have b:=e j q d f c;rcases h d (abn c) with a|⟨as,rfl,a⟩
  ·exact a.low b
  ·exact KJ a b
theorem AU {a:List Dt}(h:∀x∈a,AQ x):Dp (.t a):=⟨a,rfl,λx b=>.inl (h x b)⟩
theorem NB (c:Nat)(z:Int)(n:Nat):Dp (qd c z n):=AU λx a=>by
 simp only[abD,acd,adO]at a;rcases a with rfl|rfl|rfl|rfl
 ·exact .inr ⟨_,rfl⟩
 all_goals exact .inl ⟨_,rfl⟩
theorem NC {e:Za3}{b:List Nat}{W:Za2}{row:Dt}(h:One e n B W row b R):Dp row:=by
 cases h with
 |meet=>
  refine AU λx a=>?_
  simp only[abD,acd,adO]at a;rcases a with rfl|rfl|rfl|rfl|rfl
  ·exact .inr ⟨_,rfl⟩
  all_goals exact .inl ⟨_,rfl⟩
 |rule=>
  refine⟨_,rfl,λx a=>?_⟩;simp only[abD,acd,adO]at a;rcases a with rfl|rfl|rfl|rfl
  ·exact .inl (.inr ⟨_,rfl⟩)
  ·exact .inl (.inl ⟨_,rfl⟩)
  ·refine .inr ⟨_,rfl,λy d=>?_⟩;obtain⟨c,_,rfl⟩:=ach.mp d;exact .inl ⟨_,rfl⟩
  ·exact .inl (.inl ⟨_,rfl⟩)
theorem QZ {d:Za3}{c:List Nat}{W:Za2}{b:List Dt}(h:Go d n B W b c R):∀x∈b,Dp x:=by
 induction h with
 |nil=>grind
 |cons o _ e=>
  intro x a;rcases abD.mp a with rfl|a
  ·exact NC o
  ·exact e x a
section
variable {S S':RS}{R:Za2}{ks:List Int}{pend:List Way}
theorem jw.gap (l:jw S pend S'):Good S pend R->(∀c z d,R c z d->z∈ks)->dR S R ks->dR S' R ks:=by
 induction l with
 |nil S=>exact λ_ _ h=>h
 |take _ b=>
  intro g a h;exact b (g.take a).1 a (h.take g)
theorem jw.wr (l:jw S pend S'):Good S pend R->(∀c z d,R c z d->z∈ks)->S.aY.length<=S.rows.length->S'.aY.length<=S'.rows.length:=by
 induction l with
 |nil S=>exact λ_ _ h=>h
 |take _ i=>
  intro g e h;obtain⟨f,_,_,_,q⟩:=g.take e;refine i f e ?_;rcases q with ⟨_,b,a⟩|⟨_,_,_,_,_,_,_,_,_,_,b,a,_⟩
  ·rw[b,a];exact h
  ·rw[b,a,abj,abj,acr,acr];omega
structure YS (S:RS) (L:Nat) (ks:List Int) (R:Za2):Prop where
 g:Good S [] R
 w:eK S
 k:∀a z b,R a z b->z∈ks
 gi:dR S R ks
 l:S.L=L
 m:0<S.made
 d:∀x∈S.rows,Dp x
 wr:S.aY.length<=S.rows.length
theorem YS.new {L:Nat}{ks:List Int}:YS (RS.new L ks) L ks (λ_ _ _=>False):=by
 refine⟨tL L _,⟨λc hc e=>?_,(λc hc=>by cases hc),(λc hc=>by cases hc)⟩,(λ_ _ _ z=>z.elim),Kl L _,rfl,Nat.one_pos,(λx a=>by cases a),abr _⟩;have:c=0:=by have:c<1:=hc;omega
 subst this;exact absurd rfl e
theorem YS.make (h:YS S n ks R)(hc:m<S.made)(g:S.av m=m)(f:S.by m z=none)(hz:z∈ks)(c: -z∈ks):YS (S.make m z ks) n ks (eD R m z S.made):=by
 refine⟨h.g.make hc g f _,qt h.w h.g.wf _ _ _,λa y b r=>?_,h.gi.make h.g hc g f,h.l,Nat.succ_pos _,λx d=>?_,?_⟩
 ·rcases r with r|⟨_,e,_⟩|⟨_,e,_⟩
  ·exact h.k _ _ _ r
  ·rw[e];exact hz
  ·rw[e];exact c
 ·have d:x∈S.rows++[qd m z S.made]:=d;rcases abx.mp d with p|p
  ·exact h.d x p
  ·rw[abp.mp p];exact NB _ _ _
 ·show S.aY.length<=(S.rows++[_]).length;rw[abj];have:=h.wr;omega
theorem YS.tr {ws:Za3}(t:Tr ws m S S')(o:∀w∈ws,∀z∈w,z∈ks/\-z∈ks)(h:YS S n ks R):∃p,YS S' n ks p/\S'.made=S.made/\(∀a z b,R a z b->p a z b)/\∃B,S'.rows=S.rows++B/\∃E W v A,Go ws m E W B v A:=by
 induction t with
 |refl=>exact⟨R,h,rfl,λ_ _ _ r=>r,[],(abO _).symm,_,_,_,_,.nil (E:=S.aU) (W:=λ_ _ _=>False) λ_ _ _=>Iff.rfl⟩
 |step Q ra j O=>
  rename_i k Y which word start f c d z;obtain⟨C,g,N,I,G,Z,E,W,v,A,g1⟩:=O;have hz:=o word (abn ra.w) z (abn ra.hz)
  have i:∀a y b,eD C c z d a y b->y∈ks:=by
   rintro a y b (r|⟨_,e,_⟩|⟨_,e,_⟩)
   ·exact g.k _ _ _ r
   ·rw[e];exact hz.1
   ·rw[e];exact hz.2
  have gl:=g.g.lay z ra.hc.1 ra.hd.1 (oO k which word start f d).rows;obtain⟨M,L,F,l2,_⟩:=j.all gl i ⟨g.w.a,g.w.b,g.w.c⟩;have gp:=j.gap gl i ((g.gi.more λa y b r=>.inl r).rows _);obtain⟨p,X,w',T,J,H,u⟩:=Ih (Tr.step (Tr.refl k) ra j) (R:=C) o g.g g.w g.k;obtain⟨R0,V,U,k0,s,P,l⟩:=Ih (Tr.step Q ra j) (R:=R) o h.g h.w h.k;refine⟨_,⟨M,L,i,gp,l2.trans g.l,by rw[F];exact g.m,λx D=>?_,j.wr gl i (by show k.aY.length<=(k.rows++[_]).length;rw[abj];have:=g.wr;omega)⟩,F.trans N,λa y b r=>.inl (I _ _ _ r),s,P,_,_,_,_,l⟩;rw[H]at D;rcases abx.mp D with q|q
  ·exact g.d x q
  ·exact QZ u x q
end
theorem CI.make {bs:List (Nat×List Int×Nat)}{gs:List (Option Gg)}{W:bG}(h:CI S bs gs [] W eT none)(d:Good S [] R)(hc:n<S.made)(A:S.av n=n)(C:S.by n z=none)(j:∀b∈bs,b.2.2<S.made)(g:List Int):CI (S.make n z g) bs gs [] W (λr s=>r=n/\s=z) none:=by
 have k:=d.make hc A C g;have f:S.made<=(S.make n z g).made:=ado _;have lt:=Later.of d k iw f;have el:∀b,b<S.made->(S.make n z g).av b=S.av b:=λb c=>(eI d.wf n z g b).trans (abH (by omega))
 refine⟨h.len,λa u q=>?_,λa b t p o=>?_,(λa i=>by cases i),λr s a q=>?_,h.sl,h.bd⟩
 ·obtain⟨H,F,G⟩:=h.al a u q;exact⟨H,F.later lt f,G⟩
 ·have c:=j b (abn o);rw[el _ c];rcases h.de a b t p o with w|w
  ·exact .inl w
  ·by_cases e:S.av b.2.2=b.2.2
   ·right
    have:=lt.wk w;rw[el _ c,e]at this;exact this
   ·exact .inl e
 ·obtain⟨l,I,E,v,m,i,x,w⟩:=h.en r s a q;refine⟨l,I,E,v,abW m f,i,x,?_⟩;rcases w with ⟨D,B⟩|w
  ·by_cases e:l=n/\s=z
   ·exact .inr e
   ·left
    rw[el _ m,GB d.wf hc,abH (λy=>by omega),abH e];exact⟨D,B⟩
  ·exact w.elim
def pw (s:Int)(n:Nat):List Int:=List.replicate n s
structure Pth (S:RS) (P:Nat->Int) (lo:Int):Prop where
 el:∀c,c<S.made->S.av c=c
 rg:∀c,c<S.made->lo<=P c/\P c<lo+ S.made
 on:∀t:Int,lo<=t->t<lo+ S.made->∃c,c<S.made/\P c=t
 inj:∀a b,a<S.made->b<S.made->P a=P b->a=b
 by_:∀a z b,S.by a z=some b->(z=1\/z= -1)/\P b=P a+ z
 ch:∀a b,a<S.made->b<S.made->P b=P a+ 1->S.by a 1=some b
section
variable {S:RS}
structure Rng (S:RS) (G:Int->Nat) (M:Nat):Prop where
 st:∀t,S.by (G t) 1=some (G (t+ 1))
 pm:∀t,G (t+ M)=G t
end
def Per (G:Int->Nat)(k:Int):Prop:=∀t,G (t+ k)=G t
def UR (d:Nat)(p:Nat)(z:Int)(q:Nat):Prop:=p<d/\q<d/\(d:Int)∣(p:Int)+ z - q
end L2
namespace L2
open PySem PySem.Spec PyProof.Rows
theorem qu:∀{b:List Int} {a:List Value},IntsAre a b->Vals (ao b) a
 |[],_,h=>by cases h;exact .nil
 |_::_,_,h=>by cases h;exact .cons ⟨_,rfl⟩ (qu ‹_›)
inductive Eg (K:Za1) (xs:List V) (H:Hp) (Q:VK):Prop
 |mk (l:Addr) (ns:List Int):xs=[.ref l]->aD K H l (ao ns)->ns.length<64->(∀D ms,H D=none->ms.Perm ns->ms.Pairwise (·<= ·)->Q (.ref D) (upd H D (.lst (ao ms))))->Eg K xs H Q
theorem y6:fX X (.builtin "sorted") (Eg X.K):=by
 intro f s y H v w Q I r h;obtain⟨l,ns,rfl,j,d,q⟩:=h;obtain⟨u,rfl,m⟩:=vals1 r;cases m;obtain⟨a,v1,g,_⟩:=I.list j;have k:IntsAre a ns:=intsAre_of v1;have hlen:a.length=ns.length:=by have:=v1.length;rw[aI]at this;exact this.symm
 refine sorted_ints g.isList k (by omega) λout c t a2 i=>?_
 obtain⟨n,p⟩:=sortedAll_at s.heap a out;refine⟨.ref (s.heap.objs.size+ 1),_,I.laid (t':=s.toks) (o:=.lst (ao c)) (λb o e=>sortedAll_old e) (ado _) (show bU X.prog X.w _ _ _ (.lst (ao c)) from ⟨?_,out.toList,n,qu t,by simpa using p⟩),rfl,q _ c (I.aO.fresh (ado _)) a2 i⟩;rw[aI,a2.length_eq];exact abB (aeK d) (by decide)
section
variable {X:Cx}{y:Str}{Y:Addr}{np pos:Pos}{BE:Stmt}{suite:List Stmt}{rest:List ExceptHandler}{tb:TS}{tr:xg}
def Q0 (K:Za1)(Y:Addr)(tb:TS)(tr:xg):xg:=λD C c a H=>∃b,PySem.W.exmOne K (.ref C) (.ref Y)=some b/\if b=true then tb D a H else tr D C c a H
theorem ND (B:Gl X y)(m:X.mg y=some (.ref Y))(t:∀x,kH (X.yy x) (BE :: suite) tb)(p:Iv X rest tr)(j:(y==("__debug__":Str))=false:=by decide):
 Iv X (.ExceptHandler (some (.Name y np)) none (BE :: suite) pos::rest) (Q0 X.K Y tb tr):=by
 intro a s A H x C o D f h;obtain⟨b,g,h⟩:=h;have I:=f.inv;refine wpAny_handleBy_cons (codeAny_handlers_test ?_) (by intro q;cases q);refine jq (X:=X.yy x) (I.yy x) B m ?_ j;refine PySem.W.exm_one I.da f.at.ex.QB g _ _ _ _ (λ_ _ e=>e) ?_
 cases b with
 |false=>exact p a s A H x C o D f h
 |true=>
  refine codeAny_handlers_suite (f.again λE l=>?_);have J:=l.inv;refine acv (t x a _ _ _ D (J.yy x) h) (λw F q=>?_) λ_ _ z=>False.elim z
  cases w with
  |next=>obtain⟨c,k,d,q⟩:=q;exact⟨_,_,d.xW I.ok,q⟩
  |brk=>obtain⟨c,k,d,q⟩:=q;exact⟨_,_,d.xW I.ok,q⟩
  |cont=>obtain⟨c,k,d,q⟩:=q;exact⟨_,_,d.xW I.ok,q⟩
  |ret u=>obtain⟨v,c,k,d,r,q⟩:=q;exact⟨v,_,_,d.xW I.ok,r,q⟩
end
end L2
namespace M11
def flip (k:Nat):Nat:=if k % 2=0 then k+ 1 else k - 1
def nx (T:Za3)(k i:Nat):Nat:=((T.getD i []).getD k 0).toNat
structure Tab (L:Nat) (T:Za3):Prop where
 pos:1<=T.length
 top:T.length<=300
 let1:1<=L
 NF:L<=40
 row:∀(i:Nat) (r:List Int),T[i]?=some r->r.length=2* L
 val:∀i k,i<T.length->k<2* L->∃r:List Int,T[i]?=some r/\r[k]?=some ((nx T k i:Nat):Int)
 lt:∀i k,i<T.length->k<2* L->nx T k i<T.length
 back:∀i k,i<T.length->k<2* L->nx T (flip k) (nx T k i)=i
def pl (s:Int):Nat:=if 0<s then 2* s.natAbs - 2 else 2* s.natAbs - 1
def walk (T:Za3)(w:List Int)(i:Nat):Nat:=w.foldl (λi s=>nx T (pl s) i) i
def bP (L:Nat)(w:List Int):Prop:=∀s∈w,s≠0/\s.natAbs<=L
def back (w:List Int):List Int:=w.reverse.map λz=>-z
theorem rX (h:z≠0/\z.natAbs<=n):pl z<2* n:=by
 unfold pl;split <;> omega
theorem KL (h:z≠0):pl (-z)=flip (pl z):=by
 unfold pl flip;rw[Int.natAbs_neg];by_cases a:0<z
 ·rw[abN a,abH (show ¬ 0 < -z by omega),abN (by omega)];omega
 ·rw[abH a,abN (show 0 < -z by omega),abH (by omega)];omega
theorem jx {L:Nat}{T:Za3}(b:Tab L T):∀{w:List Int} {i:Nat},bP L w->i<T.length->walk T w i<T.length
 |[],i,_,a=>a
 |s::w,i,c,a=>jx b (w:=w) (λs d=>c s (abR _ d)) (b.lt i (pl s) a (rX (c s (abA ..))))
theorem jy (T:Za3)(w u:List Int)(i:Nat):walk T (w++u) i=walk T u (walk T w i):=aeE ..
theorem xh {L:Nat}{T:Za3}(b:Tab L T):∀{w:List Int} {i:Nat},bP L w->i<T.length->walk T (w++back w) i=i
 |[],i,_,_=>rfl
 |s::w,i,f,d=>by
  have a:=f s (abA ..);have c:bP L w:=λs a=>f s (abR _ a)
  have e:back (s::w)=back w++[-s]:=by unfold back;rw[List.reverse_cons,abU];rfl
  have g:=xh b (i:=nx T (pl s) i) c (b.lt i (pl s) d (rX a));rw[e,ac1,<-aci];show walk T ((w++back w)++[-s]) (nx T (pl s) i)=i;rw[jy,g];show nx T (pl (-s)) (nx T (pl s) i)=i;rw[KL a.1];exact b.back i (pl s) d (rX a)
theorem B7 (h:bP n l):bP n (back l):=λs a=>by
 unfold back at a;obtain⟨y,b,rfl⟩:=ach.mp a;have:=h y (List.mem_reverse.mp b);omega
structure Pm (p:Nat) (r:List Int):Prop where
 len:r.length=p
 nd:r.Nodup
 rg:∀z∈r,0<=z/\z<(p:Int)
theorem KN {k:Nat}(h:k<2* n):flip k<2* n:=by unfold flip;split <;> omega
def aal (L:Nat)(f:Nat->Int->Int)(come:List Int)(x:Int)(r:List Int)(m:Nat):Prop:=r.length=m/\∀k,k<m->∃j:Nat,r[k]?=some (j:Int)/\come[j]?=some (f k x)
theorem jP:∀(n:Nat) (l:List Nat),l.Nodup->(∀x∈l,x<n)->l.length<=n
 |0,[],_,_=>abr _
 |0,a::l,_,h=>absurd (h a (abA ..)) (by omega)
 |n+ 1,l,c,h=>by
  by_cases d:n∈l
  ·have:=jP n (l.erase n) (c.erase n) (λx b=>by
    have e:=(c.mem_erase_iff).mp b;have g:=h x e.2;have f:=e.1;omega)
   rw[adM d]at this;omega
  ·have:=jP n l c (λx b=>by
    have g:=h x b;have f:x≠n:=λz=>d (by rw[<-z];exact b)
    omega)
   omega
def aam (p:Nat)(r t:List Int):Prop:=t.length=p/\∀k j:Nat,r[k]?=some (j:Int)->t[j]?=some (k:Int)
def aan (p:Nat)(r t:List Int)(n:Nat):Prop:=t.length=p/\∀k j:Nat,k<n->r[k]?=some (j:Int)->t[j]?=some (k:Int)
end M11
namespace M12
open M11
def Fc (W:Nat)(E:List Int)(N:Nat):Prop:=(∀z∈E,0<=z/\z<(N:Int))/\∀j:Nat,0<j->j<N->∃p:Nat,p<j* W/\E[p]?=some (j:Int)/\∀(q:Nat) (z:Int),q<p->E[q]?=some z->z<(j:Int)
theorem Fc.old {W:Nat}(h:Fc W l n)(k:i<n):Fc W (l++[(i:Int)]) n:=by
 refine⟨λz hz=>?_,λj g e=>?_⟩
 ·rcases abx.mp hz with hz|hz
  ·exact h.1 z hz
  ·rw[abp.mp hz];omega
 ·obtain⟨p,f,a,d⟩:=h.2 j g e;have c:=(abk.mp a).1;refine⟨p,f,by rw[abu c];exact a,λq z b hz=>d q z b ?_⟩;rw[abu (by omega)]at hz;exact hz
theorem Fc.new {W:Nat}{E:List Int}(h:Fc W E n)(hN:0<n)(hE:E.length<n* W):Fc W (E++[(n:Int)]) (n+ 1):=by
 refine⟨λz hz=>?_,λj f i=>?_⟩
 ·rcases abx.mp hz with hz|hz
  ·have:=h.1 z hz;omega
  ·rw[abp.mp hz];omega
 ·by_cases e:j=n
  ·subst e;refine⟨E.length,hE,by rw[abw (abr _),acC];rfl,λq z a hz=>?_⟩;rw[abu a]at hz;exact(h.1 z (abn hz)).2
  ·obtain⟨p,g,b,d⟩:=h.2 j f (by omega);have c:=(abk.mp b).1;refine⟨p,g,by rw[abu c];exact b,λq z a hz=>d q z a ?_⟩;rw[abu (by omega)]at hz;exact hz
theorem Fc.zero (W:Nat):Fc W [] 1:=⟨(λz hz=>by cases hz),(λj b a=>by omega)⟩
theorem vW {W:Nat}(d:0<W):∀{T:Za3} {i k:Nat} {r:List Int},(∀(i:Nat) (r:List Int),T[i]?=some r->r.length=W)->T[i]?=some r->k<W->T.flatten[i* W+ k]?=r[k]?
 |[],i,k,r,_,a,_=>by simp at a
 |s::T,0,k,r,h,a,b=>by
  have e:s=r:=Za0 a;subst e;rw[List.flatten_cons,Nat.zero_mul,ad7,abu (by rw[h 0 s rfl];exact b)]
 |s::T,i+ 1,k,r,h,a,b=>by
  have c:=h 0 s rfl;rw[List.flatten_cons,abw (by rw[c,Nat.succ_mul];omega),c];have e:(i+ 1)* W+ k - W=i* W+ k:=by rw[Nat.succ_mul];omega
  rw[e];exact vW d (λi r a=>h (i+ 1) r a) a b
def st (k:Nat):Int:=if k % 2=0 then ((k / 2+ 1:Nat):Int) else -((k / 2+ 1:Nat):Int)
theorem uH (k:Nat):pl (st k)=k:=by
 unfold pl st;by_cases h:k % 2=0
 ·rw[abN h,abN (by omega)];omega
 ·rw[abH h,abH (by omega)];omega
theorem B9 {k:Nat}(h:k<2* n):st k≠0/\(st k).natAbs<=n:=by
 unfold st;split <;> omega
def NK:List Nat->List Nat->Prop
 |a::u,b::v=>a<b\/(a=b/\NK u v)
 |_,_=>False
def Wx (u v:List Nat):Prop:=u.length<v.length\/(u.length=v.length/\NK u v)
def Lw (L:Nat)(T:Za3)(ws:List (List Nat)):Prop:=ws.length=T.length/\ws[0]?=some []/\
 ∀(j p:Nat),0<j->j<T.length->T.flatten[p]?=some (j:Int)->(∀(q:Nat) (z:Int),q<p->T.flatten[q]?=some z->z<(j:Int))->∃u,ws[p / (2* L)]?=some u/\ws[j]?=some (u++[p % (2* L)])
end M12
namespace M13
open M11 M12
structure Part (L:Nat) (T:Za3) (ws:List (List Nat)) (p:Nat):Prop where
 pos:ws[0]?=some []
 top:ws.length<=T.length
 all:∀(q:Nat) (z:Int),q<p->T.flatten[q]?=some z->z<(ws.length:Int)
 NM:∀(j q:Nat),0<j->j<ws.length->T.flatten[q]?=some (j:Int)->(∀(r:Nat) (z:Int),r<q->T.flatten[r]?=some z->z<(j:Int))->∃u,ws[q / (2* L)]?=some u/\ws[j]?=some (u++[q % (2* L)])
 ok:∀(i:Nat) (u:List Nat),ws[i]?=some u->(∀k∈u,k<2* L)/\walk T (u.map st) 0=i/\u.length<=i
section
variable {L:Nat} {T:Za3} {ws:List (List Nat)} {p:Nat} (hT:Tab L T) (hF:Fc (2* L) T.flatten T.length)
include hT hF
theorem Part.start:Part L T [[]] 0:=by
 refine⟨rfl,hT.pos,λq z f=>by omega,λj q g d=>by simp at d;omega,λi u a=>?_⟩;have e:=abp.mp (abn a)
 have b:i=0:=by
  have:=(abk.mp a).1;simp only[abL,ack]at this;omega
 subst e b;exact⟨λk c=>(by cases c),rfl,abr _⟩
theorem Part.has (h:Part L T ws p){i k:Nat}(b:i<T.length)(c:p=i* (2* L)+ k):i<ws.length:=by
 have f:1<=ws.length:=(abk.mp h.pos).1;refine adE λd=>?_
 obtain⟨q,g,a,e⟩:=hF.2 ws.length (by omega) (by omega);have:ws.length* (2* L)<=i* (2* L):=acG _ (by omega);have:=h.all q _ (by omega) a;omega
theorem Part.step {k:Nat}(h:Part L T ws (i* (2* L)+ k))(w:i<T.length)(e:k<2* L):
 (nx T k i≠ws.length->Part L T ws (i* (2* L)+ k+ 1))/\(nx T k i=ws.length->∀u,ws[i]?=some u->Part L T (ws++[u++[k]]) (i* (2* L)+ k+ 1)):=by
 have V:=hT.let1;have Y:1<=ws.length:=(abk.mp h.pos).1;obtain⟨r,Q,M⟩:=hT.val i k w e
 have a:T.flatten[i* (2* L)+ k]?=some ((nx T k i:Nat):Int):=by
  rw[vW (by omega) hT.row Q e];exact M
 have H:=hT.lt i k w e;have A:=h.has hT hF w rfl
 have hdiv:(i* (2* L)+ k) / (2* L)=i:=by
  rw[aeL,Nat.mul_add_div (by omega),Nat.div_eq_of_lt e];omega
 have l:(i* (2* L)+ k) % (2* L)=k:=by
  rw[aeL,Nat.mul_add_mod,Nat.mod_eq_of_lt e]
 refine⟨λR=>?_,λS u C=>?_⟩
 ·have N:nx T k i<ws.length:=by
   refine adE λW=>?_
   obtain⟨q,X,t,J⟩:=hF.2 ws.length (by omega) (by omega);by_cases x:q<i* (2* L)+ k
   ·have:=h.all q _ x t;omega
   ·by_cases n:q=i* (2* L)+ k
    ·rw[n,a]at t;have:=Za0 t;omega
    ·have:=J _ _ (by omega) a;omega
  refine⟨h.pos,h.top,λq z m hz=>?_,h.NM,h.ok⟩;by_cases c:q=i* (2* L)+ k
  ·rw[c,a]at hz;have:=Za0 hz;omega
  ·exact h.all q z (by omega) hz
 ·have d:=h.ok i u C;refine⟨by rw[abu (by omega)];exact h.pos,by rw[abj];simp only[abL,ack];omega,λq z m hz=>?_,λj q U E m D=>?_,λo v f=>?_⟩
  ·rw[abj];simp only[abL,ack];by_cases c:q=i* (2* L)+ k
   ·rw[c,a]at hz;have:=Za0 hz;omega
   ·have:=h.all q z (by omega) hz;omega
  ·rw[abj]at E;simp only[abL,ack]at E;by_cases c:j=ws.length
   ·have g:q=i* (2* L)+ k:=by
     by_cases x:q<i* (2* L)+ k
     ·have:=h.all q _ x m;omega
     ·by_cases n:q=i* (2* L)+ k
      ·exact n
      ·have:=D _ _ (by omega) a;omega
    refine⟨u,?_,?_⟩
    ·rw[g,hdiv,abu A];exact C
    ·rw[c,g,l,abw (abr _),acC];rfl
   ·obtain⟨v,G,F⟩:=h.NM j q U (by omega) m D;have y:=(abk.mp G).1;have s:=(abk.mp F).1;exact⟨v,by rw[abu y];exact G,by rw[abu s];exact F⟩
  ·by_cases c:o<ws.length
   ·rw[abu c]at f;exact h.ok o v f
   ·have B:=(abk.mp f).1;rw[abj]at B;simp only[abL,ack]at B;have O:o=ws.length:=by omega
    subst O;rw[abw (abr _),acC]at f;have P:u++[k]=v:=Za0 f;subst P;refine⟨λI b=>?_,?_,?_⟩
    ·rcases abx.mp b with b|b
     ·exact d.1 I b
     ·rw[abp.mp b];exact e
    ·rw[abU,jy,d.2.1];show nx T (pl (st k)) i=ws.length;rw[uH];exact S
    ·rw[abj];simp only[abL,ack];have:=d.2.2;omega
theorem Part.le {k:Nat}(h:Part L T ws (i* (2* L)+ k))(d:i<T.length)(c:k<2* L):nx T k i<=ws.length:=by
 have n:=hT.let1;obtain⟨r,j,e⟩:=hT.val i k d c
 have a:T.flatten[i* (2* L)+ k]?=some ((nx T k i:Nat):Int):=by
  rw[vW (by omega) hT.row j c];exact e
 have f:=hT.lt i k d c;have s:1<=ws.length:=(abk.mp h.pos).1;refine adE λo=>?_
 obtain⟨q,t,b,m⟩:=hF.2 ws.length (by omega) (by omega);by_cases l:q<i* (2* L)+ k
 ·have:=h.all q _ l b;omega
 ·by_cases g:q=i* (2* L)+ k
  ·rw[g,a]at b;have:=Za0 b;omega
  ·have:=m _ _ (by omega) a;omega
theorem Part.end_ (h:Part L T ws (T.length* (2* L))):Lw L T ws:=by
 have e:1<=ws.length:=(abk.mp h.pos).1
 have b:ws.length=T.length:=by
  refine adE λi=>?_
  have c:=h.top;obtain⟨q,l,d,k⟩:=hF.2 ws.length (by omega) (by omega);have:ws.length* (2* L)<=T.length* (2* L):=acG _ c;have:=h.all q _ (by omega) d;omega
 exact⟨b,h.pos,λj q g e f a=>h.NM j q g (by omega) f a⟩
end
end M13
namespace M24
def add (come:List Nat)(y:Nat):List Nat:=if y∈come then come else come++[y]
def dq (f:Nat->Nat->Nat)(x:Nat)(come:List Nat)(k:Nat):List Nat:=(List.range k).foldl (λc i=>add c (f i x)) come
theorem iR (f:Nat->Nat->Nat)(x:Nat)(come:List Nat)(k:Nat):dq f x come (k+ 1)=add (dq f x come k) (f k x):=by
 unfold dq;rw[acY,aeE];rfl
def a9 (f:Nat->Nat->Nat)(k a:Nat):Nat->List Nat
 |0=>[a]
 |n+ 1=>match (a9 f k a n)[n]? with
  |some x=>dq f x (a9 f k a n) k
  |none=>a9 f k a n
theorem tR (f:Nat->Nat->Nat)(k a:Nat):a9 f k a 0=[a]:=rfl
theorem eU {f:Nat->Nat->Nat}{k x:Nat}(h:(a9 f k n m)[m]?=some x):a9 f k n (m+ 1)=dq f x (a9 f k n m) k:=by
 rw[a9,h]
theorem kZ {f:Nat->Nat->Nat}{k:Nat}(h:(a9 f k n m)[m]?=none):a9 f k n (m+ 1)=a9 f k n m:=by
 rw[a9,h]
theorem AV (come:List Nat)(y:Nat):∃t,add come y=come++t:=by
 unfold add;split
 ·exact⟨[],(abO _).symm⟩
 ·exact⟨[y],rfl⟩
theorem oR (f:Nat->Nat->Nat)(x:Nat)(come:List Nat):∀k,∃t,dq f x come k=come++t
 |0=>⟨[],(abO _).symm⟩
 |k+ 1=>by
  obtain⟨t,a⟩:=oR f x come k;obtain⟨u,b⟩:=AV (dq f x come k) (f k x);exact⟨t++u,by rw[iR,b,a,aci]⟩
theorem tS (f:Nat->Nat->Nat)(k a n:Nat):∃t,a9 f k a (n+ 1)=a9 f k a n++t:=by
 cases h:(a9 f k a n)[n]? with
 |none=>exact⟨[],by rw[kZ h,abO]⟩
 |some x=>obtain⟨t,b⟩:=oR f x (a9 f k a n) k;exact⟨t,by rw[eU h,b]⟩
theorem AW (f:Nat->Nat->Nat)(k a n:Nat):∀m,∃t,a9 f k a (n+ m)=a9 f k a n++t
 |0=>⟨[],(abO _).symm⟩
 |m+ 1=>by
  obtain⟨t,b⟩:=AW f k a n m;obtain⟨u,c⟩:=tS f k a (n+ m);exact⟨t++u,by rw[<-Nat.add_assoc,c,b,aci]⟩
theorem KP {come:List Nat}:m∈add come n↔m∈come\/m=n:=by
 unfold add;split
 ·rename_i h;exact⟨.inl,λq=>q.elim id λe=>by rw[e];exact h⟩
 ·rw[abx,abp]
theorem NP {come:List Nat}(h:come.Nodup)(y:Nat):(add come y).Nodup:=by
 unfold add;split
 ·exact h
 ·rename_i d;rw[ab5];exact⟨h,by simp,λa e b c=>by rw[abp.mp c];exact λz=>d (by rw[<-z];exact e)⟩
theorem rY {f:Nat->Nat->Nat}{x:Nat}{come:List Nat}(h:come.Nodup):∀k,(dq f x come k).Nodup
 |0=>h
 |k+ 1=>by rw[iR];exact NP (rY h k) _
theorem gq (f:Nat->Nat->Nat)(k a:Nat):∀n,(a9 f k a n).Nodup
 |0=>by rw[tR];simp
 |n+ 1=>by
  cases h:(a9 f k a n)[n]? with
  |none=>rw[kZ h];exact gq f k a n
  |some x=>rw[eU h];exact rY (gq f k a n) k
theorem jz {f:Nat->Nat->Nat}{x:Nat}{come:List Nat}{z:Nat}:∀{k:Nat},z∈dq f x come k↔z∈come\/∃i,i<k/\z=f i x
 |0=>⟨.inl,λq=>q.elim id λ⟨i,a,_⟩=>absurd a (Nat.not_lt_zero _)⟩
 |k+ 1=>by
  rw[iR,KP,jz (k:=k)];constructor
  ·rintro ((h|⟨i,a,e⟩)|h)
   ·exact .inl h
   ·exact .inr ⟨i,by omega,e⟩
   ·exact .inr ⟨k,by omega,h⟩
  ·rintro (h|⟨i,a,e⟩)
   ·exact .inl (.inl h)
   ·by_cases b:i=k
    ·rw[b]at e;exact .inr e
    ·exact .inl (.inr ⟨i,by omega,e⟩)
theorem nu {f:Nat->Nat->Nat}{k x0:Nat}{P:Nat->Prop}(c:P x0)(b:∀x i,P x->i<k->P (f i x)):∀n,∀z∈a9 f k x0 n,P z
 |0,z,a=>by rw[tR,abp]at a;rw[a];exact c
 |n+ 1,z,a=>by
  cases h:(a9 f k x0 n)[n]? with
  |none=>rw[kZ h]at a;exact nu c b n z a
  |some x=>
   rw[eU h,jz]at a;rcases a with a|⟨i,d,rfl⟩
   ·exact nu c b n z a
   ·exact b _ _ (nu c b n x (abn h)) d
theorem ku {f:Nat->Nat->Nat}{k:Nat}:∀{n j x i:Nat},j<n->(a9 f k m n)[j]?=some x->i<k->f i x∈a9 f k m n
 |n+ 1,j,x,i,l,b,c=>by
  cases h:(a9 f k m n)[n]? with
  |none=>
   rw[kZ h]at b ⊢;have o:=aee.mp h;have p:=(abk.mp b).1;exact ku (show j<n by omega) b c
  |some y=>
   obtain⟨t,d⟩:=oR f y (a9 f k m n) k;have g:=(abk.mp h).1
   have a:(a9 f k m n)[j]?=some x:=by
    rw[eU h,d,abu (by omega)]at b;exact b
   by_cases e:j=n
   ·rw[e,h]at a;rw[eU h,jz];exact .inr ⟨i,c,by rw[Za0 a]⟩
   ·rw[eU h,jz];exact .inl (ku (show j<n by omega) a c)
def ix (come:List Nat)(y:Nat):Nat:=come.findIdx λz=>z==y
theorem uI:∀{come:List Nat} {i y:Nat},come.Nodup->come[i]?=some y->ix come y=i
 |[],i,y,_,h=>by simp at h
 |a::l,0,y,_,h=>by
  have e:a=y:=Za0 h;unfold ix;rw[aeH,e];simp
 |a::l,i+ 1,y,c,h=>by
  rw[List.getElem?_cons_succ]at h;have f:=abn h
  have b:(a==y)=false:=by
   rw[abG];intro e;exact(ab0.mp c).1 (by rw[e];exact f)
  have d:ix l y=i:=uI (ab0.mp c).2 h;unfold ix at d ⊢;rw[aeH,b];show l.findIdx _+ 1=i+ 1;rw[d]
theorem Eh {come:List Nat}(b:come.Nodup)(h:n∈come):come[ix come n]?=some n:=by
 obtain⟨i,a⟩:=aco h;rw[uI b a];exact a
theorem uJ {come:List Nat}(b:(come++B).Nodup)(h:n∈come):ix (come++B) n=ix come n:=by
 obtain⟨i,a⟩:=aco h;have c:(come++B)[i]?=some n:=by rw[abu (abk.mp a).1];exact a
 rw[uI b c,uI (ab5.mp b).1 a]
def fj (f:Nat->Nat->Nat)(k:Nat)(come:List Nat):Za3:=come.map λx=>(List.range k).map λi=>((ix come (f i x):Nat):Int)
theorem Ei {come:List Nat}(h:n∉come):ix (come++[n]) n=come.length:=by
 induction come with
 |nil=>unfold ix;rw[adY,aeH];simp
 |cons a l c=>
  rw[abD,not_or]at h;have b:(a==n)=false:=by rw[abG];exact λe=>h.1 e.symm
  have:=c h.2;unfold ix at this ⊢;rw[ac1,aeH,b];show (l++[n]).findIdx _+ 1=l.length+ 1;rw[this]
def jA (f:Nat->Nat->Nat)(k a n:Nat):Za3:=((a9 f k a n).take n).map λx=>(List.range k).map λi=>((ix (a9 f k a n) (f i x):Nat):Int)
theorem xi (f:Nat->Nat->Nat)(k a:Nat):jA f k a 0=[]:=rfl
theorem xj {f:Nat->Nat->Nat}{k x:Nat}(h:(a9 f k n m)[m]?=some x):jA f k n (m+ 1)=jA f k n m++[(List.range k).map λi=>((ix (a9 f k n (m+ 1)) (f i x):Nat):Int)]:=by
 obtain⟨t,e⟩:=tS f k n m;have a:=gq f k n (m+ 1);have q:=(abk.mp h).1
 have o:(a9 f k n (m+ 1)).take (m+ 1)=(a9 f k n m).take m++[x]:=by
  rw[e,List.take_append_of_le_length (by omega),adj,h];rfl
 unfold jA;rw[o,abU]
 congr 1
 refine acx λc p=>?_
 refine acx λi l=>?_
 obtain⟨j,d⟩:=aco p
 have b:j<m:=by
  have:=(abk.mp d).1;rw[abZ]at this;omega
 rw[aek b]at d;have g:=ku b d (aca.mp l);rw[e]at a ⊢;rw[uJ a g]
theorem y7 {f:Nat->Nat->Nat}{k:Nat}(h:(a9 f k n m).length=m):jA f k n m=fj f k (a9 f k n m):=by
 unfold jA fj;rw[adS (by omega)]
end M24
namespace M55
open M11 M24
theorem xk {f:Nat->Nat->Nat}{x:Nat}{come:List Nat}{m:Nat}:∀n,∃t,dq f x come (m+ n)=dq f x come m++t
 |0=>⟨[],(abO _).symm⟩
 |n+ 1=>by
  obtain⟨t,a⟩:=xk (m:=m) n;obtain⟨u,b⟩:=AV (dq f x come (m+ n)) (f (m+ n) x);exact⟨t++u,by rw[<-Nat.add_assoc,iR,b,a,aci]⟩
section
variable {f:Nat->Nat->Nat}{k N:Nat}
theorem Ej {x:Nat}(h:(a9 f k 0 n)[n]?=some x){E:List Int}(g:E.length=n* k)(l:M12.Fc k E (a9 f k 0 n).length):∀m,m<=k->M12.Fc k (E++(List.range m).map λi=>((ix (a9 f k 0 (n+ 1)) (f i x):Nat):Int)) (dq f x (a9 f k 0 n) m).length
 |0,_=>by rw[List.range_zero,List.map_nil,abO];exact l
 |m+ 1,p=>by
  have j:=Ej h g l m (by omega);have a:=gq f k 0 (n+ 1);obtain⟨t,b⟩:=xk (f:=f) (x:=x) (come:=a9 f k 0 n) (m:=m+ 1) (k - (m+ 1));rw[show m+ 1+ (k - (m+ 1))=k by omega,<-eU h]at b;rw[acY,abU,<-aci,List.map_singleton];generalize e:a9 f k 0 (n+ 1)=O at *;have r:=(abk.mp h).1;obtain⟨u,o⟩:=oR f x (a9 f k 0 n) m;have hlen:n<(dq f x (a9 f k 0 n) m).length:=by rw[o,abj];omega
  rw[iR]at b ⊢;by_cases c:f m x∈dq f x (a9 f k 0 n) m
  ·have d:add (dq f x (a9 f k 0 n) m) (f m x)=dq f x (a9 f k 0 n) m:=by unfold add;rw[abN c]
   rw[d]at b ⊢;rw[b]at a;have q:=uJ a c;have lt:=(abk.mp (Eh (ab5.mp a).1 c)).1;rw[show ix O (f m x)=ix (dq f x (a9 f k 0 n) m) (f m x) by rw[b];exact q];exact j.old lt
  ·have d:add (dq f x (a9 f k 0 n) m) (f m x)=dq f x (a9 f k 0 n) m++[f m x]:=by unfold add;rw[abH c]
   rw[d]at b ⊢;rw[b]at a;have q:=uJ a (abv (dq f x (a9 f k 0 n) m) abA);rw[show ix O (f m x)=(dq f x (a9 f k 0 n) m).length by rw[b,q];exact Ei c,abj];refine j.new (by omega) ?_;rw[abj,abo,abY,g];have:(n+ 1)* k<=(dq f x (a9 f k 0 n) m).length* k:=acG _ hlen;rw[ad6]at this;omega
theorem NQ (b:(a9 f k 0 N).length=N):∀n,n<=N->(jA f k 0 n).flatten.length=n* k/\M12.Fc k (jA f k 0 n).flatten (a9 f k 0 n).length
 |0,_=>⟨by rw[xi,Nat.zero_mul];rfl,by rw[xi,tR];exact M12.Fc.zero k⟩
 |n+ 1,h=>by
  obtain⟨c,g⟩:=NQ b n (by omega)
  have a:∃x,(a9 f k 0 n)[n]?=some x:=by
   cases e:(a9 f k 0 n)[n]? with
   |some x=>exact⟨x,rfl⟩
   |none=>
    exfalso
    have i:=aee.mp e
    have:∀m,(a9 f k 0 (n+ m))=a9 f k 0 n:=λm=>by
     induction m with
     |zero=>rfl
     |succ m d=>rw[<-Nat.add_assoc,kZ (by rw[d];exact aee.mpr (by omega)),d]
    have:=this (N - n);rw[show n+ (N - n)=N by omega]at this;rw[this]at b;omega
  obtain⟨x,a⟩:=a;rw[xj a,List.flatten_append,List.flatten_singleton];refine⟨by rw[abj,c,abo,abY,ad6,Nat.one_mul],?_⟩;have:=Ej a c g k (abr _);rw[eU a]at this ⊢;exact this
theorem fc (a:(a9 f k 0 N).length=N):M12.Fc k (fj f k (a9 f k 0 N)).flatten (fj f k (a9 f k 0 N)).length:=by
 have:=(NQ a N (abr _)).2;rw[y7 a]at this;unfold fj;rw[abo];exact this
theorem y8 {come:List Nat}(b:j<k)(a:come[i]?=some n):nx (fj f k come) j i=ix come (f j n):=by
 unfold nx fj;rw[abt (l:=List.map _ come),aby,a];show ((((List.range k).map λi=>((ix come (f i n):Nat):Int))).getD j 0).toNat=_;rw[abt,aby,acQ b];rfl
theorem oS (c:(a9 f k 0 N).length=N){j i y:Nat}(b:j<k)(a:(a9 f k 0 N)[i]?=some y):(a9 f k 0 N)[nx (fj f k (a9 f k 0 N)) j i]?=some (f j y):=by
 rw[y8 b a];exact Eh (gq _ _ _ N) (ku (by have:=(abk.mp a).1;omega) a b)
end
theorem NR {f:Nat->Nat->Nat}(g:(a9 f (2* n) 0 m).length=m)(p:∀x∈a9 f (2* n) 0 m,∀j,j<2* n->f (flip j) (f j x)=x)(l:1<=n)(o:n<=40)(s:1<=m)(q:m<=300):Tab n (fj f (2* n) (a9 f (2* n) 0 m)):=by
 have hlen:(fj f (2* n) (a9 f (2* n) 0 m)).length=m:=by unfold fj;rw[abo,g]
 have c:∀i,i<(fj f (2* n) (a9 f (2* n) 0 m)).length->∃y,(a9 f (2* n) 0 m)[i]?=some y:=λi d=>⟨_,abm (by omega)⟩
 refine⟨by omega,by omega,l,o,λi r h=>?_,λi k d b=>?_,λi k d b=>?_,λi k d b=>?_⟩
 ·unfold fj at h;rw[aby]at h
  cases e:(a9 f (2* n) 0 m)[i]? with
  |none=>rw[e]at h;cases h
  |some y=>
   rw[e]at h;rw[<-Za0 h,abo,abY]
 ·obtain⟨y,a⟩:=c i d;refine⟨_,by unfold fj;rw[aby,a];rfl,?_⟩;rw[y8 b a,aby,acQ b];rfl
 ·obtain⟨y,a⟩:=c i d;have:=(abk.mp (oS g b a)).1;omega
 ·obtain⟨y,a⟩:=c i d;rw[y8 (KN b) (oS g b a),p y (abn a) k b];exact uI (gq _ _ _ m) a
end M55
namespace K55
open PySem L2
def top (i:Nat):Stmt:=PySem.Challenge.pw_cosetyard_k55_whole_alike_from_each_room.main.body.getD i (.Pass ⟨0,0,0,0⟩)
abbrev uK:Stmt:=top 1
abbrev uL:Stmt:=top 3
abbrev uM:Stmt:=top 4
abbrev xl:Stmt:=top 6
abbrev y9:Stmt:=top 12
abbrev ny:Stmt:=top 13
abbrev uN:Stmt:=top 20
abbrev uO:Stmt:=top 21
abbrev uP:Stmt:=top 24
abbrev Iw:Stmt:=top 25
abbrev Ek:Stmt:=top 27
abbrev qv:Stmt:=top 29
abbrev qx:Stmt:=top 31
abbrev xm:Stmt:=top 32
abbrev uQ:Stmt:=top 33
abbrev sI:Stmt:=top 34
abbrev sJ:Stmt:=top 35
abbrev k6:Stmt:=top 36
abbrev qy:Stmt:=top 37
abbrev qz:Stmt:=top 38
abbrev qA:Stmt:=top 39
abbrev pF:Stmt:=top 40
abbrev qB:Stmt:=top 41
abbrev Iy:Stmt:=top 42
abbrev jQ:Stmt:=inClass (top 10) 0
abbrev k8:Stmt:=inClass (top 14) 0
abbrev mj:Stmt:=inClass (top 14) 1
abbrev sL:Stmt:=inClass (top 14) 2
abbrev jR:Stmt:=inClass (top 15) 0
abbrev iS:Stmt:=inClass (top 15) 1
abbrev ml:Stmt:=inClass (top 15) 2
abbrev lg:Stmt:=inClass (top 15) 3
abbrev nB:Stmt:=inClass (top 15) 4
abbrev mn:Stmt:=inClass (top 15) 5
abbrev nF:Stmt:=inClass (top 15) 6
abbrev pG:Stmt:=inClass (top 15) 7
abbrev nH:Stmt:=inClass (top 15) 8
abbrev nJ:Stmt:=inClass (top 15) 9
abbrev jS:Stmt:=inClass (top 15) 10
abbrev sM:Stmt:=inClass (top 17) 0
abbrev lh:Stmt:=inClass (top 23) 0
abbrev qC:Stmt:=inClass (top 23) 1
abbrev sN:Stmt:=inClass (top 23) 2
abbrev uR:Stmt:=inClass (top 23) 3
abbrev pH:Stmt:=inClass (top 23) 4
abbrev lj:Stmt:=inClass (top 23) 5
abbrev pI:Stmt:=inClass (top 23) 6
abbrev kf:Stmt:=inClass (top 23) 7
abbrev qD:Stmt:=inClass (top 23) 8
abbrev mq:Stmt:=inClass (top 23) 9
abbrev jc:Stmt:=inClass (top 23) 10
abbrev mv:Stmt:=inClass (top 23) 11
set_option genInjectivity false in
structure sO where
 uS:Addr
 uT:FuncData
 uU:Addr
 uV:FuncData
 uW:Addr
 uX:FuncData
 xn:Addr
 xo:FuncData
 za:Addr
 zb:FuncData
 nK:Addr
 nL:FuncData
 uY:Addr
 uZ:FuncData
 u6:Addr
 u9:FuncData
 va:Addr
 vb:FuncData
 mw:Addr
 mx:FuncData
 El:Addr
 Em:FuncData
 qE:Addr
 qF:FuncData
 qG:Addr
 qH:FuncData
 xq:Addr
 xr:FuncData
 vd:Addr
 ve:FuncData
 sP:Addr
 sQ:FuncData
 sR:Addr
 sS:FuncData
 lu:Addr
 lz:FuncData
 qI:Addr
 qJ:FuncData
 qK:Addr
 qL:FuncData
 qM:Addr
 qN:FuncData
 pJ:Addr
 pK:FuncData
 qO:Addr
 qP:FuncData
 Iz:Addr
 IA:FuncData
 jT:Addr
 jU:FuncData
 iA:Addr
 lA:FuncData
 my:Addr
 mz:FuncData
 sT:Addr
 sU:FuncData
 gu:Addr
 jV:FuncData
 iT:Addr
 iU:FuncData
 mB:Addr
 mC:FuncData
 lB:Addr
 lC:FuncData
 nM:Addr
 nP:FuncData
 mD:Addr
 mE:FuncData
 nS:Addr
 nT:FuncData
 pL:Addr
 pM:FuncData
 nU:Addr
 nV:FuncData
 nX:Addr
 nY:FuncData
 jW:Addr
 jX:FuncData
 sV:Addr
 sW:FuncData
 iB:Addr
 lD:FuncData
 qQ:Addr
 qR:FuncData
 sX:Addr
 sY:FuncData
 vf:Addr
 vg:FuncData
 pN:Addr
 pO:FuncData
 lE:Addr
 lF:FuncData
 pP:Addr
 pQ:FuncData
 kg:Addr
 kh:FuncData
 qS:Addr
 qT:FuncData
 mF:Addr
 mG:FuncData
 jd:Addr
 je:FuncData
 mH:Addr
 mI:FuncData
 jI:Addr
 bH:Addr
 cU:Addr
 az:Addr
 aJ:Addr
 aB:Addr
set_option genInjectivity false in
structure Txt (K:Za1) (mg:Str->Option Value) (A:sO):Prop where
 eV:Def K mg "steps_of" uK ["letters"] A.uS A.uT
 numbered:Def K mg "numbered" uL ["rooms"] A.uU A.uV
 oT:Def K mg "place_of" uM ["step"] A.uW A.uX
 jB:Def K mg "turning" xl ["table","word"] A.xn A.xo
 walked:Def K mg "walked" y9 ["rooms","room","word"] A.za A.zb
 jf:Def K mg "first_places" ny ["rules"] A.nK A.nL
 oU:Def K mg "order_by" uN ["name"] A.uY A.uZ
 kT:Def K mg "first_of" uO ["rooms","some"] A.u6 A.u9
 iC:Def K mg "all_gaps" uP ["letters"] A.va A.vb
 own:Def K mg "own" Iw ["value"] A.mw A.mx
 fill:DDef K mg "fill" Ek ["letters","rules","part","limit","order"] A.El A.Em (tx [114,111,111,109,115])
 kx:Def K mg "least_ways" qv ["table"] A.qE A.qF
 _law_whole:Def K mg "_law_whole" qx ["_law_found"] A.qG A.qH
 _law_at:Def K mg "_law_at" xm ["_law_script","_law_k"] A.xq A.xr
 _law_mix:Def K mg "_law_mix" uQ ["_law_number","_law_place"] A.vd A.ve
 _law_word:Def K mg "_law_word" sI ["_law_cells","_law_letters"] A.sP A.sQ
 _law_back:Def K mg "_law_back" sJ ["_law_word_here"] A.sR A.sS
 _law_cut_words:Def K mg "_law_cut_words" k6 ["_law_cells"] A.lu A.lz
 _law_rules:Def K mg "_law_rules" qy ["_law_number","_law_cells"] A.qI A.qJ
 _law_group:Def K mg "_law_group" qz ["_law_script"] A.qK A.qL
 _law_limit:Def K mg "_law_limit" qA ["_law_number"] A.qM A.qN
 _law_filled:Def K mg "_law_filled" pF ["_law_letters","_law_rules_here","_law_limit_here"] A.pJ A.pK
 _law_turns:Def K mg "_law_turns" qB ["_law_table","_law_room","_law_made"] A.qO A.qP
 law:Def K mg "law" Iy ["_law_script"] A.Iz A.IA
 dY:MDef K A.bH "__init__" "TooMany.__init__" jQ ["self","made","rows"] A.jT A.jU
 gH:MDef K A.aJ "__init__" "Going.__init__" k8 ["self","which","word","start"] A.iA A.lA
 j6:MDef K A.aJ "advance" "Going.advance" mj ["self","rooms"] A.my A.mz
 qU:MDef K A.aJ "row" "Going.row" sL ["self","rooms"] A.sT A.sU
 fH:MDef K A.aB "__init__" "Closing.__init__" jR ["self","rooms","rules","part"] A.gu A.jV
 di:MDef K A.aB "begin_rules" "Closing.begin_rules" iS ["self","room"] A.iT A.iU
 fM:MDef K A.aB "begin" "Closing.begin" ml ["self","which","word","room"] A.mB A.mC
 fk:MDef K A.aB "settle" "Closing.settle" lg ["self"] A.lB A.lC
 lG:MDef K A.aB "make" "Closing.make" nB ["self","room","step"] A.nM A.nP
 j7:MDef K A.aB "go_on" "Closing.go_on" mn ["self","number"] A.mD A.mE
 gw:MDef K A.aB "wait" "Closing.wait" nF ["self","number","room","step"] A.nS A.nT
 mS:MDef K A.aB "lay" "Closing.lay" pG ["self","going"] A.pL A.pM
 cF:MDef K A.aB "wake" "Closing.wake" nH ["self","room","step"] A.nU A.nV
 lH:MDef K A.aB "hear" "Closing.hear" nJ ["self"] A.nX A.nY
 iD:MDef K A.aB "wake_all" "Closing.wake_all" jS ["self","room"] A.jW A.jX
 jY:MDef K A.cU "gap" "Order.gap" sM ["self","rooms"] A.sV A.sW
 gI:MDef K A.az "__init__" "Rooms.__init__" lh ["self","letters"] A.iB A.lD
 oV:MDef K A.az "make" "Rooms.make" qC ["self","room","step"] A.qQ A.qR
 qV:MDef K A.az "lay" "Rooms.lay" sN ["self","room","step","other","row"] A.sX A.sY
 du:MDef K A.az "by" "Rooms.by" uR ["self","room","step"] A.vf A.vg
 dz:MDef K A.az "elder" "Rooms.elder" pH ["self","room"] A.pN A.pO
 fm:MDef K A.az "standing" "Rooms.standing" lj ["self"] A.lE A.lF
 gZ:MDef K A.az "paper" "Rooms.paper" pI ["self"] A.pP A.pQ
 jg:MDef K A.az "first_gap" "Rooms.first_gap" kf ["self","room"] A.kg A.kh
 jh:MDef K A.az "keep" "Rooms.keep" qD ["self","room","step","other"] A.qS A.qT
 j8:MDef K A.az "take_in" "Rooms.take_in" mq ["self","way","pending"] A.mF A.mG
 dC:MDef K A.az "put_together" "Rooms.put_together" jc ["self","room","step","one","other","pending"] A.jd A.je
 j9:MDef K A.az "put_off" "Rooms.put_off" mv ["self","room","pending"] A.mH A.mI
 mU:mg "enumerate"=none
 Q5:mg "min"=none
 Q6:mg "max"=none
 gJ:mg "range"=none
 dA:mg "len"=none
 jC:mg "tuple"=none
 g6:mg "list"=none
 cZ:mg "isinstance"=none
 NT:mg "bool"=none
 IB:mg "int"=none
 zc:mg "dict"=none
 Q7:mg "zip"=none
 Q8:mg "abs"=none
 GC:mg "sorted"=none
 zX:mg "YardError"=some (.ref A.jI)
 xt:mg "TooMany"=some (.ref A.bH)
 KQ:mg "Order"=some (.ref A.cU)
 KR:mg "Rooms"=some (.ref A.az)
 KS:mg "Going"=some (.ref A.aJ)
 Eo:mg "Closing"=some (.ref A.aB)
 GD:PySem.W.plainGet K A.az Str.empty=true
 GF:PySem.W.hasDictIn K A.az=true
 GH:PySem.W.plainOver K A.az=true
 GJ:PySem.W.findIn K (.ref A.az) "__setattr__"=some (some (.builtin "object.__setattr__"))
 tT:PySem.W.makesIn K A.az=true
 GK:PySem.W.keepIn K (.ref A.az)=true
 qW:PySem.W.findIn K (.ref A.az) "letters"=some none
 nZ:PySem.W.findIn K (.ref A.az) "made"=some none
 qX:PySem.W.findIn K (.ref A.az) "rows"=some none
 g9:PySem.W.findIn K (.ref A.az) "ways"=some none
 qY:PySem.W.findIn K (.ref A.az) "gaps"=some none
 iE:PySem.W.findIn K (.ref A.az) "elders"=some none
 lI:PySem.W.findIn K (.ref A.az) "called"=some none
 qZ:PySem.W.findIn K (.ref A.az) "went"=some none
 GN:PySem.W.plainGet K A.aJ Str.empty=true
 GO:PySem.W.hasDictIn K A.aJ=true
 GP:PySem.W.plainOver K A.aJ=true
 GQ:PySem.W.findIn K (.ref A.aJ) "__setattr__"=some (some (.builtin "object.__setattr__"))
 tU:PySem.W.makesIn K A.aJ=true
 GR:PySem.W.keepIn K (.ref A.aJ)=true
 zf:PySem.W.findIn K (.ref A.aJ) "which"=some none
 iV:PySem.W.findIn K (.ref A.aJ) "word"=some none
 oW:PySem.W.findIn K (.ref A.aJ) "start"=some none
 fI:PySem.W.findIn K (.ref A.aJ) "front"=some none
 dZ:PySem.W.findIn K (.ref A.aJ) "first"=some none
 fQ:PySem.W.findIn K (.ref A.aJ) "rear"=some none
 gL:PySem.W.findIn K (.ref A.aJ) "last"=some none
 Ca:PySem.W.plainGet K A.aB Str.empty=true
 Cb:PySem.W.hasDictIn K A.aB=true
 Cd:PySem.W.plainOver K A.aB=true
 Ce:PySem.W.findIn K (.ref A.aB) "__setattr__"=some (some (.builtin "object.__setattr__"))
 oX:PySem.W.makesIn K A.aB=true
 Ci:PySem.W.keepIn K (.ref A.aB)=true
 d0:PySem.W.findIn K (.ref A.aB) "rooms"=some none
 zg:PySem.W.findIn K (.ref A.aB) "rules"=some none
 iW:PySem.W.findIn K (.ref A.aB) "goings"=some none
 jZ:PySem.W.findIn K (.ref A.aB) "agenda"=some none
 ji:PySem.W.findIn K (.ref A.aB) "waiting"=some none
 lJ:PySem.W.findIn K (.ref A.aB) "heard"=some none
 GU:PySem.W.plainGet K A.cU Str.empty=true
 GV:PySem.W.hasDictIn K A.cU=true
 GW:PySem.W.plainOver K A.cU=true
 GX:PySem.W.findIn K (.ref A.cU) "__setattr__"=some (some (.builtin "object.__setattr__"))
 GY:PySem.W.makesIn K A.cU=true
 GZ:PySem.W.keepIn K (.ref A.cU)=true
 G0:PySem.W.findIn K (.ref A.cU) "__init__"=some (some (.builtin "object.__init__"))
 U2:PySem.W.findIn K (.ref A.cU) "__class__"=some (some (.builtin "object.__class__"))
 U4:PySem.W.mroIn K A.cU (.type "object")=some true
 vh:L2.B1 K A.bH=true
 Cj:PySem.W.keepIn K (.ref A.bH)=true
 Wy:PySem.W.exmOne K (.ref A.bH) (.ref A.bH)=some true
 Ck:(PySem.W.clsIn K A.bH).any (λcd=>L2.kY cd.mro)=true
 Cm:PySem.W.hasDictIn K A.bH=true
 Cp:PySem.W.findIn K (.ref A.bH) "__setattr__"=some (some (.builtin "object.__setattr__"))
 Cq:PySem.W.findIn K (.ref A.bH) "__getattribute__"=some (some (.builtin "BaseException.__getattribute__"))
 Cr:PySem.W.findIn K (.ref A.bH) "__getattr__"=some none
 Ct:PySem.W.subIn K (.ref A.bH) (.type "BaseException")=some true
 KW:PySem.W.findIn K (.ref A.bH) "made"=some none
 KY:PySem.W.findIn K (.ref A.bH) "rows"=some none
 U6:PySem.W.specialIn K (.ref A.jI) "__getattribute__"=some (some (.builtin "type.__getattribute__"))
 U9:PySem.W.readsIn K A.jI (.type "type")=true
 Va:(match PySem.W.findCls K (.ref A.jI) (.type "type") "__init__" with|some (.val (.builtin i))=>i=="ValueError.__init__" | _=>false)=true
theorem aK {A:sO}(T:Txt K M A):lU K A.az:=⟨T.GD,T.GF,T.GH,T.GJ⟩
theorem tT {A:sO}(T:Txt K M A):Mk K A.az A.iB:=⟨T.tT,T.gI.m.at_,T.gI.m.fn,T.GK⟩
theorem aS {A:sO}(T:Txt K M A):lU K A.aJ:=⟨T.GN,T.GO,T.GP,T.GQ⟩
theorem tU {A:sO}(T:Txt K M A):Mk K A.aJ A.iA:=⟨T.tU,T.gH.m.at_,T.gH.m.fn,T.GR⟩
theorem aL {A:sO}(T:Txt K M A):lU K A.aB:=⟨T.Ca,T.Cb,T.Cd,T.Ce⟩
theorem oX {A:sO}(T:Txt K M A):Mk K A.aB A.gu:=⟨T.oX,T.fH.m.at_,T.fH.m.fn,T.Ci⟩
theorem zh {A:sO}(T:Txt K M A):lU K A.cU:=⟨T.GU,T.GV,T.GW,T.GX⟩
theorem mV:aX ["letters","steps","letter"] ["letters"] (aH uK):=(by ac_rfl)
theorem eX:aX ["rooms","steps","found","numbers","rows","others","other"] ["rooms"] (aH uL):=(by ac_rfl)
theorem zY:aX ["step"] ["step"] (aH uM):=(by ac_rfl)
theorem jj:aX ["table","word","turned","step","place"] ["table","word"] (aH xl):=(by ac_rfl)
theorem mJ:aX ["rooms","room","word","path","step"] ["rooms","room","word"] (aH y9):=(by ac_rfl)
theorem fZ:aX ["rules","places","which","rule"] ["rules"] (aH ny):=(by ac_rfl)
theorem zZ:aX ["name"] ["name"] (aH uN):=(by ac_rfl)
theorem mW:aX ["rooms","some","room","step"] ["rooms","some"] (aH uO):=(by ac_rfl)
theorem z0:aX ["letters"] ["letters"] (aH uP):=(by ac_rfl)
theorem Ep:aX ["value"] ["value"] (aH Iw):=(by ac_rfl)
theorem kF:aX ["letters","rules","part","limit","order","chosen","rooms","closing","gap"] ["letters","rules","part","limit","order"] (aH Ek):=(by ac_rfl)
theorem dJ:aX ["table","steps","ways","room","row","step","other"] ["table"] (aH qv):=(by ac_rfl)
theorem xK:aX ["_law_found"] ["_law_found"] (aH qx):=(by ac_rfl)
theorem Cu:aX ["_law_script","_law_k"] ["_law_script","_law_k"] (aH xm):=(by ac_rfl)
theorem fS:aX ["_law_number","_law_place","_law_turn","_law_part"] ["_law_number","_law_place"] (aH uQ):=(by ac_rfl)
theorem fq:aX ["_law_cells","_law_letters","_law_steps","_law_cell","_law_number","_law_step"] ["_law_cells","_law_letters"] (aH sI):=(by ac_rfl)
theorem zi:aX ["_law_word_here"] ["_law_word_here"] (aH sJ):=(by ac_rfl)
theorem dN:aX ["_law_cells","_law_words","_law_kept","_law_cell"] ["_law_cells"] (aH k6):=(by ac_rfl)
theorem eF:aX ["_law_number","_law_cells","_law_one","_law_two","_law_both","_law_rules_here","_law_word_here"] ["_law_number","_law_cells"] (aH qy):=(by ac_rfl)
theorem kb:aX ["_law_script","_law_number","_law_rules_here"] ["_law_script"] (aH qz):=(by ac_rfl)
theorem xM:aX ["_law_number"] ["_law_number"] (aH qA):=(by ac_rfl)
theorem gM:aX ["_law_letters","_law_rules_here","_law_limit_here","_law_found"] ["_law_letters","_law_rules_here","_law_limit_here"] (aH pF):=(by ac_rfl)
theorem pR:aX ["_law_table","_law_room","_law_made","_law_other"] ["_law_table","_law_room","_law_made"] (aH qB):=(by ac_rfl)
theorem fu:aX ["_law_script","_law_letters","_law_rules_here","_law_table","_law_made","_law_room","_law_k","_law_ahead","_law_word_here","_law_step"] ["_law_script"] (aH Iy):=(by ac_rfl)
theorem pX:aX ["self","made","rows"] ["self","made","rows"] (aH jQ):=(by ac_rfl)
theorem sh:aX ["self","which","word","start"] ["self","which","word","start"] (aH k8):=(by ac_rfl)
theorem iF:aX ["self","rooms","room"] ["self","rooms"] (aH mj):=(by ac_rfl)
theorem lK:aX ["self","rooms","ahead","behind"] ["self","rooms"] (aH sL):=(by ac_rfl)
theorem ej:aX ["self","rooms","rules","part","room","which","word"] ["self","rooms","rules","part"] (aH jR):=(by ac_rfl)
theorem eY:aX ["self","room","rule","which"] ["self","room"] (aH iS):=(by ac_rfl)
theorem tV:aX ["self","which","word","room"] ["self","which","word","room"] (aH ml):=(by ac_rfl)
theorem si:aX ["self"] ["self"] (aH lg):=(by ac_rfl)
theorem vi:aX ["self","room","step"] ["self","room","step"] (aH nB):=(by ac_rfl)
theorem lL:aX ["self","number","going"] ["self","number"] (aH mn):=(by ac_rfl)
theorem jk:aX ["self","number","room","step","steps","numbers"] ["self","number","room","step"] (aH nF):=(by ac_rfl)
theorem oh:aX ["self","going","step"] ["self","going"] (aH pG):=(by ac_rfl)
theorem vj:aX ["self","room","step"] ["self","room","step"] (aH nH):=(by ac_rfl)
theorem vk:aX ["self"] ["self"] (aH nJ):=(by ac_rfl)
theorem et:aX ["self","room","step","elder"] ["self","room"] (aH jS):=(by ac_rfl)
theorem zj:aX ["self","rooms"] ["self","rooms"] (aH sM):=(by ac_rfl)
theorem sj:aX ["self","letters"] ["self","letters"] (aH lh):=(by ac_rfl)
theorem pS:aX ["self","room","step","number"] ["self","room","step"] (aH qC):=(by ac_rfl)
theorem q0:aX ["self","room","step","other","row","pending"] ["self","room","step","other","row"] (aH sN):=(by ac_rfl)
theorem Aa:aX ["self","room","step"] ["self","room","step"] (aH uR):=(by ac_rfl)
theorem vX:aX ["self","room"] ["self","room"] (aH pH):=(by ac_rfl)
theorem sk:aX ["self"] ["self"] (aH lj):=(by ac_rfl)
theorem vY:aX ["self"] ["self"] (aH pI):=(by ac_rfl)
theorem j0:aX ["self","room","step"] ["self","room"] (aH kf):=(by ac_rfl)
theorem xN:aX ["self","room","step","other"] ["self","room","step","other"] (aH qD):=(by ac_rfl)
theorem dv:aX ["self","way","pending","room","step","other","led_to","come_from"] ["self","way","pending"] (aH mq):=(by ac_rfl)
theorem dE:aX ["self","room","step","one","other","pending","less","more","number"] ["self","room","step","one","other","pending"] (aH jc):=(by ac_rfl)
theorem fJ:aX ["self","room","pending","ways","step","other"] ["self","room","pending"] (aH mv):=(by ac_rfl)
section
variable {P:Program}{w:World}{K:Za1}{mg:Str->Option Value}{base:Heap}{A:sO}
def xX (K:Za1):Sp:=λc H Q _=>∃(a:Addr) (ns:List Int),c=[.ref a]/\aD K H a (ns.map V.int)/\ns.length<=63/\∀b,Q (.bl true) b
def bz (n:Nat):List Int:=(List.range n).map M12.st
theorem rZ (n:Nat):(bz n).length=n:=by unfold bz;rw[abo,abY]
theorem oj (h:i<n):(bz n)[i]?=some (M12.st i):=by
 unfold bz;rw[aby,acQ h];rfl
theorem KZ (i:Nat):bz (2* i)++[1+ (i:Int)]++[-(1+ (i:Int))]=bz (2* (i+ 1)):=by
 have e:2* (i+ 1)=2* i+ 1+ 1:=by omega
 rw[e];unfold bz;rw[acY,acY,abU,abU];have b:M12.st (2* i)=1+ (i:Int):=by unfold M12.st;rw[abN (by omega)];omega
 have a:M12.st (2* i+ 1)= -(1+ (i:Int)):=by unfold M12.st;rw[abH (by omega)];omega
 show _=(List.range (2* i)).map M12.st++[M12.st (2* i)]++[M12.st (2* i+ 1)];rw[b,a]
theorem Er (n:Nat):(bz n).Nodup:=by
 unfold bz;refine adn.mpr (List.Pairwise.imp ?_ List.nodup_range);intro a b c z;have d:=M12.uH a;rw[z,M12.uH]at d;exact c d.symm
theorem cG {rs:List Addr}(h:rs[i]?=some a):lW (rs.map V.ref) (i:Int)=some (V.ref a):=cI (by rw[aby,h];rfl)
def G3:Sp:=λb H Q _=>∃L:Nat,b=[.int L]/\1<=L/\L<=200/\∀l a,aq H a->a l=some (.lst (ao ((List.range (2* L)).map M12.st)))->Q (.ref l) a
def NV:Sp:=λb H Q _=>∃L:Nat,b=[.int L]/\1<=L/\L<=200/\∀d a,aq H a->H d=none->a d=some (.dK (gK (bz (2* L))))->Q (.ref d) a
inductive IC (C:Addr) (vs:List V) (H:Hp) (Q:VK) (E_:XK):Prop
 |mk (x dx:Addr) (L:Nat):vs=[.ref x,.int L]->H x=some (.ins C dx [])->1<=L->L<=200->(∀a H',(∀b o,H b=some o->b≠x->H' b=some o)->ax C H' x (RS.new L (bz (2* L))) a->(∀b,a.own x b->b=x\/H b=none)->Q .non H')->IC C vs H Q E_
def cJ (a:RA)(r:Addr)(H c:Hp):Prop:=∀b o,¬a.own r b->H b=some o->c b=some o
inductive Es (C:Addr) (vs:List V) (H:Hp) (Q:VK) (E_:XK):Prop
 |mk (r:Addr) (S:RS) (a:RA) (c d:Nat) (z:Int):vs=[.ref r,.int c,.int z,.int d]->ax C H r S a->S.Wf->c<S.made->d<S.made->(∀l∈S.ways,l.length<=100000)->(∀H',cJ a r H H'->ax C H' r (S.keep c z d) a->Q .non H')->Es C vs H Q E_
inductive Eu (C:Addr) (vs:List V) (H:Hp) (Q:VK) (E_:XK):Prop
 |mk (r:Addr) (S:RS) (a:RA) (c:Nat) (z:Int):vs=[.ref r,.int c,.int z]->ax C H r S a->S.Wf->1<=S.L->S.L<=200->c<S.made->S.made<=100000->S.rows.length<=1000000->(∀l∈S.ways,l.length<=100000)->(∀a' H',cJ a r H H'->ax C H' r (S.make c z (bz (2* S.L))) a'->(∀b,a'.own r b->a.own r b\/H b=none)->Q (.int S.made) H')->Eu C vs H Q E_
inductive IE (C:Addr) (vs:List V) (H:Hp) (Q:VK) (E_:XK):Prop
 |mk (r:Addr) (S:RS) (a:RA) (c:Nat) (z:Int):vs=[.ref r,.int c,.int z]->ax C H r S a->c<S.ways.length->(Q (((S.by c z).map λn:Nat=>V.int (n:Int)).getD .non) H)->IE C vs H Q E_
inductive AX (C:Addr) (vs:List V) (H:Hp) (Q:VK) (E_:XK):Prop
 |mk (r:Addr) (S:RS) (a:RA) (c e:Nat):vs=[.ref r,.int c]->ax C H r S a->S.aU[c]?=some e->Q (.int e) H->AX C vs H Q E_
inductive vl (C:Addr) (vs:List V) (H:Hp) (Q:VK) (E_:XK):Prop
 |mk (r:Addr) (S:RS) (a:RA):vs=[.ref r]->ax C H r S a->S.Wf->S.made<=100000->(∀l,H l=none->Q (.ref l) (upd H l (.lst (ao (nI ((List.range S.made).filter λc=>decide (S.aU[c]?=some c)))))))->vl C vs H Q E_
def vm (k:Nat):Sp:=λc H Q _=>∃(v:V) (d:Dt),c=[v]/\bS H k v d/\kU d/\∀b a,aq H a->bS a k b d->Q b a
inductive AY (k:Nat) (C:Addr) (vs:List V) (H:Hp) (Q:VK) (E_:XK):Prop
 |mk (r:Addr) (S:RS) (a:RA):vs=[.ref r]->ax C H r S a->S.rows.length<=1000000->(∀p d,d∈S.rows->bS H 4 (.ref p) d->bS H k (.ref p) d)->(∀l ps H',aq H H'->H l=none->H' l=some (.lst (ps.map V.ref))->Each (λp d=>bS H' 4 (.ref p) d) ps S.rows->Q (.ref l) H')->AY k C vs H Q E_
theorem Ew (T:Txt K mg A):bj P w K mg base (bF P w) 1 A.mw A.mx ["value"] (λ_ _ _ _=>False):=⟨λ_ _ _ _ h=>h.elim,λ_ _ _ _ _ _ _ _ _ _ _ _ _ h=>h.elim⟩
theorem Ey (T:Txt K mg A):bj P w K mg base (bF P w) 2 A.mw A.mx ["value"] (vm 0):=by
 have c:bj P w K mg base (bF P w) 1 A.mw A.mx ["value"] (λ_ _ _ _=>False):=Ew T;refine T.own.F.okN Ep (λg H Q E h=>?_) (λy z j s H g Q E r h=>?_)
 ·obtain⟨v,d,rfl,_⟩:=h;rfl
 ·obtain⟨v,d,rfl,f,m,k⟩:=h
  refine⟨_,(ah (bO (iZ (bx fD rfl T.cZ ab8 (ae (pv 0) (ae (gy (v:=.ty "tuple") rfl T.jC acF rfl) aj))))
   (au (bf (dc fL rfl T.jC acF (ae (iz (fns:=[]) (ixs:=[]) (cl:=[]) rfl (m5 (pv 0)) (i7 (by decide) (by decide) rfl (by decide) rfl) (λC s H ex=>(bA (c) (r.mono (by decide)) rfl T.own.m T.own.F.kp T.own.b .nil aM (ae (pv 0) aj)))) aj))))
   bq)
   (ah (bO (iZ (bx fD rfl T.cZ ab8 (ae (pv 0) (ae (gy (v:=.ty "list") rfl T.g6 acA rfl) aj))))
    (au ib)
    bq)
   (ah (bO (iZ (bx fD rfl T.cZ ab8 (ae (pv 0) (ae (gy (v:=.ty "dict") rfl T.zc aeA rfl) aj))))
    (au ib)
    bq)
   (au (bf (pv 0)))))),?_⟩
  refine fF ?_;intro x p u
  have atom:(∃n,v=.int n)\/(∃l,v=.str (tx l))\/∃(a:Addr) (g:List V) (o:List Dt),v=.ref a/\d=.t o/\False:=by
   cases f with
   |i=>exact .inl ⟨_,rfl⟩
   |s=>exact .inr (.inl ⟨_,rfl⟩)
   |n=>cases m
   |b=>cases m
  rcases atom with ⟨n,rfl⟩|⟨l,rfl⟩|⟨a,g,o,rfl,rfl,q⟩
  ·refine⟨_,rfl,_,_,_,_,rfl,.int n,pA K,_,rfl,dk ?_⟩;refine⟨_,rfl,_,_,_,_,rfl,.int n,qe K,_,rfl,dk ?_⟩;refine⟨_,rfl,_,_,_,_,rfl,.int n,qf K,_,rfl,dk ?_⟩;exact⟨_,rfl,k _ H (λ_ _ e=>e) f⟩
  ·refine⟨_,rfl,_,_,_,_,rfl,.str (tx l),pB K,_,rfl,dk ?_⟩;refine⟨_,rfl,_,_,_,_,rfl,.str (tx l),qg K,_,rfl,dk ?_⟩;refine⟨_,rfl,_,_,_,_,rfl,.str (tx l),qh K,_,rfl,dk ?_⟩;exact⟨_,rfl,k _ H (λ_ _ e=>e) f⟩
  ·exact q.elim
theorem zk (T:Txt K mg A)(o:bj P w K mg base (bF P w) j A.mw A.mx ["value"] (vm m)):bj P w K mg base (bF P w) (j+ 1) A.mw A.mx ["value"] (vm (m+ 1)):=by
 refine T.own.F.okN Ep (λg H Q E h=>?_) (λcf AA M s H g Q E J h=>?_)
 ·obtain⟨v,d,rfl,_⟩:=h;rfl
 ·obtain⟨v,d,rfl,I,F,k⟩:=h
  refine⟨_,(ah (bO (iZ (bx fD rfl T.cZ ab8 (ae (pv 0) (ae (gy (v:=.ty "tuple") rfl T.jC acF rfl) aj))))
   (au (bf (dc fL rfl T.jC acF (ae (iz (fns:=[]) (ixs:=[]) (cl:=[]) rfl (m5 (pv 0)) (i7 (by decide) (by decide) rfl (by decide) rfl) (λC s H ex=>(bA (o) J rfl T.own.m T.own.F.kp T.own.b .nil aM (ae (pv 0) aj)))) aj))))
   bq)
   (ah (bO (iZ (bx fD rfl T.cZ ab8 (ae (pv 0) (ae (gy (v:=.ty "list") rfl T.g6 acA rfl) aj))))
    (au ib)
    bq)
   (ah (bO (iZ (bx fD rfl T.cZ ab8 (ae (pv 0) (ae (gy (v:=.ty "dict") rfl T.zc aeA rfl) aj))))
    (au ib)
    bq)
   (au (bf (pv 0)))))),?_⟩
  refine fF ?_;intro jn X fv
  have atom:(∃n,v=.int n)\/(∃l,v=.str (tx l))\/∃(a:Addr) (g:List V) (ds:List Dt),v=.ref a/\d=.t ds/\(H a=some (.tup g)/\g.length=ds.length/\∀(c:Nat) (v:V) (x:Dt),g[c]?=some v->ds[c]?=some x->bS H m v x):=by
   cases I with
   |i=>exact .inl ⟨_,rfl⟩
   |s=>exact .inr (.inl ⟨_,rfl⟩)
   |n=>cases F
   |b=>cases F
   |t p O L=>exact .inr (.inr ⟨_,_,_,rfl,rfl,p,O,L⟩)
   |l=>cases F
  rcases atom with ⟨n,rfl⟩|⟨l,rfl⟩|⟨a,g,ds,rfl,rfl,u⟩
  ·refine⟨_,rfl,_,_,_,_,rfl,.int n,pA K,_,rfl,dk ?_⟩;refine⟨_,rfl,_,_,_,_,rfl,.int n,qe K,_,rfl,dk ?_⟩;refine⟨_,rfl,_,_,_,_,rfl,.int n,qf K,_,rfl,dk ?_⟩;exact⟨_,rfl,k _ H (λ_ _ e=>e) I⟩
  ·refine⟨_,rfl,_,_,_,_,rfl,.str (tx l),pB K,_,rfl,dk ?_⟩;refine⟨_,rfl,_,_,_,_,rfl,.str (tx l),qg K,_,rfl,dk ?_⟩;refine⟨_,rfl,_,_,_,_,rfl,.str (tx l),qh K,_,rfl,dk ?_⟩;exact⟨_,rfl,k _ H (λ_ _ e=>e) I⟩
  ·obtain⟨p,O,L⟩:=u;obtain⟨hz,z⟩:ds.length<=100000/\∀x∈ds,kU x:=by cases F with|t a b=>exact⟨a,b⟩
   refine⟨_,rfl,_,_,_,_,rfl,.tup p,tG K "tuple",_,rfl,gS ?_⟩;refine⟨_,rfl,a,rfl,⟨_,bQ.of p⟩,?_⟩;refine lY g.length (λi=>g.getD i .non) (λf v i=>∃x,ds[i]?=some x/\kU x/\bS f m v x) (λH1 f v i s ⟨x,e,S,q⟩=>⟨x,e,S,q.same s⟩) ?_ (λi f s2 r=>C9 (bQ.of (s2 _ _ p)) i r) (λi x f H3 s2 r y=>?_) (λf s2=>ym (bQ.of (s2 _ _ p))) (λi f Rr r s2 kk=>?_) (λD f ys s2 hD hl J=>?_)
   ·exact abB (by omega) (show 100000<=sizeLine by decide)
   ·obtain⟨e,u⟩:=Ap (bQ.of (s2 _ _ p)) i x H3 r y;refine⟨e,?_⟩;rw[abt,u];rfl
   ·have u:g[i]?=some (g.getD i .non):=by rw[abt,abm r];rfl
    have B:ds[i]?=some (ds[i]'(by omega)):=abm (by omega)
    refine⟨_,rfl,_,_,rfl,(L i _ _ u B).same s2,z _ (abn B),λv' H' s' U=>kk v' H' s' ⟨_,B,z _ (abn B),U⟩⟩
   ·refine⟨D,ys,rfl,.inl ⟨aD.of ai,λl G=>?_⟩⟩;have R:aq f (upd f D (.lst ys)):=aq.upd hD;have N:aq (upd f D (.lst ys)) (upd (upd f D (.lst ys)) l (.tup ys)):=aq.upd G;refine k _ _ (s2.trans (R.trans N)) (.t ai (by omega) λc v x e1 Z=>?_);obtain⟨y,Y,-,q⟩:=J c v e1;obtain rfl:y=x:=Za0 (Y.symm.trans Z);exact q.same (R.trans N)
theorem Ez (T:Txt K mg A):bj P w K mg base (bF P w) 3 A.mw A.mx ["value"] (vm 1):=zk T (Ey T)
theorem xu (T:Txt K mg A):bj P w K mg base (bF P w) 4 A.mw A.mx ["value"] (vm 2):=zk T (Ez T)
theorem mX (T:Txt K mg A):bj P w K mg base (bF P w) 1 A.uS A.uT ["letters"] G3:=by
 refine T.eV.F.okN mV (λr H Q E h=>?_) (λy D j s H r Q E C h=>?_)
 ·obtain⟨L,rfl,_⟩:=h;rfl
 ·obtain⟨L,rfl,x,z,k⟩:=h
  refine⟨_,(ah (aZ (i:=1) mV.nd rfl (Or.inl rfl) (cD aj))
   (ah (cz abQ rfl (CM rfl T.gJ (ae ay (ae (aT dM (pv 0) ay) aj))) (bK (i:=2) mV.nd rfl (Or.inl rfl))
    (ah (aV (cP abC abI abJ bN (pv 1) (ae (pv 2) aj)))
    (au (aV (cP abC abI abJ bN (pv 1) (ae (fB dW (pv 2)) aj))))))
   (au (bf (pv 1))))),?_⟩
  refine cX ?_;intro q u;refine⟨abS _,λl d=>?_⟩;have m:aq H (upd H l (.lst [])):=aq.upd d;have p:upd H l (.lst []) l=some (.lst (ao (bz (2* 0)))):=ai;generalize upd H l (.lst [])=H0 at m p ⊢;refine⟨_,rfl,_,_,rfl,rfl,1,(L:Int)+ 1,rfl,⟨by omega,by omega,by omega,by omega⟩,?_⟩;refine jK (lo:=1) (n:=((L:Int)+ 1 - 1).toNat) (λi g a=>∃v:Option V,g=[some (.int L),some (.ref l),v]/\aq H a/\a l=some (.lst (ao (bz (2* i))))) ⟨none,rfl,m,p⟩ ?_ ?_
  ·rintro i g a B ⟨v,rfl,f,c⟩;have t:i<L:=by omega
   refine⟨_,rfl,.inl ⟨rfl,_,aD.of c⟩,_,rfl,l,_,_,rfl,rfl,c,?_,?_⟩
   ·rw[aI,rZ];exact abz (show 2* i<=400 by omega) (by decide)
   refine⟨_,rfl,.inl ⟨rfl,_,aD.of ai⟩,_,rfl,_,rfl,l,_,_,rfl,rfl,ai,?_,?_⟩
   ·rw[abj,aI,rZ];exact abz (show 2* i+ 1<=400 by omega) (by decide)
   refine⟨_,rfl,λb o e=>?_,?_⟩
   ·rw[ak (aw e d),ak (aw e d)];exact f _ _ e
   ·rw[ai,<-KZ,ints_app,ints_app];rfl
  ·rintro g a ⟨v,rfl,f,c⟩;rw[show ((L:Int)+ 1 - 1).toNat=L by omega]at c;exact⟨_,rfl,k l a f c⟩
theorem sZ (T:Txt K mg A):bj P w K mg base (bF P w) 2 A.va A.vb ["letters"] NV:=by
 refine T.iC.F.okN z0 (λX H Q E h=>?_) (λcf AA F s H X Q E r h=>?_)
 ·obtain⟨L,rfl,_⟩:=h;rfl
 ·obtain⟨L,rfl,u,G,k⟩:=h;refine⟨_,(au (bf (dc (uy rfl) rfl T.zc aeA (ae (iz (fns:=[]) (ixs:=[]) (cl:=[]) rfl (cS (bA (mX T) (r.mono (by decide)) rfl T.eV.m T.eV.F.kp T.eV.b .nil aM (ae (pv 0) aj))) (i7 (by decide) (by decide) rfl (by decide) rfl) (λC s H ex=>(cV (ae (pv 0) (ae lS aj))))) aj)))),?_⟩;refine⟨_,rfl,L,rfl,u,G,λl Z s1 j=>⟨l,rfl,⟨_,aD.of j⟩,?_⟩⟩;have R:(ao ((List.range (2* L)).map M12.st)).length=2* L:=by rw[aI,abo,abY]
  refine lY (2* L) (λi=>.int (M12.st i)) (λc v i=>∃p,v=.ref p/\c p=some (.tup [.int (M12.st i),.bl true])) (λZ c v i s ⟨p,e,q⟩=>⟨p,e,s _ _ q⟩) ?_ (λi c s2 f=>kK (aD.of (s2 _ _ j)) i (by omega)) (λi x c H3 s2 f y=>?_) (λc s2=>?_) (λi c Rr f s2 kk=>?_) (λD c ys s2 Y o r=>?_)
  ·exact abB (show 2* L<=400 by omega) (by decide)
  ·obtain⟨e,J⟩:=jr (aD.of (s2 _ _ j)) i x H3 (by omega) y;refine⟨e,?_⟩;rw[show (ao ((List.range (2* L)).map M12.st))[i]?=some (.int (M12.st i)) from bV (oj f)]at J;exact(Za0 J).symm
  ·have:=ip (aD.of (K:=K) (s2 _ _ j));rw[R]at this;exact this
  ·refine⟨_,rfl,(Za4 2),λt ht=>kk _ _ (aq.upd ht) ⟨t,rfl,ai⟩⟩
  ·obtain⟨g,rfl,m⟩:=vS (P:=λi p=>c p=some (.tup [.int (M12.st i),.bl true])) ys 0 (λi v S=>by rw[ad7];exact r i v S);have O:aq c (upd c D (.lst (g.map V.ref))):=aq.upd Y;rw[abo]at o;refine⟨D,g,gK (bz (2* L)),rfl,ai,by rw[MN,rZ,o],λi p kv M n=>?_,λd N=>?_⟩
   ·have f:i<2* L:=by rw[<-o];exact(abk.mp M).1
    have:=m i p M;rw[ad7]at this;unfold gK at n;rw[aby,oj f]at n;rw[<-Za0 n];exact O _ _ this
   ·have e:gX [] (gK (bz (2* L)))=gK (bz (2* L)):=by
     rw[wM _ _ ?_,adY];rw[adY];unfold gK;rw[ab1];exact adn.mpr (List.Pairwise.imp (λ{a b} B z=>B (Sum.inl.inj z)) (Er _))
    rw[e];have U:aq (upd c D (.lst (g.map V.ref))) (upd (upd c D (.lst (g.map V.ref))) d (.dK (gK (bz (2* L))))):=aq.upd N;have I:=s1.trans (s2.trans O);exact k d _ (I.trans U) (I.free N) ai
theorem fT (T:Txt K mg A):bj P w K mg base (bF P w) 1 A.vf A.vg ["self","room","step"] (IE A.az):=by
 refine T.du.F.okN Aa (λg H Q E h=>?_) (λm n d s H g Q E l h=>?_)
 ·obtain⟨r,S,a,c,z,rfl,_⟩:=h;rfl
 ·obtain⟨r,S,a,c,z,rfl,h,j,k⟩:=h;have b:=hO l;refine⟨_,(au (bf (FZ b (bI bL (aF (pv 0) rfl) (pv 1) (λ_ _=>rfl)) (pv 2) ⟨rfl,rfl,rfl,rfl⟩))),?_⟩;have i:S.ways[c]?=some (S.way c):=by unfold RS.way;rw[abt,abm j];rfl
  obtain⟨p,f,e⟩:=h.rW.at i;refine⟨_,rfl,r,_,a.dx,_,_,rfl,h.ins,aK T,T.g9,gC _ _ _,_,rfl,a.aW,_,_,_,rfl,rfl,aD.of h.hW,cG f,p,rfl,.inl ⟨_,.inl e⟩,_,rfl,_,dX.k (k:=Sum.inl z) e,?_⟩;rw[jO];exact k
theorem gN (T:Txt K mg A):bj P w K mg base (bF P w) 1 A.pN A.pO ["self","room"] (AX A.az):=by
 refine T.dz.F.okN vX (λg H Q E h=>?_) (λd j b s H g Q E i h=>?_)
 ·obtain⟨r,S,a,c,e,rfl,_⟩:=h;rfl
 ·obtain⟨r,S,a,c,e,rfl,h,f,k⟩:=h;refine⟨_,(au (bf (bI bL (aF (pv 0) rfl) (pv 1) (λ_ _=>rfl)))),?_⟩;exact⟨_,rfl,r,_,a.dx,_,_,rfl,h.ins,aK T,T.iE,iK _ _ _,_,rfl,a.aE,_,_,_,rfl,rfl,aD.of h.hE,cI (bV (ja f)),k⟩
theorem om {c:Nat}(h:c<S.ways.length):S.ways[c]?=some (S.way c):=by unfold RS.way;rw[abt,abm h];rfl
theorem vn {c:Nat}(h:c<S.gaps.length):S.gaps[c]?=some (S.gap c):=by unfold RS.gap;rw[abt,abm h];rfl
theorem zl (h:∀l∈S.ways,l.length<=m):(S.way n).length<=m:=by
 unfold RS.way;rw[abt]
 cases e:S.ways[n]? with
 |none=>exact abS _
 |some l=>exact h l (abn e)
theorem IG (h:O.ws[i]?=some b):O.own a b:=.inr (.inr (cW (abn h)))
theorem Q9 (h:O.gs[i]?=some b):O.own a b:=.inr (.inr (fh (abn h)))
theorem cJ.upd {o:HO}(h:O.own a b):cJ O a H (upd H b o):=λc u d e=>by rw[ak (λz=>d (by rw[z];exact h))];exact e
theorem cJ.trans (h:cJ O a H I)(d:cJ O a I J):cJ O a H J:=λb u c e=>d b u c (h b u c e)
theorem pT (T:Txt K mg A):bj P w K mg base (bF P w) 1 A.qS A.qT ["self","room","step","other"] (Es A.az):=by
 refine T.jh.F.okN xN (λvs H Q E h=>?_) (λcf AA J s H vs Q E hr h=>?_)
 ·obtain⟨r,S,a,c,d,z,rfl,_⟩:=h;rfl
 ·obtain⟨r,S,a,c,d,z,rfl,h,hw,Y,hd,M,k⟩:=h;have o:=hO hr
  refine⟨_,(ah (m9 o (bI bL (aF (pv 0) rfl) (pv 1) (λ_ _=>rfl)) (pv 2) (pv 3) rfl)
   (ah (m9 o (bI bL (aF (pv 0) rfl) (pv 3) (λ_ _=>rfl)) (fB dW (pv 2)) (pv 1) rfl)
   (ah (aV (tK (bI bL (aF (pv 0) rfl) (pv 1) (λ_ _=>rfl)) (pv 2) dh ⟨rfl,rfl,rfl,rfl⟩))
   (au (aV (tK (bI bL (aF (pv 0) rfl) (pv 3) (λ_ _=>rfl)) (fB dW (pv 2)) dh ⟨rfl,rfl,rfl,rfl⟩)))))),?_⟩
  refine fF ?_;intro jn hH fv;obtain⟨p,b,I⟩:=h.rW.at (om (S:=S) (c:=c) (by rw[hw.w];exact Y));have b1:(S.way c).length<=100000:=zl M;refine⟨_,rfl,_,rfl,r,_,a.dx,_,_,rfl,h.ins,aK T,T.g9,gC _ _ _,_,rfl,a.aW,_,_,_,rfl,rfl,aD.of h.hW,cG b,_,rfl,p,_,rfl,oH.k (k:=Sum.inl z) I (by rw[yE];exact abz b1 (by decide)),?_⟩;rw[yF];have y:ax A.az _ r (S.bZ c z d) a:=h.yH b (gT (S.way c) z d);have N:cJ a r H (upd H p (.dK (wK (gT (S.way c) z d)))):=cJ.upd (IG b);generalize upd H p (.dK (wK (gT (S.way c) z d)))=G at y N ⊢;have w1:(S.bZ c z d).ways.length=S.made:=by show (S.ways.set c _).length=_;rw[abP,hw.w]
  obtain⟨q,F,B⟩:=y.rW.at (om (S:=S.bZ c z d) (c:=d) (by rw[w1];exact hd))
  have b2:((S.bZ c z d).way d).length<=100001:=zl λl f=>by
   rcases adC f with f|rfl
   ·exact Nat.le_succ_of_le (M l f)
   ·exact abB (F9 _ _ _) (by omega)
  refine⟨_,rfl,_,rfl,r,_,a.dx,_,_,rfl,y.ins,aK T,T.g9,gC _ _ _,_,rfl,a.aW,_,_,_,rfl,rfl,aD.of y.hW,cG F,_,rfl,_,rfl,q,_,rfl,oH.k (k:=Sum.inl (-z)) B (by rw[yE];exact abz b2 (by decide)),?_⟩;rw[yF];have g:ax A.az _ r ((S.bZ c z d).bZ d (-z) c) a:=y.yH F (gT ((S.bZ c z d).way d) (-z) c);have R:cJ a r G (upd G q (.dK (wK (gT ((S.bZ c z d).way d) (-z) c)))):=cJ.upd (IG F);generalize upd G q (.dK (wK (gT ((S.bZ c z d).way d) (-z) c)))=H2 at g R ⊢;generalize U:(S.bZ c z d).bZ d (-z) c=C at g ⊢;have g2:C.gaps.length=S.made:=by rw[<-U];exact hw.g
  obtain⟨p3,m,n⟩:=g.rG.at (vn (S:=C) (c:=c) (by rw[g2];exact Y))
  have pop:∀{H:Hp} {S:RS} {c:Nat} {z:Int} {p:Addr},ax A.az H r S a->a.gs[c]?=some p->H p=some (.dK (gK (S.gap c)))->∀{Q:V->Hp->Prop},(∀v L,cJ a r H L->ax A.az L r (S.km c z) a->Q v L)->
   FY p (.int z) .non H Q:=by
   intro H S c z p h b I Q B
   suffices q:(∀v,bp (gK (S.gap c)) (Sum.inl z)=some v->Q v (upd H p (.dK (eh (gK (S.gap c)) (Sum.inl z)))))/\(bp (gK (S.gap c)) (Sum.inl z)=none->Q .non H) from ⟨_,Sum.inl z,I,rfl,q.1,q.2⟩
   rw[DF,Ke];by_cases D:z∈S.gap c
   ·rw[abN D];exact⟨λv _=>B _ _ (cJ.upd (Q9 b)) (h.MS b _),λz=>by cases z⟩
   ·rw[abH D];refine⟨λv z=>(by cases z),λ_=>B _ _ (λ_ _ _ e=>e) ?_⟩;have e:(S.gap c).filter (λx=>decide (x≠z))=S.gap c:=List.filter_eq_self.mpr λx hx=>abX λz=>D (z ▸ hx)
    have f:c<S.gaps.length:=by rw[<-h.rG.1];exact(abk.mp b).1
    have:S.km c z=S:=by
     unfold RS.km RS.setG;rw[e]
     have es:S.gaps.set c (S.gap c)=S.gaps:=adk λi=>by
      by_cases X:c=i
      ·subst X;rw[acm f,vn f]
      ·rw[acZ X]
     rw[es]
    rw[this];exact h
  refine⟨_,rfl,r,_,a.dx,_,_,rfl,g.ins,aK T,T.qY,rS _ _ _,_,rfl,a.aG,_,_,_,rfl,rfl,aD.of g.hG,cG m,p3,rfl,.inl ⟨_,.inl n⟩,_,rfl,pop g m n λv H3 u3 t=>?_⟩;generalize O:C.km c z=S3 at t;have g3:S3.gaps.length=S.made:=by rw[<-O];show (C.gaps.set c _).length=_;rw[abP,g2]
  obtain⟨p4,u,j⟩:=t.rG.at (vn (S:=S3) (c:=d) (by rw[g3];exact hd));refine⟨_,rfl,r,_,a.dx,_,_,rfl,t.ins,aK T,T.qY,rS _ _ _,_,rfl,a.aG,_,_,_,rfl,rfl,aD.of t.hG,cG u,p4,rfl,.inl ⟨_,.inl j⟩,_,rfl,_,rfl,pop t u j λv H4 u4 Z=>?_⟩;refine k H4 (N.trans (R.trans (u3.trans u4))) ?_;rw[<-O,<-U]at Z;exact Z
theorem sr (T:Txt K mg A):bj P w K mg base (bF P w) 3 A.iB A.lD ["self","letters"] (IC A.az):=by
 refine T.gI.F.okN sj (λvs H Q E h=>?_) (λcf AA outer s H vs Q E hr h=>?_)
 ·obtain⟨x,j,L,rfl,_⟩:=h;rfl
 ·obtain⟨x,j,L,rfl,hx,q8,tf,k⟩:=h
  refine⟨_,(ah (bY (pv 0) (pv 1) rfl)
   (ah (bY (pv 0) ay rfl)
   (ah (bY (pv 0) (cD aj) rfl)
   (ah (bY (pv 0) (cD (ae eS aj)) rfl)
   (ah (bY (pv 0) (cD (ae (bA (sZ T) hr.Za5 rfl T.iC.m T.iC.F.kp T.iC.b .nil aM (ae (pv 1) aj)) aj)) rfl)
   (ah (bY (pv 0) (cD (ae ay aj)) rfl)
   (ah (bY (pv 0) (cD (ae (cD (ae ay aj)) aj)) rfl)
   (au (bY (pv 0) (cD aj) rfl))))))))),?_⟩
  refine yK ?_;intro IH AZ ti rh jn hH fv
  have st:∀{H0:Hp} {fs:List (Str×V)} {f:Str} {v:V},H0 x=some (.ins A.az j fs)->(∀b o,H b=some o->b≠x->H0 b=some o)->upd H0 x (.ins A.az j (bJ f v fs)) x=some (.ins A.az j (bJ f v fs))/\(∀b o,H b=some o->b≠x->upd H0 x (.ins A.az j (bJ f v fs)) b=some o)/\∀b o,b≠x->H0 b=some o->upd H0 x (.ins A.az j (bJ f v fs)) b=some o:=
   λ_ h=>⟨ai,λb o e n=>by rw[ak n];exact h b o e n,λb o n e=>by rw[ak n];exact e⟩
  refine⟨_,rfl,_,rfl,x,_,j,_,rfl,hx,aK T,T.qW,(by show 0<1000;decide),?_⟩;obtain⟨x1,o1,-⟩:=st (f:="letters") (v:=.int L) hx (λb o e _=>e);generalize upd H x (.ins A.az j (bJ "letters" (.int L) []))=H1 at x1 o1 ⊢;have f1:(bJ "letters" (.int L) ([]:List (Str×V))).length<=1:=iM (n:=0) (abr _);refine⟨_,rfl,x,_,j,_,rfl,x1,aK T,T.nZ,abz f1 (by decide),?_⟩;obtain⟨x2,o2,-⟩:=st (f:="made") (v:=.int 1) x1 o1;have f2:=iM (f:="made") (v:=.int 1) f1;generalize e2:bJ "made" (.int 1) (bJ "letters" (.int L) [])=RT at x2 o2 f2 ⊢;generalize upd H1 x (.ins A.az j RT)=H2 at x2 o2 ⊢;refine⟨abS _,λD nR=>⟨_,rfl,x,_,j,_,rfl,aq.upd nR _ _ x2,aK T,T.qX,abz f2 (by decide),?_⟩⟩;have RV:upd H2 D (.lst []) D=some (.lst []):=ai;have G:D≠x:=(aw x2 nR).symm;have s3:=aq.upd (o:=.lst []) nR
  have n0:∀{b:Addr} {H0:Hp},(∀c o,H c=some o->c≠x->H0 c=some o)->H0 b=none->b≠x->H b=none:=λ{b H0} h n nx=>by
   cases e:H b with
   |none=>rfl
   |some o=>rw[h b o e nx]at n;cases n
  have kR:=n0 o2 nR G;generalize upd H2 D (.lst [])=H3 at RV s3 ⊢;obtain⟨x4,o4,k4⟩:=st (f:="rows") (v:=.ref D) (s3 _ _ x2) (λb o e n=>s3 _ _ (o2 b o e n));have f4:=iM (f:="rows") (v:=.ref D) f2;generalize e4:bJ "rows" (.ref D) RT=RW at x4 o4 f4 k4 ⊢;have NW:=k4 _ _ G RV;generalize upd H3 x (.ins A.az j RW)=H4 at x4 o4 NW ⊢;intro wd NX;have q:wd≠x:=(aw x4 NX).symm;have II:=n0 o4 NX q;have s5:=aq.upd (o:=.dK []) NX;have NZ:upd H4 wd (.dK []) wd=some (.dK []):=ai;generalize upd H4 wd (.dK [])=H5 at s5 NZ ⊢;refine⟨(Za4 1),λF nW=>⟨_,rfl,x,_,j,_,rfl,aq.upd nW _ _ (s5 _ _ x4),aK T,T.g9,abz f4 (by decide),?_⟩⟩;have Z:F≠x:=(aw (s5 _ _ x4) nW).symm;have kW:=n0 (λb o e n=>s5 _ _ (o4 b o e n)) nW Z;have Wz:F≠D:=(aw (s5 _ _ NW) nW).symm;have s6:=aq.upd (o:=.lst [.ref wd]) nW;have RX:upd H5 F (.lst [.ref wd]) F=some (.lst [.ref wd]):=ai;generalize upd H5 F (.lst [.ref wd])=H6 at s6 RX ⊢;obtain⟨x7,o7,k7⟩:=st (f:="ways") (v:=.ref F) (s6 _ _ (s5 _ _ x4)) (λb o e n=>s6 _ _ (s5 _ _ (o4 b o e n)));have f7:=iM (f:="ways") (v:=.ref F) f4;generalize e7:bJ "ways" (.ref F) RW=RZ at x7 o7 f7 k7 ⊢;have N0:=k7 _ _ G (s6 _ _ (s5 _ _ NW));have N1:=k7 _ _ Z RX;have G4:=k7 _ _ q (s6 _ _ NZ);generalize upd H6 x (.ins A.az j RZ)=H7 at x7 o7 N0 N1 G4 ⊢;refine⟨_,rfl,L,rfl,q8,tf,λgd H8 s8 N2 Vb=>?_⟩;have u:gd≠x:=(aw x7 N2).symm;have N3:=n0 o7 N2 u;have WB:gd≠wd:=(aw G4 N2).symm;refine⟨(Za4 1),λB nG=>⟨_,rfl,x,_,j,_,rfl,aq.upd nG _ _ (s8 _ _ x7),aK T,T.qY,abz f7 (by decide),?_⟩⟩;have EA:B≠x:=(aw (s8 _ _ x7) nG).symm;have kG:=n0 (λb o e n=>s8 _ _ (o7 b o e n)) nG EA;have WC:B≠D:=(aw (s8 _ _ N0) nG).symm;have WD:B≠F:=(aw (s8 _ _ N1) nG).symm;have s9:=aq.upd (o:=.lst [.ref gd]) nG;have R6:upd H8 B (.lst [.ref gd]) B=some (.lst [.ref gd]):=ai;generalize upd H8 B (.lst [.ref gd])=H9 at s9 R6 ⊢;obtain⟨x10,IJ,Y⟩:=st (f:="gaps") (v:=.ref B) (s9 _ _ (s8 _ _ x7)) (λb o e n=>s9 _ _ (s8 _ _ (o7 b o e n)));have EB:=iM (f:="gaps") (v:=.ref B) f7;generalize WG:bJ "gaps" (.ref B) RZ=N4 at x10 IJ EB Y ⊢;have G5:=Y _ _ G (s9 _ _ (s8 _ _ N0));have G6:=Y _ _ Z (s9 _ _ (s8 _ _ N1));have IK:=Y _ _ q (s9 _ _ (s8 _ _ G4));have G7:=Y _ _ EA R6;have IL:=Y _ _ u (s9 _ _ Vb);generalize upd H9 x (.ins A.az j N4)=A0 at x10 IJ G5 G6 IK G7 IL ⊢;refine⟨by decide,λC nE=>⟨_,rfl,x,_,j,_,rfl,aq.upd nE _ _ x10,aK T,T.iE,abz EB (by decide),?_⟩⟩;have IQ:C≠x:=(aw x10 nE).symm;have kE:=n0 IJ nE IQ;have WH:C≠D:=(aw G5 nE).symm;have WK:C≠F:=(aw G6 nE).symm;have WL:C≠B:=(aw G7 nE).symm;have t:=aq.upd (o:=.lst [.int 0]) nE;have N5:upd A0 C (.lst [.int 0]) C=some (.lst [.int 0]):=ai;generalize upd A0 C (.lst [.int 0])=N6 at t N5 ⊢;obtain⟨X,EC,M⟩:=st (f:="elders") (v:=.ref C) (t _ _ x10) (λb o e n=>t _ _ (IJ b o e n));have ED:=iM (f:="elders") (v:=.ref C) EB;generalize WM:bJ "elders" (.ref C) N4=N7 at X EC ED M ⊢;have O:=M _ _ G (t _ _ G5);have S:=M _ _ Z (t _ _ G6);have IU:=M _ _ q (t _ _ IK);have U:=M _ _ EA (t _ _ G7);have IV:=M _ _ u (t _ _ IL);have R:=M _ _ IQ N5;generalize upd N6 x (.ins A.az j N7)=R7 at X EC O S IU U IV R ⊢;refine⟨by decide,λcl y=>⟨(Za4 1),λz nC=>⟨_,rfl,x,_,j,_,rfl,aq.upd nC _ _ (aq.upd y _ _ X),aK T,T.lI,abz ED (by decide),?_⟩⟩⟩;have G8:cl≠x:=(aw X y).symm;have N8:=n0 EC y G8;have WN:cl≠D:=(aw O y).symm;have WO:cl≠F:=(aw S y).symm;have WQ:cl≠B:=(aw U y).symm;have WR:cl≠C:=(aw R y).symm;have a:=aq.upd (o:=.lst [.int 0]) y;have N:upd R7 cl (.lst [.int 0]) cl=some (.lst [.int 0]):=ai;generalize upd R7 cl (.lst [.int 0])=R8 at a N nC ⊢;have N9:z≠x:=(aw (a _ _ X) nC).symm;have kC:=n0 (λb o e n=>a _ _ (EC b o e n)) nC N9;have WT:z≠D:=(aw (a _ _ O) nC).symm;have WU:z≠F:=(aw (a _ _ S) nC).symm;have WV:z≠B:=(aw (a _ _ U) nC).symm;have WW:z≠C:=(aw (a _ _ R) nC).symm;have WX:z≠cl:=(aw N nC).symm;have l:=aq.upd (o:=.lst [.ref cl]) nC;have Ob:upd R8 z (.lst [.ref cl]) z=some (.lst [.ref cl]):=ai;generalize upd R8 z (.lst [.ref cl])=WY at l Ob ⊢;obtain⟨EE,IW,r⟩:=st (f:="called") (v:=.ref z) (l _ _ (a _ _ X)) (λb o e n=>l _ _ (a _ _ (EC b o e n)));have IX:=iM (f:="called") (v:=.ref z) ED;generalize WZ:bJ "called" (.ref z) N7=Oc at EE IW IX r ⊢;have G9:=r _ _ G (l _ _ (a _ _ O));have Hc:=r _ _ Z (l _ _ (a _ _ S));have IY:=r _ _ q (l _ _ (a _ _ IU));have Hd:=r _ _ EA (l _ _ (a _ _ U));have IZ:=r _ _ u (l _ _ (a _ _ IV));have He:=r _ _ IQ (l _ _ (a _ _ R));have J:=r _ _ G8 (l _ _ N);have Hf:=r _ _ N9 Ob;generalize upd WY x (.ins A.az j Oc)=Sb at EE IW G9 Hc IY Hd IZ He J Hf ⊢;refine⟨abS _,λI nN=>⟨_,rfl,x,_,j,_,rfl,aq.upd nN _ _ EE,aK T,T.qZ,abz IX (by decide),?_⟩⟩;have Sd:I≠x:=(aw EE nN).symm;have kN:=n0 IW nN Sd;have W6:I≠D:=(aw G9 nN).symm;have W7:I≠F:=(aw Hc nN).symm;have W8:I≠B:=(aw Hd nN).symm;have W9:I≠C:=(aw He nN).symm;have Xa:I≠z:=(aw Hf nN).symm;have Xb:I≠cl:=(aw J nN).symm;have g:=aq.upd (o:=.lst []) nN;have Od:upd Sb I (.lst []) I=some (.lst []):=ai;generalize upd Sb I (.lst [])=H16 at g Od ⊢;obtain⟨Se,Sf,m⟩:=st (f:="went") (v:=.ref I) (g _ _ EE) (λb o e n=>g _ _ (IW b o e n))
  have ef:bJ "went" (.ref I) Oc=eB (L:Int) 1 ⟨j,D,F,B,C,z,I,[],[wd],[gd],[cl]⟩:=by
   rw[<-WZ,<-WM,<-WG,<-e7,<-e4,<-e2]
   kernel_rfl
  rw[ef]at Se Sf m ⊢;refine k ⟨j,D,F,B,C,z,I,[],[wd],[gd],[cl]⟩ _ Sf ⟨Se,m _ _ G (g _ _ G9),m _ _ Z (g _ _ Hc),m _ _ EA (g _ _ Hd),m _ _ IQ (g _ _ He),m _ _ N9 (g _ _ Hf),m _ _ Sd Od,⟨rfl,(λi p d h=>by simp at h)⟩,?_,?_,?_,(λd hd=>by cases hd),?_,?_⟩ ?_
  ·exact Each.snoc (ps:=[]) (xs:=[]) ⟨rfl,λi p d h=>by simp at h⟩ (m _ _ q (g _ _ IY))
  ·exact Each.snoc (ps:=[]) (xs:=[]) ⟨rfl,λi p d h=>by simp at h⟩ (m _ _ u (g _ _ IZ))
  ·exact Each.snoc (ps:=[]) (xs:=[]) ⟨rfl,λi p d h=>by simp at h⟩ (m _ _ G8 (g _ _ J))
  ·show [D,F,B,C,z,I,cl].Nodup;simp only[ab0,abD,acd,adO,not_or,ac6,and_true,adL];exact⟨⟨Wz.symm,WC.symm,WH.symm,WT.symm,W6.symm,WN.symm⟩,⟨WD.symm,WK.symm,WU.symm,W7.symm,WO.symm⟩,⟨WL.symm,WV.symm,W8.symm,WQ.symm⟩,⟨WW.symm,W9.symm,WR.symm⟩,⟨Xa.symm,WX⟩,Xb⟩
  ·show [wd,gd].Nodup;simp only[ab0,abD,acd,adO,ac6,and_true,adL];exact WB.symm
  ·intro b hb;rcases hb with rfl|hb|hb
   ·exact .inl rfl
   ·simp only[RA.lists,abD,acd,adO]at hb;rcases hb with rfl|rfl|rfl|rfl|rfl|rfl|rfl <;> exact .inr (by assumption)
   ·simp only[RA.dQ,abx,abD,acd,adO]at hb;rcases hb with rfl|rfl <;> exact .inr (by assumption)
theorem _root_.L2.ax.zm (h:ax a H b S O){p:Addr}(c:H p=none):¬O.own b p:=λz=>by
 obtain⟨o,e⟩:=h.there z;rw[c]at e;cases e
theorem xO (T:Txt K mg A):bj P w K mg base (bF P w) 3 A.qQ A.qR ["self","room","step"] (Eu A.az):=by
 refine T.oV.F.okN pS (λvs H Q E h=>?_) (λcf AA outer s H vs Q E hr h=>?_)
 ·obtain⟨r,S,a,c,z,rfl,_⟩:=h;rfl
 ·obtain⟨r,S,a,c,z,rfl,h,hw,q8,tf,hc,hm,pU,hz,k⟩:=h
  refine⟨_,(ah (aZ (i:=3) pS.nd rfl (Or.inl rfl) (aF (pv 0) rfl))
   (ah (bY (pv 0) (aT dM (pv 3) ay) rfl)
   (ah (aV (cP abC abI abJ bN (aF (pv 0) rfl) (ae (cV (ae (m8 (l:=[110,101,119]) rfl) (ae (pv 1) (ae (pv 2) (ae (pv 3) aj))))) aj)))
   (ah (aV (cP abC abI abJ bN (aF (pv 0) rfl) (ae eS aj)))
   (ah (aV (cP abC abI abJ bN (aF (pv 0) rfl) (ae (bA (sZ T) hr.Za5 rfl T.iC.m T.iC.F.kp T.iC.b .nil aM (ae (aF (pv 0) rfl) aj)) aj)))
   (ah (aV (cP abC abI abJ bN (aF (pv 0) rfl) (ae (pv 3) aj)))
   (ah (aV (cP abC abI abJ bN (aF (pv 0) rfl) (ae (cD (ae (pv 3) aj)) aj)))
   (ah (aV (bB (pv 0) (aK T) T.jh.m (pT T) hr.Za5 T.jh.b .nil aM (ae (pv 1) (ae (pv 2) (ae (pv 3) aj)))))
   (au (bf (pv 3))))))))))),?_⟩
  refine Ga ?_;intro Sg IH AZ ti rh jn hH fv;refine⟨_,rfl,r,_,a.dx,_,_,rfl,h.ins,aK T,T.nZ,rP _ _ _,?_⟩;refine⟨_,rfl,_,_,rfl,rfl,_,rfl,r,_,a.dx,_,rfl,h.ins,aK T,T.nZ,(by show 8<1000;decide),?_⟩;rw[DG,show (S.made:Int)+ 1=((S.made+ 1:Nat):Int) by omega];have h1:=h.Kf (S.made+ 1);have u1:cJ a r H (upd H r (.ins A.az a.dx (eB S.L ((S.made+ 1:Nat):Int) a))):=cJ.upd (.inl rfl);generalize upd H r (.ins A.az a.dx (eB S.L ((S.made+ 1:Nat):Int) a))=H1 at h1 u1 ⊢;have lR:(a.rs.map V.ref).length<sizeLine:=by rw[abo,h.rR.1];exact abz pU (by decide)
  refine⟨_,rfl,r,_,a.dx,_,_,rfl,h1.ins,aK T,T.qX,rQ _ _ _,.inl ⟨rfl,_,aD.of h1.hR⟩,_,rfl,_,rfl,_,rfl,(Za4 4),λt ht=>⟨a.aR,_,_,rfl,rfl,aq.upd ht _ _ h1.hR,lR,?_⟩⟩;have s2:=aq.upd (o:=.tup [.str (tx [110,101,119]),.int c,.int z,.int S.made]) ht;have Sh:upd H1 t (.tup [.str (tx [110,101,119]),.int c,.int z,.int S.made]) t=some (.tup [.str (tx [110,101,119]),.int c,.int z,.int S.made]):=ai;generalize upd H1 t (.tup [.str (tx [110,101,119]),.int c,.int z,.int S.made])=H2 at s2 Sh ⊢
  have hd2:bS H2 4 (.ref t) (qd c z S.made):=by
   refine .t Sh rfl λj v d F J=>?_
   rcases j with _|_|_|_|j
   ·simp at F J;subst F J;exact .s
   ·simp at F J;subst F J;exact .i
   ·simp at F J;subst F J;exact .i
   ·simp at F J;subst F J;exact .i
   ·simp at F
  have nl:kU (qd c z S.made):=.t (by show 4<=100000;decide) λd hd=>by
   simp only[abD,acd,adO]at hd;rcases hd with rfl|rfl|rfl|rfl
   ·exact .s
   ·exact .i
   ·exact .i
   ·exact .i
  have R:=(h1.same s2).yG hd2 nl;have u3:cJ a r H2 (upd H2 a.aR (.lst (a.rs.map V.ref++[.ref t]))):=cJ.upd (.inr (.inl e8));generalize upd H2 a.aR (.lst (a.rs.map V.ref++[.ref t]))=H3 at R u3 ⊢;generalize Oe:({ a with rs:=a.rs++[t] }:RA)=n at R;have u:∀b,n.own r b->a.own r b:=λb f=>by rw[<-Oe]at f;exact f
  have aao:∀b,a.own r b->n.own r b:=λb f=>by rw[<-Oe];exact f
  have ewG:n.dx=a.dx:=by rw[<-Oe]
  have U3:cJ a r H H3:=u1.trans (λb o f e=>u3 b o f (s2 _ _ e));refine⟨_,rfl,r,_,n.dx,_,_,rfl,R.ins,aK T,T.g9,gC _ _ _,.inl ⟨rfl,_,aD.of R.hW⟩,?_⟩;intro wd C;have Xc:(n.ws.map V.ref).length<sizeLine:=by rw[abo,R.rW.1];show S.ways.length<sizeLine;rw[hw.w];exact abz hm (by decide)
  have s4:=aq.upd (o:=.dK []) C;have N:upd H3 wd (.dK []) wd=some (.dK (wK [])):=ai;have Vc:=R.zm C;refine⟨n.aW,_,_,rfl,rfl,s4 _ _ R.hW,Xc,?_⟩;generalize upd H3 wd (.dK [])=H4 at s4 N ⊢;have O:=(R.same s4).MQ N (λz=>Vc (.inr (.inr z)));have u5:cJ n r H4 (upd H4 n.aW (.lst (n.ws.map V.ref++[.ref wd]))):=cJ.upd (.inr (.inl e9));generalize upd H4 n.aW (.lst (n.ws.map V.ref++[.ref wd]))=H5 at O u5 ⊢;generalize Xd:({ n with ws:=n.ws++[wd] }:RA)=m at O
  have L:∀b,m.own r b->n.own r b\/b=wd:=λb f=>by
   rw[<-Xd]at f;rcases f with f|f|f
   ·exact .inl (.inl f)
   ·exact .inl (.inr (.inl f))
   ·simp only[RA.dQ,abx,abp]at f;rcases f with (f|f)|f
    ·exact .inl (.inr (.inr (abM _ f)))
    ·exact .inr f
    ·exact .inl (.inr (.inr (abv _ f)))
  have II:H wd=none\/a.own r wd:=by
   by_cases I:a.own r wd
   ·exact .inr I
   ·refine .inl ?_
    cases e:H wd with
    |none=>rfl
    |some o=>rw[U3 wd o I e]at C;cases C
  have U5:cJ a r H H5:=U3.trans λb o f e=>u5 b o (λz=>f (u b z)) (s4 _ _ e)
  refine⟨_,rfl,r,_,m.dx,_,_,rfl,O.ins,aK T,T.qY,rS _ _ _,.inl ⟨rfl,_,aD.of O.hG⟩,_,rfl,r,_,m.dx,_,_,rfl,O.ins,aK T,T.qW,uz _ _ _,S.L,rfl,q8,tf,λD H6 s6 Y Vd=>?_⟩;have Xe:(m.gs.map V.ref).length<sizeLine:=by rw[abo,O.rG.1];show S.gaps.length<sizeLine;rw[hw.g];exact abz hm (by decide)
  have h6:=O.same s6;have Ve:=O.zm Y;refine⟨m.aG,_,_,rfl,rfl,h6.hG,Xe,?_⟩;have h7:=h6.MR Vd (λz=>Ve (.inr (.inr z)));have u7:cJ m r H6 (upd H6 m.aG (.lst (m.gs.map V.ref++[.ref D]))):=cJ.upd (.inr (.inl hX));generalize upd H6 m.aG (.lst (m.gs.map V.ref++[.ref D]))=H7 at h7 u7 ⊢;generalize Xf:({ m with gs:=m.gs++[D] }:RA)=g at h7
  have M:∀b,g.own r b->m.own r b\/b=D:=λb f=>by
   rw[<-Xf]at f;rcases f with f|f|f
   ·exact .inl (.inl f)
   ·exact .inl (.inr (.inl f))
   ·simp only[RA.dQ,abx,abp]at f;rcases f with f|f|f
    ·exact .inl (.inr (.inr (abM _ f)))
    ·exact .inl (.inr (.inr (abv _ f)))
    ·exact .inr f
  have w5:H wd=none\/a.own r wd:=II
  have X:∀b o,¬a.own r b->H b=some o->¬m.own r b:=λb o f e z=>by
   rcases L b z with z|rfl
   ·exact f (u b z)
   ·rcases II with q|q
    ·rw[q]at e;cases e
    ·exact f q
  have U7:cJ a r H H7:=λb o f e=>u7 b o (X b o f e) (s6 _ _ (U5 b o f e))
  have N3:H D=none\/a.own r D:=by
   by_cases I:a.own r D
   ·exact .inr I
   ·refine .inl ?_
    cases e:H D with
    |none=>rfl
    |some o=>rw[U5 D o I e]at Y;cases Y
  refine⟨_,rfl,r,_,g.dx,_,_,rfl,h7.ins,aK T,T.iE,iK _ _ _,.inl ⟨rfl,_,aD.of h7.hE⟩,_,rfl,g.aE,_,_,rfl,rfl,h7.hE,?_,?_⟩
  ·rw[aI,b8];show S.aU.length<sizeLine;rw[hw.e];exact abz hm (by decide)
  have eE:ao (nI S.aU)++[V.int (S.made:Int)]=ao (nI (S.aU++[S.made])):=by rw[gY,ints_app];rfl
  show _;have G:=h7.wN (S.aU++[S.made]);rw[<-eE]at G;have u8:cJ g r H7 (upd H7 g.aE (.lst (ao (nI S.aU)++[V.int (S.made:Int)]))):=cJ.upd (.inr (.inl fE));generalize upd H7 g.aE (.lst (ao (nI S.aU)++[V.int (S.made:Int)]))=H8 at G u8 ⊢
  have x:∀b o,¬a.own r b->H b=some o->¬g.own r b:=λb o f e z=>by
   rcases M b z with z|rfl
   ·exact X b o f e z
   ·rcases N3 with q|q
    ·rw[q]at e;cases e
    ·exact f q
  have U8:cJ a r H H8:=λb o f e=>u8 b o (x b o f e) (U7 b o f e)
  refine⟨_,rfl,r,_,g.dx,_,_,rfl,G.ins,aK T,T.lI,lX _ _ _,.inl ⟨rfl,_,aD.of G.hC⟩,_,rfl,(Za4 1),λcl B=>⟨g.aC,_,_,rfl,rfl,aq.upd B _ _ G.hC,?_,?_⟩⟩
  ·rw[abo,G.rC.1];show S.called.length<sizeLine;rw[hw.c];exact abz hm (by decide)
  have s9:=aq.upd (o:=.lst [.int (S.made:Int)]) B;have U:upd H8 cl (.lst [.int (S.made:Int)]) cl=some (.lst (ao (nI [S.made]))):=ai;have Vf:=G.zm B;generalize upd H8 cl (.lst [.int (S.made:Int)])=H9 at s9 U ⊢;have Z:=(G.same s9).DH U (λz=>Vf (.inr (.inl z)));have Si:cJ g r H9 (upd H9 g.aC (.lst (g.cs.map V.ref++[.ref cl]))):=cJ.upd (.inr (.inl gF));generalize upd H9 g.aC (.lst (g.cs.map V.ref++[.ref cl]))=A0 at Z Si ⊢;generalize Vg:({ g with cs:=g.cs++[cl] }:RA)=p at Z
  have y:∀b,p.own r b->g.own r b\/b=cl:=λb f=>by
   rw[<-Vg]at f;rcases f with f|f|f
   ·exact .inl (.inl f)
   ·have I0:b∈g.lists++[cl]:=f;rcases abx.mp I0 with f|f
    ·exact .inl (.inr (.inl f))
    ·exact .inr (abp.mp f)
   ·exact .inl (.inr (.inr f))
  have N8:H cl=none\/a.own r cl:=by
   by_cases I:a.own r cl
   ·exact .inr I
   ·refine .inl ?_
    cases e:H cl with
    |none=>rfl
    |some o=>rw[U8 cl o I e]at B;cases B
  have Rb:∀b o,¬a.own r b->H b=some o->¬p.own r b:=λb o f e z=>by
   rcases y b z with z|rfl
   ·exact x b o f e z
   ·rcases N8 with q|q
    ·rw[q]at e;cases e
    ·exact f q
  have Xg:cJ a r H A0:=λb o f e=>Si b o (x b o f e) (s9 _ _ (U8 b o f e))
  have hS:ax A.az A0 r (S.grown c z (bz (2* S.L))) p:=Z;refine⟨_,rfl,r,p.dx,_,rfl,hS.ins,cw _ _ _ (by decide),_,rfl,_,rfl,_,rfl,r,S.grown c z (bz (2* S.L)),p,c,S.made,z,rfl,hS,⟨?_,?_,?_,?_⟩,?_,?_,?_,λN6 Xh Xi=>?_⟩
  ·show (S.ways++[[]]).length=S.made+ 1;rw[abj,hw.w];rfl
  ·show (S.gaps++[_]).length=S.made+ 1;rw[abj,hw.g];rfl
  ·show (S.aU++[_]).length=S.made+ 1;rw[abj,hw.e];rfl
  ·show (S.called++[_]).length=S.made+ 1;rw[abj,hw.c];rfl
  ·show c<S.made+ 1;omega
  ·show S.made<S.made+ 1;omega
  ·intro l hl;rcases abx.mp hl with hl|hl
   ·exact hz l hl
   ·rw[abp.mp hl];exact abS _
  ·refine⟨_,rfl,k p N6 (λb o f e=>Xh b o (Rb b o f e) (Xg b o f e)) Xi λb f=>?_⟩;rcases y b f with f|rfl
   ·rcases M b f with f|rfl
    ·rcases L b f with f|rfl
     ·exact .inl (u b f)
     ·exact II.symm
    ·exact N3.symm
   ·exact N8.symm
theorem ki (T:Txt K mg A):bj P w K mg base (bF P w) 1 A.lE A.lF ["self"] (vl A.az):=by
 refine T.fm.F.okN sk (λo H Q E h=>?_) (λt y j s H o Q E v h=>?_)
 ·obtain⟨r,S,a,rfl,_⟩:=h;rfl
 ·obtain⟨r,S,a,rfl,h,hw,n,k⟩:=h;refine⟨_,(au (bf (BU (fns:=["self"]) (ixs:=[0]) (cl:=_) rfl (iH rfl T.gJ (ae (aF (pv 0) rfl) aj)) (kl rfl rfl (by decide) rfl (by decide) rfl (by decide) (by decide) rfl rfl rfl rfl) (λC s H ex=>(bu i5 (bI (ju (K:=K) rfl) (Kh (K:=K) rfl (pv 1) rfl) (pv 0) (λ_ _=>rfl)) (pv 0) (bD _))) (λC s H ex=>(pv 0))))),?_⟩;refine⟨_,rfl,r,_,a.dx,_,_,rfl,h.ins,aK T,T.nZ,rP _ _ _,(S.made:Int),rfl,by omega,by omega,?_⟩;rw[ab2];refine⟨λi m ys l=>m=S.made - i/\i<=S.made/\ys=ao (nI ((List.range i).filter λc=>decide (S.aU[c]?=some c)))/\l=H,⟨S.made,by simp,abS _,rfl,rfl⟩,?_⟩;rintro i m ys l ⟨rfl,u,rfl,rfl⟩
  have hlen:(ao (nI ((List.range i).filter λc=>decide (S.aU[c]?=some c)))).length<=i:=by
   rw[aI,b8];exact abB (ad0 _ _) (by rw[abY];exact abr _)
  by_cases b:i<S.made
  ·refine .inr ⟨b,?_,λx B g=>?_⟩
   ·exact abz (abB hlen (show i<=100000 by omega)) (by decide)
   obtain⟨rfl,rfl⟩:=g;have f:S.aU[i]?=some (S.aU[i]'(by rw[hw.e];exact b)):=abm _
   generalize S.aU[i]'(by rw[hw.e];exact b)=e at f;refine⟨_,rfl,r,_,a.dx,_,_,rfl,h.ins,aK T,T.iE,iK _ _ _,_,rfl,a.aE,_,_,_,rfl,rfl,aD.of h.hE,(by rw[ada];exact cI (bV (ja f))),?_⟩;refine⟨_,rfl,rfl,_,rfl,?_⟩;by_cases d:e=i
   ·subst d;rw[show decide (V.int (e:Int)=V.int (0+ (e:Int)))=true from abX (by rw[ada])];refine⟨_,rfl,S.made - (e+ 1),by omega,rfl,b,?_,rfl⟩;rw[acY,List.filter_append,aeu (by rw[f];exact abX rfl),List.filter_nil,gY,ints_app,ada];rfl
   ·rw[show decide (V.int (e:Int)=V.int (0+ (i:Int)))=false from acj (λz=>d (by injection z with z;omega))];refine⟨S.made - (i+ 1),by omega,rfl,b,?_,rfl⟩;rw[acY,List.filter_append,List.filter_cons_of_neg (by rw[f];intro z;exact d (Za0 (ab9 z))),List.filter_nil,abO]
  ·have e:i=S.made:=by omega
   subst e;exact .inl ⟨abr _,abB hlen (abB n (by decide)),λD p=>k D p⟩
theorem oq (T:Txt K mg A):bj P w K mg base (bF P w) 5 A.pP A.pQ ["self"] (AY 2 A.az):=by
 refine T.gZ.F.okN vY (λvs H Q E h=>?_) (λcf AA M s H vs Q E J h=>?_)
 ·obtain⟨r,S,a,rfl,_⟩:=h;rfl
 ·obtain⟨r,S,a,rfl,h,I,u,k⟩:=h;refine⟨_,(au (bf (iz (fns:=[]) (ixs:=[]) (cl:=[]) rfl (cS (aF (pv 0) rfl)) (i7 (by decide) (by decide) rfl (by decide) rfl) (λC s H ex=>(bA (xu T) (J.mono (by decide)) rfl T.own.m T.own.F.kp T.own.b .nil aM (ae (pv 0) aj)))))),?_⟩;refine⟨_,rfl,r,_,a.dx,_,_,rfl,h.ins,aK T,T.qX,rQ _ _ _,a.aR,rfl,⟨_,aD.of h.hR⟩,?_⟩;have F:(a.rs.map V.ref).length=S.rows.length:=by rw[abo,h.rR.1]
  have o:∀i,i<S.rows.length->∃p d,a.rs[i]?=some p/\S.rows[i]?=some d/\d∈S.rows/\bS H 4 (.ref p) d:=λi f=>by
   have g:=abm f;obtain⟨p,n,q⟩:=h.rR.at g;exact⟨p,_,n,g,abn g,q⟩
  refine lY S.rows.length (λi=>(a.rs.map V.ref).getD i .non) (λb v i=>∃p d,v=.ref p/\S.rows[i]?=some d/\kU d/\bS b 4 (.ref p) d) (λH1 b v i s ⟨p,x,e,c,hn,q⟩=>⟨p,x,e,c,hn,q.same s⟩) ?_ (λi b s2 f=>kK (aD.of (s2 _ _ h.hR)) i (by omega)) (λi x b H3 s2 f y=>?_) (λb s2=>?_) (λi b Rr f s2 kk=>?_) (λD b ys s2 U R J=>?_)
  ·exact abB I (by decide)
  ·obtain⟨e,G⟩:=jr (aD.of (s2 _ _ h.hR)) i x H3 (by omega) y;refine⟨e,?_⟩;rw[abt,G];rfl
  ·have:=ip (aD.of (K:=K) (s2 _ _ h.hR));rw[F]at this;exact this
  ·obtain⟨p,d,n,g,j,q⟩:=o i f;have G:(a.rs.map V.ref).getD i .non=.ref p:=by rw[abt,aby,n];rfl
   have q1:=(u p d j q).same s2;rw[G];refine⟨_,rfl,.ref p,d,rfl,q1,h.flat d j,λv' H' s' N=>?_⟩
   have:∃B,v'=.ref B:=by
    have L:∃X,d=.t X:=by
     cases q with
     |t=>exact⟨_,rfl⟩
     |l=>exact absurd (h.flat _ j) (λz=>by cases z)
    obtain⟨X,rfl⟩:=L
    cases N with
    |t=>exact⟨_,rfl⟩
   obtain⟨B,rfl⟩:=this;exact kk _ H' s' ⟨B,d,rfl,g,h.flat d j,N.le (by decide)⟩
  ·obtain⟨Z,rfl,m⟩:=vS (P:=λi p=>∃d,S.rows[i]?=some d/\bS b 4 (.ref p) d) ys 0 (λi v hv=>by
    obtain⟨p,d,e,c,-,q⟩:=J i v hv;rw[ad7];exact⟨p,e,d,c,q⟩)
   have Y:aq b (upd b D (.lst (Z.map V.ref))):=aq.upd U;rw[abo]at R;refine k D Z _ (s2.trans Y) (s2.free U) ai ⟨R,λi p d e1 c=>?_⟩;obtain⟨d',O,q⟩:=m i p e1;rw[ad7]at O;obtain rfl:d'=d:=Za0 (O.symm.trans c);exact q.same Y
def cO (H:Hp)(p:Addr)(a:List Way):Prop:=∃b:List Addr,H p=some (.lst (b.map V.ref))/\Each (λq (w:Way)=>H q=some (.tup [.int (w.1:Int),.int w.2.1,.int (w.2.2:Int)])) b a
def oY (a:RA)(r p:Addr)(H c:Hp):Prop:=∀b o,¬a.own r b->b≠p->H b=some o->c b=some o
theorem cO.keep {c:List Way}(h:cO H a c)(k:∀o,H a=some o->I a=some o)(f:∀b d,H b=some (.tup d)->I b=some (.tup d)):cO I a c:=by
 obtain⟨g,i,j⟩:=h;exact⟨g,k _ i,j.imp λq w _ _ e=>f _ _ e⟩
structure Small (S:RS):Prop where
 m:S.made<=100000
 w:∀l∈S.ways,l.length<=100000
 r:S.rows.length<=1000000
 n:S.aY.length<=1000000
 c:∀l∈S.called,l.length<=1000000
inductive zo (C:Addr) (vs:List V) (H:Hp) (Q:VK) (E_:XK):Prop
 |mk (r p:Addr) (S:RS) (a:RA) (c:Nat) (pend:List Way):vs=[.ref r,.int c,.ref p]->ax C H r S a->S.Wf->c<S.made->BO S c->(∀l∈S.ways,l.length<=100000)->cO H p pend->¬a.own r p->pend.length<=1000000->(∀a' H',oY a r p H H'->ax C H' r (S.ni c pend).1 a'->cO H' p (S.ni c pend).2->(∀b,a'.own r b->a.own r b\/H b=none)->Q .non H')->zo C vs H Q E_
inductive A1 (C:Addr) (vs:List V) (H:Hp) (Q:VK) (E_:XK):Prop
 |mk (r p:Addr) (S:RS) (a:RA) (c x y:Nat) (z:Int) (pend:List Way):vs=[.ref r,.int c,.int z,.int x,.int y,.ref p]->ax C H r S a->S.Wf->x<S.made->y<S.made->x≠y->BO S (max x y)->(∀n∈S.b0 (max x y),n<S.made)->Small S->cO H p pend->¬a.own r p->pend.length<=1000000->(∀a' H',oY a r p H H'->ax C H' r (S.meet c z x y pend).1 a'->cO H' p (S.meet c z x y pend).2->(∀b,a'.own r b->a.own r b\/H b=none)->Q .non H')->A1 C vs H Q E_
structure vo (S:RS):Prop where
 wf:S.Wf
 el:∀c,c<S.made->S.av c<S.made
 bl:∀c z d,S.by c z=some d->d<S.made
 cl:∀c,∀n∈S.b0 c,n<S.made
 off:∀c,c<S.made->BO S c
 sm:Small S
inductive zp (C:Addr) (vs:List V) (H:Hp) (Q:VK) (E_:XK):Prop
 |mk (r t p:Addr) (S:RS) (a:RA) (w:Way) (pend:List Way):vs=[.ref r,.ref t,.ref p]->ax C H r S a->H t=some (.tup [.int (w.1:Int),.int w.2.1,.int (w.2.2:Int)])->vo S->w.1<S.made->w.2.2<S.made->cO H p pend->¬a.own r p->pend.length<=1000000->(∀a' H',oY a r p H H'->ax C H' r (S.takeIn pend w).1 a'->cO H' p (S.takeIn pend w).2->(∀b,a'.own r b->a.own r b\/H b=none)->Q .non H')->zp C vs H Q E_
inductive I7 (C:Addr) (vs:List V) (H:Hp) (Q:VK) (E_:XK):Prop
 |mk (r q:Addr) (S:RS) (a:RA) (c d:Nat) (z:Int) (row:Dt) (I:RS->List Way->Prop) (μ:RS->List Way->Nat):vs=[.ref r,.int c,.int z,.int d,.ref q]->ax C H r S a->S.rows.length<=1000000->bS H 2 (.ref q) row->kU row->I { S with rows:=S.rows++[row] } [(c,z,d)]->(∀S pend w,I S (pend++[w])->vo S/\w.1<S.made/\w.2.2<S.made/\pend.length<=1000000/\I (S.takeIn pend w).1 (S.takeIn pend w).2/\μ (S.takeIn pend w).1 (S.takeIn pend w).2 < μ S (pend++[w]))->(∀S' a' H',cJ a r H H'->ax C H' r S' a'->I S' []->(∀b,a'.own r b->a.own r b\/H b=none)->Q .non H')->I7 C vs H Q E_
theorem r6 (h:i<n):uo n (i:Int)=some i:=by
 unfold uo;rw[abN (by omega),abN (by omega),ab2]
theorem Hg {l:List (Int×Nat)}(a:(l.map (·.1)).Nodup){q:Int×Nat}(h:q∈l):eA l q.1=some q.2:=by
 induction l with
 |nil=>cases h
 |cons p l b=>
  unfold eA;rw[acg,ab0]at a;by_cases e:p.1=q.1
  ·rw[aex (by exact abX e)];rcases abD.mp h with rfl|h
   ·rfl
   ·exact absurd (by rw[e];exact adp h) a.1
  ·rw[adT (by simpa using e)];rcases abD.mp h with rfl|h
   ·exact absurd rfl e
   ·exact b a.2 h
theorem tW (T:Txt K mg A):bj P w K mg base (bF P w) 1 A.mH A.mI ["self","room","pending"] (zo A.az):=by
 refine T.j9.F.okN fJ (λvs H Q E h=>?_) (λcf AA outer s H vs Q E hr h=>?_)
 ·obtain⟨r,p,S,a,c,d,rfl,_⟩:=h;rfl
 ·obtain⟨r,p,S,a,c,d,rfl,h,hw,hc,ok,sm,hP,np,ot,k⟩:=h;have pk:=hO hr
  refine⟨_,(ah (aZ (i:=3) fJ.nd rfl (Or.inl rfl) (bI bL (aF (pv 0) rfl) (pv 1) (λ_ _=>rfl)))
   (ah (p7 eS (ug (aF (pv 0) rfl) (pv 1) set_list))
   (au (cz abQ rfl (cS (dc (jb rfl) rfl T.g6 acA (ae (pv 3) aj))) (bK (i:=4) fJ.nd rfl (Or.inl rfl))
    (ah (aZ (i:=5) fJ.nd rfl (Or.inl rfl) (rL pk (pv 3) (pv 4) (λ_ _=>rfl)))
    (ah (cC (bO (bu oD (pv 5) (pv 1) (bD _))
     (au (aV (F0 (bI bL (aF (pv 0) rfl) (pv 5) (λ_ _=>rfl)) (fB dW (pv 4)) ⟨rfl,rfl,rfl,rfl⟩)))
     bq))
    (au (aV (cP abC abI abJ bN (pv 2) (ae (cV (ae (pv 1) (ae (pv 4) (ae (pv 5) aj)))) aj)))))))))),?_⟩
  refine cX ?_;intro hH fv;have Og:c<S.ways.length:=by rw[hw.w];exact hc
  obtain⟨wd,y,Sj⟩:=h.rW.at (om Og);have hl0:(S.way c).length<=100000:=zl sm;refine⟨_,rfl,r,_,a.dx,_,_,rfl,h.ins,aK T,T.g9,gC _ _ _,_,rfl,a.aW,_,_,_,rfl,rfl,aD.of h.hW,cG y,?_⟩;intro J B;have s1:=aq.upd (o:=.dK []) B;have O:upd H J (.dK []) J=some (.dK (wK [])):=ai;have nn:=h.zm B;have nnp:J≠p:=λz=>by obtain⟨R,C,_⟩:=hP;rw[<-z,B]at C;cases C
  generalize upd H J (.dK [])=H1 at s1 O ⊢;have h1:=h.same s1;have hi:c<a.ws.length:=by rw[h.rW.1];exact Og
  refine⟨_,rfl,r,_,a.dx,_,_,rfl,h1.ins,aK T,T.g9,gC _ _ _,_,rfl,a.aW,_,_,c,rfl,rfl,h1.hW,r6 (by rw[abo];exact hi),?_⟩;have h2:=h1.MT hi O (λz=>nn (.inr (.inr z)));have u2:∀b o,b≠a.aW->H1 b=some o->upd H1 a.aW (.lst ((a.ws.map V.ref).set c (.ref J))) b=some o:=λb o v e=>by rw[ak v];exact e
  generalize upd H1 a.aW (.lst ((a.ws.map V.ref).set c (.ref J)))=H2 at h2 u2 ⊢;have Xj:p≠a.aW:=λz=>np (.inr (.inl (by rw[z];exact e9)))
  have Xk:wd≠a.aW:=(h.ld e9 (cW (abn y))).symm;have u:H2 wd=some (.dK (wK (S.way c))):=u2 _ _ Xk (s1 _ _ Sj);generalize A2:({ a with ws:=a.ws.set c J }:RA)=a2 at h2;have Ib:ax A.az H2 r (cE c S d []).1 a2:=h2
  have Vh:¬a2.own r wd:=λz=>by
   rw[<-A2]at z;rcases z with z|z|z
   ·exact(h.rd (cW (abn y))) z.symm
   ·exact h.ld z (cW (abn y)) rfl
   ·have Sl:=ab5.mp h.kX;have z':wd∈a.ws.set c J++a.gs:=z;rcases abx.mp z' with z|z
    ·obtain⟨j,X⟩:=aco z;by_cases e:c=j
     ·subst e;rw[acm hi]at X;have:J=wd:=Za0 X;rw[this,Sj]at B;cases B
     ·rw[acZ e]at X;exact e ((aeG hi Sl.1).mp (y.trans X.symm))
    ·exact Sl.2.2 wd (abn y) wd z rfl
  have G:∀b,a2.own r b->a.own r b\/H b=none:=λb g=>by
   rw[<-A2]at g;rcases g with g|g|g
   ·exact .inl (.inl g)
   ·exact .inl (.inr (.inl g))
   ·have I0:b∈a.ws.set c J++a.gs:=g;rcases abx.mp I0 with g|g
    ·rcases adC g with g|rfl
     ·exact .inl (.inr (.inr (abM _ g)))
     ·exact .inr B
    ·exact .inl (.inr (.inr (abv _ g)))
  have pV:¬a2.own r p:=λz=>by
   rcases G p z with q|q
   ·exact np q
   ·obtain⟨R,C,_⟩:=hP;rw[q]at C;cases C
  have DC:cO H2 p (cE c S d []).2:=hP.keep (λo e=>u2 _ _ Xj (s1 _ _ e)) (λb Y e=>u2 _ _ (h.tl e e9) (s1 _ _ e));have B2:oY a r p H H2:=λb o v _ e=>u2 _ _ (λz=>v (.inr (.inl (by rw[z];exact e9)))) (s1 _ _ e)
  refine⟨_,rfl,wd,_,rfl,u,λl nl=>?_⟩;have s3:=aq.upd (o:=.lst ((wK (S.way c)).map λD=>kV D.1)) nl;have Oh:upd H2 l (.lst ((wK (S.way c)).map λD=>kV D.1)) l=some (.lst ((wK (S.way c)).map λD=>kV D.1)):=ai;have Sn:=Ib.zm nl;have Sq:l≠p:=λz=>by obtain⟨R,C,_⟩:=DC;rw[<-z,nl]at C;cases C
  have nlw:l≠wd:=λz=>by rw[z,u]at nl;cases nl
  have Sr:H l=none\/a.own r l:=by
   by_cases ho:a.own r l
   ·exact .inr ho
   ·refine .inl ?_
    cases e:H l with
    |none=>rfl
    |some o=>rw[B2 l o ho Sq e]at nl;cases nl
  generalize upd H2 l (.lst ((wK (S.way c)).map λD=>kV D.1))=H3 at s3 Oh ⊢;refine⟨l,rfl,⟨_,aD.of Oh⟩,?_⟩;have hlen:((wK (S.way c)).map λD=>kV D.1).length=(S.way c).length:=by rw[abo,yE]
  refine eR (xs:=(wK (S.way c)).map λD=>kV D.1) (λi σ U=>∃v4 v5,σ=[some (.ref r),some (.int (c:Int)),some (.ref p),some (.ref wd),v4,v5]/\ax A.az U r (cE c S d ((S.way c).take i)).1 a2/\cO U p (cE c S d ((S.way c).take i)).2/\(∀b o,¬a2.own r b->b≠p->H3 b=some o->U b=some o)) ⟨none,none,rfl,Ib.same s3,DC.keep (λo e=>s3 _ _ e) (λb Y e=>s3 _ _ e),λb o _ _ e=>e⟩ (λi σ U _ ⟨_,_,_,_,_,kk⟩=>aD.of (kk _ _ Sn Sq Oh)) ?_ ?_
  ·rintro i x σ U hx ⟨v4,v5,rfl,L,F,kk⟩;have M:i<(S.way c).length:=by rw[<-hlen];exact(abk.mp hx).1
   have hg:(S.way c)[i]?=some ((S.way c)[i]'M):=abm M
   generalize (S.way c)[i]'M=w at hg
   have ex:x=.int w.1:=by
    unfold wK at hx;rw[aby,aby,hg]at hx;exact(Za0 hx).symm
   subst ex;have hm:=abn hg;have EF:(S.way c).take (i+ 1)=(S.way c).take i++[w]:=by rw[adj,hg];rfl
   have Vi:U wd=some (.dK (wK (S.way c))):=kk _ _ Vh (λz=>by obtain⟨R,C,_⟩:=DC;rw[<-z,u]at C;cases C) (s3 _ _ u);have hv:bp (wK (S.way c)) (Sum.inl w.1)=some (.int (w.2:Int)):=by rw[jO,Hg ok.nd hm];rfl
   have qc:=ok.lt w hm;have Xl:=(fz c S d ((S.way c).take i)).1;refine⟨_,rfl,_,rfl,wd,_,rfl,(by have:=dX.k (k:=Sum.inl w.1) Vi;rw[hv]at this;exact this),?_⟩;refine⟨λ iG H'=>iG=[some (.ref r),some (.int (c:Int)),some (.ref p),some (.ref wd),some (.int w.1),some (.int (w.2:Int))]/\ax A.az H' r (cE c S d ((S.way c).take (i+ 1))).1 a2/\cO H' p (cE c S d ((S.way c).take i)).2/\(∀b o,¬a2.own r b->b≠p->H3 b=some o->H' b=some o),?_,?_⟩
   ·refine⟨_,rfl,_,rfl,rfl,_,rfl,dH (λN=>?_) (λN=>?_)⟩
    ·have f:w.2≠c:=λz=>by rw[z]at N;simp at N
     have hd2:w.2<(cE c S d ((S.way c).take i)).1.ways.length:=by rw[Xl,hw.w];exact qc
     obtain⟨pd,I,Ss⟩:=L.rW.at (om hd2)
     have Xm:((cE c S d ((S.way c).take i)).1.by w.2 (-w.1)).isSome=true:=by
      rw[vT Og _ (λq hq=>by rw[hw.w];exact ok.lt q (List.mem_of_mem_take hq)),abH]
      ·exact ok.bk w hm f
      ·rintro (q|⟨q,hq,C,q2⟩)
       ·exact f q
       ·obtain⟨j,X⟩:=aco hq
        have Xn:j<i:=by
         have:=(abk.mp X).1;rw[abZ]at this;omega
        rw[aek Xn]at X;have e1:((S.way c).map (·.1))[j]?=some q.1:=by rw[aby,X];rfl
        have e2:((S.way c).map (·.1))[i]?=some w.1:=by rw[aby,hg];rfl
        have e3:q.1=w.1:=by omega
        rw[e3]at e1;have:=(aeG (by rw[abo];exact M) ok.nd).mp (e2.trans e1.symm);omega
     obtain⟨m,EG⟩:=aej.mp Xm;refine⟨_,rfl,r,_,a2.dx,_,_,rfl,L.ins,aK T,T.g9,gC _ _ _,_,rfl,a2.aW,_,_,_,rfl,rfl,aD.of L.hW,cG I,pd,rfl,.inl ⟨_,.inl Ss⟩,_,rfl,_,rfl,_,Sum.inl (-w.1),.int (m:Int),Ss,rfl,?_,?_⟩
     ·rw[jO];show ((cE c S d ((S.way c).take i)).1.by w.2 (-w.1)).map _=_;rw[EG];rfl
     ·rw[Ki];refine⟨rfl,?_,F.keep (λo e=>?_) (λb Y e=>?_),λb o v n e=>?_⟩
      ·rw[EF,gk];unfold iN;simp only[f,aeP,adL,ne_eq];exact L.yH I _
      ·rw[ak (λz=>pV (.inr (.inr (cW (by rw[z];exact abn I)))))];exact e
      ·rw[ak (L.td e (cW (abn I)))];exact e
      ·rw[ak (λz=>v (.inr (.inr (cW (by rw[z];exact abn I)))))];exact kk b o v n e
    ·have f:w.2=c:=by
      by_cases e:w.2=c
      ·exact e
      ·exact absurd (by simp;omega) N
     refine⟨rfl,?_,F,kk⟩;rw[EF,gk];unfold iN;simp only[f,ne_eq,not_true_eq_false,aea];exact L
   rintro iG H5 ⟨rfl,h5,Xo,Xp⟩;obtain⟨R,EH,I8⟩:=Xo
   have Sv:(R.map V.ref).length<sizeLine:=by
    rw[abo,I8.1,wO,abj,abo,abZ];exact abz (show _<=1100000 by omega) (by decide)
   refine⟨_,rfl,.inl ⟨rfl,_,aD.of EH⟩,_,rfl,_,rfl,_,rfl,(Za4 3),λt nt=>?_⟩;have s6:=aq.upd (o:=.tup [.int (c:Int),.int w.1,.int (w.2:Int)]) nt;have A3:upd H5 t (.tup [.int (c:Int),.int w.1,.int (w.2:Int)]) t=some (.tup [.int (c:Int),.int w.1,.int (w.2:Int)]):=ai;generalize upd H5 t (.tup [.int (c:Int),.int w.1,.int (w.2:Int)])=H6 at s6 A3 ⊢;refine⟨p,_,_,rfl,rfl,s6 _ _ EH,Sv,?_⟩;have kp:∀b o,b≠p->H6 b=some o->upd H6 p (.lst (R.map V.ref++[.ref t])) b=some o:=λb o v e=>by rw[ak v];exact e
   have Z:∀b Y,H6 b=some (.tup Y)->upd H6 p (.lst (R.map V.ref++[.ref t])) b=some (.tup Y):=λb Y e=>kp _ _ (bW e (s6 _ _ EH) (by intro z;cases z)) e
   refine⟨_,_,rfl,(h5.same s6).keep (λb o g e=>kp b o (λz=>pV (z ▸ g)) e) Z,⟨R++[t],?_,?_⟩,λb o v n e=>kp b o n (s6 _ _ (Xp b o v n e))⟩
   ·rw[ai,abU];rfl
   ·rw[EF,gk];exact(I8.imp λq w' _ _ e=>Z _ _ (s6 _ _ e)).snoc (Z _ _ A3)
  ·rintro σ U ⟨v4,v5,rfl,L,F,kk⟩;rw[hlen,acN]at L F;refine k a2 U (λb o v n e=>?_) L F G;have e2:=B2 b o v n e;exact kk b o (λz=>by rcases G b z with q|q;exact v q;rw[q]at e;cases e) n (s3 _ _ e2)
theorem vp (h:n<S.called.length):S.called[n]?=some (S.b0 n):=by unfold RS.b0;rw[abt,abm h];rfl
theorem ou (h:n<S.aU.length):S.aU[n]?=some (S.av n):=by unfold RS.av;rw[abt,abm h];rfl
theorem EI (h:∀l∈S.called,l.length<=m):(S.b0 n).length<=m:=by
 unfold RS.b0;rw[abt]
 cases e:S.called[n]? with
 |none=>exact abS _
 |some l=>exact h l (abn e)
theorem tX (x:Nat):∀(l a:List Nat),(l.foldl (λa n=>a.set n x) a).length=a.length
 |[],_=>rfl
 |n::l,a=>by rw[List.foldl_cons,tX x l,abP]
theorem ints_set (ns:List Int)(i:Nat)(z:Int):(ao ns).set i (.int z)=ao (ns.set i z):=by
 unfold ao;rw[List.map_set]
theorem iX (T:Txt K mg A):bj P w K mg base (bF P w) 2 A.jd A.je ["self","room","step","one","other","pending"] (A1 A.az):=by
 refine T.dC.F.okN dE (λvs H Q E h=>?_) (λcf AA outer s H vs Q E hr h=>?_)
 ·obtain⟨r,p,S,a,c,x,y,z,f,rfl,_⟩:=h;rfl
 ·obtain⟨r,p,S,a,c,x,y,z,f,rfl,h,hw,hx,hy,V4,ok,xA,sm,hP,np,ot,k⟩:=h
  refine⟨_,(ah (aZ (i:=6) dE.nd rfl (Or.inl rfl) (bx (CW rfl) rfl T.Q5 PyProof.Rows.boot_min (ae (pv 3) (ae (pv 4) aj))))
   (ah (aZ (i:=7) dE.nd rfl (Or.inl rfl) (bx (CV rfl) rfl T.Q6 PyProof.Rows.boot_max (ae (pv 3) (ae (pv 4) aj))))
   (ah (aV (cP abC abI abJ bN (aF (pv 0) rfl) (ae (cV (ae (m8 (l:=[109,101,101,116]) rfl) (ae (pv 1) (ae (pv 2) (ae (pv 6) (ae (pv 7) aj)))))) aj)))
   (ah (aV (cP abC abI abJ bN (aF (pv 0) rfl) (ae (pv 7) aj)))
   (ah (cz abQ rfl (cS (bI bL (aF (pv 0) rfl) (pv 7) (λ_ _=>rfl))) (bK (i:=8) dE.nd rfl (Or.inl rfl))
    (au (p7 (pv 6) (ug (aF (pv 0) rfl) (pv 8) set_list))))
   (ah (aV (cP abC PySem.F.slot_list_extend PySem.F.type_list_extend wC (bI bL (aF (pv 0) rfl) (pv 6) (λ_ _=>rfl)) (ae (bI bL (aF (pv 0) rfl) (pv 7) (λ_ _=>rfl)) aj)))
   (au (aV (bB (pv 0) (aK T) T.j9.m (tW T) hr.Za5 T.j9.b .nil aM (ae (pv 7) (ae (pv 5) aj))))))))))),?_⟩
  refine tN ?_;intro AZ ti rh jn hH fv;have C:(if (y:Int)<(x:Int) then (y:Int) else (x:Int))=((min x y:Nat):Int):=by split <;> omega
  have D:(if (y:Int) > (x:Int) then (y:Int) else (x:Int))=((max x y:Nat):Int):=by split <;> omega
  have Sw:min x y<max x y:=by omega
  have I:max x y<S.made:=by omega
  generalize ev:min x y=u at C Sw;have ek:∀Y O,oY a r p H O->ax A.az O r ((S.joined c z u (max x y)).ni (max x y) f).1 Y->cO O p ((S.joined c z u (max x y)).ni (max x y) f).2->(∀b,Y.own r b->a.own r b\/H b=none)->Q .non O:=λY O h1 L N g=>k Y O h1 (by unfold RS.meet;rw[ev];exact L) (by unfold RS.meet;rw[ev];exact N) g
  clear k;generalize max x y=v at D Sw I ok xA ek;refine⟨_,rfl,_,rfl,_,_,rfl,?_⟩;rw[C];refine⟨_,rfl,_,rfl,_,_,rfl,?_⟩;rw[D];have lR:(a.rs.map V.ref).length<sizeLine:=by rw[abo,h.rR.1];exact abz sm.r (by decide)
  refine⟨_,rfl,r,_,a.dx,_,_,rfl,h.ins,aK T,T.qX,rQ _ _ _,.inl ⟨rfl,_,aD.of h.hR⟩,_,rfl,_,rfl,_,rfl,_,rfl,(Za4 5),λt nt=>⟨a.aR,_,_,rfl,rfl,aq.upd nt _ _ h.hR,lR,?_⟩⟩;have s1:=aq.upd (o:=.tup [.str (tx [109,101,101,116]),.int (c:Int),.int z,.int (u:Int),.int (v:Int)]) nt;have Sx:upd H t (.tup [.str (tx [109,101,101,116]),.int (c:Int),.int z,.int (u:Int),.int (v:Int)]) t=some (.tup [.str (tx [109,101,101,116]),.int (c:Int),.int z,.int (u:Int),.int (v:Int)]):=ai;generalize upd H t (.tup [.str (tx [109,101,101,116]),.int (c:Int),.int z,.int (u:Int),.int (v:Int)])=H1 at s1 Sx ⊢
  have MJ:bS H1 4 (.ref t) (fP c z u v):=by
   refine .t Sx rfl λj w d C D=>?_
   rcases j with _|_|_|_|_|j
   ·simp at C D;subst C D;exact .s
   ·simp at C D;subst C D;exact .i
   ·simp at C D;subst C D;exact .i
   ·simp at C D;subst C D;exact .i
   ·simp at C D;subst C D;exact .i
   ·simp at C
  have nl:kU (fP c z u v):=.t (by show 5<=100000;decide) λd hd=>by
   simp only[abD,acd,adO]at hd;rcases hd with rfl|rfl|rfl|rfl|rfl
   ·exact .s
   ·exact .i
   ·exact .i
   ·exact .i
   ·exact .i
  have L:=(h.same s1).yG MJ nl;have B2:oY a r p H (upd H1 a.aR (.lst (a.rs.map V.ref++[.ref t]))):=λb o F _ e=>by rw[ak (λz=>F (.inr (.inl (by rw[z];exact e8))))];exact s1 _ _ e
  have Xq:∀{b},b∈a.lists->p≠b:=λhb z=>np (.inr (.inl (by rw[z];exact hb)))
  have P2:cO (upd H1 a.aR (.lst (a.rs.map V.ref++[.ref t]))) p f:=hP.keep (λo e=>by rw[ak (Xq e8)];exact s1 _ _ e) (λb xs e=>by rw[ak (h.tl e e8)];exact s1 _ _ e);generalize upd H1 a.aR (.lst (a.rs.map V.ref++[.ref t]))=H2 at L B2 P2 ⊢;generalize A2:({ a with rs:=a.rs++[t] }:RA)=a2 at L;have eo:∀b,a2.own r b↔a.own r b:=λb=>by rw[<-A2];exact Iff.rfl
  have pV:¬a2.own r p:=λz=>np ((eo p).mp z)
  have G:∀{b},b∈a2.lists->p≠b:=λhb z=>pV (.inr (.inl (by rw[z];exact hb)))
  have lN:(ao (nI S.aY)).length<sizeLine:=by rw[aI,b8];exact abz sm.n (by decide)
  refine⟨_,rfl,r,_,a2.dx,_,_,rfl,L.ins,aK T,T.qZ,rT _ _ _,.inl ⟨rfl,_,aD.of L.hN⟩,_,rfl,a2.aN,_,_,rfl,rfl,L.hN,lN,?_⟩;have eN:ao (nI S.aY)++[V.int (v:Int)]=ao (nI (S.aY++[v])):=by rw[gY,ints_app];rfl
  have N:=L.Kg (S.aY++[v]);rw[<-eN]at N;have B3:oY a r p H (upd H2 a2.aN (.lst (ao (nI S.aY)++[V.int (v:Int)]))):=λb o F B e=>by rw[ak (λz=>F ((eo b).mp (.inr (.inl (by rw[z];exact fY)))))];exact B2 b o F B e
  have P3:cO (upd H2 a2.aN (.lst (ao (nI S.aY)++[V.int (v:Int)]))) p f:=P2.keep (λo e=>by rw[ak (G fY)];exact e) (λb xs e=>by rw[ak (L.tl e fY)];exact e);show _;generalize upd H2 a2.aN (.lst (ao (nI S.aY)++[V.int (v:Int)]))=H3 at N B3 P3 ⊢;obtain⟨pv,J,Xr⟩:=N.rC.at (show S.called[v]?=some (S.b0 v) from vp (by rw[hw.c];exact I));have Xs:=abn J;refine⟨_,rfl,r,_,a2.dx,_,_,rfl,N.ins,aK T,T.lI,lX _ _ _,_,rfl,a2.aC,_,_,_,rfl,rfl,aD.of N.hC,cG J,pv,rfl,⟨_,aD.of Xr⟩,?_⟩;obtain⟨-,-,-,-,-,nc⟩:=uA N.gO;have npE:pv≠a2.aE:=(nc pv Xs).2.2.2.1;refine eR (xs:=ao (nI (S.b0 v))) (λi σ M=>∃v8,σ=[some (.ref r),some (.int (c:Int)),some (.int z),some (.int (x:Int)),some (.int (y:Int)),some (.ref p),some (.int (u:Int)),some (.int (v:Int)),v8]/\ax A.az M r { S with rows:=S.rows++[fP c z u v],aY:=S.aY++[v],aU:=((S.b0 v).take i).foldl (λU n=>U.set n u) S.aU } a2/\oY a r p H M/\cO M p f) ⟨none,rfl,N,B3,P3⟩ (λi σ M _ ⟨_,_,g,_,_⟩=>aD.of (g.rC.2 v pv _ J (show S.called[v]?=some (S.b0 v) from vp (by rw[hw.c];exact I)))) ?_ ?_
  ·rintro i w σ M Xt ⟨v8,rfl,g,B4,P4⟩;obtain⟨m,rfl,Z⟩:=cq Xt;unfold nI at Z;rw[aby]at Z
   cases hn:(S.b0 v)[i]? with
   |none=>rw[hn]at Z;cases Z
   |some n=>
    rw[hn]at Z;obtain rfl:(n:Int)=m:=Za0 Z;have Oi:=xA n (abn hn);have Du:(((S.b0 v).take i).foldl (λU n=>U.set n u) S.aU).length=S.made:=by rw[tX,hw.e]
    refine⟨_,rfl,_,rfl,r,_,a2.dx,_,_,rfl,g.ins,aK T,T.iE,iK _ _ _,_,rfl,a2.aE,_,_,n,rfl,rfl,g.hE,r6 (by rw[aI,b8,Du];exact Oi),?_⟩;rw[ints_set,ML];have h5:=g.wN ((((S.b0 v).take i).foldl (λU n=>U.set n u) S.aU).set n u);refine⟨_,rfl,?_,λb o F B e=>?_,P4.keep (λo e=>?_) (λb xs e=>?_)⟩
    ·have EF:(S.b0 v).take (i+ 1)=(S.b0 v).take i++[n]:=by rw[adj,hn];rfl
     rw[EF,aeE];exact h5
    ·rw[ak (λz=>F ((eo b).mp (.inr (.inl (by rw[z];exact fE)))))];exact B4 b o F B e
    ·rw[ak (G fE)];exact e
    ·rw[ak (g.tl e fE)];exact e
  ·rintro σ M ⟨v8,rfl,g,B4,P4⟩;rw[aI,b8,acN]at g;have zq:u<S.called.length:=by rw[hw.c];omega
   have Xu:v<S.called.length:=by rw[hw.c];exact I
   obtain⟨pu,X,Sy⟩:=g.rC.at (show S.called[u]?=some (S.b0 u) from vp zq);have Vj:=g.rC.2 v pv _ J (show S.called[v]?=some (S.b0 v) from vp Xu);have b1:(S.b0 u).length<=1000000:=EI sm.c;have b2:(S.b0 v).length<=1000000:=EI sm.c;refine⟨_,rfl,r,_,a2.dx,_,_,rfl,g.ins,aK T,T.lI,lX _ _ _,_,rfl,a2.aC,_,_,_,rfl,rfl,aD.of g.hC,cG X,.inl ⟨rfl,_,aD.of Sy⟩,?_⟩;refine⟨_,rfl,r,_,a2.dx,_,_,rfl,g.ins,aK T,T.lI,lX _ _ _,_,rfl,a2.aC,_,_,_,rfl,rfl,aD.of g.hC,cG J,pu,pv,_,_,rfl,rfl,Sy,Vj,?_,?_⟩
   ·rw[aI,aI,b8,b8];exact abB (show _<=2000000 by omega) (by decide)
   have eC:ao (nI (S.b0 u))++ao (nI (S.b0 v))=ao (nI (S.b0 u++S.b0 v)):=by rw[gY,ints_app]
   rw[eC];have h5:=g.DJ X (S.b0 u++S.b0 v);have R:=fe (abn X);have B5:oY a r p H (upd M pu (.lst (ao (nI (S.b0 u++S.b0 v))))):=λb o F B e=>by rw[ak (λz=>F ((eo b).mp (.inr (.inl (by rw[z];exact R)))))];exact B4 b o F B e
   have P5:cO (upd M pu (.lst (ao (nI (S.b0 u++S.b0 v))))) p f:=P4.keep (λo e=>by rw[ak (G R)];exact e) (λb xs e=>by rw[ak (g.tl e R)];exact e);generalize upd M pu (.lst (ao (nI (S.b0 u++S.b0 v))))=H5 at h5 B5 P5 ⊢;have Sz:ax A.az H5 r (S.joined c z u v) a2:=h5;refine⟨_,rfl,r,a2.dx,_,rfl,Sz.ins,cw _ _ _ (by decide),_,rfl,_,rfl,r,p,S.joined c z u v,a2,v,f,rfl,Sz,⟨hw.w,hw.g,?_,?_⟩,I,⟨ok.nd,ok.lt,ok.bk⟩,sm.w,P5,pV,ot,λY O b' r' p' o'=>ek Y O (λb o F B e=>b' b o (λz=>F ((eo b).mp z)) B (B5 b o F B e)) r' p' (λb hb=>?_)⟩
   ·show ((S.b0 v).foldl (λU n=>U.set n u) S.aU).length=S.made;rw[tX];exact hw.e
   ·show (S.called.set u (S.b0 u++S.b0 v)).length=S.made;rw[abP];exact hw.c
   ·rcases o' b hb with q|q
    ·exact .inl ((eo b).mp q)
    ·by_cases ho:a.own r b
     ·exact .inl ho
     ·refine .inr ?_
      cases e:H b with
      |none=>rfl
      |some o=>
       by_cases SD:b=p
       ·obtain⟨qs,q1,_⟩:=P5;rw[SD,q1]at q;cases q
       ·rw[B5 b o ho SD e]at q;cases q
theorem tY (T:Txt K mg A):bj P w K mg base (bF P w) 3 A.mF A.mG ["self","way","pending"] (zp A.az):=by
 refine T.j8.F.okN dv (λvs H Q E h=>?_) (λcf AA outer s H vs Q E M h=>?_)
 ·obtain⟨r,t,p,S,a,w,j,rfl,_⟩:=h;rfl
 ·obtain⟨r,t,p,S,a,w,j,rfl,h,ht,ok,x,B,Y,X,C,k⟩:=h;have G:=hO M
  refine⟨_,(ah (aZ (i:=3) dv.nd rfl (Or.inl rfl) (bI bL (aF (pv 0) rfl) (bI gj (pv 1) ay (λ_ _=>rfl)) (λ_ _=>rfl)))
   (ah (aZ (i:=4) dv.nd rfl (Or.inl rfl) (bI gj (pv 1) ay (λ_ _=>rfl)))
   (ah (aZ (i:=5) dv.nd rfl (Or.inl rfl) (bI bL (aF (pv 0) rfl) (bI gj (pv 1) ay (λ_ _=>rfl)) (λ_ _=>rfl)))
   (ah (aZ (i:=6) dv.nd rfl (Or.inl rfl) (kS G (bI bL (aF (pv 0) rfl) (pv 3) (λ_ _=>rfl)) (pv 4) (pv 5) ⟨rfl,rfl,rfl,rfl⟩))
   (ah (aZ (i:=7) dv.nd rfl (Or.inl rfl) (kS G (bI bL (aF (pv 0) rfl) (pv 5) (λ_ _=>rfl)) (fB dW (pv 4)) (pv 3) ⟨rfl,rfl,rfl,rfl⟩))
   (au (cC (bO (bu oD (pv 6) (pv 5) (bD _))
    (au (aV (bB (pv 0) (aK T) T.dC.m (iX T) (M.mono (by decide)) T.dC.b .nil aM (ae (pv 3) (ae (pv 4) (ae (pv 6) (ae (pv 5) (ae (pv 2) aj))))))))
    (au (cC (bO (bu oD (pv 7) (pv 3) (bD _))
     (au (aV (bB (pv 0) (aK T) T.dC.m (iX T) (M.mono (by decide)) T.dC.b .nil aM (ae (pv 5) (ae (fB dW (pv 4)) (ae (pv 7) (ae (pv 3) (ae (pv 2) aj))))))))
     (au (aV (bB (pv 0) (aK T) T.jh.m (pT T) (M.mono (by decide)) T.jh.b .nil aM (ae (pv 3) (ae (pv 4) (ae (pv 5) aj))))))))))))))))),?_⟩
  refine tM ?_;intro ti rh jn hH fv;have sq:bQ K H t [.int (w.1:Int),.int w.2.1,.int (w.2.2:Int)]:=bQ.of ht;have v:∀{c:Nat},c<S.made->S.aU[c]?=some (S.av c):=λ{c} u=>ou (by rw[ok.wf.e];exact u)
  have u:=ok.el _ x;have D:=ok.el _ B;refine⟨_,rfl,r,_,a.dx,_,_,rfl,h.ins,aK T,T.iE,iK _ _ _,_,rfl,t,_,_,_,rfl,rfl,sq,(rfl:lW _ (0:Int)=_),a.aE,_,_,_,rfl,rfl,aD.of h.hE,cI (bV (ja (v x))),?_⟩;refine⟨_,rfl,t,_,_,_,rfl,rfl,sq,(rfl:lW _ (1:Int)=_),?_⟩;refine⟨_,rfl,r,_,a.dx,_,_,rfl,h.ins,aK T,T.iE,iK _ _ _,_,rfl,t,_,_,_,rfl,rfl,sq,(rfl:lW _ (2:Int)=_),a.aE,_,_,_,rfl,rfl,aD.of h.hE,cI (bV (ja (v B))),?_⟩;have g:=k;clear k;unfold RS.takeIn at g;generalize S.av w.1=c at u g ⊢;generalize S.av w.2.2=d at D g ⊢;generalize w.2.1=z at g ⊢;obtain⟨pc,N,y⟩:=h.rW.at (om (S:=S) (c:=c) (by rw[ok.wf.w];exact u));obtain⟨pd,Xv,L⟩:=h.rW.at (om (S:=S) (c:=d) (by rw[ok.wf.w];exact D));have gd:∀(o:Option Nat) (n:Nat),(o.map λr:Nat=>V.int (r:Int)).getD (.int (n:Int))=V.int ((o.getD n:Nat):Int):=λo n=>by cases o <;> rfl
  refine⟨_,rfl,r,_,a.dx,_,_,rfl,h.ins,aK T,T.g9,gC _ _ _,_,rfl,a.aW,_,_,_,rfl,rfl,aD.of h.hW,cG N,pc,rfl,.inl ⟨_,.inl y⟩,_,rfl,_,rfl,_,dX.k (k:=Sum.inl z) y,?_⟩;rw[jO,gd];show _;refine⟨_,rfl,r,_,a.dx,_,_,rfl,h.ins,aK T,T.g9,gC _ _ _,_,rfl,a.aW,_,_,_,rfl,rfl,aD.of h.hW,cG Xv,pd,rfl,.inl ⟨_,.inl L⟩,_,rfl,_,rfl,_,rfl,_,dX.k (k:=Sum.inl (-z)) L,?_⟩;rw[jO,gd];have e1:eA (S.way c) z=S.by c z:=rfl;have e2:eA (S.way d) (-z)=S.by d (-z):=rfl;rw[e1,e2]
  have hl:(S.by c z).getD d<S.made:=by
   cases e:S.by c z with
   |none=>exact D
   |some m=>exact ok.bl _ _ _ e
  have hf:(S.by d (-z)).getD c<S.made:=by
   cases e:S.by d (-z) with
   |none=>exact u
   |some m=>exact ok.bl _ _ _ e
  generalize (S.by c z).getD d=l at hl g ⊢;generalize (S.by d (-z)).getD c=f at hf g ⊢
  have ne:∀{m n:Nat},m≠n->(!decide (V.int (m:Int)=V.int (n:Int)))=true:=λ{m n} q=>by
   rw[acj (λz=>q (by injection z with z;omega))];rfl
  refine⟨λ_ J=>Q .non J,?_,λ_ _ q=>q⟩;by_cases I:l≠d
  ·rw[abN I]at g;refine⟨_,rfl,_,rfl,rfl,_,rfl,?_⟩;rw[ne I];refine gS ?_;exact⟨_,rfl,r,a.dx,_,rfl,h.ins,cw _ _ _ (by decide),_,rfl,_,rfl,_,rfl,_,rfl,_,rfl,r,p,S,a,c,l,d,z,j,rfl,h,ok.wf,hl,D,I,ok.off _ (by omega),λn R=>ok.cl _ n R,ok.sm,Y,X,C,g⟩
  ·have Z:l=d:=aeb.mp I;rw[abH I]at g;refine⟨_,rfl,_,rfl,rfl,_,rfl,rH (by rw[Z]) ?_⟩;refine⟨λ_ J=>Q .non J,?_,λ_ _ q=>q⟩;by_cases F:f≠c
   ·rw[abN F]at g;refine⟨_,rfl,_,rfl,rfl,_,rfl,?_⟩;rw[ne F];refine gS ?_;exact⟨_,rfl,r,a.dx,_,rfl,h.ins,cw _ _ _ (by decide),_,rfl,_,rfl,_,rfl,_,rfl,_,rfl,_,rfl,r,p,S,a,d,f,c,-z,j,rfl,h,ok.wf,hf,u,F,ok.off _ (by omega),λn R=>ok.cl _ n R,ok.sm,Y,X,C,g⟩
   ·have O:f=c:=aeb.mp F;rw[abH F]at g;refine⟨_,rfl,_,rfl,rfl,_,rfl,rH (by rw[O]) ?_⟩;refine⟨_,rfl,r,a.dx,_,rfl,h.ins,cw _ _ _ (by decide),_,rfl,_,rfl,_,rfl,r,S,a,c,d,z,rfl,h,ok.wf,u,D,ok.sm.w,λJ U r'=>g a J (λb o nb _ e=>U b o nb e) r' (Y.keep (λo e=>U _ _ X e) (λb xs e=>U _ _ (h.rV e) e)) λb hb=>.inl hb⟩
theorem zr (T:Txt K mg A):bj P w K mg base (bF P w) 5 A.sX A.sY ["self","room","step","other","row"] (I7 A.az):=by
 refine T.qV.F.okN q0 (λvs H Q E h=>?_) (λcf AA outer s H vs Q E hr h=>?_)
 ·obtain⟨r,q,S,a,c,d,z,row,I,μ,rfl,_⟩:=h;rfl
 ·obtain⟨r,q,S,a,c,d,z,row,I,μ,rfl,h,pU,hq,x,hI,step,k⟩:=h
  refine⟨_,(ah (aV (cP abC abI abJ bN (aF (pv 0) rfl) (ae (bA (xu T) hr.Za5 rfl T.own.m T.own.F.kp T.own.b .nil aM (ae (pv 4) aj)) aj)))
   (ah (aZ (i:=5) q0.nd rfl (Or.inl rfl) (cD (ae (cV (ae (pv 1) (ae (pv 2) (ae (pv 3) aj)))) aj)))
   (au (cC (ic abQ (ye (pv 5) (λ_=>rfl))
    (au (aV (bB (pv 0) (aK T) T.j8.m (tY T) hr.Za5 T.j8.b .nil aM (ae (C4 abC PySem.F.slot_list_pop PySem.F.type_list_pop C5 (pv 5)) (ae (pv 5) aj)))))))))),?_⟩
  refine cX ?_;intro hH fv;have lR:(a.rs.map V.ref).length<sizeLine:=by rw[abo,h.rR.1];exact abz pU (by decide)
  obtain⟨ds,rfl⟩:∃ds,row=.t ds:=by
   cases hq with
   |t=>exact⟨_,rfl⟩
   |l=>cases x
  refine⟨_,rfl,r,_,a.dx,_,_,rfl,h.ins,aK T,T.qX,rQ _ _ _,.inl ⟨rfl,_,aD.of h.hR⟩,_,rfl,.ref q,.t ds,rfl,hq,x,λv' H1 s1 SF=>?_⟩;obtain⟨Z,rfl⟩:∃Z,v'=.ref Z:=by cases SF with|t=>exact⟨_,rfl⟩
  refine⟨a.aR,_,_,rfl,rfl,s1 _ _ h.hR,lR,?_⟩;have h2:=(h.same s1).yG (SF.le (by decide)) x;have B2:cJ a r H (upd H1 a.aR (.lst (a.rs.map V.ref++[.ref Z]))):=λb o u e=>by rw[ak (λz=>u (.inr (.inl (by rw[z];exact e8))))];exact s1 _ _ e
  generalize upd H1 a.aR (.lst (a.rs.map V.ref++[.ref Z]))=H2 at h2 B2 ⊢;generalize A2:({ a with rs:=a.rs++[Z] }:RA)=a2 at h2;have eo:∀b,a2.own r b↔a.own r b:=λb=>by rw[<-A2];exact Iff.rfl
  refine⟨_,rfl,_,rfl,_,rfl,(Za4 3),λt nt=>?_⟩;have s3:=aq.upd (o:=.tup [.int (c:Int),.int z,.int (d:Int)]) nt;have SG:upd H2 t (.tup [.int (c:Int),.int z,.int (d:Int)]) t=some (.tup [.int (c:Int),.int z,.int (d:Int)]):=ai;generalize upd H2 t (.tup [.int (c:Int),.int z,.int (d:Int)])=H3 at s3 SG ⊢;refine⟨(Za4 1),λp L=>?_⟩;have s4:=aq.upd (o:=.lst [.ref t]) L;have SJ:upd H3 p (.lst [.ref t]) p=some (.lst [.ref t]):=ai;have SK:¬a2.own r p:=(h2.same s3).zm L;generalize upd H3 p (.lst [.ref t])=H4 at s4 SJ ⊢
  have SM:H p=none:=by
   cases e:H p with
   |none=>rfl
   |some o=>have:=s3 _ _ (B2 p o (λz=>SK ((eo p).mpr z)) e);rw[L]at this;cases this
  have B4:cJ a r H H4:=λb o u e=>s4 _ _ (s3 _ _ (B2 b o u e))
  have P4:cO H4 p [(c,z,d)]:=⟨[t],SJ,Each.snoc (ps:=[]) (xs:=[]) ⟨rfl,λi p d h=>by simp at h⟩ (s4 _ _ SG)⟩;refine⟨λ_ Y=>Q .non Y,?_,λ_ _ q=>q⟩;refine⟨λm σ n=>∃C F pend,m=μ C pend/\σ=[some (.ref r),some (.int (c:Int)),some (.int z),some (.int (d:Int)),some (.ref q),some (.ref p)]/\ax A.az n r C F/\cO n p pend/\I C pend/\¬F.own r p/\(∀b o,¬a.own r b->b≠p->H b=some o->n b=some o)/\∀b,F.own r b->a.own r b\/H b=none,⟨_,_,a2,[(c,z,d)],rfl,rfl,(h2.same s3).same s4,P4,hI,SK,λb o u _ e=>B4 b o u e,λb R=>.inl ((eo b).mp R)⟩,?_⟩;rintro m σ n ⟨C,F,pend,rfl,rfl,h5,P5,I5,M,B5,O5⟩;obtain⟨X,B,y⟩:=id P5;refine⟨_,rfl,!(X.map V.ref).isEmpty,.inl ⟨_,aD.of B,rfl⟩,?_⟩;by_cases U:pend=[]
  ·subst U;have Xw:X=[]:=adP y.1;subst Xw;refine dk ?_;exact k C F n (λb o u e=>B5 b o u (λz=>by rw[z,SM]at e;cases e) e) h5 I5 O5
  ·have N:=adh U;generalize pend.getLast U=w at N;generalize pend.dropLast=pre at N;subst N;have O:X.length=pre.length+ 1:=by rw[y.1,abj];rfl
   have SN:X≠[]:=λz=>by rw[z]at O;cases O
   have v:=adh SN;generalize X.getLast SN=D at v;generalize X.dropLast=f at v;subst v;have ot:f.length=pre.length:=by rw[abj]at O;have:([D]:List Addr).length=1:=rfl;omega
   obtain⟨ok,Xx,Xy,R,Xz,I9⟩:=step C pre w I5;have XA:n D=some (.tup [.int (w.1:Int),.int w.2.1,.int (w.2.2:Int)]):=y.2 pre.length D w (by rw[<-ot,abw (abr _),acC];rfl) (by rw[abw (abr _),acC];rfl);have ht:(!((f++[D]).map V.ref).isEmpty)=true:=by simp
   rw[ht];refine gS ?_;refine⟨λ iG Y=>∃S6 a6 g,μ S6 g < μ C (pre++[w])/\iG=[some (.ref r),some (.int (c:Int)),some (.int z),some (.int (d:Int)),some (.ref q),some (.ref p)]/\ax A.az Y r S6 a6/\cO Y p g/\I S6 g/\¬a6.own r p/\(∀b o,¬a.own r b->b≠p->H b=some o->Y b=some o)/\∀b,a6.own r b->a.own r b\/H b=none,λ iG Y ⟨S6,a6,g,lt,e1,e2,e3,e4,e5,e6,e7⟩=>⟨_,lt,S6,a6,g,rfl,e1,e2,e3,e4,e5,e6,e7⟩,?_⟩;refine⟨_,rfl,r,F.dx,_,rfl,h5.ins,cw _ _ _ (by decide),_,rfl,.inl ⟨rfl,_,aD.of B⟩,p,_,.ref D,rfl,rfl,B,?_,?_⟩
   ·rw[abU,abj];show ((f.map V.ref)++[V.ref D])[(f.map V.ref).length+ 1 - 1]?=_
    rw[Nat.add_sub_cancel,abw (abr _),acC];rfl
   have Oj:((f++[D]).map V.ref).dropLast=f.map V.ref:=by rw[abU];exact List.dropLast_concat
   rw[Oj];have kp:∀b o,b≠p->n b=some o->upd n p (.lst (f.map V.ref)) b=some o:=λb o u e=>by rw[ak u];exact e
   have kt:∀b xs,n b=some (.tup xs)->upd n p (.lst (f.map V.ref)) b=some (.tup xs):=λb xs e=>kp b _ (bW e B (by intro z;cases z)) e
   have h6:=h5.keep (λb o R e=>kp b o (λz=>M (z ▸ R)) e) kt;have P6:cO (upd n p (.lst (f.map V.ref))) p pre:=⟨f,ai,ot,λi t' w' e1 e2=>kt _ _ (y.2 i t' w' (by rw[abu (abk.mp e1).1];exact e1) (by rw[abu (abk.mp e2).1];exact e2))⟩;generalize upd n p (.lst (f.map V.ref))=H6 at kp kt h6 P6 ⊢;refine⟨_,rfl,r,D,p,C,F,w,pre,rfl,h6,kt _ _ XA,ok,Xx,Xy,P6,M,R,λa7 H7 b7 h7 P7 o7=>?_⟩;refine⟨_,a7,_,I9,rfl,h7,P7,Xz,λz=>?_,λb o u J e=>b7 b o (λz=>?_) J (kp b o J (B5 b o u J e)),λb R=>?_⟩
   ·rcases o7 p z with j|j
    ·exact M j
    ·obtain⟨_,q2,_⟩:=P6;rw[j]at q2;cases q2
   ·rcases O5 b z with j|j
    ·exact u j
    ·rw[j]at e;cases e
   ·rcases o7 b R with j|j
    ·exact O5 b j
    ·by_cases ho:a.own r b
     ·exact .inl ho
     ·refine .inr ?_
      cases e:H b with
      |none=>rfl
      |some o=>
       by_cases G:b=p
       ·rw[G,SM]at e;cases e
       ·rw[kp b o G (B5 b o ho G e)]at j;cases j
theorem K0 {a:Type}{ws:List a}{z:a}(h:ws[i]?=some z):ws.drop i=z::ws.drop (i+ 1):=by
 have b:=(abk.mp h).1;rw[aed b,(abk.mp h).2]
inductive zt (C:Addr) (vs:List V) (H:Hp) (Q:VK) (E_:XK):Prop
 |mk (r:Addr) (S:RS) (a:RA) (c:Nat) (t:Addr) (ws:List Int):vs=[.ref r,.int c,.ref t]->ax C H r S a->S.Wf->c<S.made->(∀c z d,S.by c z=some d->d<S.made)->H t=some (.tup (ao ws))->ws.length<=1000->(∀l H',aq H H'->H' l=some (.lst (ao (nI (c::b6 S.by c ws))))->Q (.ref l) H')->zt C vs H Q E_
theorem xB (T:Txt K mg A):bj P w K mg base (bF P w) 2 A.za A.zb ["rooms","room","word"] (zt A.az):=by
 refine T.walked.F.okN mJ (λY H Q E h=>?_) (λcf AA L s H Y Q E hr h=>?_)
 ·obtain⟨r,S,a,c,t,ws,rfl,_⟩:=h;rfl
 ·obtain⟨r,S,a,c,t,ws,rfl,h,hw,Z,D,R,A4,k⟩:=h
  refine⟨_,(ah (aZ (i:=3) mJ.nd rfl (Or.inl rfl) (cD (ae (pv 1) aj)))
   (ah (cz abQ rfl (m5 (pv 2)) (bK (i:=4) mJ.nd rfl (Or.inl rfl))
    (ah (aZ (i:=1) mJ.nd rfl (Or.inl rfl) (bB (pv 0) (aK T) T.du.m (fT T) hr.Za5 T.du.b .nil aM (ae (pv 1) (ae (pv 4) aj))))
    (ah (bO (bu m6 (pv 1) dh (bD _))
     (au tu)
     bq)
    (au (aV (cP abC abI abJ bN (pv 3) (ae (pv 1) aj)))))))
   (au (bf (pv 3))))),?_⟩
  refine cX ?_;intro X fv;refine⟨_,rfl,(Za4 1),λl B=>?_⟩;have y:=aq.upd (o:=.lst [.int (c:Int)]) B;have p:upd H l (.lst [.int (c:Int)]) l=some (.lst (ao (nI [c]))):=ai;have G:¬a.own r l:=h.zm B;generalize upd H l (.lst [.int (c:Int)])=N at y p ⊢;have v:=y _ _ R;have F:t≠l:=aw R B;refine⟨_,rfl,t,rfl,⟨_,bQ.of v⟩,?_⟩
  have fin:∀{f:Hp} {pre:List Nat},(∀b o,b≠l->N b=some o->f b=some o)->f l=some (.lst (ao (nI (c::pre))))->b6 S.by c ws=pre->Q (.ref l) f:=λ{f pre} g d e=>by
   subst e;exact k l f (λb o e=>g b o (aw e B) (y _ _ e)) d
  refine vE (xs:=ao ws) (λi C f=>∃cur:Nat,∃pre J,C=[some (.ref r),some (.int (cur:Int)),some (.ref t),some (.ref l),J]/\cur<S.made/\pre.length=i/\b6 S.by c ws=pre++b6 S.by cur (ws.drop i)/\(∀b o,b≠l->N b=some o->f b=some o)/\f l=some (.lst (ao (nI (c::pre))))) ⟨c,[],none,rfl,Z,rfl,rfl,λ_ _ _ e=>e,p⟩ (λi C f _ ⟨_,_,_,_,_,_,_,g,_⟩=>bQ.of (g _ _ F v)) ?_ ?_
  ·rintro i x C f hx ⟨cur,pre,J,rfl,j,u,m,g,d⟩;obtain⟨z,rfl,M⟩:=cq hx;have hi:i<ws.length:=(abk.mp M).1;have O:ax A.az f r S a:=(h.same y).keep (λb o hb e=>g b o (λq=>G (q ▸ hb)) e) (λb U e=>g b _ (bW e p (by intro q;cases q)) e);rw[K0 M]at m;refine⟨_,rfl,r,a.dx,_,rfl,O.ins,cw _ _ _ (by decide),_,rfl,_,rfl,r,S,a,cur,z,rfl,O,by rw[hw.w];exact j,?_⟩
   cases I:S.by cur z with
   |none=>
    refine⟨_,rfl,rfl,_,rfl,gS ?_⟩;rw[wZ I,abO]at m;exact⟨_,rfl,fin g d m⟩
   |some b=>
    rw[show (Option.map (λn:Nat=>V.int (n:Int)) (some b)).getD V.non=V.int (b:Int) from rfl];refine⟨_,rfl,rfl,_,rfl,dk ?_⟩;rw[mh I]at m;refine⟨_,rfl,.inl ⟨rfl,_,aD.of d⟩,_,rfl,l,_,_,rfl,rfl,d,?_,?_⟩
    ·rw[aI,b8,abL,u];exact abz (show i+ 1<=1001 by omega) (by decide)
    refine⟨b,pre++[b],_,rfl,D _ _ _ I,by rw[abj,u];rfl,by rw[m,aci];rfl,λx o n e=>by rw[ak n];exact g x o n e,?_⟩;rw[ai,<-ac1,gY,ints_app];rfl
  ·rintro C f ⟨cur,pre,J,rfl,j,u,m,g,d⟩;rw[aI,aeO]at m;exact⟨_,rfl,fin g d (by rw[m];exact abO _)⟩
def fw (g:Gg)(a:Addr):List (Str×V):=[("which",.int g.which),("word",.ref a),("start",.int g.start),("front",.int g.front),("first",.int g.first),("rear",.int g.bh),("last",.int g.last)]
theorem Hh (g:Gg)(a:Addr):(fw g a).lookup ("which":Str)=some (.int g.which):=by kernel_rfl
theorem jD (g:Gg)(a:Addr):(fw g a).lookup ("word":Str)=some (.ref a):=by kernel_rfl
theorem tZ (g:Gg)(a:Addr):(fw g a).lookup ("start":Str)=some (.int g.start):=by kernel_rfl
theorem jE (g:Gg)(a:Addr):(fw g a).lookup ("front":Str)=some (.int g.front):=by kernel_rfl
theorem fK (g:Gg)(a:Addr):(fw g a).lookup ("first":Str)=some (.int g.first):=by kernel_rfl
theorem jF (g:Gg)(a:Addr):(fw g a).lookup ("rear":Str)=some (.int g.bh):=by kernel_rfl
theorem jG (g:Gg)(a:Addr):(fw g a).lookup ("last":Str)=some (.int g.last):=by kernel_rfl
theorem Ja {g:Gg}(h:x∉(["which","word","start","front","first","rear","last"]:List Str)):(fw g a).lookup x=none:=by
 simp only[abD,acd,adO,not_or]at h;obtain⟨e,f,c,i,d,j,b⟩:=h;unfold fw;simp only[List.lookup,abG.mpr e,abG.mpr f,abG.mpr c,abG.mpr i,abG.mpr d,abG.mpr j,abG.mpr b]
theorem zu (g:Gg)(a:Addr)(n:Nat):bJ "front" (.int n) (fw g a)=fw { g with front:=n } a:=by kernel_rfl
theorem Hi (g:Gg)(a:Addr)(n:Nat):bJ "first" (.int n) (fw g a)=fw { g with first:=n } a:=by kernel_rfl
theorem A5 (g:Gg)(a:Addr)(n:Nat):bJ "rear" (.int n) (fw g a)=fw { g with bh:=n } a:=by kernel_rfl
theorem K1 (g:Gg)(a:Addr)(n:Nat):bJ "last" (.int n) (fw g a)=fw { g with last:=n } a:=by kernel_rfl
structure dD (CG:Addr) (H:Hp) (p dx wa:Addr) (g:Gg):Prop where
 ins:H p=some (.ins CG dx (fw g wa))
 wo:H wa=some (.tup (ao g.word))
theorem dD.same {dx:Addr}{g:Gg}(h:dD a H b dx c g)(s:aq H I):dD a I b dx c g:=⟨s _ _ h.ins,s _ _ h.wo⟩
theorem dD.set {dx:Addr}{g g':Gg}(h:dD a H b dx c g)(e:g'.word=g.word):dD a (upd H b (.ins a dx (fw g' c))) b dx c g':=⟨ai,by rw[ak (bW h.wo h.ins (by intro z;cases z)),e];exact h.wo⟩
def gP (a:List (List Int×Nat)):List (List Key×V):=a.map λp=>(p.1.map Sum.inl,V.int p.2)
structure vZ (rs:Za3) (fp:List (List Int×Nat)):Prop where
 a:∀p∈fp,rs[p.2]?=some p.1
 b:∀w∈rs,∃n,(w,n)∈fp
 n:(fp.map (·.1)).Nodup
theorem zv {d:List (List Int×Nat)}(w:List Int):bp (gP d) (w.map Sum.inl)=((d.find? λp=>decide (p.1=w)).map λp=>V.int p.2):=by
 induction d with
 |nil=>rfl
 |cons p l c=>
  by_cases h:p.1=w
  ·rw[aex (by exact abX h)];exact cy (p:=(p.1.map Sum.inl,V.int p.2)) (by rw[h])
  ·rw[adT (by simpa using h)];refine(cu (p:=(p.1.map Sum.inl,V.int p.2)) (λz=>h ?_)).trans c
   have inj:∀{a b:List Int},a.map (Sum.inl:Int->Key)=b.map Sum.inl->a=b:=λ{a b} e=>by
    induction a generalizing b with
    |nil=>cases b with|nil=>rfl|cons=>cases e
    |cons x a c=>cases b with
     |nil=>cases e
     |cons y b=>rw[acg,acg]at e;injection e with g f;rw[Sum.inl.inj g,c f]
   exact inj z
def Hj:Sp:=λc H Q _=>∃(l:Addr) (rs:Za3),c=[.ref l]/\bM H l rs/\rs.length<=1000/\∀d b a,aq H a->H d=none->a d=some (.dT (gP b))->vZ rs b->Q (.ref d) a
theorem vq (T:Txt K mg A):bj P w K mg base (bF P w) 1 A.nK A.nL ["rules"] Hj:=by
 refine T.jf.F.okN fZ (λvs H Q E h=>?_) (λcf AA outer s H vs Q E hr h=>?_)
 ·obtain⟨l,rs,rfl,_⟩:=h;rfl
 ·obtain⟨l,rs,rfl,hW,hl,k⟩:=h;have pk:=hO hr
  refine⟨_,(ah (aZ (i:=1) fZ.nd rfl (Or.inl rfl) FX)
   (ah (cz abQ rfl (yC rfl T.mU (pv 0)) (m3 rfl (dF (bK (i:=2) fZ.nd rfl (Or.inl rfl)) (dF (bK (i:=3) fZ.nd rfl (Or.inl rfl)) kA)))
    (au (aV (Gi pk (pv 1) (pv 3) (pv 2) ⟨rfl,rfl,rfl,rfl⟩))))
   (au (bf (pv 1))))),?_⟩
  refine cX ?_;intro hH fv;obtain⟨N,m,F⟩:=id hW;refine λd X=>?_
  have Z:=aq.upd (o:=.dT []) X;have q1:upd H d (.dT []) d=some (.dT (gP [])):=ai;generalize upd H d (.dT [])=H1 at Z q1 ⊢;have Rw:l≠d:=aw m X;refine⟨_,rfl,l,rfl,⟨_,aD.of (Z _ _ m)⟩,?_⟩
  refine wJ (K:=K) (a:=l) (xs:=N.map V.ref) (λi U C=>∃f v2 Y,U=[some (.ref l),some (.ref d),v2,Y]/\aq H C/\C d=some (.dT (gP f))/\(∀p∈f,rs[p.2]?=some p.1/\p.2<i)/\(∀(j:Nat) (w:List Int),j<i->rs[j]?=some w->∃n,(w,n)∈f)/\(f.map (·.1)).Nodup/\f.length<=i)
   ⟨[],none,none,rfl,Z,q1,(λp c=>by cases c),λj w L=>absurd L (by omega),ac6,abr _⟩ (λi U C _ ⟨_,_,_,_,s2,_⟩=>aD.of (s2 _ _ m)) ?_ ?_
  ·rintro i v U C t hi nt ⟨f,v2,Y,rfl,s2,hd,M,S,I,hlen⟩
   have g:i<N.length:=by
    have:=(abk.mp hi).1;rw[abo]at this;exact this
   have G:i<rs.length:=by rw[<-F.1];exact g
   have g1:N[i]?=some (N[i]'g):=abm g
   have O:rs[i]?=some (rs[i]'G):=abm G
   rw[aby,g1]at hi;obtain rfl:V.ref (N[i]'g)=v:=Za0 hi;generalize N[i]'g=q at g1;generalize rs[i]'G=w at O;have R:=aq.upd (o:=.tup [.int (i:Int),.ref q]) nt;refine⟨t,_,rfl,bQ.of ai,rfl,_,_,rfl,_,_,rfl,rfl,?_⟩;generalize upd C t (.tup [.int (i:Int),.ref q])=H3 at R ⊢;have D:=R _ _ hd;have hq:H3 q=some (.tup ((w.map (Sum.inl:Int->Key)).map kV)):=by rw[ab1];exact(s2.trans R) _ _ (F.2 i q w g1 O)
   refine⟨_,rfl,d,rfl,.inr ⟨_,.inl D⟩,_,rfl,_,rfl,gP f,w.map Sum.inl,q,D,rfl,hq,?_,λv J=>?_,λJ=>?_⟩
   ·unfold gP;rw[abo];exact abz (show f.length<=1000 by omega) (by decide)
   ·rw[zv]at J;obtain⟨p,c,rfl⟩:=acz.mp J;have e:p.1=w:=by have h9:=List.find?_some c;simpa using h9
    have hm:=List.mem_of_find?_eq_some c;refine⟨f,_,_,rfl,s2.trans R,D,λp c=>⟨(M p c).1,by have:=(M p c).2;omega⟩,λj u L r=>?_,I,by omega⟩;by_cases B:j<i
    ·exact S j u B r
    ·rw[show j=i by omega,O]at r;rw[<-Za0 r,<-e];exact⟨p.2,hm⟩
   ·rw[zv]at J
    have XB:∀p∈f,p.1≠w:=λp c e=>by
     have:=List.find?_eq_none.mp (aez.mp J) p c;exact this (abX e)
    have ep:putK (gP f) (w.map Sum.inl) (V.int (i:Int))=gP (f++[(w,i)]):=by
     rw[tJ _ (by rw[zv];exact J)];unfold gP;rw[abU];rfl
    rw[ep];have Ol:H d=none:=X;refine⟨f++[(w,i)],_,_,rfl,λb o e=>by rw[ak (aw e Ol)];exact(s2.trans R) _ _ e,ai,λp c=>?_,λj u L r=>?_,?_,by rw[abj];show _+ 1<=_;omega⟩
    ·rcases abx.mp c with z|z
     ·exact⟨(M p z).1,by have:=(M p z).2;omega⟩
     ·rw[abp.mp z];exact⟨O,by show i<i+ 1;omega⟩
    ·by_cases B:j<i
     ·obtain⟨n,I⟩:=S j u B r;exact⟨n,abM _ I⟩
     ·rw[show j=i by omega,O]at r;rw[<-Za0 r];exact⟨i,abv _ (abp.mpr rfl)⟩
    ·rw[abU,ab5];refine⟨I,by simp,λx hx y hy e=>?_⟩;have hy:y=w:=abp.mp hy;obtain⟨p,c,rfl⟩:=ach.mp hx;exact XB p c (e.trans hy)
  ·rintro U C ⟨f,v2,Y,rfl,s2,hd,M,S,I,hlen⟩;refine⟨_,rfl,k d f C s2 X hd ⟨λp c=>(M p c).1,λw hw=>?_,I⟩⟩;obtain⟨j,L⟩:=aco hw;exact S j w (by rw[abo,F.1];exact(abk.mp L).1) L
def xC (a:Nat)(word:List Int)(start:Nat):Gg:=⟨a,word,start,start,0,start,word.length - 1⟩
inductive EJ (CG:Addr) (vs:List V) (H:Hp) (Q:VK) (E_:XK):Prop
 |mk (x dx wa:Addr) (which start:Nat) (word:List Int):vs=[.ref x,.int which,.ref wa,.int start]->H x=some (.ins CG dx [])->H wa=some (.tup (ao word))->1<=word.length->word.length<=1000->(∀H',(∀b o,H b=some o->b≠x->H' b=some o)->dD CG H' x dx wa (xC which word start)->Q .non H')->EJ CG vs H Q E_
def Jb (a start:Nat)(b:Addr)(l:Int):List (Str×V):=[("which",.int a)]
def Jc (a start:Nat)(b:Addr)(l:Int):List (Str×V):=[("which",.int a),("word",.ref b)]
def Jd (a start:Nat)(b:Addr)(l:Int):List (Str×V):=[("which",.int a),("word",.ref b),("start",.int start)]
def Je (a start:Nat)(b:Addr)(l:Int):List (Str×V):=[("which",.int a),("word",.ref b),("start",.int start),("front",.int start)]
def Jf (a start:Nat)(b:Addr)(l:Int):List (Str×V):=[("which",.int a),("word",.ref b),("start",.int start),("front",.int start),("first",.int 0)]
def Jg (a start:Nat)(b:Addr)(l:Int):List (Str×V):=[("which",.int a),("word",.ref b),("start",.int start),("front",.int start),("first",.int 0),("rear",.int start)]
def Om (a start:Nat)(b:Addr)(l:Int):List (Str×V):=[("which",.int a),("word",.ref b),("start",.int start),("front",.int start),("first",.int 0),("rear",.int start),("last",.int l)]
theorem XC (a start:Nat)(b:Addr)(l:Int):bJ "word" (.ref b) (Jb a start b l)=Jc a start b l:=dm (by kernel_rfl)
theorem XE (a start:Nat)(b:Addr)(l:Int):bJ "start" (.int start) (Jc a start b l)=Jd a start b l:=dm (by kernel_rfl)
theorem XF (a start:Nat)(b:Addr)(l:Int):bJ "front" (.int start) (Jd a start b l)=Je a start b l:=dm (by kernel_rfl)
theorem XG (a start:Nat)(b:Addr)(l:Int):bJ "first" (.int 0) (Je a start b l)=Jf a start b l:=dm (by kernel_rfl)
theorem XH (a start:Nat)(b:Addr)(l:Int):bJ "rear" (.int start) (Jf a start b l)=Jg a start b l:=dm (by kernel_rfl)
theorem XI (a start:Nat)(b:Addr)(l:Int):bJ "last" (.int l) (Jg a start b l)=Om a start b l:=dm (by kernel_rfl)
theorem su (T:Txt K mg A):bj P w K mg base (bF P w) 1 A.iA A.lA ["self","which","word","start"] (EJ A.aJ):=by
 refine T.gH.F.okN sh (λN H Q E h=>?_) (λcf AA v s H N Q E hr h=>?_)
 ·obtain⟨x,c,d,a,start,word,rfl,_⟩:=h;rfl
 ·obtain⟨x,c,d,a,start,word,rfl,p,f,X,L,k⟩:=h
  refine⟨_,(ah (bY (pv 0) (pv 1) rfl)
   (ah (bY (pv 0) (pv 2) rfl)
   (ah (bY (pv 0) (pv 3) rfl)
   (ah (bY (pv 0) (pv 3) rfl)
   (ah (bY (pv 0) ay rfl)
   (ah (bY (pv 0) (pv 3) rfl)
   (au (bY (pv 0) (aT jL (bx bC rfl T.dA ab6 (ae (pv 2) aj)) ay) rfl)))))))),?_⟩
  refine tN ?_;intro I ti R jn M U;have st:∀{H0:Hp} {fs gs:List (Str×V)},H0 x=some (.ins A.aJ c fs)->(∀b o,H b=some o->b≠x->H0 b=some o)->upd H0 x (.ins A.aJ c gs) x=some (.ins A.aJ c gs)/\∀b o,H b=some o->b≠x->upd H0 x (.ins A.aJ c gs) b=some o:=λ_ h=>⟨ai,λb o e n=>by rw[ak n];exact h b o e n⟩
  have g:d≠x:=bW f p (by intro z;cases z);have o0:∀b o,H b=some o->b≠x->H b=some o:=λb o e _=>e
  refine⟨_,rfl,_,rfl,x,_,c,_,rfl,p,aS T,T.zf,(by show 0<1000;decide),?_⟩;rw[show bJ "which" (.int a) []=Jb a start d (((word.length - 1:Nat):Int)) from rfl];obtain⟨j,G⟩:=st (gs:=Jb a start d (((word.length - 1:Nat):Int))) p o0;generalize upd H x (.ins A.aJ c (Jb a start d (((word.length - 1:Nat):Int))))=S at j G ⊢;refine⟨_,rfl,_,rfl,x,_,c,_,rfl,j,aS T,T.iV,(by show 1<1000;decide),?_⟩;rw[XC];obtain⟨t,C⟩:=st (gs:=Jc a start d (((word.length - 1:Nat):Int))) j G;generalize upd S x (.ins A.aJ c (Jc a start d (((word.length - 1:Nat):Int))))=O at t C ⊢;refine⟨_,rfl,_,rfl,x,_,c,_,rfl,t,aS T,T.oW,(by show 2<1000;decide),?_⟩;rw[XE];obtain⟨u,y⟩:=st (gs:=Jd a start d (((word.length - 1:Nat):Int))) t C;generalize upd O x (.ins A.aJ c (Jd a start d (((word.length - 1:Nat):Int))))=H3 at u y ⊢;refine⟨_,rfl,_,rfl,x,_,c,_,rfl,u,aS T,T.fI,(by show 3<1000;decide),?_⟩;rw[XF];obtain⟨i,F⟩:=st (gs:=Je a start d (((word.length - 1:Nat):Int))) u y;generalize upd H3 x (.ins A.aJ c (Je a start d (((word.length - 1:Nat):Int))))=Y at i F ⊢;refine⟨_,rfl,x,_,c,_,rfl,i,aS T,T.dZ,(by show 4<1000;decide),?_⟩;rw[XG];obtain⟨r,B⟩:=st (gs:=Jf a start d (((word.length - 1:Nat):Int))) i F;generalize upd Y x (.ins A.aJ c (Jf a start d (((word.length - 1:Nat):Int))))=Z at r B ⊢;refine⟨_,rfl,_,rfl,x,_,c,_,rfl,r,aS T,T.fQ,(by show 5<1000;decide),?_⟩;rw[XH];obtain⟨m,l⟩:=st (gs:=Jg a start d (((word.length - 1:Nat):Int))) r B;generalize upd Z x (.ins A.aJ c (Jg a start d (((word.length - 1:Nat):Int))))=J at m l ⊢;refine⟨_,rfl,d,_,rfl,.inr (bQ.of (l _ _ f g)),_,_,rfl,rfl,_,rfl,x,_,c,_,rfl,m,aS T,T.gL,(by show 6<1000;decide),?_⟩;rw[show V.int (((ao word).length:Int) - 1)=V.int (((word.length - 1:Nat):Int)) by show V.int (((ao word).length:Int) - 1)=_;rw[aI];congr 1;omega];rw[XI];obtain⟨D,q⟩:=st (gs:=Om a start d (((word.length - 1:Nat):Int))) m l;generalize upd J x (.ins A.aJ c (Om a start d (((word.length - 1:Nat):Int))))=H7 at D q ⊢;exact k H7 q ⟨D,q _ _ f g⟩
structure ri (S:RS) (g g':Gg):Prop where
 wh:g'.which=g.which
 wo:g'.word=g.word
 st:g'.start=g.start
 gi:GI S g'
 ef:S.av g'.front=g'.front
 er:S.av g'.bh=g'.bh
 k1:S.av g.front=g.front->S.by g.front g.z1=none->g'.front=g.front/\g'.first=g.first
 k2:S.av g.bh=g.bh->S.by g.bh g.z2=none->g'.bh=g.bh/\g'.last=g.last
theorem ri.fwd {g g1:Gg}(h:ri S g g1)(j:Good S [] R)(b:g1.first<g1.last){c:Nat}(hc:S.by g1.front g1.z1=some c):ri S g { g1 with front:=c,first:=g1.first+ 1 }:=by
 obtain⟨_,d,_,e⟩:=j.st _ _ _ hc;have ll:=h.gi.ll;have hz:=Gg.pC (g:=g1) (by omega);refine⟨h.wh,h.wo,h.st,⟨b,ll,h.gi.s,d,h.gi.r,?_,h.gi.wr⟩,e,h.er,λi a=>?_,h.k2⟩
 ·have:=h.gi.wf;rw[h.ef]at this;show wk S.by _ (g1.word.take (g1.first+ 1))=some (S.av c);rw[take_snoc hz,nj this,M7 hc,e]
 ·obtain⟨k,f⟩:=h.k1 i a;unfold Gg.z1 at hc a;rw[k,f,h.wo,a]at hc;cases hc
theorem ri.bwd {g g1:Gg}(h:ri S g g1)(e:Good S [] R)(f:g1.first<g1.last){c:Nat}(hc:S.by g1.bh g1.z2=some c):ri S g { g1 with bh:=c,last:=g1.last - 1 }:=by
 obtain⟨_,b,_,d⟩:=e.st _ _ _ hc;have ll:=h.gi.ll;have hz:=Gg.at2 (g:=g1) ll;refine⟨h.wh,h.wo,h.st,⟨by show g1.first<=g1.last - 1;omega,by show g1.last - 1<g1.word.length;omega,h.gi.s,h.gi.f,b,h.gi.wf,?_⟩,h.ef,d,h.k1,λj a=>?_⟩
 ·have:=h.gi.wr;rw[h.er]at this;show wk S.by (S.av c) (g1.word.drop (g1.last - 1+ 1))=some (S.av g1.start);rw[show g1.last - 1+ 1=g1.last by omega,drop_cons hz,d,gG (e.sy _ _ _ hc)];exact this
 ·obtain⟨k,i⟩:=h.k2 j a;unfold Gg.z2 at hc a;rw[k,i,h.wo,a]at hc;cases hc
inductive Jh (CR CG:Addr) (vs:List V) (H:Hp) (Q:VK) (E_:XK):Prop
 |mk (p dx wa r:Addr) (g:Gg) (S:RS) (a:RA) (R:Za2):vs=[.ref p,.ref r]->dD CG H p dx wa g->ax CR H r S a->Good S [] R->GI S g->¬a.own r p->g.word.length<=1000->(∀g' H',(∀b o,b≠p->H b=some o->H' b=some o)->dD CG H' p dx wa g'->Rz S g g'->Q .non H')->Jh CR CG vs H Q E_
theorem t4 (T:Txt K mg A):bj P w K mg base (bF P w) 2 A.my A.mz ["self","rooms"] (Jh A.az A.aJ):=by
 refine T.j6.F.okN iF (λvs H Q E h=>?_) (λcf AA outer s H vs Q E Y h=>?_)
 ·obtain⟨p,d,u,r,g,S,a,R,rfl,_⟩:=h;rfl
 ·obtain⟨p,d,u,r,g,S,a,R,rfl,X,hR,D,x,zx,J,k⟩:=h
  refine⟨_,(ah (bY (pv 0) (bB (pv 1) (aK T) T.dz.m (gN T) (Y.mono (by decide)) T.dz.b .nil aM (ae (aF (pv 0) rfl) aj)) rfl)
   (ah (bY (pv 0) (bB (pv 1) (aK T) T.dz.m (gN T) (Y.mono (by decide)) T.dz.b .nil aM (ae (aF (pv 0) rfl) aj)) rfl)
   (ah (cC (ic abQ (bu lT (aF (pv 0) rfl) (aF (pv 0) rfl) (bD _))
    (ah (aZ (i:=2) iF.nd rfl (Or.inl rfl) (bB (pv 1) (aK T) T.du.m (fT T) (Y.mono (by decide)) T.du.b .nil aM (ae (aF (pv 0) rfl) (ae (bI gj (aF (pv 0) rfl) (aF (pv 0) rfl) (λ_ _=>rfl)) aj))))
    (ah (bO (bu m6 (pv 2) dh (bD _))
     (au tu)
     bq)
    (ah (bY (pv 0) (pv 2) rfl)
    (au (bY (pv 0) (aT dM (aF (pv 0) rfl) ay) rfl)))))))
   (au (cC (ic abQ (bu lT (aF (pv 0) rfl) (aF (pv 0) rfl) (bD _))
    (ah (aZ (i:=2) iF.nd rfl (Or.inl rfl) (bB (pv 1) (aK T) T.du.m (fT T) (Y.mono (by decide)) T.du.b .nil aM (ae (aF (pv 0) rfl) (ae (fB dW (bI gj (aF (pv 0) rfl) (aF (pv 0) rfl) (λ_ _=>rfl))) aj))))
    (ah (bO (bu m6 (pv 2) dh (bD _))
     (au tu)
     bq)
    (ah (bY (pv 0) (pv 2) rfl)
    (au (bY (pv 0) (aT jL (aF (pv 0) rfl) ay) rfl))))))))))),?_⟩
  refine fF ?_;intro jn hH fv;have eo:∀{c:Nat},c<S.made->S.aU[c]?=some (S.av c):=λ{c} hc=>ou (by rw[D.wf.e];exact hc)
  have kp:∀{F:Hp},(∀b o,b≠p->H b=some o->F b=some o)->ax A.az F r S a:=λ{F} f=>hR.keep (λb o hb e=>f b o (λz=>zx (z ▸ hb)) e) (λb xs e=>f b _ (bW e X.ins (by intro z;cases z)) e)
  have up:∀{F:Hp} {o2:HO},(∀b o,b≠p->H b=some o->F b=some o)->∀b o,b≠p->H b=some o->upd F p o2 b=some o:=λf b o n e=>by rw[ak n];exact f b o n e
  refine⟨_,rfl,r,a.dx,_,rfl,hR.ins,cw _ _ _ (by decide),_,rfl,p,_,d,_,_,rfl,X.ins,aS T,T.fI,jE _ _,r,S,a,g.front,S.av g.front,rfl,hR,eo x.f,_,rfl,p,_,d,_,rfl,X.ins,aS T,T.fI,(by show 7<1000;decide),?_⟩;rw[zu];have U:=X.set (g':={ g with front:=S.av g.front }) rfl;have f1:=up (o2:=.ins A.aJ d (fw { g with front:=S.av g.front } u)) (λb o _ e=>e);generalize upd H p (.ins A.aJ d (fw { g with front:=S.av g.front } u))=H1 at U f1 ⊢;have R1:=kp f1;refine⟨_,rfl,r,a.dx,_,rfl,R1.ins,cw _ _ _ (by decide),_,rfl,p,_,d,_,_,rfl,U.ins,aS T,T.fQ,jF _ _,r,S,a,g.bh,S.av g.bh,rfl,R1,eo x.r,_,rfl,p,_,d,_,rfl,U.ins,aS T,T.fQ,(by show 7<1000;decide),?_⟩;rw[A5];have p2:=U.set (g':={ g with front:=S.av g.front,bh:=S.av g.bh }) rfl;have f2:=up (o2:=.ins A.aJ d (fw { g with front:=S.av g.front,bh:=S.av g.bh } u)) f1;generalize upd H1 p (.ins A.aJ d (fw { g with front:=S.av g.front,bh:=S.av g.bh } u))=F at p2 f2 ⊢;have e1:=(D.el _ x.f).2;have e2:=(D.el _ x.r).2;have G:ri S g { g with front:=S.av g.front,bh:=S.av g.bh }:=⟨rfl,rfl,rfl,⟨x.fl,x.ll,x.s,D.lt x.f,D.lt x.r,by show wk _ _ _=some (S.av (S.av g.front));rw[e1];exact x.wf,by show wk _ (S.av (S.av g.bh)) _=_;rw[e2];exact x.wr⟩,e1,e2,λe _=>⟨e,rfl⟩,λe _=>⟨e,rfl⟩⟩;refine⟨λ B t=>∃g1 v,B=[some (.ref p),some (.ref r),v]/\(∀b o,b≠p->H b=some o->t b=some o)/\dD A.aJ t p d u g1/\ri S g g1/\(g1.first<g1.last->S.by g1.front g1.z1=none),?_,?_⟩
  ·refine⟨λm N t=>∃g1 v,m=g1.last - g1.first/\N=[some (.ref p),some (.ref r),v]/\(∀b o,b≠p->H b=some o->t b=some o)/\dD A.aJ t p d u g1/\ri S g g1,⟨_,_,none,rfl,rfl,f2,p2,G⟩,?_⟩;rintro m N t ⟨g1,v,rfl,rfl,y,j,ad⟩;have M:=kp y;have ll:=ad.gi.ll;have fl:=ad.gi.fl;have lw:g1.word.length<=1000:=by rw[ad.wo];exact J
   refine⟨_,rfl,p,_,d,_,_,rfl,j.ins,aS T,T.dZ,fK _ _,_,rfl,p,_,d,_,_,rfl,j.ins,aS T,T.gL,jG _ _,_,_,rfl,rfl,_,rfl,?_⟩;refine dH (λq=>?_) (λq=>?_)
   ·have q:(g1.first:Int)<(g1.last:Int):=ab9 q;refine⟨_,λ_ _ z=>z,?_⟩;have Z:=Gg.pC (g:=g1) (by omega);refine⟨_,rfl,r,a.dx,_,rfl,M.ins,cw _ _ _ (by decide),_,rfl,p,_,d,_,_,rfl,j.ins,aS T,T.fI,jE _ _,_,rfl,p,_,d,_,_,rfl,j.ins,aS T,T.iV,jD _ _,_,rfl,p,_,d,_,_,rfl,j.ins,aS T,T.dZ,fK _ _,u,_,_,.int g1.z1,rfl,rfl,bQ.of j.wo,cI (bV Z),r,S,a,g1.front,g1.z1,rfl,M,by rw[D.wf.w];exact ad.gi.f,?_⟩
    cases L:S.by g1.front g1.z1 with
    |none=>exact⟨_,rfl,rfl,_,rfl,gS ⟨g1,_,rfl,y,j,ad,λ_=>L⟩⟩
    |some c=>
     rw[show (Option.map (λn:Nat=>V.int (n:Int)) (some c)).getD V.non=V.int (c:Int) from rfl];refine⟨_,rfl,rfl,_,rfl,dk ?_⟩;refine⟨_,rfl,_,rfl,p,_,d,_,rfl,j.ins,aS T,T.fI,(by show 7<1000;decide),?_⟩;rw[zu];have C:=j.set (g':={ g1 with front:=c }) rfl;have I:=up (o2:=.ins A.aJ d (fw { g1 with front:=c } u)) y;generalize upd t p (.ins A.aJ d (fw { g1 with front:=c } u))=H3 at C I ⊢;refine⟨_,rfl,p,_,d,_,_,rfl,C.ins,aS T,T.dZ,fK _ _,_,_,rfl,rfl,_,rfl,p,_,d,_,rfl,C.ins,aS T,T.dZ,(by show 7<1000;decide),?_⟩;rw[show V.int ((({ g1 with front:=c }:Gg).first:Int)+ 1)=V.int ((g1.first+ 1:Nat):Int) from rfl,Hi];exact⟨_,by show g1.last - (g1.first+ 1)<_;omega,_,_,rfl,rfl,up I,C.set rfl,ad.fwd D (by omega) L⟩
   ·exact⟨g1,v,rfl,y,j,ad,λz=>absurd (abX (show (g1.first:Int)<(g1.last:Int) by omega)) q⟩
  rintro B t ⟨g0,v0,rfl,f0,p0,G,n0⟩;refine⟨λ B t=>∃g1 v,B=[some (.ref p),some (.ref r),v]/\(∀b o,b≠p->H b=some o->t b=some o)/\dD A.aJ t p d u g1/\ri S g g1/\(g1.first<g1.last->S.by g1.front g1.z1=none)/\(g1.first<g1.last->S.by g1.bh g1.z2=none),?_,?_⟩
  ·refine⟨λm N t=>∃g1 v,m=g1.last - g1.first/\N=[some (.ref p),some (.ref r),v]/\(∀b o,b≠p->H b=some o->t b=some o)/\dD A.aJ t p d u g1/\ri S g g1/\(g1.first<g1.last->S.by g1.front g1.z1=none),⟨_,_,v0,rfl,rfl,f0,p0,G,n0⟩,?_⟩;rintro m N t ⟨g1,v,rfl,rfl,y,j,ad,O⟩;have M:=kp y;have ll:=ad.gi.ll;have fl:=ad.gi.fl;have lw:g1.word.length<=1000:=by rw[ad.wo];exact J
   refine⟨_,rfl,p,_,d,_,_,rfl,j.ins,aS T,T.dZ,fK _ _,_,rfl,p,_,d,_,_,rfl,j.ins,aS T,T.gL,jG _ _,_,_,rfl,rfl,_,rfl,?_⟩;refine dH (λq=>?_) (λq=>?_)
   ·have q:(g1.first:Int)<(g1.last:Int):=ab9 q;refine⟨_,λ_ _ z=>z,?_⟩;have Z:=Gg.at2 (g:=g1) ll;refine⟨_,rfl,r,a.dx,_,rfl,M.ins,cw _ _ _ (by decide),_,rfl,p,_,d,_,_,rfl,j.ins,aS T,T.fQ,jF _ _,_,rfl,p,_,d,_,_,rfl,j.ins,aS T,T.iV,jD _ _,_,rfl,p,_,d,_,_,rfl,j.ins,aS T,T.gL,jG _ _,u,_,_,.int (-g1.z2),rfl,rfl,bQ.of j.wo,cI (bV Z),_,rfl,r,S,a,g1.bh,g1.z2,(by show [V.ref r,V.int (g1.bh:Int),V.int (- -g1.z2)]=_;rw[acX]),M,by rw[D.wf.w];exact ad.gi.r,?_⟩
    cases L:S.by g1.bh g1.z2 with
    |none=>exact⟨_,rfl,rfl,_,rfl,gS ⟨g1,_,rfl,y,j,ad,O,λ_=>L⟩⟩
    |some c=>
     rw[show (Option.map (λn:Nat=>V.int (n:Int)) (some c)).getD V.non=V.int (c:Int) from rfl];refine⟨_,rfl,rfl,_,rfl,dk ?_⟩;refine⟨_,rfl,_,rfl,p,_,d,_,rfl,j.ins,aS T,T.fQ,(by show 7<1000;decide),?_⟩;rw[A5];have C:=j.set (g':={ g1 with bh:=c }) rfl;have I:=up (o2:=.ins A.aJ d (fw { g1 with bh:=c } u)) y;generalize upd t p (.ins A.aJ d (fw { g1 with bh:=c } u))=H3 at C I ⊢;refine⟨_,rfl,p,_,d,_,_,rfl,C.ins,aS T,T.gL,jG _ _,_,_,rfl,rfl,_,rfl,p,_,d,_,rfl,C.ins,aS T,T.gL,(by show 7<1000;decide),?_⟩;rw[show V.int ((({ g1 with bh:=c }:Gg).last:Int) - 1)=V.int ((g1.last - 1:Nat):Int) by show V.int ((g1.last:Int) - 1)=_;congr 1;omega,K1];exact⟨_,by show (g1.last - 1) - g1.first<_;omega,_,_,rfl,rfl,up I,C.set rfl,ad.bwd D (by omega) L,λz=>O (by have z:g1.first<g1.last - 1:=z;omega)⟩
   ·exact⟨g1,v,rfl,y,j,ad,O,λz=>absurd (abX (show (g1.first:Int)<(g1.last:Int) by omega)) q⟩
  rintro B t ⟨g1,v,rfl,y,j,ad,O,n2⟩;exact k g1 t y j ⟨ad.wh,ad.wo,ad.st,ad.gi,ad.ef,ad.er,O,n2,ad.k1,ad.k2⟩
theorem Rc (ns:List Int)(j:Nat):gf (ao ns) none (some (j:Int))=ao (ns.take j):=by
 rw[iq,HT.Al];show ao ((List.drop 0 ns).take (min j ns.length - 0))=_;rw[List.drop_zero,Nat.sub_zero];by_cases h:j<=ns.length
 ·rw[ads h]
 ·rw[adQ (by omega),acN,adS (by omega)]
theorem K2 (ns:List Int)(j:Nat)(h:j<=ns.length):gf (ao ns) (some (j:Int)) none=ao (ns.drop j):=by
 rw[iq,HT.Al,ads h];show ao ((ns.drop j).take (ns.length - j))=_;rw[adS (by rw[acy];exact abr _)]
theorem oy {by_:Nat->Int->Option Nat}:∀{ws:List Int} {r:Nat},(b6 by_ r ws).length<=ws.length
 |[],_=>abr _
 |z::ws,r=>by
  cases q:by_ r z with
  |none=>rw[wZ q];exact abS _
  |some d=>rw[mh q,abL,abL];exact Nat.succ_le_succ oy
inductive EK (CR CG:Addr) (vs:List V) (H:Hp) (Q:VK) (E_:XK):Prop
 |mk (p dx wa r:Addr) (g:Gg) (S:RS) (a:RA) (R:Za2):vs=[.ref p,.ref r]->dD CG H p dx wa g->ax CR H r S a->Good S [] R->g.start<S.made->g.bh<S.made->g.last<g.word.length->g.word.length<=1000->(∀q H',aq H H'->bS H' 2 (.ref q) (kD g.which ((g.start::b6 S.by g.start (g.word.take g.first))++(g.bh::b6 S.by g.bh (g.word.drop (g.last+ 1)))) g.first)->Q (.ref q) H')->EK CR CG vs H Q E_
theorem zy (T:Txt K mg A):bj P w K mg base (bF P w) 3 A.sT A.sU ["self","rooms"] (EK A.az A.aJ):=by
 refine T.qU.F.okN lK (λvs H Q E h=>?_) (λcf AA V s H vs Q E hr h=>?_)
 ·obtain⟨p,m,L,r,g,S,a,R,rfl,_⟩:=h;rfl
 ·obtain⟨p,m,L,r,g,S,a,R,rfl,t,hR,N,hs,M,SQ,A4,k⟩:=h
  refine⟨_,(ah (aZ (i:=2) lK.nd rfl (Or.inl rfl) (bA (xB T) hr.Za5 rfl T.walked.m T.walked.F.kp T.walked.b .nil aM (ae (pv 1) (ae (aF (pv 0) rfl) (ae (ig yq (aF (pv 0) rfl) kB (fb (aF (pv 0) rfl))) aj)))))
   (ah (aZ (i:=3) lK.nd rfl (Or.inl rfl) (bA (xB T) hr.Za5 rfl T.walked.m T.walked.F.kp T.walked.b .nil aM (ae (pv 1) (ae (aF (pv 0) rfl) (ae (ig yq (aF (pv 0) rfl) (fb (aT dM (aF (pv 0) rfl) ay)) kB) aj)))))
   (au (bf (cV (ae (m8 (l:=[114,117,108,101]) rfl) (ae (aF (pv 0) rfl) (ae (dc fL rfl T.jC acF (ae (aT uq (pv 2) (pv 3)) aj)) (ae (aF (pv 0) rfl) aj))))))))),?_⟩
  refine cX ?_;intro hH fv;have B:∀c z d,S.by c z=some d->d<S.made:=λc z d e=>(N.st c z d e).2.1
  refine⟨_,rfl,_,rfl,p,_,m,_,_,rfl,t.ins,aS T,T.oW,tZ _ _,_,rfl,p,_,m,_,_,rfl,t.ins,aS T,T.iV,jD _ _,_,rfl,p,_,m,_,_,rfl,t.ins,aS T,T.dZ,fK _ _,_,rfl,L,_,rfl,t.wo,λt1 H1 s1 e1=>?_⟩;rw[Rc]at e1;refine⟨r,S,a,g.start,t1,g.word.take g.first,rfl,hR.same s1,N.wf,hs,B,e1,by rw[abZ];omega,λl1 H2 s2 h2=>?_⟩;have y:=s1.trans s2;have F:=t.same y;refine⟨_,rfl,_,rfl,p,_,m,_,_,rfl,F.ins,aS T,T.fQ,jF _ _,_,rfl,p,_,m,_,_,rfl,F.ins,aS T,T.iV,jD _ _,_,rfl,p,_,m,_,_,rfl,F.ins,aS T,T.gL,jG _ _,_,_,rfl,rfl,_,rfl,L,_,rfl,F.wo,λt2 H3 s3 e3=>?_⟩;rw[show (g.last:Int)+ 1=((g.last+ 1:Nat):Int) by omega,K2 _ _ (by omega)]at e3;have C:=y.trans s3;refine⟨r,S,a,g.bh,t2,g.word.drop (g.last+ 1),rfl,hR.same C,N.wf,M,B,e3,by rw[acy];omega,λl2 H4 s4 h4=>?_⟩;have D:=C.trans s4;have Z:=t.same D;have lx:=oy (by_:=S.by) (ws:=g.word.take g.first) (r:=g.start);have ly:=oy (by_:=S.by) (ws:=g.word.drop (g.last+ 1)) (r:=g.bh);rw[abZ]at lx;rw[acy]at ly;refine⟨_,rfl,p,_,m,_,_,rfl,Z.ins,aS T,T.zf,Hh _ _,_,rfl,_,rfl,l1,l2,_,_,rfl,rfl,(s3.trans s4) _ _ h2,h4,?_,λO n3=>?_⟩
  ·rw[aI,aI,b8,b8,abL,abL];exact abB (show _<=100000 by omega) (by decide)
  refine⟨O,_,rfl,.inl ⟨aD.of ai,λG n4=>?_⟩⟩;rw[<-ints_app,<-gY]at n4 ⊢;have s5:=aq.upd (o:=.lst (ao (nI ((g.start::b6 S.by g.start (g.word.take g.first))++(g.bh::b6 S.by g.bh (g.word.drop (g.last+ 1))))))) n3;generalize (g.start::b6 S.by g.start (g.word.take g.first))++(g.bh::b6 S.by g.bh (g.word.drop (g.last+ 1)))=path at *;have U:=s5.trans (aq.upd (o:=.tup (ao (nI path))) n4);have e6:upd (upd H4 O (.lst (ao (nI path)))) G (.tup (ao (nI path))) G=_:=ai;generalize upd (upd H4 O (.lst (ao (nI path)))) G (.tup (ao (nI path)))=H6 at U e6 ⊢;refine⟨_,rfl,p,_,m,_,_,rfl,(U _ _ Z.ins),aS T,T.dZ,fK _ _,(Za4 4),λq nq=>?_⟩;have X:=aq.upd (o:=.tup [.str (tx [114,117,108,101]),.int (g.which:Int),.ref G,.int (g.first:Int)]) nq;refine k q _ (D.trans (U.trans X)) (.t ai rfl λj v d b f=>?_)
  match j,b,f with
  |0,b,f=>cases b;cases f;exact .s
  |1,b,f=>cases b;cases f;exact .i
  |2,b,f=>
   cases b;cases f;refine .t (X _ _ e6) (by rw[aI,b8,abo]) λi u x f1 J=>?_
   obtain⟨z,rfl,n⟩:=cq f1;unfold nI at n;rw[aby]at n J
   cases Y:path[i]? with
   |none=>rw[Y]at n;cases n
   |some c=>
    rw[Y]at n J;cases n;cases J;exact .i
  |3,b,f=>cases b;cases f;exact .i
  |j+ 4,b,f=>simp at b
theorem same_none (s:aq H I){b:Addr}(h:I b=none):H b=none:=by
 cases e:H b with
 |none=>rfl
 |some o=>rw[s _ _ e]at h;cases h
structure KA where
 dx:Addr
 aQ:Addr
 aG:Addr
 aA:Addr
 aW:Addr
def oz (r:Addr)(c:KA)(a:Nat):List (Str×V):=[("rooms",.ref r),("rules",.ref c.aQ),("goings",.ref c.aG),("agenda",.ref c.aA),("waiting",.ref c.aW),("heard",.int a)]
theorem eZ (r:Addr)(c:KA)(a:Nat):(oz r c a).lookup ("rooms":Str)=some (.ref r):=by kernel_rfl
theorem Hk (r:Addr)(c:KA)(a:Nat):(oz r c a).lookup ("rules":Str)=some (.ref c.aQ):=by kernel_rfl
theorem j1 (r:Addr)(c:KA)(a:Nat):(oz r c a).lookup ("goings":Str)=some (.ref c.aG):=by kernel_rfl
theorem mK (r:Addr)(c:KA)(a:Nat):(oz r c a).lookup ("agenda":Str)=some (.ref c.aA):=by kernel_rfl
theorem ky (r:Addr)(c:KA)(a:Nat):(oz r c a).lookup ("waiting":Str)=some (.ref c.aW):=by kernel_rfl
theorem t6 (r:Addr)(c:KA)(a:Nat):(oz r c a).lookup ("heard":Str)=some (.int a):=by kernel_rfl
theorem ew {c:KA}(h:x∉(["rooms","rules","goings","agenda","waiting","heard"]:List Str)):(oz a c n).lookup x=none:=by
 simp only[abD,acd,adO,not_or]at h;obtain⟨d,e,b,g,f,i⟩:=h;unfold oz;simp only[List.lookup,abG.mpr d,abG.mpr e,abG.mpr b,abG.mpr g,abG.mpr f,abG.mpr i]
theorem Hl (r:Addr)(c:KA)(a n:Nat):bJ "heard" (.int n) (oz r c a)=oz r c n:=by kernel_rfl
structure o6 (CG:Addr) (H:Hp) (gv:List V) (gs:List (Option Gg)) (O:Addr->Prop):Prop where
 l:gv.length=gs.length
 n:∀(i:Nat) (v:V),gv[i]?=some v->gs[i]?=some none->v=.non
 s:∀(i:Nat) (v:V) (g:Gg),gv[i]?=some v->gs[i]?=some (some g)->∃p dx wa,v=.ref p/\dD CG H p dx wa g/\O p
 i:∀(i j:Nat) (p:Addr),gv[i]?=some (.ref p)->gv[j]?=some (.ref p)->i=j
structure b9 (CG CC:Addr) (H:Hp) (x r:Addr) (c:KA) (gs:List (Option Gg)) (ag:List Nat) (W:bG) (hd:Nat) (fp:List (List Int×Nat)) (O:Addr->Prop):Prop where
 ins:H x=some (.ins CC c.dx (oz r c hd))
 hG:∃gv,H c.aG=some (.lst gv)/\o6 CG H gv gs O
 hA:H c.aA=some (.lst (ao (nI ag)))
 wt:nk H c.aW W O
 ne:c.aG≠c.aA
 ox:O x
 oG:O c.aG
 oA:O c.aA
 th:∀b,O b->∃o,H b=some o/\(∀xs,o≠.tup xs)/\(∀kv,o≠.dT kv)/\(∀u v,o≠.cQ u v)/\∀ps,o≠.lQ ps
section
variable {CG CC:Addr}{H H':Hp}{x r:Addr}{c:KA}{gs:List (Option Gg)}{ag:List Nat}{W:bG}{hd:Nat}{fp:List (List Int×Nat)}{O:Addr->Prop}
theorem o6.keep (h:o6 CG H L gs O)(f:∀b o,O b->H b=some o->H' b=some o)(ft:∀b a,H b=some (.tup a)->H' b=some (.tup a)):o6 CG H' L gs O:=by
 refine⟨h.l,h.n,λi v g j d=>?_,h.i⟩;obtain⟨p,dx,k,e,q,o⟩:=h.s i v g j d;exact⟨p,dx,k,e,⟨f _ _ o q.ins,ft _ _ q.wo⟩,o⟩
theorem b9.keep (h:b9 CG CC H x r c gs ag W hd fp O)(f:∀b o,O b->H b=some o->H' b=some o)(ft:∀b d,H b=some (.tup d)->H' b=some (.tup d)):b9 CG CC H' x r c gs ag W hd fp O:=by
 obtain⟨g,i,g2⟩:=h.hG;refine⟨f _ _ h.ox h.ins,⟨g,f _ _ h.oG i,g2.keep f ft⟩,f _ _ h.oA h.hA,h.wt.keep f,h.ne,h.ox,h.oG,h.oA,λb a=>?_⟩;obtain⟨o,e,q⟩:=h.th b a;exact⟨o,f _ _ a e,q⟩
theorem b9.same (h:b9 CG CC H x r c gs ag W hd fp O)(s:aq H H'):b9 CG CC H' x r c gs ag W hd fp O:=h.keep (λb o _ e=>s b o e) (λb o e=>s _ _ e)
theorem b9.hY (h:b9 CG CC H x r c gs ag W hd fp O){b:Addr}{a:List V}(e:H b=some (.tup a)):¬O b:=λz=>by
 obtain⟨o,q,n,_⟩:=h.th b z;rw[e]at q;exact n a (Za0 q).symm
theorem b9.EL (h:b9 CG CC H x r c gs ag W hd fp O){b:Addr}{a:List (List Key×V)}(e:H b=some (.dT a)):¬O b:=λz=>by
 obtain⟨o,q,_,n,_⟩:=h.th b z;rw[e]at q;exact n a (Za0 q).symm
theorem b9.waits (h:b9 CG CC H x r c gs ag W hd fp O){k:bG}{d:Addr->Prop}(f:∀b o,(∀j,o≠.dK j)->H b=some o->H' b=some o)(a:∀b,O b->d b)(w:nk H' c.aW k d)(th:∀b,d b->∃o,H' b=some o/\(∀l,o≠.tup l)/\(∀j,o≠.dT j)/\(∀u v,o≠.cQ u v)/\∀B,o≠.lQ B):b9 CG CC H' x r c gs ag k hd fp d:=by
 obtain⟨n,y,g2⟩:=h.hG;refine⟨f _ _ (by intro _ z;cases z) h.ins,⟨n,f _ _ (by intro _ z;cases z) y,g2.l,g2.n,λi v g s m=>?_,g2.i⟩,f _ _ (by intro _ z;cases z) h.hA,w,h.ne,a _ h.ox,a _ h.oG,a _ h.oA,th⟩;obtain⟨p,dx,t,e,q,o⟩:=g2.s i v g s m;exact⟨p,dx,t,e,⟨f _ _ (by intro _ z;cases z) q.ins,f _ _ (by intro _ z;cases z) q.wo⟩,a _ o⟩
theorem b9.agenda (h:b9 CG CC H x r c gs ag W hd fp O)(a:List Nat):b9 CG CC (upd H c.aA (.lst (ao (nI a)))) x r c gs a W hd fp O:=by
 obtain⟨l,t,g2⟩:=h.hG;have k:∀b o,b≠c.aA->H b=some o->upd H c.aA (.lst (ao (nI a))) b=some o:=λb o n e=>by rw[ak n];exact e
 have kn:∀b o,(∀f,o≠.lst f)->H b=some o->upd H c.aA (.lst (ao (nI a))) b=some o:=λb o n e=>k b o (λz=>by rw[z,h.hA]at e;exact n _ (Za0 e).symm) e
 refine⟨kn _ _ (by intro _ z;cases z) h.ins,⟨l,k _ _ h.ne t,g2.l,g2.n,λi v g m j=>?_,g2.i⟩,ai,?_,h.ne,h.ox,h.oG,h.oA,λb d=>?_⟩
 ·obtain⟨p,dx,s,e,q,o⟩:=g2.s i v g m j;exact⟨p,dx,s,e,⟨kn _ _ (by intro _ z;cases z) q.ins,kn _ _ (by intro _ z;cases z) q.wo⟩,o⟩
 ·obtain⟨D,E,k1,k2⟩:=h.wt;exact⟨D,E,k1.keep λb o d e=>by obtain⟨u,q⟩:=k1.there d;rw[q]at e;cases e;exact kn _ _ (by intro _ z;cases z) q,k2⟩
 ·by_cases e:b=c.aA
  ·exact⟨_,by rw[e];exact ai,(by intro _ z;cases z),(by intro _ z;cases z),(by intro _ _ z;cases z),by intro _ z;cases z⟩
  ·obtain⟨o,q,n⟩:=h.th b d;exact⟨o,k _ _ e q,n⟩
end
def Bt (O:Addr->Prop)(H a:Hp):Prop:=∀b o,¬O b->H b=some o->a b=some o
theorem Bt.trans {O a:Addr->Prop}(h:Bt O H I)(c:Bt a I J)(f:∀b,a b->O b\/H b=none):Bt O H J:=λb o n e=>c b o (λz=>(f b z).elim n λq=>by rw[q]at e;cases e) (h b o n e)
theorem Bt.of {O:Addr->Prop}(s:aq H I):Bt O H I:=λb o _ e=>s b o e
inductive ER (CR CG CC:Addr) (vs:List V) (H:Hp) (Q:VK) (E_:XK):Prop
 |mk (x r:Addr) (c:KA) (gs:List (Option Gg)) (ag:List Nat) (W:bG) (hd:Nat) (fp:List (List Int×Nat)) (O:Addr->Prop) (n m:Nat) (s:Int):vs=[.ref x,.int n,.int m,.int s]->b9 CG CC H x r c gs ag W hd fp O->m<100000->n<100000->(-1000<=s/\s<=1000)->(∀O' H',Bt O H H'->(∀b o,(∀kv,o≠.dK kv)->H b=some o->H' b=some o)->(∀b,O b->O' b)->(∀b,O' b->O b\/H b=none)->b9 CG CC H' x r c gs ag (addW W m s n) hd fp O'->Q .non H')->ER CR CG CC vs H Q E_
structure jl (H:Hp) (O:Addr->Prop) (H1:Hp) (O1:Addr->Prop):Prop where
 f:∀b o,(∀kv,o≠.dK kv)->H b=some o->H1 b=some o
 bt:Bt O H H1
 le:∀b,O b->O1 b
 nw:∀b,O1 b->O b\/H b=none
 th:∀b,O1 b->∃o,H1 b=some o/\(∀xs,o≠.tup xs)/\(∀kv,o≠.dT kv)/\(∀u v,o≠.cQ u v)/\∀ps,o≠.lQ ps
theorem jl.new {O a:Addr->Prop}(h:jl H O I a){p:Addr}{c:List (Key×V)}(f:I p=none):jl H O (upd I p (.dK c)) a:=by
 have s:=aq.upd (o:=.dK c) f;refine⟨λb o n e=>s _ _ (h.f b o n e),λb o n e=>s _ _ (h.bt b o n e),h.le,h.nw,λb d=>?_⟩;obtain⟨o,e,q⟩:=h.th b d;exact⟨o,s _ _ e,q⟩
theorem jl.put {O a:Addr->Prop}(h:jl H O I a){d:Addr}(hd:a d){f kv':List (Key×V)}(ed:I d=some (.dK f)):jl H O (upd I d (.dK kv')) a:=by
 have k:∀b o,b≠d->I b=some o->upd I d (.dK kv') b=some o:=λb o n e=>by rw[ak n];exact e
 refine⟨λb o n e=>k _ _ (λz=>by have:=h.f b o n e;rw[z,ed]at this;exact n _ (Za0 this).symm) (h.f b o n e),λb o n e=>k _ _ (λz=>?_) (h.bt b o n e),h.le,h.nw,λb c=>?_⟩
 ·rcases h.nw d hd with q|q
  ·exact n (by rw[z];exact q)
  ·rw[z,q]at e;cases e
 ·by_cases e:b=d
  ·exact⟨_,by rw[e];exact ai,(by intro _ z;cases z),(by intro _ z;cases z),(by intro _ _ z;cases z),by intro _ z;cases z⟩
  ·obtain⟨o,q,m⟩:=h.th b c;exact⟨o,k _ _ e q,m⟩
theorem jl.SR {O a:Addr->Prop}(h:jl H O I a){p:Addr}(f:H p=none){o:HO}(e:I p=some o)(k:∀c,o≠.tup c)(i:∀d,o≠.dT d)(j:∀u v,o≠.cQ u v)(g:∀l,o≠.lQ l):jl H O I (DW a p):=by
 refine⟨h.f,h.bt,λb z=>.inl (h.le b z),λb z=>z.elim (h.nw b) λq=>.inr (by rw[q];exact f),λb z=>?_⟩;rcases z with z|z
 ·exact h.th b z
 ·rw[z];exact⟨o,e,k,i,j,g⟩
theorem jl.no {O c:Addr->Prop}(h:jl H O I c){p:Addr}(a:I p=none):H p=none:=by
 cases e:H p with
 |none=>rfl
 |some o=>
  by_cases q:O p
  ·obtain⟨d,b,_⟩:=h.th p (h.le p q);rw[a]at b;cases b
  ·rw[h.bt p o q e]at a;cases a
theorem b9.mid {x:Addr}{d:KA}{gs:List (Option Gg)}{W:bG}{hd:Nat}{f:List (List Int×Nat)}{O:Addr->Prop}(h:b9 a b H x c d gs B W hd f O):jl H O H O:=⟨λ_ _ _ e=>e,λ_ _ _ e=>e,λ_ z=>z,λ_ z=>.inl z,h.th⟩
theorem mM (T:Txt K mg A):bj P w K mg base (bF P w) 1 A.nS A.nT ["self","number","room","step"] (ER A.az A.aJ A.aB):=by
 refine T.gw.F.okN jk (λV H Q E h=>?_) (λcf AA M s H V Q E Z h=>?_)
 ·obtain⟨x,r,c,gs,ag,W,C,U,O,n,m,s,rfl,_⟩:=h;rfl
 ·obtain⟨x,r,c,gs,ag,W,C,U,O,n,m,s,rfl,h,hm,hn,X,k⟩:=h;have L:=hO Z
  refine⟨_,(ah (cC (aZ (i:=4) jk.nd rfl (Or.inl rfl) (l0 (aF (pv 0) rfl) (pv 2) eS ⟨rfl,rfl,rfl,rfl⟩)))
   (ah (cC (aZ (i:=5) jk.nd rfl (Or.inl rfl) (l0 (pv 4) (pv 3) eS ⟨rfl,rfl,rfl,rfl⟩)))
   (au (m9 L (pv 5) (pv 1) lS rfl)))),?_⟩
  refine cX ?_;intro S fv;refine⟨λ f G=>∃d y,f=[some (.ref x),some (.int (n:Int)),some (.int (m:Int)),some (.int s),some (.ref d),none]/\jl H O G y/\eM G c.aW W y m d,?_,?_⟩
  ·refine⟨_,rfl,x,_,c.dx,_,_,rfl,h.ins,aL T,T.ji,ky _ _ _,c.aW,rfl,h.wt.pz,_,rfl,λp a=>?_⟩;obtain⟨b,g,q,t,J⟩:=h.wt.room a (c:=(m:Int)) (by omega);refine⟨b,Sum.inl (m:Int),g,rfl,q,λv j=>?_,λj=>?_⟩
   ·obtain⟨d,rfl,w⟩:=t v j;exact⟨d,O,rfl,h.mid.new a,w⟩
   ·have w:=J j;have R:O c.aW:=by obtain⟨D,E,_,z⟩:=h.wt;exact z.o _ (.inl rfl)
    exact⟨p,_,rfl,((h.mid.new a).put R g).SR a (by rw[ak (λz=>by rw[z]at a;obtain⟨o,e,_⟩:=h.th _ R;rw[a]at e;cases e)];exact ai) (by intro _ z;cases z) (by intro _ z;cases z) (by intro _ _ z;cases z) (by intro _ z;cases z),w⟩
  rintro f G ⟨d,y,rfl,B,I⟩;refine⟨λ f F=>∃e u,f=[some (.ref x),some (.int (n:Int)),some (.int (m:Int)),some (.int s),some (.ref d),some (.ref e)]/\jl H O F u/\oP F c.aW W u m s e,?_,?_⟩
  ·refine⟨_,rfl,d,rfl,I.pz,_,rfl,λp a=>?_⟩;obtain⟨b,g,q,t,J⟩:=I.cell a X;refine⟨b,Sum.inl s,g,rfl,q,λv j=>?_,λj=>?_⟩
   ·obtain⟨e,rfl,w⟩:=t v j;exact⟨e,y,rfl,B.new a,w⟩
   ·have w:=J j;have C:=I.own;exact⟨p,_,rfl,((B.new a).put C g).SR (B.no a) (by rw[ak (λz=>by rw[z]at a;obtain⟨o,e,_⟩:=B.th _ C;rw[a]at e;cases e)];exact ai) (by intro _ z;cases z) (by intro _ z;cases z) (by intro _ _ z;cases z) (by intro _ z;cases z),w⟩
  rintro f F ⟨e,u,rfl,m2,N⟩;obtain⟨b,g,q,t⟩:=N.put (n:=(n:Int)) (by omega);refine⟨_,rfl,_,rfl,e,_,rfl,oH.k (k:=Sum.inl (n:Int)) g q,?_⟩;have l:=m2.put (kv':=putK b (Sum.inl (n:Int)) (.bl true)) N.own g;exact k u _ l.bt l.f l.le l.nw (h.waits l.f l.le t l.th)
inductive EV (CR CG CC:Addr) (vs:List V) (H:Hp) (Q:VK) (E_:XK):Prop
 |mk (x r:Addr) (c:KA) (gs:List (Option Gg)) (ag:List Nat) (W:bG) (hd:Nat) (fp:List (List Int×Nat)) (O:Addr->Prop) (m:Nat) (s:Int):vs=[.ref x,.int m,.int s]->b9 CG CC H x r c gs ag W hd fp O->(∀ns:List Nat,ns.Nodup->(∀n:Nat,n∈ns↔W m s n=true)->ag.length+ ns.length<=1000000)->(∀ns H',Bt O H H'->ns.Nodup->(∀n:Nat,n∈ns↔W m s n=true)->b9 CG CC H' x r c gs (ag++ns) (fi W m s) hd fp O->Q .non H')->EV CR CG CC vs H Q E_
theorem eP (T:Txt K mg A):bj P w K mg base (bF P w) 1 A.nU A.nV ["self","room","step"] (EV A.az A.aJ A.aB):=by
 refine T.cF.F.okN vj (λvs H Q E h=>?_) (λcf AA R s H vs Q E hr h=>?_)
 ·obtain⟨x,r,c,Z,J,W,hd,X,O,m,s,rfl,_⟩:=h;rfl
 ·obtain⟨x,r,c,Z,J,W,hd,X,O,m,s,rfl,h,hz,k⟩:=h;have L:=hO hr;refine⟨_,(au (aV (cP abC PySem.F.slot_list_extend PySem.F.type_list_extend wC (aF (pv 0) rfl) (ae (dc (jb rfl) rfl T.g6 acA (ae (tK (kS L (aF (pv 0) rfl) (pv 1) eS ⟨rfl,rfl,rfl,rfl⟩) (pv 2) eS ⟨rfl,rfl,rfl,rfl⟩) aj)) aj)))),?_⟩
  have rest:∀{i:Hp} {D:bG} {l:Addr} {ns:List Nat},b9 A.aJ A.aB i x r c Z J D hd X O->Bt O H i->i l=none->ns.Nodup->(∀n:Nat,n∈ns↔W m s n=true)->D=fi W m s->vL (V.ref c.aA) [V.ref l] (upd i l (.lst (ao (nI ns)))) (λ_ H'=>Q .non H'):=λ{i D l ns} q b2 g nd U eW=>by
   subst eW;have M:=aq.upd (o:=.lst (ao (nI ns))) g;refine⟨c.aA,l,_,_,rfl,rfl,M _ _ q.hA,ai,?_,?_⟩
   ·rw[aI,aI,b8,b8];exact abB (hz ns nd U) (by decide)
   ·rw[<-ints_app,<-gY];exact k ns _ (λb o n e=>by rw[ak (λz=>n (by rw[z];exact h.oA))];exact M _ _ (b2 b o n e)) nd U ((q.same M).agenda (J++ns))
  refine⟨_,rfl,x,_,c.dx,_,_,rfl,h.ins,aL T,T.jZ,mK _ _ _,.inl ⟨rfl,_,aD.of h.hA⟩,_,rfl,x,_,c.dx,_,_,rfl,h.ins,aL T,T.ji,ky _ _ _,c.aW,rfl,h.wt.pz,_,rfl,λy I=>?_⟩;have s1:=aq.upd (o:=.dK []) I;have F:upd H y (.dK []) y=some (.dK []):=ai;generalize upd H y (.dK [])=C at s1 F ⊢;have S:=h.same s1;obtain⟨o,g1,g2⟩:=S.wt.get (c:=(m:Int));refine⟨o,g1,?_⟩;rcases g2 with ⟨rfl,no⟩|⟨d,rfl,w⟩
  ·refine⟨y,rfl,.inl ⟨_,.inl F⟩,_,rfl,λf j=>?_⟩;have a:=aq.upd (o:=.dK []) j;have t:upd C f (.dK []) f=some (.dK []):=ai;generalize upd C f (.dK [])=i at a t ⊢;refine⟨[],Sum.inl s,a _ _ F,rfl,(λv p=>by cases p),λ_=>⟨f,[],rfl,t,λl g=>?_⟩⟩;exact rest (ns:=[]) (S.same a) (.of (s1.trans a)) g ac6 (λn=>⟨(λz=>by cases z),λz=>by rw[no]at z;cases z⟩) (vU (no s)).symm
  ·refine⟨d,rfl,w.pz,_,rfl,λf j=>?_⟩;have a:=aq.upd (o:=.dK []) j;have t:upd C f (.dK []) f=some (.dK []):=ai;generalize upd C f (.dK [])=i at a t ⊢;have q:=S.same a;obtain⟨u,e1,Y,e3⟩:=(w.same a).pop s;refine⟨u,Sum.inl s,e1,rfl,λv p=>?_,λp=>⟨f,[],rfl,t,λl g=>?_⟩⟩
   ·obtain⟨e,N,ns,rfl,G,f1,f2,f3,f4,f5⟩:=e3 v p;refine⟨e,N,rfl,by rw[ak G];exact f1,λl g=>?_⟩;have B:=(q.mid.put (kv':=eh u (Sum.inl s)) w.own e1);rw[f2];exact rest (q.waits B.f B.le f5 B.th) (Bt.trans (.of (s1.trans a)) B.bt λb z=>.inl z) g f3 f4 rfl
   ·exact rest (ns:=[]) q (.of (s1.trans a)) g ac6 (λn=>⟨(λz=>by cases z),λz=>by rw[Y p]at z;cases z⟩) (vU (Y p)).symm
theorem _root_.L2.CI.Oo {bs:List (Nat×List Int×Nat)}{gs:List (Option Gg)}{W:bG}{d:Nat->Int->Prop}{x:Option Nat}(h:CI S bs gs B W d x){m:Nat}{s:Int}{ns:List Nat}(nd:ns.Nodup)(b:∀n:Nat,n∈ns↔W m s n=true):ns.length+ qo S.made gs.length (fi W m s)<=qo S.made gs.length W:=by
 cases ns with
 |nil=>
  have:∀n,W m s n=false:=λn=>by
   cases q:W m s n with
   |false=>rfl
   |true=>
    obtain⟨_,c,_,e,_⟩:=h.en _ _ _ q;rw[e]at q;have:=(b c).mpr q;cases this
  rw[vU this,ack,ad7];exact abr _
 |cons n r=>
  obtain⟨l,c,i,_,a,_,f,_⟩:=h.en _ _ _ ((b n).mp (abA ..));have a:m<S.made:=by omega
  have k:=Ks (G:=gs.length) (W:=W) a f
  have j:=DX (P:=λn:Nat=>W m s n) (G:=gs.length) nd λn a=>by
   have w:=(b n).mp a;obtain⟨_,c,_,e,_,g,_⟩:=h.en _ _ _ w;exact⟨by omega,w⟩
  omega
theorem _root_.L2.CI.two {bs:List (Nat×List Int×Nat)}{gs:List (Option Gg)}{W:bG}{a:Nat->Int->Prop}{x:Option Nat}(h:CI S bs gs B W a x):qo S.made gs.length W<=2* gs.length:=Ku λn=>by
 obtain⟨p,q,e,_⟩:=h.sl n;exact⟨p,q,e⟩
theorem _root_.L2.eM.keys {k:Addr}{W:bG}{O:Addr->Prop}(h:eM H k W O z d):∃(a:List (Key×V)) (zs:List Int),H d=some (.dK a)/\a.map (λb=>kV b.1)=ao zs/\zs.length<=2001/\∀s n,W z s n=true->s∈zs:=by
 obtain⟨D,E,o,B,hd⟩:=h;obtain⟨a,m,j,f,g⟩:=o.Gh hd
 have p:a.length<=2001:=uC (n:=2001) (lo:=-1000) j f g λi v l=>by
  cases e:E z i with
  |none=>rw[e]at l;cases l
  |some x=>have:=B.e z i x e;omega
 have ex:∃zs:List Int,a.map (·.1)=zs.map Sum.inl:=by
  clear m j g p
  induction a with
  |nil=>exact⟨[],rfl⟩
  |cons b r C=>
   obtain⟨zs,e⟩:=C λx c=>f x (abR _ c)
   obtain⟨i,t⟩:=f b (abA ..);exact⟨i::zs,by rw[acg,acg,e,t]⟩
 obtain⟨zs,e⟩:=ex;refine⟨a,zs,m,?_,?_,λs n w=>?_⟩
 ·rw[show (λb:Key×V=>kV b.1)=kV ∘ (·.1) from rfl,<-ab1,e,ab1];rfl
 ·have:=ade List.length e;rw[abo,abo]at this;omega
 ·obtain⟨x,c⟩:=o.se _ _ _ w;have:Sum.inl s∈a.map (·.1):=AI (v:=.ref x) (by rw[g,c];rfl);rw[e]at this;obtain⟨y,u,q⟩:=ach.mp this;rw[<-Sum.inl.inj q];exact u
structure j2 (CG CC:Addr) (S:RS) (bs:List (Nat×List Int×Nat)) (gs:List (Option Gg)) (W0:bG) (Ex:Nat->Int->Prop) (B:Nat) (x r:Addr) (c:KA) (hd:Nat) (fp:List (List Int×Nat)) (O:Addr->Prop) (H:Hp) (ag:List Nat) (W:bG):Prop where
 c:b9 CG CC H x r c gs ag W hd fp O
 i:CI S bs gs ag W Ex none
 s:∀r s n,W r s n=true->W0 r s n=true
 b:ag.length+ qo S.made gs.length W<=B
theorem j2.wake {bs:List (Nat×List Int×Nat)}{gs:List (Option Gg)}{j:bG}{i:Nat->Int->Prop}{x:Addr}{e:KA}{hd:Nat}{f:List (List Int×Nat)}{O:Addr->Prop}{W:bG}(h:j2 a b S bs gs j i n x c e hd f O H B W){m:Nat}{s:Int}{ns:List Nat}(nd:ns.Nodup)(g:∀d:Nat,d∈ns↔W m s d=true)(q:b9 a b I x c e gs (B++ns) (fi W m s) hd f O):j2 a b S bs gs j i n x c e hd f O I (B++ns) (fi W m s):=
 ⟨q,h.i.wake g,λc s d w=>h.s _ _ _ (cR.mp w).1,by have:=h.i.Oo nd g;have:=h.b;rw[abj];omega⟩
theorem j2.fits {bs:List (Nat×List Int×Nat)}{gs:List (Option Gg)}{j:bG}{f:Nat->Int->Prop}{x:Addr}{e:KA}{hd:Nat}{i:List (List Int×Nat)}{O:Addr->Prop}{W:bG}(h:j2 a b S bs gs j f n x c e hd i O H B W)(k:n<=1000000){m:Nat}{s:Int}:∀ns:List Nat,ns.Nodup->(∀d:Nat,d∈ns↔W m s d=true)->B.length+ ns.length<=1000000:=λns nd g=>by have:=h.i.Oo nd g;have:=h.b;omega
inductive A6 (CR CG CC:Addr) (vs:List V) (H:Hp) (Q:VK) (E_:XK):Prop
 |mk (x r:Addr) (c:KA) (S:RS) (a:RA) (bs:List (Nat×List Int×Nat)) (gs:List (Option Gg)) (ag:List Nat) (W:bG) (Ex:Nat->Int->Prop) (B hd:Nat) (fp:List (List Int×Nat)) (O:Addr->Prop) (m:Nat):vs=[.ref x,.int m]->j2 CG CC S bs gs W Ex B x r c hd fp O H ag W->B<=1000000->ax CR H r S a->S.Wf->(∀b,a.own r b->¬O b)->m<S.made->S.av m<S.made->(∀gQ W' H',Bt O H H'->j2 CG CC S bs gs W Ex B x r c hd fp O H' gQ W'->(∀s n,W' m s n=false)->(∀s n,W' (S.av m) s n=true->S.by (S.av m) s=none)->Q .non H')->A6 CR CG CC vs H Q E_
theorem pY (T:Txt K mg A):bj P w K mg base (bF P w) 2 A.jW A.jX ["self","room"] (A6 A.az A.aJ A.aB):=by
 refine T.iD.F.okN et (λvs H Q E h=>?_) (λcf AA outer s H vs Q E hr h=>?_)
 ·obtain⟨x,r,c,S,a,bs,Y,ag,W,Ex,B,X,fp,O,m,rfl,_⟩:=h;rfl
 ·obtain⟨x,r,c,S,a,bs,Y,ag,W,Ex,B,X,fp,O,m,rfl,h,hB,hR,wf,dj,hm,he,k⟩:=h;have pk:=hO hr
  refine⟨_,(ah (cz abQ rfl (cS (dc (jb rfl) rfl T.g6 acA (ae (kS pk (aF (pv 0) rfl) (pv 1) eS ⟨rfl,rfl,rfl,rfl⟩) aj))) (bK (i:=2) et.nd rfl (Or.inl rfl))
   (au (aV (bB (pv 0) (aL T) T.cF.m (eP T) hr.Za5 T.cF.b .nil aM (ae (pv 1) (ae (pv 2) aj))))))
   (ah (aZ (i:=3) et.nd rfl (Or.inl rfl) (bB (aF (pv 0) rfl) (aK T) T.dz.m (gN T) hr.Za5 T.dz.b .nil aM (ae (pv 1) aj)))
   (au (cz abQ rfl (cS (dc (jb rfl) rfl T.g6 acA (ae (kS pk (aF (pv 0) rfl) (pv 3) eS ⟨rfl,rfl,rfl,rfl⟩) aj))) (bK (i:=2) et.nd rfl (Or.inl rfl))
    (au (cC (bO (bu vF (bB (aF (pv 0) rfl) (aK T) T.du.m (fT T) hr.Za5 T.du.b .nil aM (ae (pv 3) (ae (pv 2) aj))) dh (bD _))
     (au (aV (bB (pv 0) (aL T) T.cF.m (eP T) hr.Za5 T.cF.b .nil aM (ae (pv 3) (ae (pv 2) aj)))))
     bq))))))),?_⟩
  refine cX ?_;intro hH fv;have rk:∀{D:Hp},Bt O H D->ax A.az D r S a:=λ{D} b=>hR.keep (λb' o hb e=>b b' o (dj b' hb) e) (λb' xs e=>b b' _ (h.c.hY e) e)
  have get:∀{Z:Hp} {SV:List Nat} {W1:bG} (m1:Nat),j2 A.aJ A.aB S bs Y W Ex B x r c X fp O Z SV W1->∀M,Z M=none->∃(o:Option V) (d:Addr) (C:List (Key×V)) (G:List Int),dX (upd Z M (.dK [])) c.aW (.int (m1:Int)) o/\o.getD (.ref M)=.ref d/\upd Z M (.dK []) d=some (.dK C)/\C.map (λkv=>kV kv.1)=ao G/\∀s n,W1 m1 s n=true->s∈G:=λ{Z SV W1} m1 h1 M L=>by
   have s1:=aq.upd (o:=.dK []) L;obtain⟨o,g1,g2⟩:=(h1.c.same s1).wt.get (c:=(m1:Int));rcases g2 with ⟨rfl,no⟩|⟨d,rfl,w⟩
   ·exact⟨none,M,[],[],g1,rfl,ai,rfl,λs n z=>by rw[no]at z;cases z⟩
   ·obtain⟨C,G,e1,e2,_,e4⟩:=w.keys;exact⟨_,d,C,G,g1,rfl,e1,e2,e4⟩
  refine⟨_,rfl,x,_,c.dx,_,_,rfl,h.c.ins,aL T,T.ji,ky _ _ _,c.aW,rfl,h.c.wt.pz,_,rfl,λM L=>?_⟩;obtain⟨o,d,C,G,g1,g2,g3,g4,Ic⟩:=get m h M L;refine⟨o,g1,d,C,(by rw[g2]),g3,λl nl=>?_⟩;rw[g4];have s1:=(aq.upd (o:=.dK []) L).trans (aq.upd (o:=.lst (ao G)) nl);have hl:upd (upd H M (.dK [])) l (.lst (ao G)) l=some (.lst (ao G)):=ai;replace nl:=same_none (aq.upd (o:=.dK []) L) nl;generalize upd (upd H M (.dK [])) l (.lst (ao G))=Z at s1 hl ⊢;clear g1 g2 g3 g4;have SW:¬O l:=λz=>by obtain⟨o,e,_⟩:=h.c.th l z;rw[nl]at e;cases e
  have h1:j2 A.aJ A.aB S bs Y W Ex B x r c X fp O Z ag W:=⟨h.c.same s1,h.i,h.s,h.b⟩;refine⟨l,rfl,⟨_,aD.of hl⟩,?_⟩
  refine eR (K:=K) (a:=l) (xs:=ao G) (λi R D=>∃u I v2,R=[some (.ref x),some (.int (m:Int)),v2,none]/\Bt O Z D/\j2 A.aJ A.aB S bs Y W Ex B x r c X fp O D u I/\∀(j:Nat) (s:Int),j<i->G[j]?=some s->∀n,I m s n=false)
   ⟨ag,W,none,rfl,λ_ _ _ e=>e,h1,λj s t=>absurd t (by omega)⟩ (λi R D _ ⟨_,_,_,_,b2,_⟩=>aD.of (b2 _ _ SW hl)) ?_ ?_
  ·rintro i v R D hi ⟨u,I,v2,rfl,b2,p,t⟩;obtain⟨s,rfl,hs⟩:=cq hi;refine⟨_,rfl,x,c.dx,_,rfl,p.c.ins,ew (by decide),_,rfl,_,rfl,x,r,c,Y,u,I,X,fp,O,m,s,rfl,p.c,p.fits hB,λns H3 b3 nd hn h3=>?_⟩;refine⟨_,_,_,rfl,b2.trans b3 λb z=>.inl z,p.wake nd hn h3,λj s' f e n=>?_⟩
   cases q:fi I m s m s' n with
   |false=>rfl
   |true=>
    obtain⟨q1,q2⟩:=cR.mp q;by_cases F:j<i
    ·rw[t j s' F e n]at q1;cases q1
    ·rw[show j=i by omega,hs]at e;exact absurd ⟨rfl,(Za0 e).symm⟩ q2
  rintro R D ⟨u,I,v2,rfl,b2,p,t⟩;rw[aI]at t;have Oq:Bt O H D:=Bt.trans (.of s1) b2 λb z=>.inl z
  have off:∀s n,I m s n=false:=λs n=>by
   cases q:I m s n with
   |false=>rfl
   |true=>
    obtain⟨j,f,e⟩:=List.mem_iff_getElem.mp (Ic s n (p.s _ _ _ q));rw[t j s f (by rw[abm f,e]) n]at q;cases q
  clear t Ic hl SW h1;have R2:=rk Oq;refine⟨_,rfl,x,_,c.dx,_,_,rfl,p.c.ins,aL T,T.d0,eZ _ _ _,r,a.dx,_,rfl,R2.ins,cw _ _ _ (by decide),_,rfl,r,S,a,m,S.av m,rfl,R2,ou (by rw[wf.e];exact hm),?_⟩;generalize S.av m=e at he k ⊢;refine⟨_,rfl,x,_,c.dx,_,_,rfl,p.c.ins,aL T,T.ji,ky _ _ _,c.aW,rfl,p.c.wt.pz,_,rfl,λp2 pV=>?_⟩;obtain⟨o2,d2,Vk,y,g1,g2,g3,g4,Vl⟩:=get e p p2 pV;refine⟨o2,g1,d2,Vk,(by rw[g2]),g3,λl2 N=>?_⟩;rw[g4];have s3:=(aq.upd (o:=.dK []) pV).trans (aq.upd (o:=.lst (ao y)) N);have Az:upd (upd D p2 (.dK [])) l2 (.lst (ao y)) l2=some (.lst (ao y)):=ai;replace N:=same_none (aq.upd (o:=.dK []) pV) N;generalize upd (upd D p2 (.dK [])) l2 (.lst (ao y))=H3 at s3 Az ⊢;clear g1 g2 g3 g4;have Vm:¬O l2:=λz=>by obtain⟨o,e,_⟩:=p.c.th l2 z;rw[N]at e;cases e
  have h3:j2 A.aJ A.aB S bs Y W Ex B x r c X fp O H3 u I:=⟨p.c.same s3,p.i,p.s,p.b⟩;refine⟨l2,rfl,⟨_,aD.of Az⟩,?_⟩
  refine eR (K:=K) (a:=l2) (xs:=ao y) (λi R H4=>∃J W4 v2,R=[some (.ref x),some (.int (m:Int)),v2,some (.int (e:Int))]/\Bt O H3 H4/\j2 A.aJ A.aB S bs Y W Ex B x r c X fp O H4 J W4/\(∀r s n,W4 r s n=true->I r s n=true)/\∀(j:Nat) (s:Int),j<i->y[j]?=some s->∀n,W4 e s n=true->S.by e s=none)
   ⟨u,I,_,rfl,λ_ _ _ q=>q,h3,λ_ _ _ q=>q,λj s t=>absurd t (by omega)⟩ (λi R H4 _ ⟨_,_,_,_,b4,_⟩=>aD.of (b4 _ _ Vm Az)) ?_ ?_
  ·rintro i v R H4 hi ⟨J,W4,v4,rfl,b4,U,g,t⟩;obtain⟨s,rfl,hs⟩:=cq hi;have XJ:Bt O H H4:=Oq.trans (Bt.trans (.of s3) b4 λb z=>.inl z) λb z=>.inl z
   have R4:=rk XJ;refine⟨_,?_,λ_ _ z=>z⟩;refine⟨_,rfl,x,_,c.dx,_,_,rfl,U.c.ins,aL T,T.d0,eZ _ _ _,r,a.dx,_,rfl,R4.ins,cw _ _ _ (by decide),_,rfl,_,rfl,r,S,a,e,s,rfl,R4,by rw[wf.w];exact he,?_⟩
   cases eb:S.by e s with
   |none=>
    refine⟨rfl,_,rfl,?_⟩;refine dH (λz=>absurd z (by decide)) (λ_=>?_);refine⟨_,_,_,rfl,b4,U,g,λj s' f q n w=>?_⟩;by_cases F:j<i
    ·exact t j s' F q n w
    ·rw[show j=i by omega,hs]at q;rw[<-Za0 q];exact eb
   |some d=>
    rw[show (Option.map (λn:Nat=>V.int (n:Int)) (some d)).getD V.non=V.int (d:Int) from rfl];refine⟨rfl,_,rfl,?_⟩;refine dH (λ_=>?_) (λz=>absurd rfl z);refine⟨_,rfl,x,c.dx,_,rfl,U.c.ins,ew (by decide),_,rfl,_,rfl,x,r,c,Y,J,W4,X,fp,O,e,s,rfl,U.c,U.fits hB,λns H5 b5 nd hn h5=>?_⟩;refine⟨_,_,_,rfl,b4.trans b5 λb z=>.inl z,U.wake nd hn h5,λr s n w=>g _ _ _ (cR.mp w).1,λj s' f q n w=>?_⟩;obtain⟨w1,w2⟩:=cR.mp w;by_cases F:j<i
    ·exact t j s' F q n w1
    ·rw[show j=i by omega,hs]at q;exact absurd ⟨rfl,(Za0 q).symm⟩ w2
  rintro R H4 ⟨J,W4,v4,rfl,b4,U,g,t⟩;rw[aI]at t;refine k J W4 H4 (Oq.trans (Bt.trans (.of s3) b4 λb z=>.inl z) λb z=>.inl z) U (λs n=>?_) λs n w=>?_
  ·cases q:W4 m s n with
   |false=>rfl
   |true=>have:=g _ _ _ q;rw[off s n]at this;cases this
  ·obtain⟨j,f,q⟩:=List.mem_iff_getElem.mp (Vl s n (g _ _ _ w));exact t j s f (by rw[abm f,q]) n w
theorem b9.Rf {x:Addr}{j:KA}{gs:List (Option Gg)}{W:bG}{hd:Nat}{r:List (List Int×Nat)}{O:Addr->Prop}(h:b9 a b H x c j gs B W hd r O)(u:∀(n:Nat) (g:Gg) (p dx k:Addr),gs[n]?=some (some g)->dD a H p dx k g->p≠x)(n:Nat):b9 a b (upd H x (.ins b j.dx (oz c j n))) x c j gs B W n r O:=by
 have kn:∀f o,(∀C d fs,o≠.ins C d fs)->H f=some o->upd H x (.ins b j.dx (oz c j n)) f=some o:=λf o q e=>by rw[ak (λz=>by rw[z,h.ins]at e;exact q _ _ _ (Za0 e).symm)];exact e
 obtain⟨t,F,g2⟩:=h.hG;refine⟨ai,⟨t,kn _ _ (by intro _ _ _ z;cases z) F,g2.l,g2.n,λi v g y s=>?_,g2.i⟩,kn _ _ (by intro _ _ _ z;cases z) h.hA,?_,h.ne,h.ox,h.oG,h.oA,λf l=>?_⟩
 ·obtain⟨p,dx,k,e,q,o⟩:=g2.s i v g y s;exact⟨p,dx,k,e,⟨by rw[ak (u i g p dx k s q)];exact q.ins,kn _ _ (by intro _ _ _ z;cases z) q.wo⟩,o⟩
 ·obtain⟨D,E,k1,k2⟩:=h.wt;exact⟨D,E,k1.keep λf o l e=>by obtain⟨G,q⟩:=k1.there l;rw[q]at e;cases e;exact kn _ _ (by intro _ _ _ z;cases z) q,k2⟩
 ·by_cases e:f=x
  ·exact⟨_,by rw[e];exact ai,(by intro _ z;cases z),(by intro _ z;cases z),(by intro _ _ z;cases z),by intro _ z;cases z⟩
  ·obtain⟨o,q,m⟩:=h.th f l;exact⟨o,by rw[ak e];exact q,m⟩
theorem zz {x:Addr}{d:KA}{j:List (Option Gg)}{W:bG}{i:List (List Int×Nat)}{O:Addr->Prop}(h:b9 a b H x c d j B W n i O){p f k:Addr}{g:Gg}(q:dD a H p f k g):p≠x:=λz=>by
 have:=q.ins;rw[z,h.ins]at this;have e:=ade (λo:Option HO=>match o with|some (.ins _ _ fs)=>fs.length|_=>0) this;exact absurd (show 6=7 from e) (by decide)
def Ji (S:RS)(a:Nat):Nat->Int->Prop:=λr _=>∃m∈S.aY.drop a,r=m\/r=S.av m
inductive EW (CR CG CC:Addr) (vs:List V) (H:Hp) (Q:VK) (E_:XK):Prop
 |mk (x r:Addr) (c:KA) (S:RS) (a:RA) (R:Za2) (bs:List (Nat×List Int×Nat)) (gs:List (Option Gg)) (ag:List Nat) (W:bG) (B hd:Nat) (fp:List (List Int×Nat)) (O:Addr->Prop):vs=[.ref x]->j2 CG CC S bs gs W (Ji S hd) B x r c hd fp O H ag W->B<=1000000->hd<=S.aY.length->ax CR H r S a->Good S [] R->(∀m∈S.aY,m<S.made)->(∀b,a.own r b->¬O b)->(∀gQ W' H',Bt O H H'->j2 CG CC S bs gs W eT B x r c S.aY.length fp O H' gQ W'->Q .non H')->EW CR CG CC vs H Q E_
theorem vr (T:Txt K mg A):bj P w K mg base (bF P w) 3 A.nX A.nY ["self"] (EW A.az A.aJ A.aB):=by
 refine T.lH.F.okN vk (λvs H Q E h=>?_) (λcf AA Z s H vs Q E J h=>?_)
 ·obtain⟨x,r,c,S,a,R,bs,M,ag,W,B,hd,I,O,rfl,_⟩:=h;rfl
 ·obtain⟨x,r,c,S,a,R,bs,M,ag,W,B,hd,I,O,rfl,h,hB,L,hR,gd,Y,dj,k⟩:=h
  refine⟨_,(au (cC (ic abQ (bu lT (aF (pv 0) rfl) (bx bC rfl T.dA ab6 (ae (aF (aF (pv 0) rfl) rfl) aj)) (bD _))
   (ah (aV (bB (pv 0) (aL T) T.iD.m (pY T) (J.mono (by decide)) T.iD.b .nil aM (ae (bI bL (aF (aF (pv 0) rfl) rfl) (aF (pv 0) rfl) (λ_ _=>rfl)) aj)))
   (au (bY (pv 0) (aT dM (aF (pv 0) rfl) ay) rfl)))))),?_⟩
  have rk:∀{t:Hp},Bt O H t->ax A.az t r S a:=λ{t} b=>hR.keep (λG o hb e=>b G o (dj G hb) e) (λG xs e=>b G _ (h.c.hY e) e)
  refine⟨λ iG H'=>Q .non H',?_,λ_ _ q=>q⟩;refine⟨λm σ t=>∃d l F,m=S.aY.length - d/\σ=[some (.ref x)]/\d<=S.aY.length/\Bt O H t/\j2 A.aJ A.aB S bs M W (Ji S d) B x r c d I O t l F,⟨_,hd,ag,W,rfl,rfl,L,λ_ _ _ e=>e,h⟩,?_⟩;rintro m σ t ⟨d,l,F,rfl,rfl,Az,N,i⟩;have R2:=rk N;have u:=R2.ins;refine⟨_,rfl,x,_,c.dx,_,_,rfl,i.c.ins,aL T,T.lJ,t6 _ _ _,_,rfl,x,_,c.dx,_,_,rfl,i.c.ins,aL T,T.d0,eZ _ _ _,r,_,a.dx,_,_,rfl,u,aK T,T.qZ,rT _ _ _,a.aN,_,rfl,.inl (aD.of R2.hN),_,_,rfl,rfl,_,rfl,?_⟩;refine dH (λq=>?_) (λq=>?_)
  ·have q:(d:Int)<((ao (nI S.aY)).length:Int):=ab9 q;rw[aI,b8]at q;have f:d<S.aY.length:=by omega
   have D:S.aY[d]?=some (S.aY[d]'f):=abm f
   generalize S.aY[d]'f=m at D;have y:=Y m (abn D);refine⟨_,λ_ _ z=>z,?_⟩;refine⟨_,rfl,x,c.dx,_,rfl,i.c.ins,ew (by decide),_,rfl,x,_,c.dx,_,_,rfl,i.c.ins,aL T,T.d0,eZ _ _ _,r,_,a.dx,_,_,rfl,u,aK T,T.qZ,rT _ _ _,_,rfl,x,_,c.dx,_,_,rfl,i.c.ins,aL T,T.lJ,t6 _ _ _,a.aN,_,_,.int (m:Int),rfl,rfl,aD.of R2.hN,cI (bV (ja D)),?_⟩;refine⟨x,r,c,S,a,bs,M,l,F,Ji S d,B,d,I,O,m,rfl,⟨i.c,i.i,λ_ _ _ z=>z,i.b⟩,hB,R2,gd.wf,dj,y,gd.lt y,λU W3 H3 b3 v w1 w2=>?_⟩;refine⟨_,rfl,x,_,c.dx,_,_,rfl,v.c.ins,aL T,T.lJ,t6 _ _ _,_,_,rfl,rfl,_,rfl,x,_,c.dx,_,rfl,v.c.ins,aL T,T.lJ,(by show 6<1000;decide),?_⟩;rw[show V.int ((d:Int)+ 1)=V.int ((d+ 1:Nat):Int) from rfl,Hl];have c4:=v.c.Rf (λn g p dx wa _ z=>zz v.c z) (d+ 1);refine⟨S.aY.length - (d+ 1),by omega,d+ 1,U,W3,rfl,rfl,f,?_,c4,v.i.ex λr' s n w J ex=>?_,λr s n w=>i.s _ _ _ (v.s _ _ _ w),v.b⟩
   ·exact(N.trans b3 λb z=>.inl z).trans (λb o n e=>by rw[ak (λz=>n (by rw[z];exact v.c.ox))];exact e:Bt O H3 _) λb z=>.inl z
   ·obtain⟨X,j,C⟩:=ex;rw[aed f]at j;rcases abD.mp j with z|z
    ·have em:X=m:=by rw[z];rw[abm f]at D;exact Za0 D
     subst em;rcases C with C|C
     ·rw[C,w1]at w;cases w
     ·subst C;exact .inl ⟨(gd.el _ y).2,w2 s n w⟩
    ·exact .inr ⟨X,z,C⟩
  ·have q:¬(d:Int)<((ao (nI S.aY)).length:Int):=λz=>q (abX z)
   rw[aI,b8]at q;have e:d=S.aY.length:=by omega
   subst e;refine k l F t N ⟨i.c,i.i.ex λr' s n w J ex=>?_,i.s,i.b⟩;obtain⟨X,j,_⟩:=ex;rw[aeO]at j;cases j
theorem xD {i:List Way}(g:Good S i R)(t:∀a z b,R a z b->z∈l)(s:S.made<=100000)(p:l.length<=100000)(r:S.rows.length<=1000000)(o:S.aY.length<=1000000):vo S:=by
 refine⟨g.wf,λc h=>g.lt h,λc z d e=>(g.st c z d e).2.1,λc n m=>g.cb c n m,λc _=>⟨g.kn c,λq k=>(g.st c q.1 q.2 (iP (g.kn c) k)).2.1,λq k _=>?_⟩,⟨s,λf j=>?_,r,o,λf j=>?_⟩⟩
 ·rw[g.sy c q.1 q.2 (iP (g.kn c) k)];rfl
 ·obtain⟨c,h⟩:=aco j;have:S.way c=f:=by unfold RS.way;rw[abt,h];rfl
  rw[<-this];exact abB (g.DM t c) p
 ·obtain⟨c,h⟩:=aco j;have:S.b0 c=f:=by unfold RS.b0;rw[abt,h];rfl
  rw[<-this];exact abB (g.MV c) (by omega)
theorem zA (S:RS):S.stand<=S.made:=by
 unfold RS.stand;exact abB List.countP_le_length (by rw[abY];exact abr _)
def Ot (R:Za2)(m L B c M:Nat)(d:List Int)(f:RS)(e:List Way)(S:RS)(a:List Way):Prop:=Good S a R/\S.made=m/\S.L=L/\S.rows.length+ S.stand<=B/\S.aY.length+ S.stand<=c/\mu d.length S a<=M/\∀b,jw S a b->jw f e b
theorem Hm {M:Nat}{p:List Way}(r:∀a z b,R a z b->z∈l)(L:m<=100000)(F:l.length<=100000)(J:i<=1000000)(N:j<=1000000)(I:M<=1000000)(S:RS)(pend:List Way)(w:Way)(h:Ot R m n i j M l T p S (pend++[w])):
 vo S/\w.1<S.made/\w.2.2<S.made/\pend.length<=1000000/\Ot R m n i j M l T p (S.takeIn pend w).1 (S.takeIn pend w).2/\mu l.length (S.takeIn pend w).1 (S.takeIn pend w).2<mu l.length S (pend++[w]):=by
 obtain⟨g,E,B,v,C,q,u⟩:=h;obtain⟨D,t,s,H,o⟩:=g.take r;have hw:=g.pl w (abv _ abA);refine⟨xD g r (by omega) F (by omega) (by omega),hw.1,hw.2,?_,⟨D,by rw[s,E],by rw[H,B],?_,?_,by omega,λG d=>u G (.take d)⟩,t⟩
 ·unfold mu at q;rw[abj]at q;omega
 ·rcases o with ⟨f,e,k⟩|⟨f,c,z,x,y,_,_,_,_,_,e,k,_⟩
  ·rw[f,e];exact v
  ·rw[e,abj];have:([fP c z (min x y) (max x y)]:List Dt).length=1:=rfl;omega
 ·rcases o with ⟨f,e,k⟩|⟨f,c,z,x,y,_,_,_,_,_,e,k,_⟩
  ·rw[f,k];exact C
  ·rw[k,abj];have:([max x y]:List Nat).length=1:=rfl;omega
theorem fU:z∈bz (2* n)↔z≠0/\z.natAbs<=n:=by
 unfold bz;rw[ach];constructor
 ·rintro ⟨i,a,rfl⟩;exact M12.B9 (aca.mp a)
 ·rintro ⟨c,d⟩;by_cases b:0<z
  ·refine⟨2* (z.toNat - 1),aca.mpr (by omega),?_⟩;unfold M12.st;rw[abN (by omega)];omega
  ·refine⟨2* (z.natAbs - 1)+ 1,aca.mpr (by omega),?_⟩;unfold M12.st;rw[abH (by omega)];omega
structure gR (CR:Addr) (H:Hp) (r:Addr) (S:RS) (a:RA) (R:Za2) (ks:List Int) (B:Nat):Prop where
 at_:ax CR H r S a
 g:Good S [] R
 w:eK S
 k:∀a z b,R a z b->z∈ks
 m:S.made<=2000
 l:ks.length<=400
 rb:S.rows.length+ S.stand<=B
 wb:S.aY.length+ S.stand<=900000
theorem gR.keep {CR:Addr}(h:gR CR H a S O R l n)(k:∀b o,O.own a b->H b=some o->I b=some o)(d:∀b c,H b=some (.tup c)->I b=some (.tup c)):gR CR I a S O R l n:=⟨h.at_.keep k d,h.g,h.w,h.k,h.m,h.l,h.rb,h.wb⟩
theorem gR.same {CR:Addr}(h:gR CR H a S O R l n)(s:aq H I):gR CR I a S O R l n:=h.keep (λb o _ e=>s _ _ e) (λb o e=>s _ _ e)
theorem v7 (h:ax a H b S O){c:Addr}{f:List (List Key×V)}(e:H c=some (.dT f)):¬O.own b c:=λz=>by
 rcases z with z|z|z
 ·rw[z,h.ins]at e;cases e
 ·obtain⟨d,q⟩:=h.Ie z;rw[q]at e;cases e
 ·obtain⟨d,q⟩:=h.pz z;rw[q]at e;cases e
theorem Hn (w:Nat)(p:List Nat)(k:Nat)(h:p.length<=100000):kU (kD w p k):=by
 refine .t (by show 4<=100000;decide) λd a=>?_
 simp only[abD,acd,adO]at a;rcases a with rfl|rfl|rfl|rfl
 ·exact .s
 ·exact .i
 ·refine .t (by rw[abo];exact h) λd a=>?_
  obtain⟨c,_,rfl⟩:=ach.mp a;exact .i
 ·exact .i
inductive EX (CR CG CC:Addr) (vs:List V) (H:Hp) (Q:VK) (E_:XK):Prop
 |mk (x r p dx wa:Addr) (c:KA) (S:RS) (a:RA) (R:Za2) (ks:List Int) (B:Nat) (ws:Za3) (nr:Nat) (bs:List (Nat×List Int×Nat)) (gs:List (Option Gg)) (ag:List Nat) (W:bG) (fp:List (List Int×Nat)) (O:Addr->Prop) (n:Nat) (g:Gg):vs=[.ref x,.ref p]->b9 CG CC H x r c gs ag W S.aY.length fp O->gR CR H r S a R ks B->B<900000->(∀b,a.own r b->¬O b)->CI S bs gs ag W eT (some n)->gs[n]?=some none->bs[n]?=some (g.which,g.word,g.start)->dD CG H p dx wa g->¬O p->¬a.own r p->GI S g->g.first=g.last->S.av g.start=g.start->S.av g.front=g.front->S.av g.bh=g.bh->ws[g.which]?=some g.word->(g.which<nr\/g.start=0)->(∀z∈g.word,z∈ks/\-z∈ks)->g.word.length<=1000->ag.length+ 2* gs.length<=1000000->(∀S' a' R' gQ W' H',(∀b o,¬O b->¬a.own r b->H b=some o->H' b=some o)->b9 CG CC H' x r c gs gQ W' S'.aY.length fp O->gR CR H' r S' a' R' ks (B+ 1)->(∀b,a'.own r b->a.own r b\/H b=none)->CI S' bs gs gQ W' eT none->gQ.length<=ag.length+ 2* gs.length->(∀a z b,R a z b->R' a z b)->S'.made=S.made->S'.L=S.L->Tr ws nr S S'->Q .non H')->EX CR CG CC vs H Q E_
theorem wc (T:Txt K mg A):bj P w K mg base (bF P w) 6 A.pL A.pM ["self","going"] (EX A.az A.aJ A.aB):=by
 refine T.mS.F.okN oh (λvs H Q E h=>?_) (λcf AA outer s H vs Q E N h=>?_)
 ·obtain⟨x,r,p,t,wa,c,S,a,R,X,B,ws,nr,bs,I,U,W,fp,O,n,g,rfl,_⟩:=h;rfl
 ·obtain⟨x,r,p,t,wa,c,S,a,R,X,B,ws,nr,bs,I,U,W,fp,O,n,g,rfl,hc,f,hB,dj,ci,SX,A7,v,XM,zx,j,G,es,ef,er,Ou,XQ,XS,A4,L,k⟩:=h
  refine⟨_,(ah (aZ (i:=2) oh.nd rfl (Or.inl rfl) (bI gj (aF (pv 1) rfl) (aF (pv 1) rfl) (λ_ _=>rfl)))
   (ah (bO (bu i5 (bB (aF (pv 0) rfl) (aK T) T.du.m (fT T) (N.mono (by decide)) T.du.b .nil aM (ae (aF (pv 1) rfl) (ae (pv 2) aj))) (aF (pv 1) rfl) (bD _))
    (au vD)
    bq)
   (ah (aV (bB (aF (pv 0) rfl) (aK T) T.qV.m (zr T) (N.mono (by decide)) T.qV.b .nil aM (ae (aF (pv 1) rfl) (ae (pv 2) (ae (aF (pv 1) rfl) (ae (bB (pv 1) (aS T) T.qU.m (zy T) (N.mono (by decide)) T.qU.b .nil aM (ae (aF (pv 0) rfl) aj)) aj))))))
   (ah (aV (bB (pv 0) (aL T) T.cF.m (eP T) (N.mono (by decide)) T.cF.b .nil aM (ae (aF (pv 1) rfl) (ae (pv 2) aj))))
   (ah (aV (bB (pv 0) (aL T) T.cF.m (eP T) (N.mono (by decide)) T.cF.b .nil aM (ae (aF (pv 1) rfl) (ae (fB dW (pv 2)) aj))))
   (au (aV (ie (pv 0) (aL T) T.lH.m (vr T) (N.mono (by decide)) T.lH.b .nil aM)))))))),?_⟩
  refine tM ?_;intro ti rh jn hH fv;have hz:=Gg.pC (g:=g) (by rw[G];exact j.ll);have pC:lW (ao g.word) (g.first:Int)=some (.int g.z1):=cI (bV hz);have gd:=f.g;refine⟨_,rfl,p,_,t,_,_,rfl,v.ins,aS T,T.iV,jD _ _,_,rfl,p,_,t,_,_,rfl,v.ins,aS T,T.dZ,fK _ _,wa,_,_,.int g.z1,rfl,rfl,bQ.of v.wo,pC,?_⟩;refine⟨_,rfl,x,_,c.dx,_,_,rfl,hc.ins,aL T,T.d0,eZ _ _ _,r,a.dx,_,rfl,f.at_.ins,cw _ _ _ (by decide),_,rfl,p,_,t,_,_,rfl,v.ins,aS T,T.fI,jE _ _,_,rfl,r,S,a,g.front,g.z1,rfl,f.at_,by rw[gd.wf.w];exact j.f,_,rfl,p,_,t,_,_,rfl,v.ins,aS T,T.fQ,jF _ _,?_⟩
  have fin:S.by g.front g.z1=some g.bh->Q .non H:=λu=>by
   refine k S a R U W H (λ_ _ _ _ e=>e) hc ⟨f.at_,f.g,f.w,f.k,f.m,f.l,by have:=f.rb;omega,f.wb⟩ (λb z=>.inl z) (ci.done SX λb eb=>?_) (by omega) (λ_ _ _ z=>z) rfl rfl (.refl S);rw[A7]at eb;obtain rfl:=Za0 eb;exact .inr (j.whole G es ef er u)
  by_cases u:S.by g.front g.z1=some g.bh
  ·rw[u];refine⟨rfl,_,rfl,?_⟩;exact dH (λ_=>fin u) (λz=>absurd (abX rfl) z)
  have Z:Fz (((S.by g.front g.z1).map λn:Nat=>V.int (n:Int)).getD .non) (.int (g.bh:Int))=true/\decide ((((S.by g.front g.z1).map λn:Nat=>V.int (n:Int)).getD .non)=V.int (g.bh:Int))=false:=by
   cases q:S.by g.front g.z1 with
   |none=>exact⟨rfl,acj (by intro z;cases z)⟩
   |some d=>exact⟨rfl,acj (λz=>u (by rw[q];have:=V.int.inj z;congr 1;omega))⟩
  refine⟨Z.1,_,rfl,?_⟩;rw[Z.2];refine dk ?_;clear fin Z;refine⟨_,rfl,x,_,c.dx,_,_,rfl,hc.ins,aL T,T.d0,eZ _ _ _,r,a.dx,_,rfl,f.at_.ins,cw _ _ _ (by decide),_,rfl,p,_,t,_,_,rfl,v.ins,aS T,T.fI,jE _ _,_,rfl,_,rfl,p,_,t,_,_,rfl,v.ins,aS T,T.fQ,jF _ _,_,rfl,p,t,_,rfl,v.ins,Ja (by decide),_,rfl,x,_,c.dx,_,_,rfl,hc.ins,aL T,T.d0,eZ _ _ _,p,t,wa,r,g,S,a,R,rfl,v,f.at_,gd,j.s,j.r,j.ll,A4,λq H1 s1 dt=>?_⟩;have lx:=oy (by_:=S.by) (ws:=g.word.take g.first) (r:=g.start);have ly:=oy (by_:=S.by) (ws:=g.word.drop (g.last+ 1)) (r:=g.bh);rw[abZ]at lx;rw[acy]at ly;have f1:=j.wf;have f2:=j.wr;rw[es,ef]at f1;rw[es,er,<-G]at f2;rw[<-G]at dt ly;have ra:yQ ws nr S g.which g.word g.start g.first g.front g.bh g.z1:=⟨Ou,XQ,⟨j.s,es⟩,hz,f1,f2,⟨j.f,ef⟩,⟨j.r,er⟩,u⟩
  have D:∀a y b,eD R g.front g.z1 g.bh a y b->y∈X:=by
   have:=XS g.z1 (abn hz);rintro a y b (z|⟨_,e,_⟩|⟨_,e,_⟩)
   ·exact f.k _ _ _ z
   ·rw[e];exact this.1
   ·rw[e];exact this.2
  have stl:=zA S
  have I9:mu X.length (oO S g.which g.word g.start g.first g.bh) [(g.front,g.z1,g.bh)]<=1000000:=by
   unfold mu;have h1:(oO S g.which g.word g.start g.first g.bh).stand=S.stand:=rfl;have:S.stand* (X.length+ 1)<=2000* 401:=aeJ (by have:=f.m;omega) (by have:=f.l;omega);rw[h1];show S.stand* (X.length+ 1)+ 1<=_;omega
  have gl:=gd.lay g.z1 j.f j.r (oO S g.which g.word g.start g.first g.bh).rows;refine⟨r,q,S,a,g.front,g.bh,g.z1,_,Ot (eD R g.front g.z1 g.bh) S.made S.L (B+ 1) 900000 1000000 X (oO S g.which g.word g.start g.first g.bh) [(g.front,g.z1,g.bh)],mu X.length,rfl,f.at_.same s1,by have:=f.rb;omega,dt,Hn _ _ _ (by rw[abj,abL,abL];omega),⟨gl,rfl,rfl,?_,f.wb,I9,λ_ z=>z⟩,Hm D (by have:=f.m;omega) (by have:=f.l;omega) (by omega) (by decide) (by decide),λC a' H2 b2 h2 i2 o2=>?_⟩
  ·show (S.rows++[_]).length+ S.stand<=_;rw[abj];have:=f.rb;show _+ 1+ _<=_;omega
  obtain⟨g2,em,eL,XT,XU,_,re⟩:=i2;have lay:=re C (.nil C);obtain⟨_,w2,_,_,l,el⟩:=lay.all gl D (⟨f.w.a,f.w.b,f.w.c⟩:eK (oO S g.which g.word g.start g.first g.bh));have el:C.aY=S.aY++l:=el;have F:∀b o,¬a.own r b->H b=some o->H2 b=some o:=λb o nb e=>b2 b o nb (s1 _ _ e)
  have SY:∀b,a'.own r b->a.own r b\/H b=none:=λb z=>(o2 b z).imp id (same_none s1)
  have J:∀b,a'.own r b->¬O b:=λb z y=>by
   rcases SY b z with q|q
   ·exact dj b q y
   ·obtain⟨o,e,_⟩:=hc.th b y;rw[q]at e;cases e
  have c2:b9 A.aJ A.aB H2 x r c I U W S.aY.length fp O:=hc.keep (λb o u e=>F b o (λz=>dj b z u) e) (λb xs e=>F b _ (f.at_.rV e) e);have p2:dD A.aJ H2 p t wa g:=⟨F _ _ zx v.ins,F _ _ (f.at_.rV v.wo) v.wo⟩;have lt:=Later.of gd g2 iw (aei em.symm)
  have zB:=ci.lay SX gd g2 em f.w w2 el j.f ef j.r er λb eb=>by
   rw[A7]at eb;obtain rfl:=Za0 eb;show C.av g.start≠g.start\/wk C.by g.start g.word=some g.start;by_cases e1:C.av g.start=g.start
   ·right
    have h1:=lt.wk f1;have h3:=lt.wk f2;have XW:=g2.uB.mpr ⟨g.front,g.bh,oK,rfl,rfl⟩;rw[e1]at h1 h3;have:g.word=g.word.take g.first++(g.z1::g.word.drop (g.first+ 1)):=by rw[<-drop_cons hz,adz]
    rw[this,nj h1,gG XW];exact h3
   ·exact .inl e1
  have S0:j2 A.aJ A.aB C bs I W _ (U.length+ 2* I.length) x r c S.aY.length fp O H2 U W:=⟨c2,zB,λ_ _ _ z=>z,by have:=zB.two;omega⟩;refine⟨_,rfl,x,c.dx,_,rfl,c2.ins,ew (by decide),_,rfl,p,_,t,_,_,rfl,p2.ins,aS T,T.fI,jE _ _,_,rfl,x,r,c,I,U,W,S.aY.length,fp,O,g.front,g.z1,rfl,c2,S0.fits L,λns H3 b3 nd hn c3=>?_⟩;have S5:=S0.wake nd hn c3;have p3:dD A.aJ H3 p t wa g:=⟨b3 _ _ XM p2.ins,b3 _ _ (c2.hY p2.wo) p2.wo⟩;refine⟨_,rfl,x,c.dx,_,rfl,c3.ins,ew (by decide),_,rfl,p,_,t,_,_,rfl,p3.ins,aS T,T.fQ,jF _ _,_,rfl,_,rfl,x,r,c,I,_,_,S.aY.length,fp,O,g.bh,-g.z1,rfl,c3,S5.fits L,λXX H4 b4 Ol S7 c4=>?_⟩;have S8:=S5.wake Ol S7 c4;have Y:Bt O H2 H4:=b3.trans b4 λb z=>.inl z
  have R4:ax A.az H4 r C a':=h2.keep (λb o u e=>Y b o (J b u) e) (λb xs e=>Y b _ (c2.hY e) e)
  have i4:CI C bs I (U++ns++XX) (fi (fi W g.front g.z1) g.bh (-g.z1)) (Ji C S.aY.length) none:=S8.i.ex λr' s n' w N ex=>by
   obtain⟨w1,n1⟩:=cR.mp w;obtain⟨w2,n2⟩:=cR.mp w1;rcases ex with ⟨e1,e2⟩|⟨e1,e2⟩|⟨m,hm,e⟩
   ·exact absurd ⟨by rw[e1],e2⟩ n2
   ·exact absurd ⟨by rw[e1],e2⟩ n1
   ·exact .inr ⟨m,by rw[el,List.drop_append_of_le_length (abr _),aeO];exact hm,e⟩
  refine⟨_,rfl,x,c.dx,_,rfl,c4.ins,ew (by decide),x,r,c,C,a',_,bs,I,_,_,_,S.aY.length,fp,O,rfl,⟨c4,i4,λ_ _ _ z=>z,S8.b⟩,L,by rw[el,abj];omega,R4,g2,w2.c,J,λOv W5 H5 b5 h5=>?_⟩;have M:Bt O H2 H5:=Y.trans b5 λb z=>.inl z
  refine k C a' _ Ov W5 H5 (λb o n1 n2 e=>M b o n1 (F b o n2 e)) h5.c ⟨h2.keep (λb o u e=>M b o (J b u) e) (λb xs e=>M b _ (c2.hY e) e),g2,w2,D,by rw[em];exact f.m,f.l,XT,XU⟩ SY h5.i (by have:=h5.b;omega) iw em eL (.step (.refl S) ra lay)
theorem Rg {x:V}{A B:Prop}(h:x=q)(k:B):if (!decide (x=q))=true then A else B:=by rw[abH (by simp[h])];exact k
section
variable {CG CC:Addr}{H H':Hp}{x r:Addr}{c:KA}{gs:List (Option Gg)}{ag:List Nat}{W:bG}{hd:Nat}{fp:List (List Int×Nat)}{O:Addr->Prop}{gv:List V}{n:Nat}{p dx wa:Addr}{g g':Gg}
theorem b9.Rh (h:b9 CG CC H x r c gs ag W hd fp O)(hG:H c.aG=some (.lst gv))(k:o6 CG H gv gs O)(I:gv[n]?=some (.ref p))(L:O p)(q:dD CG H p dx wa g)(f:∀b o,b≠p->H b=some o->H' b=some o)(F:dD CG H' p dx wa g'):b9 CG CC H' x r c (gs.set n (some g')) ag W hd fp O/\o6 CG H' gv (gs.set n (some g')) O:=by
 have kn:∀b o,(∀C d fs,o≠.ins C d fs)->H b=some o->H' b=some o:=λb o w e=>f b o (λz=>by rw[z,q.ins]at e;exact w _ _ _ (Za0 e).symm) e
 have j:o6 CG H' gv (gs.set n (some g')) O:=by
  refine⟨by rw[abP];exact k.l,λi v a s=>?_,λi v u a s=>?_,k.i⟩
  ·rcases eJ s with ⟨_,z⟩|⟨_,z⟩
   ·cases z
   ·exact k.n i v a z
  ·rcases eJ s with ⟨z1,z⟩|⟨z1,z⟩
   ·cases z;rw[z1,I]at a;exact⟨p,dx,wa,(Za0 a).symm,F,L⟩
   ·obtain⟨B,y,l,e,G,M⟩:=k.s i v u a z;have J:B≠p:=λz=>z1 (k.i i n p (by rw[<-z,<-e];exact a) I)
    exact⟨B,y,l,e,⟨f _ _ J G.ins,kn _ _ (by intro _ _ _ z;cases z) G.wo⟩,M⟩
 refine⟨⟨f _ _ (zz h q).symm h.ins,⟨gv,kn _ _ (by intro _ _ _ z;cases z) hG,j⟩,kn _ _ (by intro _ _ _ z;cases z) h.hA,?_,h.ne,h.ox,h.oG,h.oA,λb t=>?_⟩,j⟩
 ·obtain⟨D,E,k1,k2⟩:=h.wt;exact⟨D,E,k1.keep λb o t e=>by obtain⟨N,q⟩:=k1.there t;rw[q]at e;cases e;exact kn _ _ (by intro _ _ _ z;cases z) q,k2⟩
 ·by_cases e:b=p
  ·exact⟨_,by rw[e];exact F.ins,(by intro _ z;cases z),(by intro _ z;cases z),(by intro _ _ z;cases z),by intro _ z;cases z⟩
  ·obtain⟨o,q,m⟩:=h.th b t;exact⟨o,f _ _ e q,m⟩
theorem b9.A8 (h:b9 CG CC H x r c gs ag W hd fp O)(hG:H c.aG=some (.lst gv))(f:o6 CG H gv gs O)(Q:gv[n]?=some (.ref p))(q:dD CG H p dx wa g):b9 CG CC (upd H c.aG (.lst (gv.set n .non))) x r c (gs.set n none) ag W hd fp (λb=>O b/\b≠p):=by
 have k:∀b o,b≠c.aG->H b=some o->upd H c.aG (.lst (gv.set n .non)) b=some o:=λb o n e=>by rw[ak n];exact e
 have kn:∀b o,(∀s,o≠.lst s)->H b=some o->upd H c.aG (.lst (gv.set n .non)) b=some o:=λb o w e=>k b o (λz=>by rw[z,hG]at e;exact w _ (Za0 e).symm) e
 have J:∀{b s},H b=some (.lst s)->b≠p:=λ{b s} e z=>by rw[z,q.ins]at e;cases e
 refine⟨kn _ _ (by intro _ z;cases z) h.ins,⟨_,ai,by rw[abP,abP];exact f.l,λi v l d=>?_,λi v u l d=>?_,λi j M l d=>?_⟩,k _ _ h.ne.symm h.hA,?_,h.ne,⟨h.ox,(zz h q).symm⟩,⟨h.oG,J hG⟩,⟨h.oA,J h.hA⟩,λb a=>?_⟩
 ·rcases eJ l with ⟨z1,z⟩|⟨z1,z⟩
  ·exact z
  ·rcases eJ d with ⟨B,_⟩|⟨_,y⟩
   ·exact absurd B z1
   ·exact f.n i v z y
 ·rcases eJ d with ⟨_,z⟩|⟨z1,z⟩
  ·cases z
  ·rcases eJ l with ⟨B,_⟩|⟨_,y⟩
   ·exact absurd B z1
   ·obtain⟨F,C,t,e,I,R⟩:=f.s i v u y z;have N:F≠p:=λw=>z1 (f.i i n p (by rw[<-w,<-e];exact y) Q)
    exact⟨F,C,t,e,⟨kn _ _ (by intro _ z;cases z) I.ins,kn _ _ (by intro _ z;cases z) I.wo⟩,R,N⟩
 ·rcases eJ l with ⟨_,z⟩|⟨_,z⟩
  ·cases z
  ·rcases eJ d with ⟨_,y⟩|⟨_,y⟩
   ·cases y
   ·exact f.i i j M z y
 ·obtain⟨D,E,k1,k2⟩:=h.wt;refine⟨D,E,k1.keep λb o a e=>by obtain⟨L,q⟩:=k1.there a;rw[q]at e;cases e;exact kn _ _ (by intro _ z;cases z) q,λb a=>⟨k2.o b a,λz=>?_⟩,k2.d,k2.e,k2.w⟩;obtain⟨L,G⟩:=k1.there a;rw[z,q.ins]at G;cases G
 ·by_cases e:b=c.aG
  ·exact⟨_,by rw[e];exact ai,(by intro _ z;cases z),(by intro _ z;cases z),(by intro _ _ z;cases z),by intro _ z;cases z⟩
  ·obtain⟨o,q,m⟩:=h.th b a.1;exact⟨o,k _ _ e q,m⟩
end
structure zC (ws:Za3) (nr:Nat) (ks:List Int) (bs:List (Nat×List Int×Nat)):Prop where
 w:∀b∈bs,ws[b.1]?=some b.2.1
 n:∀b∈bs,b.1<nr\/b.2.2=0
 l:∀b∈bs,b.2.1.length<=1000
 k:∀b∈bs,∀z∈b.2.1,z∈ks/\-z∈ks
 c:bs.length<100000
def live (a:List (Option Gg)):Nat:=a.countP (·.isSome)
theorem zD {a:List (Option Gg)}{g:Gg}(h:a[n]?=some (some g)):(∀u:Gg,live (a.set n (some u))=live a)/\live (a.set n none)+ 1=live a:=by
 unfold live
 induction a generalizing n with
 |nil=>simp at h
 |cons y r c=>
  cases n with
  |zero=>
   have:y=some g:=by simpa using h
   subst this;simp[List.countP_cons]
  |succ n=>
   obtain⟨b,d⟩:=c (n:=n) (by simpa using h);simp only[List.set_cons_succ,List.countP_cons];exact⟨λu=>by rw[b u],by omega⟩
inductive EY (CR CG CC:Addr) (vs:List V) (H:Hp) (Q:VK) (E_:XK):Prop
 |mk (x r:Addr) (c:KA) (S:RS) (a:RA) (R:Za2) (ks:List Int) (B:Nat) (ws:Za3) (nr:Nat) (bs:List (Nat×List Int×Nat)) (gs:List (Option Gg)) (ag:List Nat) (W:bG) (fp:List (List Int×Nat)) (O:Addr->Prop) (n:Nat):vs=[.ref x,.int n]->b9 CG CC H x r c gs ag W S.aY.length fp O->gR CR H r S a R ks B->B<900000->(∀b,a.own r b->¬O b)->CI S bs gs (ag++[n]) W eT none->zC ws nr ks bs->ag.length+ 2* gs.length<=1000000->(∀S' a' R' hJ gQ W' O' B' H',(∀b o,¬O b->¬a.own r b->H b=some o->H' b=some o)->b9 CG CC H' x r c hJ gQ W' S'.aY.length fp O'->gR CR H' r S' a' R' ks B'->(∀b,a'.own r b->a.own r b\/H b=none)->(∀b,O' b->O b\/H b=none)->(∀b,a'.own r b->¬O' b)->CI S' bs hJ gQ W' eT none->(∀a z b,R a z b->R' a z b)->S'.made=S.made->S'.L=S.L->Tr ws nr S S'->(live hJ=live gs/\gQ.length=ag.length/\B'=B)\/(live hJ+ 1=live gs/\gQ.length<=ag.length+ 2* gs.length/\B'<=B+ 1)->Q .non H')->EY CR CG CC vs H Q E_
theorem t7 (T:Txt K mg A):bj P w K mg base (bF P w) 7 A.mD A.mE ["self","number"] (EY A.az A.aJ A.aB):=by
 refine T.j7.F.okN lL (λvs H Q E h=>?_) (λcf AA outer s H vs Q E hr h=>?_)
 ·obtain⟨x,r,c,S,a,R,ks,B,ws,nr,bs,I,ag,W,fp,O,n,rfl,_⟩:=h;rfl
 ·obtain⟨x,r,c,S,a,R,ks,B,ws,nr,bs,I,ag,W,fp,O,n,rfl,h,M,hB,dj,ci,u,S9,k⟩:=h
  refine⟨_,(ah (aZ (i:=2) lL.nd rfl (Or.inl rfl) (bI bL (aF (pv 0) rfl) (pv 1) (λ_ _=>rfl)))
   (ah (bO (bu m6 (pv 2) dh (bD _))
    (au vD)
    bq)
   (ah (bO (bu oD (bB (aF (pv 0) rfl) (aK T) T.dz.m (gN T) hr.Za5 T.dz.b .nil aM (ae (aF (pv 2) rfl) aj)) (aF (pv 2) rfl) (bD _))
    (ah (p7 dh (ug (aF (pv 0) rfl) (pv 1) set_list))
    (au vD))
    bq)
   (ah (aV (bB (pv 2) (aS T) T.j6.m (t4 T) hr.Za5 T.j6.b .nil aM (ae (aF (pv 0) rfl) aj)))
   (au (cC (bO (bu lT (aF (pv 2) rfl) (aF (pv 2) rfl) (bD _))
    (ah (aV (bB (pv 0) (aL T) T.gw.m (mM T) hr.Za5 T.gw.b .nil aM (ae (pv 1) (ae (aF (pv 2) rfl) (ae (bI gj (aF (pv 2) rfl) (aF (pv 2) rfl) (λ_ _=>rfl)) aj)))))
    (au (aV (bB (pv 0) (aL T) T.gw.m (mM T) hr.Za5 T.gw.b .nil aM (ae (pv 1) (ae (aF (pv 2) rfl) (ae (fB dW (bI gj (aF (pv 2) rfl) (aF (pv 2) rfl) (λ_ _=>rfl))) aj)))))))
    (ah (p7 dh (ug (aF (pv 0) rfl) (pv 1) set_list))
    (au (aV (bB (pv 0) (aL T) T.mS.m (wc T) hr.Za5 T.mS.b .nil aM (ae (pv 2) aj)))))))))))),?_⟩
  refine yJ ?_;intro rh jn hH fv;have L:n<I.length:=ci.ab n (abv _ (abp.mpr rfl));obtain⟨G,Z,U⟩:=h.hG;have hv:G[n]?=some (G[n]'(by rw[U.l];exact L)):=abm _
  generalize G[n]'(by rw[U.l];exact L)=v at hv;have gd:=M.g;refine⟨_,rfl,x,_,c.dx,_,_,rfl,h.ins,aL T,T.iW,j1 _ _ _,_,rfl,c.aG,_,_,v,rfl,rfl,aD.of Z,cI hv,?_⟩;have f:I[n]?=some (I[n]'L):=abm L
  generalize I[n]'L=og at f
  cases og with
  |none=>
   obtain rfl:=U.n n v hv f;refine⟨_,rfl,rfl,_,rfl,gS ?_⟩;exact k S a R I ag W O B H (λ_ _ _ _ e=>e) h M (λb z=>.inl z) (λb z=>.inl z) dj (ci.pop.done f λb eb=>ci.de n b f (by intro z;cases z) eb) (λ_ _ _ z=>z) rfl rfl (.refl S) (.inl ⟨rfl,rfl,rfl⟩)
  |some g=>
   obtain⟨p,j,wa,rfl,Y,op⟩:=U.s n v g hv f;obtain⟨A7,gi,_⟩:=ci.al n g f;have C:=abn A7;have A4:g.word.length<=1000:=u.l _ C;have zx:¬a.own r p:=λz=>dj p z op
   refine⟨_,rfl,rfl,_,rfl,dk ?_⟩;refine⟨_,rfl,x,_,c.dx,_,_,rfl,h.ins,aL T,T.d0,eZ _ _ _,r,a.dx,_,rfl,M.at_.ins,cw _ _ _ (by decide),_,rfl,p,_,j,_,_,rfl,Y.ins,aS T,T.oW,tZ _ _,r,S,a,g.start,S.av g.start,rfl,M.at_,ou (by rw[gd.wf.e];exact gi.s),_,rfl,p,_,j,_,_,rfl,Y.ins,aS T,T.oW,tZ _ _,rfl,_,rfl,?_⟩;have A9:∀b,a.own r b->¬(O b/\b≠p):=λb z y=>dj b z y.1
   by_cases es:S.av g.start=g.start
   ·refine Rg (by rw[es]) ?_;refine⟨_,rfl,p,j,_,rfl,Y.ins,Ja (by decide),_,rfl,x,_,c.dx,_,_,rfl,h.ins,aL T,T.d0,eZ _ _ _,p,j,wa,r,g,S,a,R,rfl,Y,M.at_,gd,gi,zx,A4,λd m f1 l ad=>?_⟩;have R1:gR A.az m r S a R ks B:=M.keep (λb o hb e=>f1 b o (λz=>zx (z ▸ hb)) e) (λb xs e=>f1 b _ (bW e Y.ins (by intro z;cases z)) e);obtain⟨c1,XY⟩:=h.Rh Z U hv op Y f1 l;have Ow:m c.aG=some (.lst G):=f1 _ _ (bW Z Y.ins (by intro z;cases z)) Z;have D:=ad.gi;have SQ:=D.ll;have Ox:=D.fl;have Vn:d.word.length<=1000:=by rw[ad.wo];exact A4
    have z1:=Gg.pC (g:=d) (by omega);have z2:=Gg.at2 (g:=d) SQ;have aay:(I.set n (some d))[n]?=some (some d):=acm L
    have lv:=zD f;have lm:=M.m;refine⟨λ_ H'=>Q .non H',?_,λ_ _ q=>q⟩;refine⟨_,rfl,p,_,j,_,_,rfl,l.ins,aS T,T.dZ,fK _ _,_,rfl,p,_,j,_,_,rfl,l.ins,aS T,T.gL,jG _ _,_,_,rfl,rfl,_,rfl,?_⟩;refine dH (λq=>?_) (λq=>?_)
    ·have q:(d.first:Int)<(d.last:Int):=ab9 q;have bw:∀z∈d.word,-1000<=z/\z<=1000:=λz hz=>ci.bd _ C z (by rw[<-ad.wo];exact hz)
     have b1:=bw _ (abn z1);have b2:=bw _ (abn z2);have hf:=D.f;have Oy:=D.r;have Ta:n<100000:=by have:=ci.len;have:=u.c;omega
     refine⟨_,rfl,x,c.dx,_,rfl,c1.ins,ew (by decide),_,rfl,_,rfl,p,_,j,_,_,rfl,l.ins,aS T,T.fI,jE _ _,_,rfl,p,_,j,_,_,rfl,l.ins,aS T,T.iV,jD _ _,_,rfl,p,_,j,_,_,rfl,l.ins,aS T,T.dZ,fK _ _,wa,_,_,.int d.z1,rfl,rfl,bQ.of l.wo,cI (bV z1),x,r,c,_,ag,W,S.aY.length,fp,O,n,d.front,d.z1,rfl,c1,by omega,Ta,b1,λO2 H2 Tc f2 Jj zE F=>?_⟩;have N:dD A.aJ H2 p j wa d:=⟨f2 _ _ (by intro _ z;cases z) l.ins,f2 _ _ (by intro _ z;cases z) l.wo⟩;refine⟨_,rfl,x,c.dx,_,rfl,F.ins,ew (by decide),_,rfl,_,rfl,p,_,j,_,_,rfl,N.ins,aS T,T.fQ,jF _ _,_,rfl,p,_,j,_,_,rfl,N.ins,aS T,T.iV,jD _ _,_,rfl,p,_,j,_,_,rfl,N.ins,aS T,T.gL,jG _ _,wa,_,_,.int (-d.z2),rfl,rfl,bQ.of N.wo,cI (bV z2),_,rfl,x,r,c,_,ag,_,S.aY.length,fp,O2,n,d.bh,d.z2,(by show [V.ref x,V.int (n:Int),V.int (d.bh:Int),V.int (- -d.z2)]=_;rw[acX]),F,by omega,Ta,by omega,λO3 H3 XZ f3 Td X1 c3=>?_⟩
     have Vo:∀b,O3 b->O b\/m b=none:=λb z=>by
      rcases X1 b z with y|y
      ·exact zE b y
      ·by_cases w:O b
       ·exact .inl w
       ·refine .inr ?_
        cases e:m b with
        |none=>rfl
        |some o=>rw[Tc b o w e]at y;cases y
     have nw:∀b,O3 b->O b\/H b=none:=λb z=>by
      rcases Vo b z with y|y
      ·exact .inl y
      ·by_cases w:b=p
       ·exact .inl (by rw[w];exact op)
       ·refine .inr ?_
        cases e:H b with
        |none=>rfl
        |some o=>rw[f1 b o w e]at y;cases y
     have t:Bt O m H3:=Tc.trans XZ zE
     have X2:∀b,a.own r b->¬O3 b:=λb z y=>by
      rcases nw b y with w|w
      ·exact dj b z w
      ·obtain⟨o,e⟩:=M.at_.there z;rw[w]at e;cases e
     refine k S a R _ ag _ O3 B H3 (λb o J _ e=>t b o J (f1 b o (λz=>J (by rw[z];exact op)) e)) c3 (R1.keep (λb o hb e=>t b o (dj b hb) e) (λb xs e=>t b _ (c1.hY e) e)) (λb z=>.inl z) nw X2 (ci.pop.waits f ad (by omega)) (λ_ _ _ z=>z) rfl rfl (.refl S) (.inl ⟨lv.1 d,rfl,rfl⟩)
    ·have q:¬(d.first:Int)<(d.last:Int):=λz=>q (abX z)
     have X3:d.first=d.last:=by omega
     refine⟨_,rfl,x,_,c.dx,_,_,rfl,c1.ins,aL T,T.iW,j1 _ _ _,_,rfl,c.aG,_,_,n,rfl,rfl,Ow,r6 (by rw[U.l];exact L),?_⟩;have F:=c1.A8 Ow XY hv l;have kn:∀b o,(∀xs,o≠.lst xs)->m b=some o->upd m c.aG (.lst (G.set n .non)) b=some o:=λb o w e=>by rw[ak (λz=>by rw[z,Ow]at e;exact w _ (Za0 e).symm)];exact e
     have N:dD A.aJ (upd m c.aG (.lst (G.set n .non))) p j wa d:=⟨kn _ _ (by intro _ z;cases z) l.ins,kn _ _ (by intro _ z;cases z) l.wo⟩;have Oz:¬a.own r c.aG:=λz=>dj _ z h.oG
     have R2:gR A.az (upd m c.aG (.lst (G.set n .non))) r S a R ks B:=R1.keep (λb o hb e=>by rw[ak (λz=>Oz (by rw[<-z];exact hb))];exact e) (λb xs e=>kn _ _ (by intro _ z;cases z) e);have X4:(I.set n (some d)).set n none=I.set n none:=List.set_set ..;rw[X4]at F;have OB:∀b o,¬O b->H b=some o->upd m c.aG (.lst (G.set n .non)) b=some o:=λb o J e=>by rw[ak (λz=>J (by rw[z];exact h.oG))];exact f1 b o (λz=>J (by rw[z];exact op)) e
     have X:∀b,upd m c.aG (.lst (G.set n .non)) b=none->H b=none:=λb z=>by
      cases e:H b with
      |none=>rfl
      |some o=>
       by_cases w:O b
       ·by_cases y:b=p
        ·rw[y,N.ins]at z;cases z
        ·obtain⟨o2,e2,_⟩:=F.th b ⟨w,y⟩;rw[z]at e2;cases e2
       ·rw[OB b o w e]at z;cases z
     generalize upd m c.aG (.lst (G.set n .non))=H2 at F N R2 OB X ⊢;refine⟨_,rfl,x,c.dx,_,rfl,F.ins,ew (by decide),_,rfl,x,r,p,j,wa,c,S,a,R,ks,B,ws,nr,bs,I.set n none,ag,W,fp,_,n,d,rfl,F,R2,hB,A9,ci.pop.kill,acm L,by rw[A7,ad.wh,ad.wo,ad.st],N,(λz=>z.2 rfl),zx,D,X3,by rw[ad.st];exact es,ad.ef,ad.er,by rw[ad.wh,ad.wo];exact u.w _ C,by rw[ad.wh,ad.st];exact u.n _ C,by rw[ad.wo];exact u.k _ C,Vn,by rw[abP];exact S9,λS' a' R' gQ W' H' f3 c3 R3 o3 OD la rr em eL tr=>?_⟩;have X5:∀b,a'.own r b->a.own r b\/H b=none:=λb z=>(o3 b z).imp id (X b)
     rw[abP]at la;refine k S' a' R' _ gQ W' _ (B+ 1) H' (λb o J n2 e=>f3 b o (λz=>J z.1) n2 (OB b o J e)) c3 R3 X5 (λb z=>.inl z.1) (λb z y=>?_) OD rr em eL tr (.inr ⟨lv.2,la,abr _⟩);rcases o3 b z with w|w
     ·exact A9 b w y
     ·obtain⟨o2,e2,_⟩:=F.th b y;rw[w]at e2;cases e2
   ·refine dH (λ_=>?_) (λz=>absurd (by rw[acj λw=>es (by have:=V.int.inj w;omega)];rfl) z);refine⟨_,rfl,x,_,c.dx,_,_,rfl,h.ins,aL T,T.iW,j1 _ _ _,_,rfl,c.aG,_,_,n,rfl,rfl,Z,r6 (by rw[U.l];exact L),?_⟩;have F:=h.A8 Z U hv Y;have Oz:¬a.own r c.aG:=λz=>dj _ z h.oG
    refine k S a R _ ag W _ B _ (λb o J _ e=>by rw[ak (λz=>J (by rw[z];exact h.oG))];exact e) F (M.keep (λb o hb e=>by rw[ak (λz=>Oz (by rw[<-z];exact hb))];exact e) (λb xs e=>by rw[ak (λz=>by rw[z,Z]at e;cases e)];exact e)) (λb z=>.inl z) (λb z=>.inl z.1) A9 (ci.pop.kill.done (acm L) λb eb=>?_) (λ_ _ _ z=>z) rfl rfl (.refl S) (.inr ⟨(zD f).2,by omega,by omega⟩);rw[A7]at eb;obtain rfl:=Za0 eb;exact .inl es
theorem _root_.L2.Tr.trans {ws:Za3}{c:RS}(h:Tr ws n S T)(k:Tr ws n T c):Tr ws n S c:=by
 induction k with
 |refl=>exact h
 |step _ a b d=>exact .step d a b
inductive zF (CR CG CC:Addr) (vs:List V) (H:Hp) (Q:VK) (E_:XK):Prop
 |mk (x r:Addr) (c:KA) (S:RS) (a:RA) (R:Za2) (ks:List Int) (B:Nat) (ws:Za3) (nr:Nat) (bs:List (Nat×List Int×Nat)) (gs:List (Option Gg)) (ag:List Nat) (W:bG) (fp:List (List Int×Nat)) (O:Addr->Prop):vs=[.ref x]->b9 CG CC H x r c gs ag W S.aY.length fp O->gR CR H r S a R ks B->B+ live gs<900000->(∀b,a.own r b->¬O b)->CI S bs gs ag W eT none->zC ws nr ks bs->live gs* (2* bs.length+ 1)+ ag.length+ 2* bs.length<=1000000->(∀S' a' R' hJ W' O' B' H',(∀b o,¬O b->¬a.own r b->H b=some o->H' b=some o)->b9 CG CC H' x r c hJ [] W' S'.aY.length fp O'->gR CR H' r S' a' R' ks B'->(∀b,a'.own r b->a.own r b\/O b\/H b=none)->(∀b,O' b->O b\/a.own r b\/H b=none)->(∀b,a'.own r b->¬O' b)->CI S' bs hJ [] W' eT none->(∀a z b,R a z b->R' a z b)->S'.made=S.made->S'.L=S.L->Tr ws nr S S'->B'+ live hJ<=B+ live gs->Q .non H')->zF CR CG CC vs H Q E_
theorem kj (T:Txt K mg A):bj P w K mg base (bF P w) 8 A.lB A.lC ["self"] (zF A.az A.aJ A.aB):=by
 refine T.fk.F.okN si (λvs H Q E h=>?_) (λcf AA outer s H vs Q E hr h=>?_)
 ·obtain⟨x,r,c,S,a,R,ks,B,ws,nr,bs,gs,ag,W,fp,O,rfl,_⟩:=h;rfl
 ·obtain⟨x,r,c,S,a,R,ks,B,ws,nr,bs,gs,ag,W,fp,O,rfl,h,hR,hB,dj,ci,X6,hm,k⟩:=h
  refine⟨_,(au (cC (ic abQ (ye (aF (pv 0) rfl) (λ_=>rfl))
   (au (aV (bB (pv 0) (aL T) T.j7.m (t7 T) hr.Za5 T.j7.b .nil aM (ae (C4 abC PySem.F.slot_list_pop PySem.F.type_list_pop C5 (aF (pv 0) rfl)) aj))))))),?_⟩
  have X7:=ci.len;refine⟨λ_ H'=>Q .non H',?_,λ_ _ q=>q⟩;refine⟨λm σ g=>∃j a2 R2 f d X L I,m=live f* (2* bs.length+ 1)+ d.length/\σ=[some (.ref x)]/\(∀b o,¬O b->¬a.own r b->H b=some o->g b=some o)/\b9 A.aJ A.aB g x r c f d X j.aY.length fp L/\gR A.az g r j a2 R2 ks I/\(∀b,a2.own r b->a.own r b\/O b\/H b=none)/\(∀b,L b->O b\/a.own r b\/H b=none)/\(∀b,a2.own r b->¬L b)/\CI j bs f d X eT none/\(∀a z b,R a z b->R2 a z b)/\j.made=S.made/\j.L=S.L/\Tr ws nr S j/\I+ live f<=B+ live gs/\live f* (2* bs.length+ 1)+ d.length+ 2* bs.length<=1000000,⟨_,S,a,R,gs,ag,W,O,B,rfl,rfl,λ_ _ _ _ e=>e,h,hR,λb z=>.inl z,λb z=>.inl z,dj,ci,λ_ _ _ z=>z,rfl,rfl,.refl S,abr _,hm⟩,?_⟩;rintro m σ g ⟨j,a2,R2,f,d,X,L,I,rfl,rfl,f2,i,r2,D,l,t,v,V,U,Te,M,Z,EG⟩;refine⟨_,rfl,x,_,c.dx,_,_,rfl,i.ins,aL T,T.jZ,mK _ _ _,!(ao (nI d)).isEmpty,.inl ⟨_,aD.of i.hA,rfl⟩,?_⟩;by_cases F:d=[]
  ·subst F;refine dk ?_;exact k j a2 R2 f X L I g f2 i r2 D l t v V U Te M Z
  ·have p:=adh F;generalize d.getLast F=n at p;generalize d.dropLast=pre at p;subst p;rw[show (!(ao (nI (pre++[n]))).isEmpty)=true by unfold ao nI;simp];refine gS ?_;refine⟨_,λ_ _ z=>z,?_⟩;refine⟨_,rfl,x,c.dx,_,rfl,i.ins,ew (by decide),_,rfl,x,_,c.dx,_,_,rfl,i.ins,aL T,T.jZ,mK _ _ _,.inl ⟨rfl,_,aD.of i.hA⟩,c.aA,_,.int (n:Int),rfl,rfl,i.hA,?_,?_⟩
   ·rw[aI,b8,abj];exact bV (ja (by show (pre++[n])[pre.length+ 1 - 1]?=some n;rw[Nat.add_sub_cancel,abw (abr _),acC];rfl))
   have Oj:(ao (nI (pre++[n]))).dropLast=ao (nI pre):=by rw[gY,ints_app];exact List.dropLast_concat
   rw[Oj];have c3:=i.agenda pre;have X8:¬a2.own r c.aA:=λz=>t _ z i.oA
   have f3:∀b o,b≠c.aA->g b=some o->upd g c.aA (.lst (ao (nI pre))) b=some o:=λb o J e=>by rw[ak J];exact e
   have r3:gR A.az (upd g c.aA (.lst (ao (nI pre)))) r j a2 R2 ks I:=r2.keep (λb o hb e=>f3 b o (λz=>X8 (by rw[<-z];exact hb)) e) (λb xs e=>f3 b _ (λz=>by rw[z,i.hA]at e;cases e) e)
   have C:∀b,upd g c.aA (.lst (ao (nI pre))) b=none->g b=none:=λb z=>by
    by_cases e:b=c.aA
    ·rw[e,ai]at z;cases z
    ·rw[ak e]at z;exact z
   generalize upd g c.aA (.lst (ao (nI pre)))=H3 at c3 f3 r3 C ⊢;have ln2:=v.len;rw[abj]at EG;have:([n]:List Nat).length=1:=rfl
   have N:∀b,g b=none->a.own r b\/O b\/H b=none:=λb z=>by
    by_cases w:a.own r b
    ·exact .inl w
    ·by_cases w2:O b
     ·exact .inr (.inl w2)
     ·refine .inr (.inr ?_)
      cases e:H b with
      |none=>rfl
      |some o=>rw[f2 b o w2 w e]at z;cases z
   refine⟨x,r,c,j,a2,R2,ks,I,ws,nr,bs,f,pre,X,fp,L,n,rfl,c3,r3,by omega,t,v,X6,by omega,λS4 a4 R4 G Y W4 O4 B4 H4 f4 c4 r4 X9 Ya Yb Ba Yc Yd Ye Yf ms=>?_⟩;have ow:∀b,a4.own r b->a.own r b\/O b\/H b=none:=λb z=>(X9 b z).elim (D b) λw=>N b (C b w)
   have oo:∀b,O4 b->O b\/a.own r b\/H b=none:=λb z=>(Ya b z).elim (l b) λw=>by
    rcases N b (C b w) with y|y|y
    ·exact .inr (.inl y)
    ·exact .inl y
    ·exact .inr (.inr y)
   have u:B4+ live G<=B+ live gs/\live G* (2* bs.length+ 1)+ Y.length<live f* (2* bs.length+ 1)+ (pre++[n]).length:=by
    rw[abj];rcases ms with ⟨e1,e2,e3⟩|⟨e1,e2,e3⟩
    ·rw[e1,e2,e3];exact⟨Z,by omega⟩
    ·rw[<-e1,ad6];exact⟨by omega,by omega⟩
   refine⟨_,u.2,S4,a4,R4,G,Y,W4,O4,B4,rfl,rfl,λb o J n2 e=>?_,c4,r4,ow,oo,Yb,Ba,λa z b q=>Yc _ _ _ (V _ _ _ q),Yd.trans U,Ye.trans Te,M.trans Yf,u.1,by have:=u.2;rw[abj]at this;omega⟩;refine f4 b o (λz=>?_) (λz=>?_) (f3 b o (λz=>J ?_) (f2 b o J n2 e))
   ·rcases l b z with w|w|w
    ·exact J w
    ·exact n2 w
    ·rw[w]at e;cases e
   ·rcases D b z with w|w|w
    ·exact n2 w
    ·exact J w
    ·rw[w]at e;cases e
   ·subst z;rcases l c.aA i.oA with w|w|w
    ·exact w
    ·exact absurd w n2
    ·rw[w]at e;cases e
theorem _root_.L2.CI.begin {bs:List (Nat×List Int×Nat)}{gs:List (Option Gg)}{W:bG}{o:Nat->Int->Prop}(h:CI S bs gs B W o none){which m:Nat}{word:List Int}(F:word≠[])(d:m<S.made)(G:∀z∈word,-1000<=z/\z<=1000):CI S (bs++[(which,word,m)]) (gs++[some (xC which word m)]) (B++[gs.length]) W o none:=by
 have x:=List.length_pos_iff.mpr F
 have old:∀{k:Nat} {y:Option Gg},(gs++[some (xC which word m)])[k]?=some y->(k<gs.length/\gs[k]?=some y)\/(k=gs.length/\y=some (xC which word m)):=λ{k y} e=>by
  by_cases a:k<gs.length
  ·rw[abu a]at e;exact .inl ⟨a,e⟩
  ·rw[abw (by omega)]at e;have:=(abk.mp e).1;have f:k=gs.length:=by simp at this;omega
   subst f;rw[acC]at e;exact .inr ⟨rfl,(Za0 e).symm⟩
 have c:∀{k:Nat},k<gs.length->(bs++[(which,word,m)])[k]?=bs[k]?:=λ{k} a=>abu (by rw[<-h.len];exact a)
 refine⟨by rw[abj,abj,h.len];rfl,λk g e=>?_,λk b e E t=>?_,λk a=>?_,λr s k q=>?_,λk=>?_,λb i=>?_⟩
 ·rcases old e with ⟨a,e⟩|⟨a,e⟩
  ·obtain⟨l,j,I⟩:=h.al k g e;exact⟨by rw[c a];exact l,j,I.imp (abM _) id⟩
  ·cases e;refine⟨?_,⟨abS _,by show word.length - 1<word.length;omega,d,d,d,rfl,?_⟩,.inl (abv _ (abp.mpr a))⟩
   ·rw[abw (by rw[a,h.len];exact abr _),a,h.len,acC];rfl
   ·show wk S.by _ (word.drop (word.length - 1+ 1))=_;rw[show word.length - 1+ 1=word.length by omega,aeO];rfl
 ·rcases old e with ⟨a,e⟩|⟨a,e⟩
  ·rw[c a]at t;exact h.de k b e E t
  ·cases e
 ·rw[abj];rcases abx.mp a with q|q
  ·have:=h.ab k q;show k<_+ 1;omega
  ·rw[abp.mp q];show _<_+ 1;omega
 ·obtain⟨C,n,H,v,u,J,D⟩:=h.en r s k q;exact⟨C,n,H,v,u,by rw[abj];show n<_+ 1;omega,D⟩
 ·by_cases a:k<gs.length
  ·obtain⟨p,q,l,j⟩:=h.sl k;refine⟨p,q,l,λg e=>j g ?_⟩;rw[abu a]at e;exact e
  ·refine⟨((xC which word m).front,(xC which word m).z1),((xC which word m).bh,(xC which word m).z2),λr s w=>?_,λg e=>?_⟩
   ·obtain⟨_,n,_,e,_,x,_⟩:=h.en r s k w;omega
   ·rcases old e with ⟨z,_⟩|⟨_,e⟩
    ·exact absurd z a
    ·cases e;exact⟨rfl,rfl⟩
 ·rcases abx.mp i with q|q
  ·exact h.bd b q
  ·rw[abp.mp q];exact G
theorem b9.Ri {x:Addr}{l:KA}{gs:List (Option Gg)}{W:bG}{hd:Nat}{U:List (List Int×Nat)}{O:Addr->Prop}{dx X:Addr}{g:Gg}(h:b9 a b H x c l gs B W hd U O)(hG:H l.aG=some (.lst L))(r:o6 a H L gs O)(np:H d=none)(s:aq H I)(q:dD a I d dx X g):b9 a b (upd I l.aG (.lst (L++[.ref d]))) x c l (gs++[some g]) B W hd U (DW O d):=by
 have k:∀f o,f≠l.aG->I f=some o->upd I l.aG (.lst (L++[.ref d])) f=some o:=λf o n e=>by rw[ak n];exact e
 have kn:∀f o,(∀Z,o≠.lst Z)->I f=some o->upd I l.aG (.lst (L++[.ref d])) f=some o:=λf o w e=>k f o (λz=>by rw[z,s _ _ hG]at e;exact w _ (Za0 e).symm) e
 have fresh:∀(i:Nat),L[i]?≠some (.ref d):=λi e=>by
  have t:i<gs.length:=by rw[<-r.l];exact(abk.mp e).1
  cases J:gs[i]? with
  |none=>rw[abm t]at J;cases J
  |some y=>
   cases y with
   |none=>cases r.n i _ e J
   |some u=>
    obtain⟨T,_,_,F,M,_⟩:=r.s i _ u e J;cases F;have:=M.ins;rw[np]at this;cases this
 have old:∀{i:Nat} {v:V},(L++[.ref d])[i]?=some v->(i<L.length/\L[i]?=some v)\/(i=L.length/\v=.ref d):=λ{i v} e=>by
  by_cases Y:i<L.length
  ·rw[abu Y]at e;exact .inl ⟨Y,e⟩
  ·rw[abw (by omega)]at e;have:=(abk.mp e).1;have Q:i=L.length:=by simp at this;omega
   subst Q;rw[acC]at e;exact .inr ⟨rfl,(Za0 e).symm⟩
 refine⟨kn _ _ (by intro _ z;cases z) (s _ _ h.ins),⟨_,ai,by rw[abj,abj,r.l];rfl,λi v F p=>?_,λi v u F p=>?_,λi j p' F p=>?_⟩,k _ _ h.ne.symm (s _ _ h.hA),?_,h.ne,.inl h.ox,.inl h.oG,.inl h.oA,λf C=>?_⟩
 ·rcases old F with ⟨t,e⟩|⟨t,e⟩
  ·rw[abu (by rw[<-r.l];exact t)]at p;exact r.n i v e p
  ·rw[t,r.l,abw (abr _),acC]at p;cases Za0 p
 ·rcases old F with ⟨t,e⟩|⟨t,e⟩
  ·rw[abu (by rw[<-r.l];exact t)]at p;obtain⟨T,S,N,e3,M,o1⟩:=r.s i v u e p;exact⟨T,S,N,e3,⟨kn _ _ (by intro _ z;cases z) (s _ _ M.ins),kn _ _ (by intro _ z;cases z) (s _ _ M.wo)⟩,.inl o1⟩
  ·rw[t,r.l,abw (abr _),acC]at p;cases Za0 p;exact⟨d,dx,X,e,⟨kn _ _ (by intro _ z;cases z) q.ins,kn _ _ (by intro _ z;cases z) q.wo⟩,.inr rfl⟩
 ·rcases old F with ⟨t,e⟩|⟨t,e⟩
  ·rcases old p with ⟨R,G⟩|⟨R,G⟩
   ·exact r.i i j p' e G
   ·cases G;exact absurd e (fresh i)
  ·rcases old p with ⟨R,G⟩|⟨R,G⟩
   ·cases e;exact absurd G (fresh j)
   ·omega
 ·obtain⟨D,E,k1,k2⟩:=h.wt;exact⟨D,E,(k1.same s).keep λf o C e=>by obtain⟨kv,q⟩:=(k1.same s).there C;rw[q]at e;cases e;exact kn _ _ (by intro _ z;cases z) q,λf C=>.inl (k2.o f C),k2.d,k2.e,k2.w⟩
 ·rcases C with C|C
  ·by_cases e:f=l.aG
   ·exact⟨_,by rw[e];exact ai,(by intro _ z;cases z),(by intro _ z;cases z),(by intro _ _ z;cases z),by intro _ z;cases z⟩
   ·obtain⟨o,q,m⟩:=h.th f C;exact⟨o,k _ _ e (s _ _ q),m⟩
  ·rw[C];exact⟨_,kn _ _ (by intro _ z;cases z) q.ins,(by intro _ z;cases z),(by intro _ z;cases z),(by intro _ _ z;cases z),by intro _ z;cases z⟩
def nz (b:Nat)(a:List Int)(m:Nat):List (Nat×List Int×Nat):=if a=[] then [] else [(b,a,m)]
inductive Bb (CR CG CC:Addr) (vs:List V) (H:Hp) (Q:VK) (E_:XK):Prop
 |mk (x r wa:Addr) (c:KA) (S:RS) (bs:List (Nat×List Int×Nat)) (gs:List (Option Gg)) (ag:List Nat) (W:bG) (hd:Nat) (fp:List (List Int×Nat)) (O:Addr->Prop) (Ex:Nat->Int->Prop) (which m:Nat) (word:List Int):vs=[.ref x,.int which,.ref wa,.int m]->b9 CG CC H x r c gs ag W hd fp O->CI S bs gs ag W Ex none->H wa=some (.tup (ao word))->word.length<=1000->(∀z∈word,-1000<=z/\z<=1000)->m<S.made->bs.length<100000->ag.length<=bs.length->(∀hJ gQ O' H',Bt O H H'->(∀b,O b->O' b)->(∀b,O' b->O b\/H b=none)->b9 CG CC H' x r c hJ gQ W hd fp O'->CI S (bs++nz which word m) hJ gQ W Ex none->gQ.length<=(bs++nz which word m).length->Q .non H')->Bb CR CG CC vs H Q E_
theorem lM (T:Txt K mg A):bj P w K mg base (bF P w) 3 A.mB A.mC ["self","which","word","room"] (Bb A.az A.aJ A.aB):=by
 refine T.fM.F.okN tV (λvs H Q E h=>?_) (λcf AA N s H vs Q E hr h=>?_)
 ·obtain⟨x,r,L,c,S,bs,i,f,W,hd,fp,O,Ex,d,m,a,rfl,_⟩:=h;rfl
 ·obtain⟨x,r,L,c,S,bs,i,f,W,hd,fp,O,Ex,d,m,a,rfl,h,ci,l,I,D,Z,EZ,J,k⟩:=h
  refine⟨_,(au (cC (bO (bu HD (bx bC rfl T.dA ab6 (ae (pv 2) aj)) ay (bD _))
   (ah (aV (cP abC abI abJ bN (aF (pv 0) rfl) (ae (bx bC rfl T.dA ab6 (ae (aF (pv 0) rfl) aj)) aj)))
   (au (aV (cP abC abI abJ bN (aF (pv 0) rfl) (ae (vI (tU T) (su T) hr.Za5 rfl T.KS T.gH.b .nil aM (ae (pv 1) (ae (pv 2) (ae (pv 3) aj)))) aj)))))
   bq))),?_⟩
  have X7:=ci.len;refine⟨λ_ H'=>Q .non H',?_,λ_ _ q=>q⟩;refine⟨_,rfl,L,_,rfl,.inr (bQ.of l),_,_,rfl,rfl,_,rfl,?_⟩;refine dH (λq=>?_) (λq=>?_)
  ·have q:(0:Int)<((ao a).length:Int):=ab9 q;rw[aI]at q;have g:a≠[]:=λz=>by rw[z]at q;exact absurd q (by show ¬(0:Int)<((0:Nat):Int);decide)
   obtain⟨gv,hG,hs⟩:=h.hG;refine⟨_,rfl,x,_,c.dx,_,_,rfl,h.ins,aL T,T.jZ,mK _ _ _,.inl ⟨rfl,_,aD.of h.hA⟩,_,rfl,x,_,c.dx,_,_,rfl,h.ins,aL T,T.iW,j1 _ _ _,c.aG,_,rfl,.inl (aD.of hG),c.aA,_,_,rfl,rfl,h.hA,?_,?_⟩
   ·rw[aI,b8];exact abz (show f.length<=100000 by omega) (by decide)
   have ea:ao (nI f)++[V.int (gv.length:Int)]=ao (nI (f++[i.length])):=by rw[gY,ints_app,hs.l];rfl
   rw[ea];have B:=h.agenda (f++[i.length]);have U:∀b o,b≠c.aA->H b=some o->upd H c.aA (.lst (ao (nI (f++[i.length])))) b=some o:=λb o n e=>by rw[ak n];exact e
   have Y:∀b,upd H c.aA (.lst (ao (nI (f++[i.length])))) b=none->H b=none:=λb z=>by
    by_cases e:b=c.aA
    ·rw[e,ai]at z;cases z
    ·rw[ak e]at z;exact z
   generalize upd H c.aA (.lst (ao (nI (f++[i.length]))))=G at B U Y ⊢;have u:=U _ _ (bW l h.hA (by intro z;cases z)) l;obtain⟨gv1,j,t⟩:=B.hG;refine⟨_,rfl,x,_,c.dx,_,_,rfl,B.ins,aL T,T.iW,j1 _ _ _,.inl ⟨rfl,_,aD.of j⟩,_,rfl,_,rfl,_,rfl,λp C y R F=>?_⟩;have X:aq G (upd (upd G C (.own p)) p (.ins A.aJ C [])):=(aq.upd R).trans (aq.upd (by rw[ak F.symm];exact y));refine⟨p,C,L,d,m,a,rfl,ai,X _ _ u,by omega,I,λH3 f3 g3=>⟨rfl,?_⟩⟩;have M:aq G H3:=λb o e=>f3 b o (X _ _ e) (aw e y)
   refine⟨c.aG,_,_,rfl,rfl,M _ _ j,(by rw[t.l];exact abz (show i.length<=100000 by omega) (by decide)),?_⟩;have v:nz d a m=[(d,a,m)]:=abH g;refine k _ _ (DW O p) _ (λb o n e=>?_) (λb z=>.inl z) (λb z=>z.imp id λw=>by rw[w];exact Y p y) (B.Ri j t y M g3) (by rw[v];exact ci.begin g Z D) (by rw[v,abj,abj];show _+ 1<=_+ 1;omega);rw[ak (λz=>n (by rw[z];exact h.oG))];exact M _ _ (U b o (λz=>n (by rw[z];exact h.oA)) e)
  ·have q:¬(0:Int)<((ao a).length:Int):=λz=>q (abX z)
   rw[aI]at q;have g:a=[]:=List.length_eq_zero_iff.mp (by omega);have v:nz d a m=[]:=abN g;exact k i f O H (λ_ _ _ e=>e) (λb z=>z) (λb z=>.inl z) h (by rw[v,abO];exact ci) (by rw[v,abO];exact J)
def fx (a:List (List Int×Nat))(m:Nat):List (Nat×List Int×Nat):=a.flatMap λp=>nz p.2 p.1 m
theorem Jk (w:Nat)(u:List Int)(m:Nat):(nz w u m).length<=1:=by
 unfold nz;split
 ·exact abS _
 ·exact abr _
theorem o8 (m:Nat):∀a:List (List Int×Nat),(fx a m).length<=a.length
 |[]=>abr _
 |p::l=>by
  have:=o8 m l;have:=Jk p.2 p.1 m;unfold fx at *;rw[List.flatMap_cons,abj,abL];omega
theorem E0 {a:List (List Int×Nat)}{p:List Int×Nat}(h:a[i]?=some p)(m:Nat):fx (a.take (i+ 1)) m=fx (a.take i) m++nz p.2 p.1 m:=by
 unfold fx;rw[adj,h,aeh];show _++(nz p.2 p.1 m++[])=_;rw[abO]
theorem OG {a:List (List Int×Nat)}{b:List Key×V}(h:(gP a)[i]?=some b):∃p,a[i]?=some p/\b=(p.1.map Sum.inl,.int p.2):=by
 unfold gP at h;rw[aby]at h
 cases q:a[i]? with
 |none=>rw[q]at h;cases h
 |some p=>rw[q]at h;exact⟨p,rfl,(Za0 h).symm⟩
inductive E3 (CR CG CC:Addr) (vs:List V) (H:Hp) (Q:VK) (E_:XK):Prop
 |mk (x r:Addr) (c:KA) (S:RS) (bs:List (Nat×List Int×Nat)) (gs:List (Option Gg)) (ag:List Nat) (W:bG) (hd:Nat) (fp:List (List Int×Nat)) (O:Addr->Prop) (Ex:Nat->Int->Prop) (m:Nat):vs=[.ref x,.int m]->b9 CG CC H x r c gs ag W hd fp O->H c.aQ=some (.dT (gP fp))->CI S bs gs ag W Ex none->(∀p∈fp,p.1.length<=1000/\∀z∈p.1,-1000<=z/\z<=1000)->m<S.made->bs.length+ fp.length<100000->ag.length<=bs.length->(∀hJ gQ O' H',Bt O H H'->(∀b,O b->O' b)->(∀b,O' b->O b\/H b=none)->b9 CG CC H' x r c hJ gQ W hd fp O'->CI S (bs++fx fp m) hJ gQ W Ex none->gQ.length<=(bs++fx fp m).length->Q .non H')->E3 CR CG CC vs H Q E_
theorem hL (T:Txt K mg A):bj P w K mg base (bF P w) 4 A.iT A.iU ["self","room"] (E3 A.az A.aJ A.aB):=by
 refine T.di.F.okN eY (λvs H Q E h=>?_) (λcf AA outer s H vs Q E hr h=>?_)
 ·obtain⟨x,r,c,S,bs,gs,ag,W,V,f,O,Ex,m,rfl,_⟩:=h;rfl
 ·obtain⟨x,r,c,S,bs,gs,ag,W,V,f,O,Ex,m,rfl,h,C,ci,Yg,hm,EZ,Jl,k⟩:=h
  refine⟨_,(au (AB (cz abQ rfl (QN (aF (pv 0) rfl)) (m3 rfl (dF (bK (i:=2) eY.nd rfl (Or.inl rfl)) (dF (bK (i:=3) eY.nd rfl (Or.inl rfl)) kA)))
   (au (aV (bB (pv 0) (aL T) T.fM.m (lM T) hr.Za5 T.fM.b .nil aM (ae (pv 3) (ae (pv 2) (ae (pv 1) aj))))))))),?_⟩
  have Z:¬O c.aQ:=h.EL C;have nxQ:x≠c.aQ:=bW h.ins C (by intro z;cases z);refine⟨c.aQ,_,C,trivial,_,rfl,x,_,c.dx,_,_,rfl,h.ins,aL T,T.zg,Hk _ _ _,c.aQ,gP f,rfl,C,λU=>?_⟩;have k0:∀b o,b≠c.aQ->H b=some o->upd H c.aQ (.cQ U (.dT (gP f))) b=some o:=λb o n e=>by rw[ak n];exact e
  have h0:b9 A.aJ A.aB (upd H c.aQ (.cQ U (.dT (gP f)))) x r c gs ag W V f O:=h.keep (λb o J e=>k0 b o (λz=>Z (by rw[<-z];exact J)) e) (λb xs e=>k0 b _ (bW e C (by intro z;cases z)) e)
  refine M0 (d:=c.aQ) (o:=U) (kvs:=gP f) (λi X B=>∃j a v v2 v3,X=[some (.ref x),some (.int (m:Int)),v2,v3]/\B c.aQ=some (.cQ U (.dT (gP f)))/\(∀b o,b≠c.aQ->¬O b->H b=some o->B b=some o)/\(∀b,O b->v b)/\(∀b,v b->O b\/H b=none)/\b9 A.aJ A.aB B x r c j a W V f v/\CI S (bs++fx (f.take i) m) j a W Ex none/\a.length<=(bs++fx (f.take i) m).length)
   ⟨gs,ag,O,none,none,rfl,ai,λb o n _ e=>k0 b o n e,λb z=>z,λb z=>.inl z,h0,by rw[List.take_zero];show CI S (bs++[]) _ _ _ _ _;rw[abO];exact ci,by rw[List.take_zero];show _<=(bs++[]).length;rw[abO];exact Jl⟩ (λi X B _ ⟨_,_,_,_,_,_,q,_⟩=>q) ?_ ?_
  ·rintro i kv X B t kp Yh nt D ⟨j,a,v,v2,v3,rfl,R,Y,G,g,c5,l,u⟩;obtain⟨p,hp,rfl⟩:=OG Yh;have hi:=(abk.mp hp).1
   replace D:B kp=some (.tup (ao p.1)):=by
    rw[D];show some (HO.tup (((p.1.map (Sum.inl:Int->Key)).map kV)))=_;rw[ab1];rfl
   have I:=aq.upd (o:=.tup [.ref kp,.int (p.2:Int)]) nt;refine⟨t,_,rfl,bQ.of ai,rfl,_,_,rfl,_,_,rfl,rfl,?_⟩;generalize upd B t (.tup [.ref kp,.int (p.2:Int)])=H6 at I ⊢;have J:=Yg p (abn hp);have bl:=o8 m (f.take i);rw[abZ]at bl;have c6:=c5.same I;refine⟨_,rfl,x,c.dx,_,rfl,c6.ins,ew (by decide),_,rfl,_,rfl,_,rfl,x,r,kp,c,S,_,j,a,W,V,f,v,Ex,p.2,m,p.1,rfl,c6,l,I _ _ D,J.1,J.2,hm,by rw[abj];omega,u,λYi Yj O7 H7 L Yk Yl c7 N M=>?_⟩;have F:¬v c.aQ:=λz=>(g _ z).elim Z λq=>by rw[C]at q;cases q
   rw[aci,<-E0 hp]at N M;refine⟨Yi,Yj,O7,_,_,rfl,L _ _ F (I _ _ R),λb o n1 n2 e=>L b o (λz=>(g b z).elim n2 λq=>by rw[q]at e;cases e) (I _ _ (Y b o n1 n2 e)),λb z=>Yk b (G b z),λb z=>?_,c7,N,M⟩;rcases Yl b z with w|w
   ·exact g b w
   ·by_cases y:O b
    ·exact .inl y
    ·refine .inr ?_
     cases e:H b with
     |none=>rfl
     |some o=>
      by_cases y2:b=c.aQ
      ·rw[y2,I _ _ R]at w;cases w
      ·rw[I _ _ (Y b o y2 y e)]at w;cases w
  ·rintro X B ⟨j,a,v,v2,v3,rfl,R,Y,G,g,c5,l,u⟩;rw[show (gP f).length=f.length by unfold gP;rw[abo],acN]at l u;have F:¬v c.aQ:=λz=>(g _ z).elim Z λq=>by rw[C]at q;cases q
   refine⟨U,R,k j a v _ (λb o n e=>?_) G g (c5.keep (λb o J e=>by rw[ak (λz=>F (by rw[<-z];exact J))];exact e) (λb xs e=>by rw[ak (λz=>by rw[z,R]at e;cases e)];exact e)) l u⟩;by_cases z:b=c.aQ
   ·rw[z,ai,<-C,<-z];exact e
   ·rw[ak z];exact Y b o z n e
def Jm (r:Addr):List (Str×V):=[("rooms",.ref r)]
def Jn (r q:Addr):List (Str×V):=[("rooms",.ref r),("rules",.ref q)]
def Jo (r q g:Addr):List (Str×V):=[("rooms",.ref r),("rules",.ref q),("goings",.ref g)]
def Jp (r q g e:Addr):List (Str×V):=[("rooms",.ref r),("rules",.ref q),("goings",.ref g),("agenda",.ref e)]
def Jq (r q g e w:Addr):List (Str×V):=[("rooms",.ref r),("rules",.ref q),("goings",.ref g),("agenda",.ref e),("waiting",.ref w)]
def OI (r q g e w:Addr)(n:Int):List (Str×V):=[("rooms",.ref r),("rules",.ref q),("goings",.ref g),("agenda",.ref e),("waiting",.ref w),("heard",.int n)]
theorem Ym (r q:Addr):bJ "rules" (.ref q) (Jm r)=Jn r q:=dm (by kernel_rfl)
theorem Yn (r q g:Addr):bJ "goings" (.ref g) (Jn r q)=Jo r q g:=dm (by kernel_rfl)
theorem Yo (r q g e:Addr):bJ "agenda" (.ref e) (Jo r q g)=Jp r q g e:=dm (by kernel_rfl)
theorem Yp (r q g e w:Addr):bJ "waiting" (.ref w) (Jp r q g e)=Jq r q g e w:=dm (by kernel_rfl)
theorem Yq (r q g e w:Addr)(n:Int):bJ "heard" (.int n) (Jq r q g e w)=OI r q g e w n:=dm (by kernel_rfl)
theorem kat_nil {k:Addr}(h:H k=some (.dK [])):dw H k (λ_=>none) (λ_ _=>none) (λ_ _ _=>false):=⟨⟨[],h,by simp,(λa z=>by cases z),λ_=>rfl⟩,(λ_ _ z=>by cases z),(λ_ _ _ z=>by cases z),(λ_ _ _ z=>by cases z),(λ_ _ _ z=>by cases z),(λ_ _ z=>by cases z),(λ_ _ _ z=>by cases z),(λ_ _ _ z=>by cases z),(λ_ _ _ _ z=>by cases z),(λ_ _ _ _ _ z=>by cases z)⟩
def cL (S:RS):List Nat:=(List.range S.made).filter λc=>decide (S.aU[c]?=some c)
def c0 (a:List (List Int×Nat))(st:List Nat):List (Nat×List Int×Nat):=st.flatMap λm=>fx a m
def eQ (b:Za3)(a i:Nat):List (Nat×List Int×Nat):=(List.range i).flatMap λj=>nz (a+ j) (b.getD j []) 0
theorem kz (a:List (List Int×Nat)):∀st:List Nat,(c0 a st).length<=st.length* a.length
 |[]=>abS _
 |m::st=>by
  have:=kz a st;have:=o8 m a;unfold c0 at *;rw[List.flatMap_cons,abj,abL,ad6];omega
theorem rj (b:Za3)(a:Nat):∀i,(eQ b a i).length<=i
 |0=>abr _
 |i+ 1=>by
  have:=rj b a i;have:=Jk (a+ i) (b.getD i []) 0;unfold eQ at *;rw[acY,aeh,abj];show _+ (nz _ _ 0++[]).length<=_;rw[abO];omega
def rn:bG:=λ_ _ _=>false
theorem OJ:CI S [] [] [] rn eT none:=⟨rfl,(λn g e=>by simp at e),(λn b e=>by simp at e),(λn z=>by cases z),(λr s n z=>by cases z),λn=>⟨(0,0),(0,0),(λr s z=>by cases z),λg e=>by simp at e⟩,(λb z=>by cases z)⟩
inductive E4 (CR CG CC:Addr) (vs:List V) (H:Hp) (Q:VK) (E_:XK):Prop
 |mk (x dx r ru pa:Addr) (S:RS) (a:RA) (R:Za2) (rs ps:Za3):vs=[.ref x,.ref r,.ref ru,.ref pa]->H x=some (.ins CC dx [])->ax CR H r S a->Good S [] R->0<S.made->S.made<=2000->¬a.own r x->bM H ru rs->bM H pa ps->rs.length<=400->ps.length<=400->(∀u∈rs++ps,u.length<=1000/\∀z∈u,-1000<=z/\z<=1000)->(∀fp,vZ rs fp->S.made* fp.length+ ps.length<50000)->(∀c gs ag fp O H',(∀b o,H b=some o->b≠x->H' b=some o)->b9 CG CC H' x r c gs ag rn S.aY.length fp O->H' c.aQ=some (.dT (gP fp))->(∀b,O b->b=x\/H b=none)->CI S (c0 fp (cL S)++eQ ps rs.length ps.length) gs ag rn eT none->ag.length<=(c0 fp (cL S)++eQ ps rs.length ps.length).length->vZ rs fp->Q .non H')->E4 CR CG CC vs H Q E_
theorem pZ (T:Txt K mg A):bj P w K mg base (bF P w) 5 A.gu A.jV ["self","rooms","rules","part"] (E4 A.az A.aJ A.aB):=by
 refine T.fH.F.okN ej (λvs H Q E h=>?_) (λcf AA outer s H vs Q E hr h=>?_)
 ·obtain⟨x,B,r,ru,pa,S,a,R,rs,ps,rfl,_⟩:=h;rfl
 ·obtain⟨x,B,r,ru,pa,S,a,R,rs,ps,rfl,hx,hR,gd,Yr,hm,zG,E5,zH,pU,ot,Tf,zI,k⟩:=h
  refine⟨_,(ah (bY (pv 0) (pv 1) rfl)
   (ah (bY (pv 0) (bA (vq T) hr.Za5 rfl T.jf.m T.jf.F.kp T.jf.b .nil aM (ae (pv 2) aj)) rfl)
   (ah (bY (pv 0) (cD aj) rfl)
   (ah (bY (pv 0) (cD aj) rfl)
   (ah (bY (pv 0) eS rfl)
   (ah (bY (pv 0) (bx bC rfl T.dA ab6 (ae (aF (pv 1) rfl) aj)) rfl)
   (ah (cz abQ rfl (cS (ie (pv 1) (aK T) T.fm.m (ki T) hr.Za5 T.fm.b .nil aM)) (bK (i:=4) ej.nd rfl (Or.inl rfl))
    (au (aV (bB (pv 0) (aL T) T.di.m (hL T) hr.Za5 T.di.b .nil aM (ae (pv 4) aj)))))
   (au (cz abQ rfl (DV rfl T.mU (pv 3) (bx bC rfl T.dA ab6 (ae (pv 2) aj))) (m3 rfl (dF (bK (i:=5) ej.nd rfl (Or.inl rfl)) (dF (bK (i:=6) ej.nd rfl (Or.inl rfl)) kA)))
    (au (aV (bB (pv 0) (aL T) T.fM.m (lM T) hr.Za5 T.fM.b .nil aM (ae (pv 5) (ae (pv 6) (ae ay aj))))))))))))))),?_⟩
  refine yK ?_;intro IH AZ ti rh jn hH fv;obtain⟨OL,Jr,Js⟩:=id E5;obtain⟨F,Jt,OO⟩:=id zH
  have st:∀{H0:Hp} {fs gs:List (Str×V)},H0 x=some (.ins A.aB B fs)->(∀b o,H b=some o->b≠x->H0 b=some o)->upd H0 x (.ins A.aB B gs) x=some (.ins A.aB B gs)/\(∀b o,H b=some o->b≠x->upd H0 x (.ins A.aB B gs) b=some o)/\(∀b o,b≠x->H0 b=some o->upd H0 x (.ins A.aB B gs) b=some o)/\∀b,upd H0 x (.ins A.aB B gs) b=none->H0 b=none:=λ_ h=>⟨ai,λb o e n=>by rw[ak n];exact h b o e n,λb o n e=>by rw[ak n];exact e,λb z=>by
   by_cases e:b=x
   ·rw[e,ai]at z;cases z
   ·rw[ak e]at z;exact z⟩
  have o0:∀b o,H b=some o->b≠x->H b=some o:=λb o e _=>e
  have OQ:ru≠x:=bW Jr hx (by intro z;cases z);have OS:pa≠x:=bW Jt hx (by intro z;cases z);refine⟨_,rfl,_,rfl,x,_,B,_,rfl,hx,aL T,T.d0,(by show 0<1000;decide),?_⟩;rw[show bJ "rooms" (.ref r) []=Jm r from rfl];obtain⟨x1,o1,-,n1⟩:=st (gs:=Jm r) hx o0;generalize upd H x (.ins A.aB B (Jm r))=H1 at x1 o1 n1 ⊢;have Tg:bM H1 ru rs:=⟨OL,o1 _ _ Jr OQ,Js.1,λi q u e1 e2=>o1 _ _ (Js.2 i q u e1 e2) (bW (Js.2 i q u e1 e2) hx (by intro z;cases z))⟩;refine⟨_,rfl,ru,rs,rfl,Tg,by omega,λq d H2 s2 nq hq OU=>?_⟩;have x2:=s2 _ _ x1;have o2:∀b o,H b=some o->b≠x->H2 b=some o:=λb o e n=>s2 _ _ (o1 b o e n)
  have n2:∀b,H2 b=none->H b=none:=λb z=>n1 b (same_none s2 z)
  refine⟨_,rfl,x,_,B,_,rfl,x2,aL T,T.zg,(by show 1<1000;decide),?_⟩;rw[Ym];have E6:q≠x:=bW hq x2 (by intro z;cases z);obtain⟨x3,o3,k3,n3⟩:=st (gs:=Jn r q) x2 o2;generalize upd H2 x (.ins A.aB B (Jn r q))=Y at x3 o3 k3 n3 ⊢;have q3:=k3 _ _ E6 hq;refine⟨abS _,λg ng=>?_⟩;have M:=aq.upd (o:=.lst []) ng;have g4:upd Y g (.lst []) g=some (.lst []):=ai;have n4:∀b,upd Y g (.lst []) b=none->H b=none:=λb z=>n2 b (n3 b (same_none M z))
  have Ti:=n2 g (n3 g ng);generalize upd Y g (.lst [])=H4 at M g4 n4 ⊢;refine⟨_,rfl,x,_,B,_,rfl,M _ _ x3,aL T,T.iW,(by show 2<1000;decide),?_⟩;rw[Yn];obtain⟨x5,o5,k5,n5⟩:=st (gs:=Jo r q g) (M _ _ x3) (λb o e n=>M _ _ (o3 b o e n));generalize upd H4 x (.ins A.aB B (Jo r q g))=H5 at x5 o5 k5 n5 ⊢;have E7:g≠x:=bW g4 (M _ _ x3) (by intro z;cases z);have q5:=k5 _ _ E6 (M _ _ q3);have g5:=k5 _ _ E7 g4;refine⟨abS _,λe ne=>?_⟩;have s6:=aq.upd (o:=.lst []) ne;have e6:upd H5 e (.lst []) e=some (.lst []):=ai;have n6:∀b,upd H5 e (.lst []) b=none->H b=none:=λb z=>n4 b (n5 b (same_none s6 z))
  have Tj:=n4 e (n5 e ne);have Tn:g≠e:=aw g5 ne;generalize upd H5 e (.lst [])=H6 at s6 e6 n6 ⊢;refine⟨_,rfl,x,_,B,_,rfl,s6 _ _ x5,aL T,T.jZ,(by show 3<1000;decide),?_⟩;rw[Yo];obtain⟨x7,o7,k7,n7⟩:=st (gs:=Jp r q g e) (s6 _ _ x5) (λb o e n=>s6 _ _ (o5 b o e n));generalize upd H6 x (.ins A.aB B (Jp r q g e))=H7 at x7 o7 k7 n7 ⊢;have uF:e≠x:=bW e6 (s6 _ _ x5) (by intro z;cases z);have q7:=k7 _ _ E6 (s6 _ _ q5);have g7:=k7 _ _ E7 (s6 _ _ g5);have e7:=k7 _ _ uF e6;refine λw nw=>?_
  have X:=aq.upd (o:=.dK []) nw;have w8:upd H7 w (.dK []) w=some (.dK []):=ai;have n8:∀b,upd H7 w (.dK []) b=none->H b=none:=λb z=>n6 b (n7 b (same_none X z))
  have To:=n6 w (n7 w nw);generalize upd H7 w (.dK [])=H8 at X w8 n8 ⊢;refine⟨_,rfl,x,_,B,_,rfl,X _ _ x7,aL T,T.ji,(by show 4<1000;decide),?_⟩;rw[Yp];obtain⟨x9,o9,k9,n9⟩:=st (gs:=Jq r q g e w) (X _ _ x7) (λb o e n=>X _ _ (o7 b o e n));generalize upd H8 x (.ins A.aB B (Jq r q g e w))=H9 at x9 o9 k9 n9 ⊢;have OV:w≠x:=bW w8 (X _ _ x7) (by intro z;cases z);have R9:ax A.az H9 r S a:=hR.keep (λb o hb e=>o9 b o e (λz=>zG (by rw[<-z];exact hb))) (λb xs e=>o9 b _ e (bW e hx (by intro z;cases z)));refine⟨_,rfl,r,_,a.dx,_,_,rfl,R9.ins,aK T,T.qZ,rT _ _ _,a.aN,_,rfl,.inl (aD.of R9.hN),_,rfl,x,_,B,_,rfl,x9,aL T,T.lJ,(by show 5<1000;decide),?_⟩;rw[aI,b8,Yq];obtain⟨xa,oa,ka,na⟩:=st (gs:=OI r q g e w S.aY.length) x9 o9;generalize upd H9 x (.ins A.aB B (OI r q g e w S.aY.length))=Ha at xa oa ka na ⊢;have up:∀b o,b≠x->H8 b=some o->Ha b=some o:=λb o n z=>ka b o n (k9 b o n z)
  have cA:b9 A.aJ A.aB Ha x r ⟨B,q,g,e,w⟩ [] [] rn S.aY.length d (λb=>b=x\/b=g\/b=e\/b=w):=by
   refine⟨xa,⟨[],up _ _ E7 (X _ _ g7),rfl,(λi v z=>by simp at z),(λi v u z=>by simp at z),(λi j p z=>by simp at z)⟩,up _ _ uF (X _ _ e7),⟨_,_,kat_nil (up _ _ OV w8),⟨λb hb=>?_,(λ_ _ z=>by cases z),(λ_ _ _ z=>by cases z),(λ_ _ _ z=>by cases z)⟩⟩,Tn,.inl rfl,.inr (.inl rfl),.inr (.inr (.inl rfl)),λb hb=>?_⟩
   ·rcases hb with z|⟨_,z⟩|⟨_,_,z⟩
    ·exact .inr (.inr (.inr z))
    ·cases z
    ·cases z
   ·rcases hb with z|z|z|z
    ·rw[z];exact⟨_,xa,(by intro _ z;cases z),(by intro _ z;cases z),(by intro _ _ z;cases z),by intro _ z;cases z⟩
    ·rw[z];exact⟨_,up _ _ E7 (X _ _ g7),(by intro _ z;cases z),(by intro _ z;cases z),(by intro _ _ z;cases z),by intro _ z;cases z⟩
    ·rw[z];exact⟨_,up _ _ uF (X _ _ e7),(by intro _ z;cases z),(by intro _ z;cases z),(by intro _ _ z;cases z),by intro _ z;cases z⟩
    ·rw[z];exact⟨_,up _ _ OV w8,(by intro _ z;cases z),(by intro _ z;cases z),(by intro _ _ z;cases z),by intro _ z;cases z⟩
  have qa:=up _ _ E6 (X _ _ q7)
  have Oa:∀b,(b=x\/b=g\/b=e\/b=w)->b=x\/H b=none:=λb z=>by
   rcases z with z|z|z|z
   ·exact .inl z
   ·rw[z];exact .inr Ti
   ·rw[z];exact .inr Tj
   ·rw[z];exact .inr To
  have Ra:ax A.az Ha r S a:=hR.keep (λb o hb e=>oa b o e (λz=>zG (by rw[<-z];exact hb))) (λb xs e=>oa b _ e (bW e hx (by intro z;cases z)));have nA:∀b,Ha b=none->H b=none:=λb z=>n8 b (n9 b (na b z))
  obtain⟨O,eO⟩:∃O:Addr->Prop,O=λb=>b=x\/b=g\/b=e\/b=w:=⟨_,rfl⟩
  rw[<-eO]at cA;replace Oa:∀b,O b->b=x\/H b=none:=by rw[eO];exact Oa
  clear eO;generalize ec:(⟨B,q,g,e,w⟩:KA)=c at cA;have qa:Ha c.aQ=some (.dT (gP d)):=by rw[<-ec];exact qa
  clear g7 e7 w8 x9 o9 k9 n9 X n8 x7 o7 k7 n7 s6 n6 e6 x5 o5 k5 n5 M g4 n4 x3 o3 k3 n3 x1 o1 n1 x2 o2 n2 up ka q7 q5 q3 g5 xa na R9 To Tj Ti nw ne ng Tn uF E7 OV hq nq s2 E6 Tg;have Ys:∀p∈d,p.1.length<=1000/\∀z∈p.1,-1000<=z/\z<=1000:=λp hp=>Tf _ (abM _ (abn (OU.a p hp)))
  have zI:=zI d OU;refine⟨_,rfl,r,a.dx,_,rfl,Ra.ins,cw _ _ _ (by decide),r,S,a,rfl,Ra,gd.wf,by omega,λl nl=>?_⟩;have sl:(cL S).length<=S.made:=abB (ad0 _ _) (by rw[abY];exact abr _);have Yt:∀m∈cL S,m<S.made:=λm hm=>aca.mp (ac7.mp hm).1
  have Tp:(cL S).length* d.length<=S.made* d.length:=acG _ sl;have sb:=aq.upd (o:=.lst (ao (nI (cL S)))) nl;have hl:upd Ha l (.lst (ao (nI (cL S)))) l=some (.lst (ao (nI (cL S)))):=ai;show ∃a_1,_;rw[show (List.range S.made).filter (λc=>decide (S.aU[c]?=some c))=cL S from rfl];have nl0:=nA l nl;have Yu:¬O l:=λz=>by obtain⟨o,e,_⟩:=cA.th l z;rw[nl]at e;cases e
  generalize upd Ha l (.lst (ao (nI (cL S))))=Hb at sb hl ⊢;have cB:=cA.same sb;refine⟨l,rfl,⟨_,aD.of hl⟩,?_⟩
  refine eR (K:=K) (a:=l) (xs:=ao (nI (cL S))) (λi σ H2=>∃U L O2 v4,σ=[some (.ref x),some (.ref r),some (.ref ru),some (.ref pa),v4,none,none]/\(∀b o,¬O b->Hb b=some o->H2 b=some o)/\(∀b,O b->O2 b)/\(∀b,O2 b->O b\/Hb b=none)/\b9 A.aJ A.aB H2 x r c U L rn S.aY.length d O2/\CI S (c0 d ((cL S).take i)) U L rn eT none/\L.length<=(c0 d ((cL S).take i)).length)
   ⟨[],[],O,none,rfl,λ_ _ _ e=>e,λb z=>z,λb z=>.inl z,cB,OJ,abr _⟩ (λi σ H2 _ ⟨_,_,_,_,_,f,_⟩=>aD.of (f _ _ Yu hl)) ?_ ?_
  ·rintro i v σ H2 hi ⟨U,L,O2,v4,rfl,f2,Jj,zE,c2,zB,E8⟩;obtain⟨z,rfl,hz⟩:=cq hi
   obtain⟨m,OW,rfl⟩:∃m,(cL S)[i]?=some m/\z=(m:Int):=by
    unfold nI at hz;rw[aby]at hz
    cases y:(cL S)[i]? with
    |none=>rw[y]at hz;cases hz
    |some m=>rw[y]at hz;exact⟨m,rfl,(Za0 hz).symm⟩
   have I:=(abk.mp OW).1;have nQ:¬O c.aQ:=cA.EL qa;have q2:=f2 _ _ nQ (sb _ _ qa);have ll:=kz d ((cL S).take i);rw[abZ,ads (by omega)]at ll;have li:(i+ 1)* d.length<=(cL S).length* d.length:=acG _ I;rw[ad6]at li;refine⟨_,rfl,x,c.dx,_,rfl,c2.ins,ew (by decide),_,rfl,x,r,c,S,_,U,L,rn,S.aY.length,d,O2,eT,m,rfl,c2,q2,zB,Ys,Yt m (abn OW),by omega,E8,λD C O3 Y b3 Td N c3 G J=>?_⟩
   have es:c0 d ((cL S).take (i+ 1))=c0 d ((cL S).take i)++fx d m:=by
    unfold c0;rw[adj,OW,aeh];show _++(fx d m++[])=_;rw[abO]
   rw[<-es]at G J;refine⟨D,C,O3,_,rfl,λb o n e=>b3 b o (λz=>(zE b z).elim n λy=>by rw[y]at e;cases e) (f2 b o n e),λb z=>Td b (Jj b z),λb z=>?_,c3,G,J⟩;rcases N b z with y|y
   ·exact zE b y
   ·by_cases y2:O b
    ·exact .inl y2
    ·refine .inr ?_
     cases e:Hb b with
     |none=>rfl
     |some o=>rw[f2 b o y2 e]at y;cases y
  rintro σ H2 ⟨U,L,O2,v4,rfl,f2,Jj,zE,c2,zB,E8⟩;rw[aI,b8,acN]at zB E8;have ll:=kz d (cL S);have OX:Hb pa=some (.lst (F.map V.ref)):=sb _ _ (oa _ _ Jt OS);have Z:∀{b o},H b=some o->b≠x->¬O b:=λ{b o} e n z=>(Oa b z).elim n λy=>by rw[y]at e;cases e
  have Vp:=f2 _ _ (Z Jt OS) OX;have Vq:=f2 _ _ (Z Jr OQ) (sb _ _ (oa _ _ Jr OQ));have lr:(OL.map V.ref).length=rs.length:=by rw[abo,Js.1]
  refine⟨_,rfl,_,rfl,ru,_,rfl,.inl (aD.of Vq),pa,((OL.map V.ref).length:Int),rfl,rfl,by omega,by omega,⟨_,aD.of Vp⟩,?_⟩;rw[lr]
  refine BK (K:=K) (a:=pa) (xs:=F.map V.ref) (λi σ Y=>∃D C O3 v5 v6,σ=[some (.ref x),some (.ref r),some (.ref ru),some (.ref pa),v4,v5,v6]/\(∀b o,¬O b->Hb b=some o->Y b=some o)/\(∀b,O3 b->O b\/Hb b=none)/\b9 A.aJ A.aB Y x r c D C rn S.aY.length d O3/\CI S (c0 d (cL S)++eQ ps rs.length i) D C rn eT none/\C.length<=(c0 d (cL S)++eQ ps rs.length i).length)
   ⟨U,L,O2,none,none,rfl,f2,zE,c2,by show CI S (_++[]) _ _ _ _ _;rw[abO];exact zB,by show _<=(_++[]).length;rw[abO];exact E8⟩ (λi σ Y _ ⟨_,_,_,_,_,_,f,_⟩=>aD.of (f _ _ (Z Jt OS) OX)) ?_ ?_
  ·rintro i v σ Y t hi nt ⟨D,C,O3,v5,v6,rfl,f3,N,c3,G,J⟩
   have I:i<F.length:=by
    have:=(abk.mp hi).1;rw[abo]at this;exact this
   have OY:i<ps.length:=by rw[<-OO.1];exact I
   have g1:F[i]?=some (F[i]'I):=abm I
   have g2:ps[i]?=some (ps[i]'OY):=abm OY
   rw[aby,g1]at hi;obtain rfl:V.ref (F[i]'I)=v:=Za0 hi;generalize F[i]'I=wa at g1;generalize ps[i]'OY=u at g2;have OZ:=OO.2 i wa u g1 g2;have Tq:wa≠x:=bW OZ hx (by intro z;cases z);have Vr:=f3 _ _ (Z OZ Tq) (sb _ _ (oa _ _ OZ Tq));have M:=aq.upd (o:=.tup [.int ((rs.length:Int)+ (i:Int)),.ref wa]) nt;refine⟨t,_,rfl,bQ.of ai,rfl,_,_,rfl,_,_,rfl,rfl,?_⟩;generalize upd Y t (.tup [.int ((rs.length:Int)+ (i:Int)),.ref wa])=H4 at M ⊢;have c4:=c3.same M;have pl:=rj ps rs.length i;have Ts:=Tf u (abv _ (abn g2));refine⟨_,rfl,x,c.dx,_,rfl,c4.ins,ew (by decide),_,rfl,_,rfl,x,r,wa,c,S,_,D,C,rn,S.aY.length,d,O3,eT,rs.length+ i,0,u,rfl,c4,G,M _ _ Vr,Ts.1,Ts.2,Yr,by rw[abj];omega,J,λYv Ov O5 H5 b5 le5 Yw c5 E9 Tt=>?_⟩
   have ep:eQ ps rs.length (i+ 1)=eQ ps rs.length i++nz (rs.length+ i) u 0:=by
    unfold eQ;rw[acY,aeh];show _++(nz (rs.length+ i) (ps.getD i []) 0++[])=_;rw[abO,abt,g2];rfl
   rw[aci,<-ep]at E9 Tt;refine⟨Yv,Ov,O5,_,_,rfl,λb o n e=>b5 b o (λz=>(N b z).elim n λy=>by rw[y]at e;cases e) (M _ _ (f3 b o n e)),λb z=>?_,c5,E9,Tt⟩;rcases Yw b z with y|y
   ·exact N b y
   ·by_cases y2:O b
    ·exact .inl y2
    ·refine .inr ?_
     cases e:Hb b with
     |none=>rfl
     |some o=>rw[M _ _ (f3 b o y2 e)]at y;cases y
  ·rintro σ Y ⟨D,C,O3,v5,v6,rfl,f3,N,c3,G,J⟩;rw[abo,OO.1]at G J;refine k c D C d O3 Y (λb o e n=>f3 b o (Z e n) (sb _ _ (oa b o e n))) c3 (f3 _ _ (cA.EL qa) (sb _ _ qa)) (λb z=>?_) G J OU;rcases N b z with y|y
   ·exact Oa b y
   ·exact .inr (nA b (same_none sb y))
theorem zJ {rs:Za3}{b:List (List Int×Nat)}(h:vZ rs b):b.length<=rs.length:=by
 have g:(b.map (·.2)).Nodup:=by
  have:=h.n;unfold List.Nodup at this ⊢;rw[adn]at this ⊢
  exact this.imp_of_mem λ{p q} a d n e=>n (by
   have c:=h.a p a;have i:=h.a q d;rw[e,i]at c;exact(Za0 c).symm)
 have:=ko rs.length _ g λn f=>by
  obtain⟨p,a,rfl⟩:=ach.mp f;exact(abk.mp (h.a p a)).1
 rw[abo]at this;exact this
theorem vt {b:Nat×List Int×Nat}{w:Nat}(h:b∈nz w l m):b=(w,l,m)/\l≠[]:=by
 unfold nz at h;split at h
 ·cases h
 ·rename_i q;exact⟨abp.mp h,q⟩
theorem Cv {w:Nat}(h:l≠[]):(w,l,m)∈nz w l m:=by
 unfold nz;rw[abH h];exact abp.mpr rfl
theorem K3 {d:List (List Int×Nat)}{st:List Nat}{a:Za3}{b:Nat×List Int×Nat}(h:b∈c0 d st++eQ a n a.length):(∃p∈d,b.1=p.2/\b.2.1=p.1/\b.2.2∈st)\/∃j u,a[j]?=some u/\b=(n+ j,u,0):=by
 rcases abx.mp h with q|q
 ·obtain⟨m,e,q⟩:=ac2.mp q;obtain⟨p,f,q⟩:=ac2.mp q;obtain⟨rfl,_⟩:=vt q;exact .inl ⟨p,f,rfl,rfl,e⟩
 ·obtain⟨j,c,q⟩:=ac2.mp q;obtain⟨rfl,_⟩:=vt q;have c:=aca.mp c;exact .inr ⟨j,a.getD j [],by rw[abt,abm c];rfl,rfl⟩
theorem ends {bs:List (Nat×List Int×Nat)}{f:List (Option Gg)}{W:bG}(ci:CI S bs f [] W eT none)(B:Good S [] R){b:Nat×List Int×Nat}(r:b∈bs)(a:S.av b.2.2=b.2.2):Ig S b.2.2 b.2.1:=by
 obtain⟨n,d⟩:=aco r;have m:n<f.length:=by rw[ci.len];exact(abk.mp d).1
 cases q:f[n]? with
 |none=>rw[abm m]at q;cases q
 |some y=>
  cases y with
  |none=>
   rcases ci.de n b q (by intro z;cases z) d with z|z
   ·exact absurd a z
   ·exact .inl z
  |some g=>
   obtain⟨e,c,z⟩:=ci.al n g q;rw[d]at e;obtain rfl:=Za0 e;rcases z with z|z|⟨lt,s,p⟩
   ·cases z
   ·cases z
   ·obtain⟨o,_,i,_,_,_,_,f1⟩:=ci.en _ _ _ s;obtain⟨v,_,h,_,_,_,_,f2⟩:=ci.en _ _ _ p;have i:o=g.front:=by omega
    have h:v=g.bh:=by omega
    subst i h;rcases f1 with ⟨x,l⟩|f1
    ·rcases f2 with ⟨u,t⟩|f2
     ·have k:=c.wf;have j:=c.wr;have a:S.av g.start=g.start:=a;rw[a,x]at k;rw[a,u]at j;exact .inr ⟨g.first,g.last,g.front,g.bh,g.z1,-g.z2,lt,Gg.pC (by have:=c.ll;omega),Gg.at2 c.ll,k,l,j,by rw[acX];exact t⟩
     ·exact f2.elim
    ·exact f1.elim
inductive K4 (CR CG CC:Addr) (vs:List V) (H:Hp) (Q:VK) (E_:XK):Prop
 |mk (r ru pa:Addr) (S:RS) (a:RA) (R:Za2) (ks:List Int) (B:Nat) (rs ps:Za3):vs=[.ref r,.ref ru,.ref pa]->gR CR H r S a R ks B->0<S.made->B<800000->bM H ru rs->bM H pa ps->rs.length<=400->ps.length<=400->S.made* rs.length+ ps.length<=700->(∀u∈rs++ps,u.length<=1000/\∀z∈u,(-1000<=z/\z<=1000)/\z∈ks/\-z∈ks)->(∀S' a' R' B' H',(∀b o,¬a.own r b->H b=some o->H' b=some o)->gR CR H' r S' a' R' ks B'->(∀b,a'.own r b->a.own r b\/H b=none)->(∀a z b,R a z b->R' a z b)->S'.made=S.made->S'.L=S.L->Tr (rs++ps) rs.length S S'->yR rs ps S'->B'<=B+ 700->Q .non H')->K4 CR CG CC vs H Q E_
def jm (S:RS)(L c:Nat)(z:Int):Prop:=c<S.made/\S.aU[c]?=some c/\z∈bz (2* L)/\S.by c z=none
structure GL (S:RS) (L:Nat):Prop where
 wf:S.Wf
 m:S.made<=100000
 l2:L<=200
 gp:∀c,c<S.made->S.aU[c]?=some c->S.gap c=(bz (2* L)).filter λz=>(S.by c z).isNone
theorem GL.mem (g:GL S n)(hc:m<S.made)(c:S.aU[m]?=some m){y:Int}:jm S n m y↔y∈S.gap m:=by
 rw[g.gp m hc c,ac7];constructor
 ·rintro ⟨_,_,a,b⟩;exact⟨a,by rw[b];rfl⟩
 ·rintro ⟨a,b⟩;exact⟨hc,c,a,by simpa using b⟩
def Cw (S:RS):List Nat:=(List.range S.made).filter λc=>decide (S.aU[c]?=some c)
theorem t8:n∈Cw S↔n<S.made/\S.aU[n]?=some n:=by
 unfold Cw;rw[ac7,aca];simp
inductive Cy (C D:Addr) (vs:List V) (H:Hp) (Q:VK) (E_:XK):Prop
 |mk (o dx r:Addr) (S:RS) (a:RA) (L:Nat):vs=[.ref o,.ref r]->H o=some (.ins D dx [])->ax C H r S a->GL S L->((∀c z,¬jm S L c z)->∀H',aq H H'->Q .non H')->(∀(c:Nat) (z:Int),jm S L c z->∀t H',aq H H'->H' t=some (.tup [.int (c:Int),.int z])->Q (.ref t) H')->Cy C D vs H Q E_
inductive Bc (C:Addr) (vs:List V) (H:Hp) (Q:VK) (E_:XK):Prop
 |mk (r l:Addr) (S:RS) (a:RA) (cs:List Nat):vs=[.ref r,.ref l]->ax C H r S a->H l=some (.lst (ao (nI cs)))->(∀c∈cs,c<S.gaps.length)->((∀c∈cs,S.gap c=[])->Q .non H)->(∀(c:Nat) (z:Int),c∈cs->z∈S.gap c->∀t,H t=none->Q (.ref t) (upd H t (.tup [.int (c:Int),.int z])))->Bc C vs H Q E_
def Fb (l:List Int):V:=(l.head?.map V.int).getD .non
inductive O6 (C:Addr) (vs:List V) (H:Hp) (Q:VK) (E_:XK):Prop
 |mk (r:Addr) (S:RS) (a:RA) (c:Nat):vs=[.ref r,.int c]->ax C H r S a->c<S.gaps.length->Q (Fb (S.gap c)) H->O6 C vs H Q E_
theorem ro (T:Txt K mg A):bj P w K mg base (bF P w) 1 A.kg A.kh ["self","room"] (O6 A.az):=by
 refine T.jg.F.okN j0 (λx H Q E h=>?_) (λF J n s H x Q E I h=>?_)
 ·obtain⟨r,S,a,c,rfl,_⟩:=h;rfl
 ·obtain⟨r,S,a,c,rfl,h,y,k⟩:=h
  refine⟨_,(ah (AB (cz abQ rfl (QL (bI bL (aF (pv 0) rfl) (pv 1) (λ_ _=>rfl))) (bK (i:=2) j0.nd rfl (Or.inl rfl))
   (au (bf (pv 2)))))
   (au (bf dh))),?_⟩
  refine oM ?_;intro B;have G:=vn y;obtain⟨p,u,m⟩:=h.rG.at G;refine⟨p,.dK (gK (S.gap c)),m,True.intro,?_⟩;refine⟨_,rfl,r,_,a.dx,_,_,rfl,h.ins,aK T,T.qY,rS _ _ _,_,rfl,a.aG,_,_,_,rfl,rfl,aD.of h.hG,cG u,p,gK (S.gap c),rfl,m,λo=>?_⟩
  have back:upd (upd H p (.cQ o (.dK (gK (S.gap c))))) p (.dK (gK (S.gap c)))=H:=by
   rw[JH]
   funext b
   by_cases t:b=p
   ·rw[t,ai,m]
   ·rw[ak t]
  refine MY (d:=p) (o:=o) (kvs:=gK (S.gap c)) (λi j g=>j=[some (.ref r),some (.int c),none]/\g=upd H p (.cQ o (.dK (gK (S.gap c))))/\i=0) ⟨rfl,rfl,rfl⟩ (λi j g _ q=>by rw[q.2.1];exact ai) ?_ ?_
  ·rintro i v j g f ⟨rfl,rfl,rfl⟩
   have e:∃z,(S.gap c).head?=some z/\kV v.1=.int z:=by
    unfold gK at f;rw[aby]at f
    cases q:(S.gap c)[0]? with
    |none=>rw[q]at f;cases f
    |some z=>
     rw[q]at f;refine⟨z,by rw[List.head?_eq_getElem?];exact q,?_⟩;rw[<-Za0 f];rfl
   obtain⟨z,C,l⟩:=e;rw[l];refine⟨_,rfl,o,ai,?_⟩;rw[back];have:Fb (S.gap c)=.int z:=by unfold Fb;rw[C];rfl
   rw[<-this];exact k
  ·rintro j g ⟨rfl,rfl,e⟩;refine⟨o,ai,?_⟩;rw[back];have:S.gap c=[]:=adP (by unfold gK at e;rw[abo]at e;exact e);have l:Fb (S.gap c)=.non:=by rw[this];rfl
   show Q V.non H;rw[<-l];exact k
theorem Ab (T:Txt K mg A):bj P w K mg base (bF P w) 2 A.u6 A.u9 ["rooms","some"] (Bc A.az):=by
 refine T.kT.F.okN mW (λF H Q E h=>?_) (λN U u s H F Q E I h=>?_)
 ·obtain⟨r,l,S,a,cs,rfl,_⟩:=h;rfl
 ·obtain⟨r,l,S,a,cs,rfl,h,B,o,M,L⟩:=h
  refine⟨_,(ah (cz abQ rfl (cS (pv 1)) (bK (i:=2) mW.nd rfl (Or.inl rfl))
   (ah (aZ (i:=3) mW.nd rfl (Or.inl rfl) (bB (pv 0) (aK T) T.jg.m (ro T) (I.mono (by decide)) T.jg.b .nil aM (ae (pv 2) aj)))
   (au (bO (bu vF (pv 3) dh (bD _))
    (au (bf (cV (ae (pv 2) (ae (pv 3) aj)))))
    bq))))
   (au (bf dh))),?_⟩
  refine oM ?_;intro J;refine⟨_,rfl,l,rfl,⟨_,aD.of B⟩,?_⟩;refine eR (K:=K) (a:=l) (xs:=ao (nI cs)) (λi n k=>∃v p,n=[some (.ref r),some (.ref l),v,p]/\k=H/\∀c∈cs.take i,S.gap c=[]) ⟨none,none,rfl,rfl,λc o=>by cases o⟩ (λi n k _ ⟨_,_,_,e,_⟩=>by rw[e];exact aD.of B) ?_ ?_
  ·rintro i x n k G ⟨v,p,rfl,rfl,j⟩;obtain⟨z,rfl,d⟩:=cq G
   obtain⟨c,f,rfl⟩:∃c:Nat,cs[i]?=some c/\z=(c:Int):=by
    unfold nI at d;rw[aby]at d
    cases q:cs[i]? with
    |none=>rw[q]at d;cases d
    |some c=>rw[q]at d;exact⟨c,rfl,(Za0 d).symm⟩
   have g:=abn f;refine⟨_,rfl,r,a.dx,_,rfl,h.ins,rfl,_,rfl,r,S,a,c,rfl,h,o c g,?_⟩;refine⟨_,rfl,rfl,_,rfl,?_⟩;unfold Fb
   cases D:S.gap c with
   |nil=>
    refine⟨some (.int c),some .non,rfl,rfl,λb C=>?_⟩;rw[List.take_add_one,f]at C;rcases abx.mp C with q|q
    ·exact j b q
    ·rw[abp.mp q];exact D
   |cons y m=>exact⟨_,rfl,_,rfl,by show 2<=sizeLine;decide,λt O=>L c y g (by rw[D];exact abA) t O⟩
  ·rintro n k ⟨v,p,rfl,rfl,j⟩;rw[aI,b8,acN]at j;exact M j
theorem rq (T:Txt K mg A):bj P w K mg base (bF P w) 3 A.sV A.sW ["self","rooms"] (Cy A.az A.cU):=by
 refine T.jY.F.okN zj (λm H Q E h=>?_) (λy D d s H m Q E e h=>?_)
 ·obtain⟨o,k,r,S,a,L,rfl,_⟩:=h;rfl
 ·obtain⟨o,k,r,S,a,L,rfl,C,h,g,x,u⟩:=h;refine⟨_,(au (bf (bA (Ab T) (e.mono (by decide)) rfl T.kT.m T.kT.F.kp T.kT.b .nil aM (ae (pv 1) (ae (ie (pv 1) (aK T) T.fm.m (ki T) (e.mono (by decide)) T.fm.b .nil aM) aj))))),?_⟩;refine⟨_,rfl,_,rfl,r,a.dx,_,rfl,h.ins,rfl,r,S,a,rfl,h,g.wf,g.m,λl n=>?_⟩;have s1:aq H (upd H l (.lst (ao (nI (Cw S))))):=aq.upd n;refine⟨r,l,S,a,Cw S,rfl,h.same s1,ai,λc p=>by rw[g.wf.g];exact(t8.mp p).1,λj=>x (λc z b=>?_) _ s1,λc z f i t B=>?_⟩
  ·have:=(g.mem b.1 b.2.1).mp b;rw[j c (t8.mpr ⟨b.1,b.2.1⟩)]at this;cases this
  ·obtain⟨v,q⟩:=t8.mp f;exact u c z ((g.mem v q).mpr i) t _ (s1.trans (aq.upd B)) ai
def Fd:List Nat:=[114,111,111,109,115]
def Fe (a:Addr):Sp:=λb H Q _=>b=[.str (tx Fd)]/\∀x d,H x=none->H d=none->d≠x->Q (.ref x) (upd (upd H d (.own x)) x (.ins a d []))
theorem Ac (T:Txt K mg A):bj P w K mg base (bF P w) 1 A.uY A.uZ ["name"] (Fe A.cU):=by
 refine T.oU.F.okN zZ (λf H Q E h=>?_) (λc i a s H f Q E g h=>?_)
 ·obtain⟨rfl,_⟩:=h;rfl
 ·obtain⟨rfl,k⟩:=h
  refine⟨_,(ah (bO (bu i5 (pv 0) (m8 (l:=[114,111,111,109,115]) rfl) (bD _))
   (au (bf (Gm T.GY T.G0 T.GZ rfl T.KQ)))
   bq)
   (ah ib
   (ah ib
   (au ib)))),?_⟩
  refine fF ?_;intro b e d;exact⟨_,rfl,rfl,_,rfl,gS k⟩
theorem Ho (h:ax a H b S O){d:Addr}{o:HO}(f:H d=some o)(j:∀p q l,o≠.ins p q l)(k:∀c,o≠.lst c)(g:∀c,o≠.dK c):¬O.own b d:=λi=>by
 rcases i with q|q|q
 ·have:=h.ins;rw[<-q,f]at this;exact j _ _ _ (Za0 this)
 ·obtain⟨c,e⟩:=h.Ie q;rw[f]at e;exact k _ (Za0 e)
 ·obtain⟨c,e⟩:=h.pz q;rw[f]at e;exact g _ (Za0 e)
theorem K5 (h:ax a H b S O){p:Addr}{c:List V}(d:H p=some (.tup c)):¬O.own b p:=Ho h d (by intro _ _ _ z;cases z) (by intro _ z;cases z) (by intro _ z;cases z)
theorem K6 {C:Addr}{x:Addr}(nx:H x=none)(d:H a=none)(c:a≠x)(k:∀b o,upd (upd H a (.own x)) x (.ins C a []) b=some o->b≠x->I b=some o)(g:∀b,O.own x b->b=x\/upd (upd H a (.own x)) x (.ins C a []) b=none):aq H I/\∀b,O.own x b->H b=none:=by
 have f:aq H (upd (upd H a (.own x)) x (.ins C a [])):=(aq.upd d).trans (aq.upd (by rw[ak c.symm];exact nx));exact⟨λb o e=>k b o (f _ _ e) (aw e nx),λb z=>(g b z).elim (λe=>by rw[e];exact nx) (same_none f)⟩
def Ju (p:Addr)(H a:Hp):Prop:=∀q o,q≠p->H q=some o->a q=some o
theorem Ju.upd {o:HO}:Ju a H (upd H a o):=λq u n e=>by rw[ak n];exact e
theorem _root_.L2.eG.but {rs:List Addr}{rows:Za3}{w:Addr}(h:eG H rs rows)(b:Ju w H I)(d:w∉rs):eG I rs rows:=⟨h.1,λi r ns a c=>b _ _ (λz=>d (by rw[<-z];exact abn a)) (h.2 i r ns a c)⟩
theorem Hq {rows:Za3}(h:eG H F rows){r:Addr}(d:r∈F):∃c,H r=some (.lst (ao c)):=by
 obtain⟨i,b,e⟩:=List.mem_iff_getElem.mp d;have a:i<rows.length:=by rw[<-h.1];exact b
 exact⟨_,h.2 i r _ (by rw[abm b,e]) (abm a)⟩
theorem _root_.L2.eG.snoc {rs:List Addr}{rows:Za3}{ns:List Int}(h:eG H rs rows)(f:H a=some (.lst (ao ns))):eG H (rs++[a]) (rows++[ns]):=by
 refine⟨by rw[abj,abj,h.1];rfl,λi q e b c=>?_⟩;by_cases d:i<rs.length
 ·rw[abu d]at b;rw[abu (by rw[<-h.1];exact d)]at c;exact h.2 i q e b c
 ·rw[abw (by omega)]at b;rw[abw (by rw[<-h.1];omega)]at c;rw[abp.mp (abn b),abp.mp (abn c)];exact f
def bE (S:RS)(k c:Nat):Nat:=(S.by c (M12.st k)).getD 0
inductive vu (C:Addr) (vs:List V) (H:Hp) (Q:VK) (E_:XK):Prop
 |mk (r:Addr) (S:RS) (a:RA) (Z:Nat->Prop):vs=[.ref r]->ax C H r S a->1<=S.L->S.L<=40->S.made<=300->S.ways.length=S.made->Z 0->(∀c,Z c->c<S.made/\∀k,k<2* S.L->∃d,S.by c (M12.st k)=some d/\Z d)->(∀l N H',aq H H'->H l=none->TabAt H' l (M24.fj (bE S) (2* S.L) (M24.a9 (bE S) (2* S.L) 0 N))->(M24.a9 (bE S) (2* S.L) 0 N).length=N->Q (.ref l) H')->vu C vs H Q E_
def t9 (a:List (Key×V))(found:List Nat):Prop:=a.length<=found.length/\∀c:Nat,bp a (Sum.inl (c:Int))=if c∈found then some (V.int (M24.ix found c:Int)) else none
theorem t9.one:t9 [(Sum.inl 0,.int 0)] [0]:=⟨abr _,λc=>by
 by_cases h:c=0
 ·subst h;rfl
 ·rw[abH (λq=>h (abp.mp q))];show bp (putK [] (Sum.inl 0) (.int 0)) (Sum.inl (c:Int))=none;rw[kO,abH (λq=>by injection q with q;omega)];rfl⟩
theorem t9.put {c:List (Key×V)}{found:List Nat}(h:t9 c found)(nd:found.Nodup)(hc:n∉found):t9 (putK c (Sum.inl (n:Int)) (.int (found.length:Int))) (found++[n]):=by
 have i:(found++[n]).Nodup:=by
  rw[ab5];exact⟨nd,by simp,λa j b g=>by rw[abp.mp g];exact λz=>hc (by rw[<-z];exact j)⟩
 refine⟨?_,λf=>?_⟩
 ·have:=fO c (Sum.inl (n:Int)) (.int (found.length:Int));have:=h.1;rw[abj,acr];omega
 rw[kO];by_cases e:f=n
 ·subst e;rw[abN rfl,abN (abv _ abA),M24.Ei hc]
 ·rw[abH (λq=>e (by injection q with q;omega)),h.2];by_cases d:f∈found
  ·rw[abN d,abN (abM _ d),M24.uJ i d]
  ·rw[abH d,abH (λq=>(abx.mp q).elim d λq=>e (abp.mp q))]
structure NS (H0 H:Hp) (lf d lr:Addr) (ts:List Addr) (kvs:List (Key×V)) (found:List Nat) (Tb:Za3):Prop where
 same:aq H0 H
 f1:H lf=some (.lst (ao (nI found)))
 d1:H d=some (.dK kvs)
 nm:t9 kvs found
 r1:H lr=some (.lst (ts.map V.ref))
 r2:eG H ts Tb
 un:(lf::lr::ts).Nodup
 new:∀x∈lf::lr::ts,H0 x=none
 dn:H0 d=none
section
variable {H0 H H':Hp}{lf d lr:Addr}{ts:List Addr}{kvs:List (Key×V)}{found:List Nat}{Tb:Za3}
theorem NS.more (h:NS H0 H lf d lr ts kvs found Tb)(s:aq H H'):NS H0 H' lf d lr ts kvs found Tb:=
 ⟨h.same.trans s,s _ _ h.f1,s _ _ h.d1,h.nm,s _ _ h.r1,h.r2.same s,h.un,h.new,h.dn⟩
theorem NS.ne (h:NS H0 H lf d lr ts kvs found Tb):lf≠lr/\lf∉ts/\lr∉ts/\ts.Nodup:=by
 have a:=ab0.mp h.un;have b:=ab0.mp a.2;refine⟨λe=>a.1 (by rw[e];exact abA),λe=>a.1 (abR _ e),b.1,b.2⟩
theorem NS.add (h:NS H0 H lf d lr ts kvs found Tb)(nd:found.Nodup){c:Nat}(hc:c∉found):NS H0 (upd (upd H d (.dK (putK kvs (Sum.inl (c:Int)) (.int (found.length:Int))))) lf (.lst (ao (nI found)++[.int (c:Int)]))) lf d lr ts (putK kvs (Sum.inl (c:Int)) (.int (found.length:Int))) (found++[c]) Tb:=by
 obtain⟨l,j,m,n⟩:=h.ne;have dl:∀b a,H b=some (.lst a)->b≠d:=λb a e=>bW e h.d1 (by intro z;cases z)
 refine⟨λb o e=>?_,?_,?_,h.nm.put nd hc,?_,⟨h.r2.1,λi q ns g k=>?_⟩,h.un,h.new,h.dn⟩
 ·rw[ak (aw e (h.new lf abA)),ak (aw e h.dn)];exact h.same _ _ e
 ·rw[ai,gY,ints_app];rfl
 ·rw[ak (acU (dl lf _ h.f1)),ai]
 ·rw[ak (acU l),ak (dl lr _ h.r1)];exact h.r1
 ·have f:=h.r2.2 i q ns g k;rw[ak (λe=>j (by rw[<-e];exact abn g)),ak (dl q _ f)];exact f
theorem NS.row (h:NS H0 H lf d lr ts kvs found Tb){q:Addr}{row:List Int}(m:H q=some (.lst (ao row)))(k:H0 q=none)(g:q∉lf::lr::ts):NS H0 (upd H lr (.lst ((ts++[q]).map V.ref))) lf d lr (ts++[q]) kvs found (Tb++[row]):=by
 obtain⟨r,s,l,t⟩:=h.ne;simp only[abD,not_or]at g;obtain⟨p,i,j⟩:=g;refine⟨λb o e=>?_,?_,?_,h.nm,ai,?_,?_,λx c=>?_,h.dn⟩
 ·rw[ak (aw e (h.new lr (abR _ abA)))];exact h.same _ _ e
 ·rw[ak r];exact h.f1
 ·rw[ak (bW h.d1 h.r1 (by intro z;cases z))];exact h.d1
 ·refine eG.but (w:=lr) (h.r2.snoc m) Ju.upd ?_;intro z;rcases abx.mp z with z|z
  ·exact l z
  ·exact i (abp.mp z).symm
 ·rw[<-ac1,<-ac1,ab5];refine⟨h.un,by simp,λa f b n=>?_⟩;rw[abp.mp n];intro z;rw[z]at f;simp only[abD]at f;rcases f with e|e|e
  ·exact p e
  ·exact i e
  ·exact j e
 ·rw[<-ac1,<-ac1]at c;rcases abx.mp c with c|c
  ·exact h.new x c
  ·rw[abp.mp c];exact k
end
theorem Ad (T:Txt K mg A):bj P w K mg base (bF P w) 2 A.uU A.uV ["rooms"] (vu A.az):=by
 refine T.numbered.F.okN eX (λvs H Q E h=>?_) (λcf AA outer s H vs Q E hr h=>?_)
 ·obtain⟨r,S,a,Z,rfl,_⟩:=h;rfl
 ·obtain⟨r,S,a,Z,rfl,hR,q8,tf,hm,hw,Yx,hZ,k⟩:=h;have pk:=hO hr
  refine⟨_,(ah (aZ (i:=1) eX.nd rfl (Or.inl rfl) (bA (mX T) hr.Za5 rfl T.eV.m T.eV.F.kp T.eV.b .nil aM (ae (aF (pv 0) rfl) aj)))
   (ah (aZ (i:=2) eX.nd rfl (Or.inr rfl) (cD (ae ay aj)))
   (ah (aZ (i:=3) eX.nd rfl (Or.inr rfl) (Au (yx ay ay As) rfl rfl (by simp) (by decide)))
   (ah (aZ (i:=4) eX.nd rfl (Or.inr rfl) (cD aj))
   (ah (cC (ic abQ (bu lT (bx bC rfl T.dA ab6 (ae (pv 4) aj)) (bx bC rfl T.dA ab6 (ae (pv 2) aj)) (bD _))
    (ah (jH (iy:=5) eX.nd rfl (Or.inl rfl) (fns:=["rows","rooms","found"]) (ixs:=[4,0,2]) (cl:=_) rfl (cS (pv 1)) (BQ rfl rfl rfl rfl (by decide) rfl (by decide) rfl (by decide) (by decide) rfl rfl rfl rfl rfl rfl rfl rfl rfl rfl) (λC s H ex=>(bB (pv 2) (aK T) T.du.m (fT T) hr.Za5 T.du.b .nil aM (ae (bI (ju (K:=K) rfl) (pv 3) (bx (xI (K:=K) rfl) rfl T.dA ab6 (ae (pv 1) aj)) (λ_ _=>rfl)) (ae (pv 0) aj)))))
    (ah (cz abQ rfl (cS (pv 5)) (bK (i:=6) eX.nd rfl (Or.inl rfl))
     (au (cC (bO (CH (wH pk (pv 6) (pv 3)))
      (ah (m9 pk (pv 3) (pv 6) (bx bC rfl T.dA ab6 (ae (pv 2) aj)) rfl)
      (au (aV (cP abC abI abJ bN (pv 2) (ae (pv 6) aj)))))
      bq))))
    (au (aV (cP abC abI abJ bN (pv 4) (ae (iz (fns:=["numbers"]) (ixs:=[3]) (cl:=_) rfl (cS (pv 5)) (kl rfl rfl (by decide) rfl (by decide) rfl (by decide) (by decide) rfl rfl rfl rfl) (λC s H ex=>(rL pk (pv 1) (pv 0) (λ_ _=>rfl)))) aj))))))))
   (au (bf (pv 4)))))))),?_⟩
  refine tM ?_;intro ti rh jn hH fv;refine⟨_,rfl,r,_,a.dx,_,_,rfl,hR.ins,aK T,T.qW,uz _ _ _,S.L,rfl,q8,by omega,λsl H1 s1 Jv=>?_⟩;refine⟨by show 1<=sizeLine;decide,λp O8=>?_⟩;have s2:=aq.upd (o:=.lst [.int 0]) O8;have R:upd H1 p (.lst [.int 0]) p=some (.lst (ao (nI [0]))):=ai;generalize upd H1 p (.lst [.int 0])=H2 at s2 R ⊢;intro d hd;refine⟨ai,[(Sum.inl 0,.int 0)],rfl,by show 1<=15;decide,?_⟩;generalize yW:upd (upd H2 d (.dK [])) d _=H3;have Bd:H3 d=some (.dK [(Sum.inl 0,.int 0)]):=by rw[<-yW,ai];rfl
  have s3:aq H2 H3:=λb o e=>by rw[<-yW,ak (aw e hd),ak (aw e hd)];exact e
  clear yW;refine⟨abS _,λu Ff=>?_⟩;have s4:=aq.upd (o:=.lst []) Ff;have O9:upd H3 u (.lst []) u=some (.lst (([]:List Addr).map V.ref)):=ai;generalize upd H3 u (.lst [])=H4 at s4 O9 ⊢
  have B4:NS H1 H4 p d u [] [(Sum.inl 0,.int 0)] (M24.a9 (bE S) (2* S.L) 0 0) (M24.jA (bE S) (2* S.L) 0 0):=by
   have Pa:H2 u=none:=s3.free Ff;have e:p≠u:=λz=>by rw[<-z,R]at Pa;cases Pa
   refine⟨(s2.trans s3).trans s4,(s3.trans s4) _ _ R,s4 _ _ Bd,t9.one,O9,⟨rfl,λi r ns h1=>by simp at h1⟩,by simp[e],λx hx=>?_,s2.free hd⟩;simp only[abD,acd,adO]at hx;rcases hx with e|e
   ·rw[e];exact O8
   ·rw[e];exact s2.free Pa
  clear s2 s3 s4 R Bd O9 O8 hd Ff
  have xA:∀y i,Z y->i<2* S.L->Z (bE S i y):=λy i hy D=>by
   obtain⟨d,e1,e2⟩:=(hZ y hy).2 i D;unfold bE;rw[e1];exact e2
  have oZ:∀n,∀z∈M24.a9 (bE S) (2* S.L) 0 n,Z z:=M24.nu Yx xA;have Pb:∀n,(M24.a9 (bE S) (2* S.L) 0 n).length<=300:=λn=>abB (M11.jP S.made _ (M24.gq _ _ _ n) λz U=>(hZ z (oZ n z U)).1) hm
  refine⟨λ iG H'=>∃(N:Nat) (J:List Addr) (f:List (Key×V)) (v5 M:Option V),iG=[some (.ref r),some (.ref sl),some (.ref p),some (.ref d),some (.ref u),v5,M]/\NS H1 H' p d u J f (M24.a9 (bE S) (2* S.L) 0 N) (M24.jA (bE S) (2* S.L) 0 N)/\(M24.a9 (bE S) (2* S.L) 0 N).length=N,?_,?_⟩
  ·refine⟨λm σ H'=>∃(n:Nat) (J:List Addr) (f:List (Key×V)) (v5 M:Option V),m=300 - n/\σ=[some (.ref r),some (.ref sl),some (.ref p),some (.ref d),some (.ref u),v5,M]/\NS H1 H' p d u J f (M24.a9 (bE S) (2* S.L) 0 n) (M24.jA (bE S) (2* S.L) 0 n)/\n<=(M24.a9 (bE S) (2* S.L) 0 n).length,⟨_,0,[],_,none,none,rfl,rfl,B4,abS _⟩,?_⟩;rintro m σ H5 ⟨n,J,f,v5,M,rfl,rfl,O,hn⟩;have hop:=Pb n
   have X:J.length=n:=by
    rw[O.r2.1];unfold M24.jA;rw[abo,abZ];omega
   refine⟨_,rfl,u,_,rfl,.inl (aD.of O.r1),_,rfl,p,_,rfl,.inl (aD.of O.f1),_,_,rfl,rfl,_,rfl,?_⟩;refine dH (λh=>?_) (λh=>?_)
   ·have qc:n<(M24.a9 (bE S) (2* S.L) 0 n).length:=by
     have h':((J.map V.ref).length:Int)<((ao (nI (M24.a9 (bE S) (2* S.L) 0 n))).length:Int):=ab9 h;rw[aI,b8,abo,X]at h';omega
    clear h;have I:=abm qc;generalize (M24.a9 (bE S) (2* S.L) 0 n)[n]=c at I;have Pg:=oZ n c (abn I);have Yy:=(hZ c Pg).1;refine⟨_,λ iG H' h=>h,?_⟩;have R5:ax A.az H5 r S a:=hR.same (s1.trans O.same);have G:=O.same _ _ Jv;refine⟨_,rfl,sl,rfl,⟨_,aD.of G⟩,?_⟩;refine iJ (ao ((List.range (2* S.L)).map M12.st)) (λv=>match v with|.int z=>.int (((S.by c z).getD 0:Nat):Int)|v=>v) (kK (aD.of G)) (jr (aD.of G)) (ip (aD.of G)) (by rw[aI,abo,abY];exact abB (show 2* S.L<=1000 by omega) (by decide)) (λi v hv Rr l=>?_) (λlo Ph=>?_)
    ·obtain⟨z,rfl,U⟩:=cq hv
     have D:i<2* S.L:=by
      have:=(abk.mp U).1;rw[abo,abY]at this;exact this
     have ez:M12.st i=z:=Za0 ((oj D).symm.trans U);obtain⟨dd,e1,e2⟩:=(hZ c Pg).2 i D;rw[ez]at e1;refine⟨_,rfl,r,a.dx,_,rfl,R5.ins,cw _ _ _ (by decide),_,rfl,_,rfl,u,_,rfl,.inl (aD.of O.r1),p,_,_,_,rfl,rfl,aD.of O.f1,(by rw[abo,X];exact cI (bV (ja I))),_,rfl,r,S,a,c,z,rfl,R5,by rw[hw];exact Yy,?_⟩;have l:Rr (.int (((S.by c z).getD 0:Nat):Int)) H5:=l;rw[e1]at l ⊢;exact l
    have eo:(ao ((List.range (2* S.L)).map M12.st)).map (λv=>match v with|.int z=>V.int (((S.by c z).getD 0:Nat):Int)|v=>v)=ao (nI ((List.range (2* S.L)).map λi=>bE S i c)):=by
     unfold ao nI;rw[ab1,ab1,ab1,ab1];rfl
    rw[eo];clear eo;have s6:=aq.upd (o:=.lst (ao (nI ((List.range (2* S.L)).map λi=>bE S i c)))) Ph;have Pj:upd H5 lo (.lst (ao (nI ((List.range (2* S.L)).map λi=>bE S i c)))) lo=some (.lst (ao (nI ((List.range (2* S.L)).map λi=>bE S i c)))):=ai;generalize upd H5 lo (.lst (ao (nI ((List.range (2* S.L)).map λi=>bE S i c))))=H6 at s6 Pj ⊢;have n1:lo≠p:=λz=>by rw[z,O.f1]at Ph;cases Ph
    have Tv:∀i,i<2* S.L->((List.range (2* S.L)).map λi=>bE S i c)[i]?=some (bE S i c):=λi D=>by rw[aby,acQ D];rfl
    refine⟨_,rfl,lo,rfl,⟨_,aD.of Pj⟩,?_⟩;refine eR (K:=K) (a:=lo) (xs:=ao (nI ((List.range (2* S.L)).map λi=>bE S i c))) (λi σ Y=>∃(f:List (Key×V)) (M:Option V),σ=[some (.ref r),some (.ref sl),some (.ref p),some (.ref d),some (.ref u),some (.ref lo),M]/\NS H1 Y p d u J f (M24.dq (bE S) c (M24.a9 (bE S) (2* S.L) 0 n) i) (M24.jA (bE S) (2* S.L) 0 n)/\Y lo=some (.lst (ao (nI ((List.range (2* S.L)).map λi=>bE S i c))))) ⟨f,M,rfl,O.more s6,Pj⟩ (λi σ Y _ ⟨_,_,_,_,h⟩=>aD.of h) ?_ ?_
    ·rintro i y σ Y D ⟨f,M,rfl,g,B⟩
     have Jw:i<2* S.L:=by
      have:=(abk.mp D).1;rw[aI,b8,abo,abY]at this;exact this
     rw[bV (ja (Tv i Jw))]at D;have ey:=Za0 D;subst ey
     have Jl:(M24.dq (bE S) c (M24.a9 (bE S) (2* S.L) 0 n) i).length<=300:=abB (M11.jP S.made _ (M24.rY (M24.gq _ _ _ n) i) λz U=>by
      rcases M24.jz.mp U with q|⟨j,hj,rfl⟩
      ·exact(hZ z (oZ n z q)).1
      ·exact(hZ _ (xA c j Pg (by omega))).1) hm
     have Tw:(M24.dq (bE S) c (M24.a9 (bE S) (2* S.L) 0 n) i).Nodup:=M24.rY (M24.gq _ _ _ n) i;have Pk:=M24.iR (bE S) c (M24.a9 (bE S) (2* S.L) 0 n) i;generalize M24.dq (bE S) c (M24.a9 (bE S) (2* S.L) 0 n) i=come at Pk g Jl Tw;rw[Pk];clear Pk;generalize bE S i c=o;refine⟨_,?_,λ_ _ h=>h⟩;refine⟨_,rfl,_,rfl,d,_,rfl,dX.k (k:=Sum.inl (o:Int)) g.d1,_,rfl,?_⟩;rw[g.nm.2 o];by_cases L:o∈come
     ·rw[abN L];refine dk ⟨f,_,rfl,?_,B⟩;unfold M24.add;rw[abN L];exact g
     ·rw[abH L];refine gS ?_;have B8:=g.add Tw L;have Vs:((ao (nI come)).length:Int)=(come.length:Int):=by rw[aI,b8]
      refine⟨_,rfl,p,_,rfl,.inl (aD.of g.f1),_,rfl,_,rfl,d,_,rfl,oH.k (k:=Sum.inl (o:Int)) g.d1 (abz (show f.length<=300 by have:=g.nm.1;omega) (by decide)),?_⟩;have Tx:upd Y d (.dK (putK f (Sum.inl (o:Int)) (.int ((ao (nI come)).length:Int)))) p=some (.lst (ao (nI come))):=by rw[ak (bW g.f1 g.d1 (by intro z;cases z))];exact g.f1
      refine⟨_,rfl,.inl ⟨rfl,_,aD.of Tx⟩,_,rfl,p,_,_,rfl,rfl,Tx,?_,?_⟩
      ·rw[aI,b8];exact abz Jl (by decide)
      rw[Vs];refine⟨putK f (Sum.inl (o:Int)) (.int (come.length:Int)),_,rfl,?_,?_⟩
      ·unfold M24.add;rw[abH L];exact B8
      ·rw[ak n1,ak (bW B g.d1 (by intro z;cases z))];exact B
    ·rintro σ Y ⟨f,M,rfl,g,B⟩;rw[aI,b8,abo,abY,<-M24.eU I]at g;have aap:=Pb (n+ 1);obtain⟨t,ht⟩:=M24.tS (bE S) (2* S.L) 0 n;have Oi:n+ 1<=(M24.a9 (bE S) (2* S.L) 0 (n+ 1)).length:=by rw[ht,abj];omega
     have Yz:∀i,i<2* S.L->bE S i c∈M24.a9 (bE S) (2* S.L) 0 (n+ 1):=λi D=>by rw[M24.eU I];exact M24.jz.mpr (.inr ⟨i,D,rfl⟩)
     refine⟨_,rfl,.inl ⟨rfl,_,aD.of g.r1⟩,_,rfl,lo,rfl,⟨_,aD.of B⟩,?_⟩;refine iJ (ao (nI ((List.range (2* S.L)).map λi=>bE S i c))) (λv=>match v with|.int z=>.int ((M24.ix (M24.a9 (bE S) (2* S.L) 0 (n+ 1)) z.toNat:Nat):Int)|v=>v) (kK (aD.of B)) (jr (aD.of B)) (ip (aD.of B)) (by rw[aI,b8,abo,abY];exact abB (show 2* S.L<=1000 by omega) (by decide)) (λi v hv Rr l=>?_) (λlq F=>?_)
     ·obtain⟨z,rfl,U⟩:=cq hv
      have D:i<2* S.L:=by
       have:=(abk.mp U).1;rw[b8,abo,abY]at this;exact this
      have ez:((bE S i c:Nat):Int)=z:=Za0 ((ja (Tv i D)).symm.trans U);subst ez;have l:Rr (.int ((M24.ix (M24.a9 (bE S) (2* S.L) 0 (n+ 1)) (((bE S i c:Nat):Int)).toNat:Nat):Int)) Y:=l;rw[ab2]at l;refine⟨_,rfl,_,rfl,d,_,rfl,?_,l⟩;have:=dX.k (k:=Sum.inl ((bE S i c:Nat):Int)) g.d1;rw[g.nm.2,abN (Yz i D)]at this;exact this
     have eo:(ao (nI ((List.range (2* S.L)).map λi=>bE S i c))).map (λv=>match v with|.int z=>V.int ((M24.ix (M24.a9 (bE S) (2* S.L) 0 (n+ 1)) z.toNat:Nat):Int)|v=>v)=ao ((List.range (2* S.L)).map λi=>((M24.ix (M24.a9 (bE S) (2* S.L) 0 (n+ 1)) (bE S i c):Nat):Int)):=by
      unfold ao nI;rw[ab1,ab1,ab1,ab1];rfl
     rw[eo];clear eo;have s8:=aq.upd (o:=.lst (ao ((List.range (2* S.L)).map λi=>((M24.ix (M24.a9 (bE S) (2* S.L) 0 (n+ 1)) (bE S i c):Nat):Int)))) F;have Tz:upd Y lq (.lst (ao ((List.range (2* S.L)).map λi=>((M24.ix (M24.a9 (bE S) (2* S.L) 0 (n+ 1)) (bE S i c):Nat):Int)))) lq=some (.lst (ao ((List.range (2* S.L)).map λi=>((M24.ix (M24.a9 (bE S) (2* S.L) 0 (n+ 1)) (bE S i c):Nat):Int)))):=ai;generalize upd Y lq (.lst (ao ((List.range (2* S.L)).map λi=>((M24.ix (M24.a9 (bE S) (2* S.L) 0 (n+ 1)) (bE S i c):Nat):Int))))=H8 at s8 Tz ⊢
     have nq:lq∉p::u::J:=by
      simp only[abD,not_or];refine⟨λz=>?_,λz=>?_,λz=>?_⟩
      ·rw[z,g.f1]at F;cases F
      ·rw[z,g.r1]at F;cases F
      ·obtain⟨ns,e⟩:=Hq g.r2 z;rw[F]at e;cases e
     have B8:=(g.more s8).row Tz (g.same.free F) nq;rw[<-M24.xj I]at B8;refine⟨u,_,_,rfl,rfl,s8 _ _ g.r1,?_,?_⟩
     ·rw[abo,X];exact abz (show n<=300 by omega) (by decide)
     rw[abU]at B8;exact⟨300 - (n+ 1),by omega,n+ 1,J++[lq],f,_,_,rfl,rfl,B8,Oi⟩
   ·refine⟨n,J,f,_,_,rfl,O,?_⟩;have h':¬((J.map V.ref).length:Int)<((ao (nI (M24.a9 (bE S) (2* S.L) 0 n))).length:Int):=λq=>h (abX q)
    rw[aI,b8,abo,X]at h';omega
  rintro iG H' ⟨N,J,f,v5,M,rfl,B',hN⟩;refine⟨_,rfl,k u N H' (s1.trans B'.same) (s1.free (B'.new u (abR _ abA))) ⟨J,B'.r1,?_⟩ hN⟩;rw[<-M24.y7 hN];exact B'.r2
structure CS (CR CG CC:Addr) (H:Hp) (x r:Addr) (q:KA) (S:RS) (a:RA) (R:Za2) (ks:List Int) (B:Nat) (rs ps:Za3) (fp:List (List Int×Nat)) (bs:List (Nat×List Int×Nat)) (gs:List (Option Gg)) (ag:List Nat) (W:bG) (O:Addr->Prop):Prop where
 c:b9 CG CC H x r q gs ag W S.aY.length fp O
 q:H q.aQ=some (.dT (gP fp))
 rm:gR CR H r S a R ks B
 dj:∀b,a.own r b->¬O b
 ci:CI S bs gs ag W eT none
 bo:zC (rs++ps) rs.length ks bs
 pl:vZ rs fp
 br:∀b∈bs,b.2.2<S.made
 ra:∀w∈rs,w≠[]->∀c,c<S.made->S.av c=c->∃n,(n,w,c)∈bs
 pa:∀w∈ps,w≠[]->∃n,(n,w,0)∈bs
 ln:bs.length<=S.made* fp.length+ ps.length
 wb:∀u∈rs++ps,u.length<=1000/\∀z∈u,(-1000<=z/\z<=1000)/\z∈ks/\-z∈ks
theorem CS.Pl {CR:Addr}{x:Addr}{q:KA}{rs o:Za3}{p:List (List Int×Nat)}{bs:List (Nat×List Int×Nat)}{gs:List (Option Gg)}{W:bG}{d:Addr->Prop}(h:CS CR a b H x c q S O R l n rs o p bs gs [] W d)(r:0<S.made):yR rs o S:=by
 refine⟨λw k g hc m=>?_,λw k=>?_⟩
 ·by_cases i:w=[]
  ·rw[i];exact .inl rfl
  ·obtain⟨f,j⟩:=h.ra w k i g hc m;exact ends (b:=(f,w,g)) h.ci h.rm.g j m
 ·by_cases i:w=[]
  ·rw[i];exact .inl rfl
  ·obtain⟨f,j⟩:=h.pa w k i;exact ends (b:=(f,w,0)) h.ci h.rm.g j (by have:=(h.rm.g.el 0 r).1;exact Nat.le_zero.mp this)
inductive Be (CR CG CC:Addr) (vs:List V) (H:Hp) (Q:VK) (E_:XK):Prop
 |mk (x r:Addr) (q:KA) (S:RS) (a:RA) (R:Za2) (B:Nat) (rs ps:Za3) (fp:List (List Int×Nat)) (bs:List (Nat×List Int×Nat)) (gs:List (Option Gg)) (W:bG) (O:Addr->Prop) (c:Nat) (z:Int):vs=[.ref x,.int c,.int z]->CS CR CG CC H x r q S a R (bz (2* S.L)) B rs ps fp bs gs [] W O->1<=S.L->S.L<=200->c<S.made->S.av c=c->S.by c z=none->z∈bz (2* S.L)-> -z∈bz (2* S.L)->S.made<1000->(S.made+ 1)* fp.length+ ps.length<=700->B<800000->S.aY.length+ S.stand<=800000->(∀S' a' R' YB hJ W' O' B' H',(∀b o,¬O b->¬a.own r b->H b=some o->H' b=some o)->CS CR CG CC H' x r q S' a' R' (bz (2* S.L)) B' rs ps fp YB hJ [] W' O'->(∀b,a'.own r b\/O' b->a.own r b\/O b\/H b=none)->Tr (rs++ps) rs.length (S.make c z (bz (2* S.L))) S'->S'.made=S.made+ 1->S'.L=S.L->B'<=B+ 702->Q .non H')->Be CR CG CC vs H Q E_
theorem vw (T:Txt K mg A):bj P w K mg base (bF P w) 9 A.nM A.nP ["self","room","step"] (Be A.az A.aJ A.aB):=by
 refine T.lG.F.okN vi (λvs H Q E h=>?_) (λcf AA outer s H vs Q E hr h=>?_)
 ·obtain⟨x,r,q,S,a,R,B,rs,ps,i,bs,gs,W,O,c,z,rfl,_⟩:=h;rfl
 ·obtain⟨x,r,q,S,a,R,B,rs,ps,i,bs,gs,W,O,c,z,rfl,h,q8,tf,hc,ec,d,hz,M,hm,zI,hB,YC,k⟩:=h
  refine⟨_,(ah (aV (bB (pv 0) (aL T) T.di.m (hL T) hr.Za5 T.di.b .nil aM (ae (bB (aF (pv 0) rfl) (aK T) T.oV.m (xO T) hr.Za5 T.oV.b .nil aM (ae (pv 1) (ae (pv 2) aj))) aj)))
   (ah (aV (bB (pv 0) (aL T) T.cF.m (eP T) hr.Za5 T.cF.b .nil aM (ae (pv 1) (ae (pv 2) aj))))
   (au (aV (ie (pv 0) (aL T) T.fk.m (kj T) hr.Za5 T.fk.b .nil aM))))),?_⟩
  refine cX ?_;intro hH fv;have l:=h.rm.g;have rb:=h.rm.rb;have ok:=xD l h.rm.k (by omega) (by have:=h.rm.l;omega) (by omega) (by omega);refine⟨_,rfl,x,q.dx,_,rfl,h.c.ins,ew (by decide),_,rfl,x,_,q.dx,_,_,rfl,h.c.ins,aL T,T.d0,eZ _ _ _,r,a.dx,_,rfl,h.rm.at_.ins,cw _ _ _ (by decide),_,rfl,_,rfl,r,S,a,c,z,rfl,h.rm.at_,l.wf,q8,tf,hc,by omega,by omega,ok.sm.w,λa1 H1 b1 pC L=>?_⟩;have YD:∀b,O b->∃o,H b=some o:=λb y=>by obtain⟨o,e,_⟩:=h.c.th b y;exact⟨o,e⟩
  have YF:∀b V,H b=some (.tup V)->H1 b=some (.tup V):=λb V e=>b1 b _ (λy=>K5 h.rm.at_ e y) e
  have c1:=h.c.keep (λb o y e=>b1 b o (λw=>h.dj b w y) e) YF;have q1:H1 q.aQ=_:=b1 _ _ (v7 h.rm.at_ h.q) h.q;have YG:=h.ci.make l hc ec d h.br (bz (2* S.L))
  have A9:∀b,a1.own r b->¬O b:=λb y w=>by
   rcases L b y with v|v
   ·exact h.dj b v w
   ·obtain⟨o,e⟩:=YD b w;rw[v]at e;cases e
  have Ox:bs.length+ i.length<=700:=by have:=h.ln;rw[ad6,Nat.one_mul]at zI;omega
  refine⟨x,r,q,S.make c z (bz (2* S.L)),bs,gs,[],W,S.aY.length,i,O,_,S.made,rfl,c1,q1,YG,λp hp=>?_,acL _,by omega,abS _,λf j J H2 m Jj G c2 I E8=>?_⟩
  ·have:=h.wb p.1 (abM _ (abn (h.pl.a p hp)));exact⟨this.1,λy hy=>(this.2 y hy).1⟩
  have bl:=o8 S.made i;have l2:(bs++fx i S.made).length<=700:=by rw[abj];omega
  have TB:zC (rs++ps) rs.length (bz (2* S.L)) (bs++fx i S.made):=by
   have nw:∀b∈fx i S.made,(rs++ps)[b.1]?=some b.2.1/\b.1<rs.length:=λb d=>by
    obtain⟨p,hp,d⟩:=ac2.mp d;obtain⟨rfl,_⟩:=vt d;have h1:=h.pl.a p hp;have h2:=(abk.mp h1).1;exact⟨by rw[abu h2];exact h1,h2⟩
   refine⟨λb d=>?_,λb d=>?_,λb d=>?_,λb d=>?_,by omega⟩
   ·exact(abx.mp d).elim (h.bo.w b) λy=>(nw b y).1
   ·exact(abx.mp d).elim (h.bo.n b) λy=>.inl (nw b y).2
   ·exact(abx.mp d).elim (h.bo.l b) λy=>(h.wb _ (abn (nw b y).1)).1
   ·exact(abx.mp d).elim (h.bo.k b) λy z' M=>((h.wb _ (abn (nw b y).1)).2 z' M).2
  have g2:f.length<=700:=by rw[I.len];exact l2
  have Z:j2 A.aJ A.aB (S.make c z (bz (2* S.L))) (bs++fx i S.made) f W (λr s=>r=c/\s=z) (j.length+ 2* f.length) x r q S.aY.length i J H2 j W:=⟨c2,I,λ_ _ _ z=>z,by have:=I.two;omega⟩;refine⟨_,rfl,x,q.dx,_,rfl,c2.ins,ew (by decide),_,rfl,_,rfl,x,r,q,f,j,W,S.aY.length,i,J,c,z,rfl,c2,Z.fits (by omega),λns H3 t YH TC c3=>?_⟩;have TF:=Z.wake YH TC c3;have OD:CI (S.make c z (bz (2* S.L))) (bs++fx i S.made) f (j++ns) (fi W c z) eT none:=TF.i.ex λr' s' n' w' _ e=>absurd ⟨ade Nat.cast e.1,e.2⟩ (cR.mp w').2
  have Y:∀b,a1.own r b->¬J b:=λb y w=>by
   rcases G b w with v|v
   ·exact A9 b y v
   ·obtain⟨o,e⟩:=pC.there y;rw[v]at e;cases e
  have TK:gR A.az H1 r (S.make c z (bz (2* S.L))) a1 (eD R c z S.made) (bz (2* S.L)) (B+ 2):=by
   have es:=B6 (c:=c) (z:=z) (g:=bz (2* S.L)) l.wf;have U:(S.make c z (bz (2* S.L))).aY=S.aY:=rfl;refine⟨pC,l.make hc ec d _,qt h.rm.w l.wf _ _ _,λa y b e=>?_,by show S.made+ 1<=_;omega,h.rm.l,?_,by rw[U];omega⟩
   ·rcases e with e|⟨_,e,_⟩|⟨_,e,_⟩
    ·exact h.rm.k _ _ _ e
    ·rw[e];exact hz
    ·rw[e];exact M
   ·show (S.rows++[_]).length+ _<=_;rw[abj,es];show S.rows.length+ 1+ _<=_;omega
  have YJ:=(TK.keep (λb o y e=>m b o (A9 b y) e) (λb V e=>m b _ (c1.hY e) e)).keep (λb o y e=>t b o (Y b y) e) (λb V e=>t b _ (c2.hY e) e);have lv:live f<=700:=abB List.countP_le_length g2;have hmul:live f* (2* (bs++fx i S.made).length+ 1)<=700* 1401:=aeJ lv (by omega);have S9:(j++ns).length<=2100:=by have:=TF.b;omega
  refine⟨_,rfl,x,q.dx,_,rfl,c3.ins,ew (by decide),x,r,q,S.make c z (bz (2* S.L)),a1,eD R c z S.made,bz (2* S.L),B+ 2,rs++ps,rs.length,bs++fx i S.made,f,j++ns,fi W c z,i,J,rfl,c3,YJ,by omega,Y,OD,TB,by omega,λS' a' R' hJ W' O' B' H' f' c' r' ow oo YK YL rr em eL tr I0=>?_⟩;have N:S'.made=S.made+ 1:=em
  have out:∀{b o},¬O b->¬a.own r b->H b=some o->H' b=some o:=λ{b o} D F e=>by
   have u:=b1 b o F e;have e2:=m b o D u;have X:¬J b:=λy=>(G b y).elim D λv=>by rw[v]at u;cases u
   exact f' b o X (λy=>(L b y).elim F λv=>by rw[v]at e;cases e) (t b o X e2)
  have non:∀b,a1.own r b\/J b\/H3 b=none->a.own r b\/O b\/H b=none:=λb y=>by
   by_cases F:a.own r b
   ·exact .inl F
   by_cases D:O b
   ·exact .inr (.inl D)
   refine .inr (.inr ?_)
   cases e:H b with
   |none=>rfl
   |some o=>
    exfalso
    have u:=b1 b o F e;have X:¬J b:=λy=>(G b y).elim D λv=>by rw[v]at u;cases u
    rcases y with y|y|y
    ·rcases L b y with v|v
     ·exact F v
     ·rw[v]at e;cases e
    ·exact X y
    ·rw[t b o X (m b o D u)]at y;cases y
  have lt:=Later.of l (l.make hc ec d (bz (2* S.L))) iw (ado _);have YM:=Later.of TK.g r'.g rr (aei em.symm);have YN:∀b,b<S.made->(S.make c z (bz (2* S.L))).av b=S.av b:=λb qc=>(eI l.wf c z (bz (2* S.L)) b).trans (abH (by omega))
  refine k S' a' R' (bs++fx i S.made) hJ W' O' B' H' (λb o D F e=>out D F e) ⟨c',out (h.c.EL h.q) (v7 h.rm.at_ h.q) h.q,r',YK,YL,TB,h.pl,λb d=>?_,λw U C b d eb=>?_,λw U C=>?_,?_,h.wb⟩ (λb y=>?_) tr N (eL.trans rfl) (by omega)
  ·rw[N];rcases abx.mp d with y|y
   ·have:=h.br b y;omega
   ·obtain⟨p,_,d⟩:=ac2.mp y;obtain⟨rfl,_⟩:=vt d;exact acL _
  ·by_cases e:b<S.made
   ·have u:=YM.el b (by show b<S.made+ 1;omega);rw[YN b e,eb]at u;have l1:=(l.el b e).1;have l2:=(r'.g.el (S.av b) (by omega)).1;obtain⟨n,hn⟩:=h.ra w U C b e (by omega);exact⟨n,abM _ hn⟩
   ·have e:b=S.made:=by omega
    subst e;obtain⟨n,hn⟩:=h.pl.b w U;exact⟨n,abv _ (ac2.mpr ⟨(w,n),hn,Cv C⟩)⟩
  ·obtain⟨n,hn⟩:=h.pa w U C;exact⟨n,abM _ hn⟩
  ·have:=h.ln;rw[abj,N,ad6,Nat.one_mul];omega
  ·refine non b ?_;rcases y with y|y
   ·rcases ow b y with v|v|v
    ·exact .inl v
    ·exact .inr (.inl v)
    ·exact .inr (.inr v)
   ·rcases oo b y with v|v|v
    ·exact .inr (.inl v)
    ·exact .inl v
    ·exact .inr (.inr v)
theorem Jx (T:Txt K mg A):y3 K A.bH:=⟨T.Ck,T.Cm,T.Cp,T.Cq,T.Cr,T.Ct⟩
def Pn (n:Nat)(l:Addr):List (Str×V):=[("made",.int n),("rows",.ref l)]
inductive Jy (C:Addr) (vs:List V) (H:Hp) (Q:VK) (E_:XK):Prop
 |mk (x l:Addr) (n:Nat) (xs:List V):vs=[.ref x,.int n,.ref l]->H x=some (XO x C none true)->n<100000->H l=some (.lst xs)->xs.length<=1000000->(∀d l2 H',H d=none->H l2=none->d≠x->(∀b o,b≠x->H b=some o->H' b=some o)->H' x=some (XO x C (some d) true)->H' d=some (XD d (Pn n l2))->H' l2=some (.lst xs)->l2≠x->Q .non H')->Jy C vs H Q E_
theorem p5 (T:Txt K mg A):bj P w K mg base (bF P w) 1 A.jT A.jU ["self","made","rows"] (Jy A.bH):=by
 refine T.dY.F.okN pX (λN H Q E h=>?_) (λS Z D s H N Q E Y h=>?_)
 ·obtain⟨x,l,n,j,rfl,_⟩:=h;rfl
 ·obtain⟨x,l,n,j,rfl,y,U,I,O,k⟩:=h
  refine⟨_,(ah (aV (Gz (AO T.vh T.dY.m.at_) ⟨T.U6,T.U9,T.Va⟩ rfl T.zX (ae (pv 0) (ae (Dm (Ax (J1 (pv 1)) (Ax (m8 (l:=[32,114,111,111,109,115,32,119,101,114,101,32,109,97,100,101,44,32,97,110,100,32,116,104,101,114,101,32,97,114,101,32,103,97,112,115,32,108,101,102,116]) rfl) MD))) aj))))
   (ah (AK (pv 0) (pv 1) rfl)
   (au (AK (pv 0) (dc (yi) rfl T.g6 acA (ae (pv 2) aj)) rfl)))),?_⟩
  refine cX ?_;intro M R;have hd:=FU (n:=(n:Int)) (by omega) (by omega);refine⟨_,rfl,_,rfl,(n:Int),rfl,by omega,_,rfl,by show 0+ _<=1000000;omega,_,rfl,?_,?_,x,none,_,rfl,y,?_⟩
  ·rw[adY];have e:∀m:Nat,m<=100->(yr (n:Int)).length+ m<=1000000:=λm L=>by omega
   exact e _ (by decide)
  ·rw[adY,abj];have e:∀m:Nat,m<=100->(yr (n:Int)).length+ m<=1000000:=λm L=>by omega
   exact e _ (by decide)
  refine⟨_,rfl,_,rfl,x,A.bH,none,true,rfl,y,Jx T,T.KW,λd v=>?_⟩;have c:d≠x:=(aw y v).symm;have f:upd (upd H d (XD d [("made",V.int n)])) x (XO x A.bH (some d) true) x=some (XO x A.bH (some d) true):=ai;have i:upd (upd H d (XD d [("made",V.int n)])) x (XO x A.bH (some d) true) d=some (XD d [("made",V.int n)]):=by rw[ak c,ai]
  have C:∀b o,b≠x->H b=some o->upd (upd H d (XD d [("made",V.int n)])) x (XO x A.bH (some d) true) b=some o:=λb o B e=>by rw[ak B,ak (aw e v)];exact e
  have B:∀b,upd (upd H d (XD d [("made",V.int n)])) x (XO x A.bH (some d) true) b=none->H b=none:=λb e=>by
   by_cases q:b=x
   ·rw[q,ai]at e;cases e
   ·rw[ak q]at e;by_cases G:b=d
    ·rw[G];exact v
    ·rw[ak G]at e;exact e
  generalize upd (upd H d (XD d [("made",V.int n)])) x (XO x A.bH (some d) true)=J at f i C B ⊢;have F:l≠x:=bW I y (by intro z;cases z);refine⟨_,rfl,l,j,rfl,.inl (aD.of (C _ _ F I)),λg a=>?_⟩;have u:=aq.upd (o:=.lst j) a;have r:upd J g (.lst j) g=some (.lst j):=ai;have p:g≠x:=(aw f a).symm;have t:g≠d:=(aw i a).symm;generalize upd J g (.lst j)=X at u r ⊢;refine⟨_,rfl,x,A.bH,some d,true,rfl,u _ _ f,Jx T,T.KY,_,c,u _ _ i,by show 1<1000;decide,?_⟩;rw[show bJ "rows" (V.ref g) [("made",V.int n)]=Pn n g from dm (by kernel_rfl)];refine k d g _ v (B _ a) c (λb o q e=>?_) ?_ ai ?_ p
  ·rw[ak (aw e v)];exact u _ _ (C b o q e)
  ·rw[ak c.symm];exact u _ _ f
  ·rw[ak t];exact r
inductive Fl (rs ps:Za3) (L lim:Nat):RS->Prop
 |start {S:RS}:Tr (rs++ps) rs.length (RS.new L (bz (2* L))) S->yR rs ps S->Fl rs ps L lim S
 |next {S S':RS} {c:Nat} {z:Int}:Fl rs ps L lim S->S.made<lim->jm S L c z->Tr (rs++ps) rs.length (S.make c z (bz (2* L))) S'->yR rs ps S'->Fl rs ps L lim S'
def Pp (L:Nat)(u:List Int):Prop:=u.length<=1000/\∀z∈u,z≠0/\z.natAbs<=L
theorem rz (d:n<=200){u:List Int}(h:Pp n u):u.length<=1000/\∀z∈u,(-1000<=z/\z<=1000)/\z∈bz (2* n)/\-z∈bz (2* n):=by
 refine⟨h.1,λz c=>?_⟩;obtain⟨a,b⟩:=h.2 z c;exact⟨by omega,fU.mpr ⟨a,b⟩,fU.mpr ⟨by omega,by omega⟩⟩
theorem rA (h:S.aU[n]?=some n):S.av n=n:=by unfold RS.av;rw[abt,h];rfl
theorem Fl.ys {rs c:Za3}(h:Fl rs c n m S)(a:∀u∈rs++c,∀z∈u,z∈bz (2* n)/\-z∈bz (2* n)):∃R,YS S n (bz (2* n)) R:=by
 induction h with
 |start t _=>
  obtain⟨R,y,_⟩:=YS.new.tr t a;exact⟨R,y⟩
 |next _ _ l t _ g=>
  obtain⟨R,y⟩:=g;obtain⟨j,f,b,e⟩:=l;obtain⟨o,k⟩:=fU.mp b;obtain⟨i,d,_⟩:=(y.make j (rA f) e b (fU.mpr ⟨by omega,by omega⟩)).tr t a;exact⟨i,d⟩
theorem _root_.L2.YS.gl (y:YS S n (bz (2* n)) R)(a:S.made<=100000)(b:n<=200):GL S n:=⟨y.g.wf,a,b,λc hc d=>y.gi.fin y.g (Er _) hc (rA d)⟩
def TL (S:RS)(L:Nat)(H:Hp)(v:V):Prop:=(v=.non/\∀c z,¬jm S L c z)\/∃(c:Nat) (z:Int) (t:Addr),v=.ref t/\jm S L c z/\H t=some (.tup [.int (c:Int),.int z])
def Jz (H:Hp)(l:Addr)(S:RS):Prop:=∃a:List Addr,H l=some (.lst (a.map V.ref))/\Each (λp d=>bS H 4 (.ref p) d) a S.rows/\S.rows.length<=1000000
inductive Fg (cT:Addr) (vs:List V) (H:Hp) (Q:VK) (E:XK):Prop
 |mk (ru pa:Addr) (L lim:Nat) (rs ps:Za3):vs=[.int L,.ref ru,.ref pa,.int lim,.str (tx Fd)]->1<=L->L<=40->1<=lim->lim<=300->bM H ru rs->bM H pa ps->(∀u∈rs++ps,Pp L u)->lim* rs.length+ ps.length<=700->rs.length<=400->ps.length<=400->(∀t tb pp S N H',aq H H'->Fl rs ps L lim S->(∀c z,¬jm S L c z)->H' t=some (.tup [.ref tb,.ref pp])->TabAt H' tb (M24.fj (bE S) (2* S.L) (M24.a9 (bE S) (2* S.L) 0 N))->(M24.a9 (bE S) (2* S.L) 0 N).length=N->Jz H' pp S->Q (.ref t) H')->(∀d pp S H',aq H H'->Fl rs ps L lim S->S.made=lim->H' d=some (XD d (Pn S.made pp))->Jz H' pp S->E (.ref cT) (some d) H')->Fg cT vs H Q E
section
variable {CR CG CC:Addr}{H H':Hp}{x r:Addr}{q:KA}{S:RS}{a:RA}{R:Za2}{ks:List Int}{B:Nat}{rs ps:Za3}{fp:List (List Int×Nat)}{bs:List (Nat×List Int×Nat)}{gs:List (Option Gg)}{ag:List Nat}{W:bG}{O:Addr->Prop}
theorem CS.keep (h:CS CR CG CC H x r q S a R ks B rs ps fp bs gs ag W O)(f:aq H H'):CS CR CG CC H' x r q S a R ks B rs ps fp bs gs ag W O:=
 ⟨h.c.same f,f _ _ h.q,h.rm.same f,h.dj,h.ci,h.bo,h.pl,h.br,h.ra,h.pa,h.ln,h.wb⟩
end
structure vx (A:sO) (H0 H:Hp) (x r:Addr) (L lim:Nat) (rs ps:Za3) (S:RS):Prop where
 k:aq H0 H
 cs:∃q a R B fp bs gs W O,CS A.az A.aJ A.aB H x r q S a R (bz (2* L)) B rs ps fp bs gs [] W O/\(∀b,a.own r b\/O b->H0 b=none)/\B<=702* S.made
 f:Fl rs ps L lim S
 m:S.made<=lim
 l:S.L=L
theorem vx.kp {H0:Hp}{x:Addr}{rs c:Za3}(h:vx A H0 H x a n m rs c S)(k:aq H I):vx A H0 I x a n m rs c S:=by
 obtain⟨q,b,R,B,f,bs,gs,W,O,cs,e,d⟩:=h.cs;exact⟨h.k.trans k,⟨q,b,R,B,f,bs,gs,W,O,cs.keep k,e,d⟩,h.f,h.m,h.l⟩
theorem K7 (T:Txt K mg A):bj P w K mg base (bF P w) 11 A.El A.Em ["letters","rules","part","limit","order"] (Fg A.bH):=by
 refine T.fill.Ww kF (λvs H Q E h=>?_) (λcf AA outer s H vs Q E hr h=>?_)
 ·obtain⟨ru,pa,L,D,rs,f,rfl,_⟩:=h;rfl
 ·obtain⟨ru,pa,L,D,rs,f,rfl,q8,tf,Ru,Az,E5,zH,aO,zI,pU,ot,kq,ke⟩:=h
  refine⟨_,(ah (aZ (i:=5) kF.nd rfl (Or.inl rfl) (bA (Ac T) hr.Za5 rfl T.oU.m T.oU.F.kp T.oU.b .nil aM (ae (pv 4) aj)))
   (ah (aZ (i:=6) kF.nd rfl (Or.inl rfl) (vI (tT T) (sr T) hr.Za5 rfl T.KR T.gI.b .nil aM (ae (pv 0) aj)))
   (ah (aZ (i:=7) kF.nd rfl (Or.inl rfl) (vI (oX T) (pZ T) hr.Za5 rfl T.Eo T.fH.b .nil aM (ae (pv 6) (ae (pv 1) (ae (pv 2) aj)))))
   (ah (aV (ie (pv 7) (aL T) T.fk.m (kj T) hr.Za5 T.fk.b .nil aM))
   (ah (aZ (i:=8) kF.nd rfl (Or.inl rfl) (bB (pv 5) (zh T) T.jY.m (rq T) hr.Za5 T.jY.b .nil aM (ae (pv 6) aj)))
   (ah (cC (ic PassesOwn.leaving (bu vF (pv 8) dh (bD _))
    (ah (bO (bu HF (aF (pv 6) rfl) (pv 3) (bD _))
     (au (Ec (E:=E) (p5 T) hr.Za5 T.dY.b rfl rfl T.xt (AO T.vh T.dY.m.at_) T.dY.m.fn T.Cj (ae (aF (pv 6) rfl) (ae (ie (pv 6) (aK T) T.gZ.m (oq T) hr.Za5 T.gZ.b .nil aM) aj)) Wv))
     bq)
    (ah (aV (bB (pv 7) (aL T) T.lG.m (vw T) hr.Za5 T.lG.b .nil aM (ae (bI gj (pv 8) ay (λ_ _=>rfl)) (ae (bI gj (pv 8) ay (λ_ _=>rfl)) aj))))
    (au (aZ (i:=8) kF.nd rfl (Or.inl rfl) (bB (pv 5) (zh T) T.jY.m (rq T) hr.Za5 T.jY.b .nil aM (ae (pv 6) aj))))))))
   (au (bf (cV (ae (bA (Ad T) hr.Za5 rfl T.numbered.m T.numbered.F.kp T.numbered.b .nil aM (ae (pv 6) aj)) (ae (ie (pv 6) (aK T) T.gZ.m (oq T) hr.Za5 T.gZ.b .nil aM) aj))))))))))),?_⟩
  refine tN ?_;intro AZ ti rh jn hH fv;have JA:∀u∈rs++f,∀z∈u,z∈bz (2* L)/\-z∈bz (2* L):=λu hu z hz=>((rz (by omega) (aO u hu)).2 z hz).2
  suffices main:∀o d I,aq H I->I o=some (.ins A.cU d [])->fv { nx:=λ_ H'=>Q .non H',rt:=Q } [some (.int L),some (.ref ru),some (.ref pa),some (.int D),some (.str (tx Fd)),some (.ref o),none,none,none] I from
   ⟨_,rfl,rfl,λx d nx nd U=>main x d _ ((aq.upd nd).trans (aq.upd (by rw[ak U.symm];exact nx))) ai⟩
  intro o dO I s1 ho;replace E5:=E5.same s1;replace zH:=zH.same s1;refine⟨_,rfl,λr Z nx Y U=>⟨r,Z,L,rfl,ai,q8,by omega,λra H2 k2 h2 TN=>⟨rfl,?_⟩⟩⟩;obtain⟨s2,Pq⟩:=K6 (C:=A.az) nx Y U k2 TN;clear k2 TN nx Y U;refine⟨_,rfl,_,rfl,_,rfl,λx Z nx Y U=>?_⟩;have s0:aq H2 (upd (upd H2 Z (.own x)) x (.ins A.aB Z [])):=(aq.upd Y).trans (aq.upd (by rw[ak U.symm];exact nx));have JB:upd (upd H2 Z (.own x)) x (.ins A.aB Z []) x=some (.ins A.aB Z []):=ai;have zG:¬ra.own r x:=λz=>by obtain⟨o,e⟩:=h2.there z;rw[nx]at e;cases e
  have n0:∀b,upd (upd H2 Z (.own x)) x (.ins A.aB Z []) b=none->H2 b=none:=λb z=>same_none s0 z
  generalize upd (upd H2 Z (.own x)) x (.ins A.aB Z [])=H3 at s0 JB n0 ⊢;have gd:=tL L (bz (2* L))
  have fit:∀F,vZ rs F->1* F.length+ f.length<=700:=λF h=>by
   have:=acG rs.length Ru;have:=zJ h;omega
  have sl:0+ (RS.new L (bz (2* L))).stand<=1:=by rw[ad7];exact zA (RS.new L (bz (2* L)))
  have y0:=YS.new (L:=L) (ks:=bz (2* L));have TQ:gR A.az H2 r (RS.new L (bz (2* L))) ra (λ_ _ _=>False) (bz (2* L)) 1:=⟨h2,gd,y0.w,y0.k,by show 1<=2000;decide,by rw[rZ];omega,sl,abB sl (by decide)⟩;refine⟨x,Z,r,ru,pa,RS.new L (bz (2* L)),ra,λ_ _ _=>False,rs,f,rfl,JB,h2.same s0,gd,Nat.one_pos,by show 1<=2000;decide,zG,(E5.same s2).same s0,(zH.same s2).same s0,pU,ot,λu hu=>⟨(rz (by omega) (aO u hu)).1,λz hz=>((rz (by omega) (aO u hu)).2 z hz).1⟩,λF h=>by have:=fit F h;show 1* F.length+ f.length<50000;omega,λq gs ag F O H4 f4 c4 q4 o4 Ba TR hp=>⟨rfl,?_⟩⟩;have hf:=fit F hp;have sd:(cL (RS.new L (bz (2* L)))).length<=1:=abB (ad0 _ _) (by rw[abY];exact abr _);have Tp:(cL (RS.new L (bz (2* L)))).length* F.length<=1* F.length:=acG _ sd;have l1:=kz F (cL (RS.new L (bz (2* L))));have l2:=rj f rs.length f.length;have EZ:(c0 F (cL (RS.new L (bz (2* L))))++eQ f rs.length f.length).length<=1* F.length+ f.length:=by rw[abj];omega
  have TV:live gs<=(c0 F (cL (RS.new L (bz (2* L))))++eQ f rs.length f.length).length:=by rw[<-Ba.len];exact List.countP_le_length
  have r4:gR A.az H4 r (RS.new L (bz (2* L))) ra (λ_ _ _=>False) (bz (2* L)) 1:=(TQ.same s0).keep (λb o X e=>f4 b o e (λz=>zG (by rw[<-z];exact X))) (λb xs e=>f4 b _ e (bW e JB (by intro z;cases z)))
  have dj:∀b,ra.own r b->¬O b:=λb z y=>by
   obtain⟨o,e⟩:=(h2.same s0).there z;rcases o4 b y with w|w
   ·exact zG (by rw[<-w];exact z)
   ·rw[w]at e;cases e
  have bin:∀b∈c0 F (cL (RS.new L (bz (2* L))))++eQ f rs.length f.length,((rs++f)[b.1]?=some b.2.1/\(b.1<rs.length\/b.2.2=0))/\b.2.2<1:=λb X=>by
   rcases K3 X with ⟨p,Np,e1,J,e3⟩|⟨j,u,hj,rfl⟩
   ·have h1:=hp.a p Np;have h2:=(abk.mp h1).1;rw[e1,J,abu h2];exact⟨⟨h1,.inl h2⟩,aca.mp (ac7.mp e3).1⟩
   ·exact⟨⟨by show (rs++f)[rs.length+ j]?=_;rw[abw (by omega),Nat.add_sub_cancel_left];exact hj,.inr rfl⟩,Nat.one_pos⟩
  have M:zC (rs++f) rs.length (bz (2* L)) (c0 F (cL (RS.new L (bz (2* L))))++eQ f rs.length f.length):=
   ⟨λb X=>(bin b X).1.1,λb X=>(bin b X).1.2,λb X=>(aO _ (abn (bin b X).1.1)).1,λb X z hz=>JA _ (abn (bin b X).1.1) z hz,by omega⟩
  have Pu:∀w∈rs,w≠[]->∃n,(n,w,0)∈c0 F (cL (RS.new L (bz (2* L))))++eQ f rs.length f.length:=λw hw sG=>by
   obtain⟨n,hn⟩:=hp.b w hw;have YP:0∈cL (RS.new L (bz (2* L))):=ac7.mpr ⟨aca.mpr Nat.one_pos,abX rfl⟩;exact⟨n,abM _ (ac2.mpr ⟨0,YP,ac2.mpr ⟨(w,n),hn,Cv sG⟩⟩)⟩
  have Pw:∀w∈f,w≠[]->∃n,(n,w,0)∈c0 F (cL (RS.new L (bz (2* L))))++eQ f rs.length f.length:=λw hw sG=>by
   obtain⟨j,hj⟩:=aco hw;refine⟨rs.length+ j,abv _ (ac2.mpr ⟨j,aca.mpr (abk.mp hj).1,?_⟩)⟩;rw[abt,hj];exact Cv sG
  generalize c0 F (cL (RS.new L (bz (2* L))))++eQ f rs.length f.length=bs at Ba TR EZ TV bin M Pu Pw;have hmul:live gs* (2* bs.length+ 1)<=700* 1401:=aeJ (by omega) (by omega);clear l1 l2 Tp sd;refine⟨_,rfl,x,q.dx,_,rfl,c4.ins,ew (by decide),x,r,q,RS.new L (bz (2* L)),ra,λ_ _ _=>False,bz (2* L),1,rs++f,rs.length,bs,gs,ag,rn,F,O,rfl,c4,r4,by omega,dj,Ba,M,by omega,λS' a' R' hJ W' O' B' H5 f5 c5 r5 ow oo TX E9 rr em eL tr YQ=>?_⟩;have JC:S'.made=1:=em
  have Il:∀b o,I b=some o->H5 b=some o:=λb o e=>by
   have J:=s2 _ _ e
   have nO:¬O b:=λy=>by
    rcases o4 b y with w|w
    ·rw[w,nx]at J;cases J
    ·rw[s0 _ _ J]at w;cases w
   exact f5 b o nO (λy=>by rw[Pq b y]at e;cases e) (f4 b o (s0 _ _ J) (aw J nx))
  have U5:∀b,a'.own r b\/O' b->I b=none:=λb y=>by
   have nn:ra.own r b\/O b\/H4 b=none->I b=none:=λy=>by
    rcases y with y|y|y
    ·exact Pq b y
    ·cases e:I b with
     |none=>rfl
     |some u=>
      have J:=s2 _ _ e;rcases o4 b y with w|w
      ·rw[w,nx]at J;cases J
      ·rw[s0 _ _ J]at w;cases w
    ·cases e:I b with
     |none=>rfl
     |some u=>
      have J:=s2 _ _ e;rw[f4 b u (s0 _ _ J) (aw J nx)]at y;cases y
   rcases y with y|y
   ·exact nn (ow b y)
   ·rcases oo b y with v|v|v
    ·exact nn (.inr (.inl v))
    ·exact nn (.inl v)
    ·exact nn (.inr (.inr v))
  have Px:CS A.az A.aJ A.aB H5 x r q S' a' R' (bz (2* L)) B' rs f F bs hJ [] W' O':=by
   refine⟨c5,f5 _ _ (c4.EL q4) (v7 r4.at_ q4) q4,r5,TX,E9,M,hp,λb X=>by rw[JC];exact(bin b X).2,λw hw sG c hc _=>?_,Pw,by rw[JC];exact EZ,λu hu=>rz (by omega) (aO u hu)⟩;have:c=0:=by omega
   subst this;exact Pu w hw sG
  have TY:vx A I H5 x r L D rs f S':=⟨Il,⟨q,a',R',B',F,bs,hJ,W',O',Px,U5,by rw[JC];omega⟩,.start tr (Px.Pl (by omega)),by omega,eL.trans rfl⟩;clear Px U5 Il hmul Pw Pu M bin dj r4 TV EZ hf TQ y0 sl c5 r5 ow oo TX E9 rr f5 YQ JC em eL tr c4 q4 o4 Ba TR hp f4 JB zG n0 s0 gd fit
  have look:∀{H5:Hp} {S:RS} {σ:St} {Qv:VK},vx A I H5 x r L D rs f S->σ[5]?=some (some (.ref o))->σ[6]?=some (some (.ref r))->(∀v H6,vx A I H6 x r L D rs f S->TL S L H6 v->Qv v H6)->Bv A.cU "gap" (Cy A.az A.cU) [] (λ_ _ _=>False) (yb 5) (uk (yb 6) vH) σ H5 Qv:=λ{H5 S σ Qv} G e5 e6 kk=>by
   obtain⟨Ry,y⟩:=G.f.ys JA;obtain⟨q,a,R,B,F,bs,gs,W,O,cs,_⟩:=G.cs;exact⟨_,e5,o,dO,[],rfl,G.k _ _ ho,rfl,_,e6,o,dO,r,S,a,L,rfl,G.k _ _ ho,cs.rm.at_,y.gl (by have:=G.m;omega) (by omega),λhn H' k1=>kk _ _ (G.kp k1) (.inl ⟨rfl,hn⟩),λc z hl t H' k1 ht=>kk _ _ (G.kp k1) (.inr ⟨c,z,t,rfl,hl,ht⟩)⟩
  refine look TY rfl rfl λv H6 T1 an=>?_
  clear TY;refine⟨λ iG H'=>∃S,iG=[some (.int L),some (.ref ru),some (.ref pa),some (.int D),some (.str (tx Fd)),some (.ref o),some (.ref r),some (.ref x),some .non]/\vx A I H' x r L D rs f S/\∀c z,¬jm S L c z,?_,?_⟩
  ·refine⟨λm σ H'=>∃S v,m=D+ 1 - S.made/\σ=[some (.int L),some (.ref ru),some (.ref pa),some (.int D),some (.str (tx Fd)),some (.ref o),some (.ref r),some (.ref x),some v]/\vx A I H' x r L D rs f S/\TL S L H' v,⟨_,S',v,rfl,rfl,T1,an⟩,?_⟩;clear T1 an;rintro m σ H7 ⟨S,v,rfl,rfl,G,an⟩;refine⟨_,rfl,rfl,_,rfl,?_⟩;rcases an with ⟨rfl,hn⟩|⟨c,z,t,rfl,hl,ht⟩
   ·exact rH rfl ⟨S,rfl,G,hn⟩
   refine dH (λ_=>?_) (λh=>absurd rfl h);refine⟨_,λ iG H' h=>h,?_⟩;obtain⟨Ry,y⟩:=G.f.ys JA;obtain⟨q,a,R,B,F,bs,gs,W,O,cs,n0,hB⟩:=G.cs;have hm:=G.m;have eL:=G.l;have rb:=cs.rm.rb;have wr:=y.wr;have YR:B<=702* 300:=abB hB (Nat.mul_le_mul_left _ (by omega));refine⟨_,rfl,r,_,a.dx,_,_,rfl,cs.rm.at_.ins,aK T,T.nZ,rP _ _ _,_,rfl,_,_,rfl,rfl,_,rfl,?_⟩;refine dH (λh=>?_) (λh=>?_)
   ·have h:(D:Int)<=(S.made:Int):=ab9 h;refine⟨_,rfl,r,_,a.dx,_,_,rfl,cs.rm.at_.ins,aK T,T.nZ,rP _ _ _,_,rfl,r,a.dx,_,rfl,cs.rm.at_.ins,cw _ _ _ (by decide),r,S,a,rfl,cs.rm.at_,by omega,λp d hd e=>(y.d d hd).low e,λl qs H8 s8 nl YT Ed=>?_⟩;intro xx T2;have s9:=aq.upd (o:=XO xx A.bH none true) T2;have YV:(qs.map V.ref).length<=1000000:=by rw[abo,Ed.1];omega
    refine⟨xx,l,S.made,qs.map V.ref,rfl,ai,by omega,s9 _ _ YT,YV,λd l2 H9 nd Sn Y f9 YW YX YY YZ=>⟨rfl,some d,YW,?_⟩⟩
    have T3:aq H8 (del H9 xx):=λb u e=>by
     have nb:=aw e T2;rw[qq nb];exact f9 b u nb (s9 _ _ e)
    refine ke d l2 S _ (λb u e=>T3 _ _ (s8 _ _ (G.k b u (s1 _ _ e)))) G.f (by omega) (by rw[qq Y];exact YX) ⟨qs,by rw[qq YZ];exact YY,Ed.imp (λp d _ _ e=>e.same T3),by omega⟩
   have h:S.made<D:=Nat.lt_of_not_le λw=>h (abX (by omega))
   obtain⟨g1,g2,g3,g4⟩:=id hl;obtain⟨z1,z2⟩:=fU.mp g3;have Ox:F.length<=rs.length:=zJ cs.pl;have I9:(S.made+ 1)* F.length<=D* rs.length:=aeJ h Ox;rw[<-eL]at cs;refine⟨_,rfl,x,q.dx,_,rfl,cs.c.ins,ew (by decide),_,rfl,t,_,_,_,rfl,rfl,bQ.of ht,rfl,_,rfl,t,_,_,_,rfl,rfl,bQ.of ht,rfl,x,r,q,S,a,R,B,rs,f,F,bs,gs,W,O,c,z,rfl,cs,by omega,by omega,g1,rA g2,g4,by rw[eL];exact g3,fU.mpr ⟨by omega,by omega⟩,by omega,by omega,by omega,by omega,λS2 a2 R2 Y0 Y1 W2 O2 B2 H8 f8 Py Y2 T4 Y3 Y4 hb8=>?_⟩
   have Y5:vx A I H8 x r L D rs f S2:=by
    rw[eL]at Py T4;refine⟨λb u e=>f8 b u (λw=>by rw[n0 b (.inr w)]at e;cases e) (λw=>by rw[n0 b (.inl w)]at e;cases e) (G.k b u e),⟨q,a2,R2,B2,F,Y0,Y1,W2,O2,Py,λb w=>?_,by rw[Y3];omega⟩,.next G.f h hl T4 (Py.Pl (by omega)),by omega,Y4.trans eL⟩;rcases Y2 b w with v|v|v
    ·exact n0 b (.inl v)
    ·exact n0 b (.inr v)
    ·cases e:I b with
     |none=>rfl
     |some u=>
      rw[G.k b u e]at v;cases v
   exact look Y5 rfl rfl λv H9 Y6 an=>⟨D+ 1 - S2.made,by omega,S2,v,rfl,rfl,Y6,an⟩
  rintro σ H7 ⟨S,rfl,G,hn⟩;obtain⟨Ry,y⟩:=G.f.ys JA;obtain⟨q,a,R,B,F,bs,gs,W,O,cs,n0,hB⟩:=G.cs;have hm:=G.m;have eL:=G.l;have rb:=cs.rm.rb;have g:=y.g;have YR:B<=702* 300:=abB hB (Nat.mul_le_mul_left _ (by omega));refine⟨_,rfl,r,S,a,λc=>c<S.made/\S.av c=c,rfl,cs.rm.at_,by omega,by omega,by omega,g.wf.w,⟨y.m,by have:=(g.el 0 y.m).1;omega⟩,λc hc=>⟨hc.1,λk hk=>?_⟩,λtb N H8 s8 nt h8 hN=>?_⟩
  ·cases e:S.by c (M12.st k) with
   |some d=>
    obtain⟨_,d2,_,d4⟩:=g.st _ _ _ e;exact⟨d,rfl,d2,d4⟩
   |none=>
    rw[eL]at hk;refine absurd ⟨hc.1,?_,abn (oj hk),e⟩ (hn c _);rw[ou (by rw[g.wf.e];exact hc.1),hc.2]
  refine⟨_,rfl,r,a.dx,_,rfl,(cs.rm.at_.same s8).ins,cw _ _ _ (by decide),r,S,a,rfl,cs.rm.at_.same s8,by omega,λp d hd e=>(y.d d hd).low e,λpp qs H9 s9 np Y7 Ed=>?_⟩;refine⟨by show 2<=sizeLine;decide,λt nt=>?_⟩;have sA:=aq.upd (o:=.tup [.ref tb,.ref pp]) nt;exact kq t tb pp S N _ (λb u e=>sA _ _ (s9 _ _ (s8 _ _ (G.k b u (s1 _ _ e))))) G.f hn ai ((h8.same s9).same sA) hN ⟨qs,sA _ _ Y7,Ed.imp (λp d _ _ e=>e.same sA),by omega⟩
theorem Fl.sound {rs:Za3}{L o:Nat}{S:RS}{U:Za2}{D:Nat->Prop}{x:Nat}(sy:∀p z q,U p z q->U q (-z) p)(fn:∀p z q s,U p z q->U p z s->q=s)(qo:∀p z,D p->z∈bz (2* L)->∃q,U p z q/\D q)
 (rl:∀w∈rs,∀p m c d z,D p->w[m]?=some z->UW U p (w.take m) c->UW U d (w.drop (m+ 1)) p->U c z d) (F:∀u∈rs++[],∀z∈u,z∈bz (2* L)/\-z∈bz (2* L)) (E:D x) (h:Fl rs [] L o S):
 ∃(f:Nat->Nat) (R:Za2),f 0=x/\(∀c,c<S.made->D (f c))/\0<S.made/\Good S [] R/\eK S/\(∀a z b,R a z b->z∈bz (2* L))/\∀a z b,R a z b->U (f a) z (f b):=by
 have C:∀(f:Nat->Nat) M,(∀c,c<M->D (f c))->RB (rs++[]) rs.length M f U:=λ f M j=>⟨sy,fn,λwhich word start m c d z I _ h3 Y h5 Q=>by
  rw[abO]at I;exact rl word (abn I) _ m _ _ z (j start h3) Y h5 Q⟩
 induction h with
 |start t _=>
  obtain⟨R,g,w,m,_,_,k,u⟩:=t.sound (R:=λ_ _ _=>False) (C (λ_=>x) 1 λ_ _=>E) F (tL L _) YS.new.w (abr _) (λ_ _ _ q=>q.elim) λ_ _ _ q=>q.elim
  have m:_=1:=m;exact⟨λ_=>x,R,rfl,λ_ _=>E,by omega,g,w,k,u⟩
 | @next i N c z _ _ gp t _ ih=>
   obtain⟨f,R,h0,j,J,g,w,k,u⟩:=ih;obtain⟨l,g2,n,Z⟩:=gp;obtain⟨z1,z2⟩:=fU.mp n;obtain⟨q,v,G⟩:=qo _ z (j c l) n;have e:∀a,a<i.made->(if a=i.made then q else f a)=f a:=λa B=>abH (by omega)
   obtain⟨R1,T,w',H,_,_,O,V⟩:=t.sound (R:=eD R c z i.made) (C (λa=>if a=i.made then q else f a) (i.made+ 1) λa B=>by
    show D (if a=i.made then q else f a);split
    ·exact G
    ·exact j a (by omega)) F (g.make l (rA g2) Z _) (qt w g.wf _ _ _) (abr _) (λa y b r=>by
    rcases r with r|⟨_,e,_⟩|⟨_,e,_⟩
    ·exact k _ _ _ r
    ·rw[e];exact n
    ·rw[e];exact fU.mpr ⟨by omega,by omega⟩) λa y b r=>by
    show U (if a=i.made then q else f a) y (if b=i.made then q else f b);rcases r with r|⟨rfl,rfl,rfl⟩|⟨rfl,rfl,rfl⟩
    ·obtain⟨X,l2,_⟩:=g.rl _ _ _ r;rw[e a X,e b l2];exact u _ _ _ r
    ·rw[e _ l,abN rfl];exact v
    ·rw[e _ l,abN rfl];exact sy _ _ _ v
   have H:N.made=i.made+ 1:=H;refine⟨_,R1,by rw[e 0 J];exact h0,λa B=>?_,by omega,T,w',O,V⟩;show D (if a=i.made then q else f a);split
   ·exact G
   ·exact j a (by omega)
theorem Fl.cl {rs a:Za3}(h:Fl rs a n m S):yR rs a S:=by cases h <;> assumption
theorem Bf (g:Good S [] R)(c:∀m z,¬jm S n m z)(a:m<S.made/\S.av m=m)(b:z∈bz (2* n)):∃d,S.by m z=some d/\d<S.made/\S.av d=d:=by
 cases e:S.by m z with
 |some d=>
  obtain⟨_,f,_,h⟩:=g.st _ _ _ e;exact⟨d,rfl,f,h⟩
 |none=>exact absurd ⟨a.1,by rw[ou (by rw[g.wf.e];exact a.1),a.2],b,e⟩ (c m z)
theorem Fl.reg {rs:Za3}{x:Nat}(h:Fl rs [] n m S)(f:∀u∈rs++[],∀z∈u,z∈bz (2* n)/\-z∈bz (2* n))(l:∀c z,¬jm S n c z)(o:x<S.made/\S.av x=x):
 ∃ b:Nat->Nat,b 0=x/\∀c z d,S.by c z=some d->S.by (b c) z=some (b d):=by
 obtain⟨R,y⟩:=h.ys f;have fn:∀p z (q j:Nat),S.by p z=some q->S.by p z=some j->q=j:=λp z q j k i=>by rw[k]at i;exact Za0 i
 obtain⟨b,t,r,_,_,g,_,_,u⟩:=h.sound (U:=λp z q=>S.by p z=some q) (D:=λc=>c<S.made/\S.av c=c) (λp z q h=>y.g.sy _ _ _ h) fn (λp z e hz=>Bf y.g l e hz) (λw f p a c d z e k i s=>Gk y.g (h.cl.r w f p e.1 e.2) k (BR i) (BR s)) f o;exact⟨b,r,λc z d q=>DU g fn u q⟩
structure FT (L N:Nat) (T:Za3):Prop where
 t:M11.Tab L T
 f:M12.Fc (2* L) T.flatten T.length
 n:T.length=N
 r:∀u v:List Int,M11.bP L u->M11.bP L v->M11.walk T u 0=M11.walk T v 0->∀i,i<N->M11.walk T u i=M11.walk T v i
theorem Fl.ft {rs:Za3}(h:Fl rs [] n m S)(V:∀u∈rs++[],∀z∈u,z∈bz (2* n)/\-z∈bz (2* n))(O:∀c z,¬jm S n c z)(hm:S.made<=300)(I:1<=n)(M:n<=40)(eL:S.L=n)(hN:(M24.a9 (bE S) (2* n) 0 i).length=i):
 i<=S.made/\FT n i (M24.fj (bE S) (2* n) (M24.a9 (bE S) (2* n) 0 i)):=by
 obtain⟨R,y⟩:=h.ys V;have g:=y.g
 have st:∀c k,c<S.made/\S.av c=c->k<2* n->∃d,S.by c (M12.st k)=some d/\bE S k c=d/\d<S.made/\S.av d=d:=λc k hc o=>by
  obtain⟨d,Z,x,J⟩:=Bf g O hc (abn (oj o));exact⟨d,Z,by unfold bE;rw[Z];rfl,x,J⟩
 have all:=M24.nu (f:=bE S) (k:=2* n) (x0:=0) (P:=λc=>c<S.made/\S.av c=c) ⟨y.m,by have:=(g.el 0 y.m).1;omega⟩ (λc k hc o=>by obtain⟨d,_,e,x,J⟩:=st c k hc o;rw[e];exact⟨x,J⟩) i;have E:i<=S.made:=by rw[<-hN];exact M11.jP S.made _ (M24.gq _ _ _ i) λc hc=>(all c hc).1
 have G:(M24.a9 (bE S) (2* n) 0 i)[0]?=some 0:=by
  obtain⟨t,B⟩:=M24.AW (bE S) (2* n) 0 0 i;rw[ad7]at B;rw[B];rfl
 have L:1<=i:=by have:=(abk.mp G).1;omega
 have tb:=M55.NR hN (λc hc j hj=>by
  obtain⟨d,H,D,x⟩:=st c j (all c hc) hj;have q:=g.sy _ _ _ H;rw[D];unfold bE;rw[show M12.st (M11.flip j)= -M12.st j by unfold M11.flip M12.st;split <;> split <;> omega,q];rfl) I M L (by omega)
 refine⟨E,tb,M55.fc hN,by unfold M24.fj;rw[abo,hN],λu v hu hv e l hi=>?_⟩;obtain⟨c,hc⟩:∃c,(M24.a9 (bE S) (2* n) 0 i)[l]?=some c:=⟨_,abm (by omega)⟩
 obtain⟨r,U,ph⟩:=h.reg V O (all c (abn hc))
 have wk:∀(u:List Int) a b c,M11.bP n u->(M24.a9 (bE S) (2* n) 0 i)[a]?=some c->(M24.a9 (bE S) (2* n) 0 i)[b]?=some (r c)->∃d,(M24.a9 (bE S) (2* n) 0 i)[M11.walk (M24.fj (bE S) (2* n) (M24.a9 (bE S) (2* n) 0 i)) u a]?=some d/\(M24.a9 (bE S) (2* n) 0 i)[M11.walk (M24.fj (bE S) (2* n) (M24.a9 (bE S) (2* n) 0 i)) u b]?=some (r d):=λu=>by
  induction u with
  |nil=>exact λa b c _ p F=>⟨c,p,F⟩
  |cons s u ih=>
   intro a b c T p F;have C:=T s abA;have o:=M11.rX C;have Q:=M55.oS hN o p;have N:=M55.oS hN o F;obtain⟨d,H,D,_⟩:=st c _ (all c (abn p)) o;have e3:=ph _ _ _ H;rw[D]at Q;rw[show bE S (M11.pl s) (r c)=r d by unfold bE;rw[e3];rfl]at N;exact ih _ _ _ (λt B=>T t (abR _ B)) Q N
 obtain⟨d1,a1,a2⟩:=wk u 0 l 0 hu G (by rw[U];exact hc);obtain⟨d2,Y,X⟩:=wk v 0 l 0 hv G (by rw[U];exact hc);rw[<-e,a1]at Y;rw[<-Za0 Y]at X;exact(aeG (abk.mp a2).1 (M24.gq _ _ _ i)).mp (a2.trans X.symm)
theorem Fl.mL {rs e:Za3}(h:Fl rs e n m S)(b:∀u∈rs++e,∀z∈u,z∈bz (2* n)/\-z∈bz (2* n))(o:1<=m):S.made<=m/\S.L=n:=by
 refine⟨?_,by obtain⟨R,y⟩:=h.ys b;exact y.l⟩
 cases h with
 |start t _=>
  obtain⟨_,_,a,_⟩:=YS.new.tr t b;have a:S.made=1:=a;omega
 | @next j _ c z f p l t _=>
   obtain⟨R,y⟩:=f.ys b;obtain⟨k,i,d,g⟩:=l;obtain⟨z1,z2⟩:=fU.mp d;obtain⟨_,_,a,_⟩:=(y.make k (rA i) g d (fU.mpr ⟨by omega,by omega⟩)).tr t b;have a:S.made=j.made+ 1:=a;omega
inductive Pz (K:Za1) (vs:List V) (H:Hp) (Q:VK) (E_:XK):Prop
 |mk (a:Addr) (ns:List Int) (k:Nat):vs=[.ref a,.int k]->aD K H a (ao ns)->k<=1000->(∀z,Q (.int z) H)->Pz K vs H Q E_
def Rj:Sp:=λa H Q _=>∃(z p:Int),a=[.int z,.int p]/\0<=p/\p<=1000/\∀r:Int,0<=r->Q (.int r) H
inductive Fh (vs:List V) (H:Hp) (Q:VK) (E_:XK):Prop
 |mk (a:Addr) (cs:List Int) (L:Nat):vs=[.ref a,.int L]->H a=some (.lst (ao cs))->cs.length<=63->1<=L->L<=40->(∀l w H',aq H H'->H' l=some (.tup (ao w))->M11.bP L w->w.length=cs.length->Q (.ref l) H')->Fh vs H Q E_
def PB:Sp:=λc H Q _=>∃(a:Addr) (ns:List Int),c=[.ref a]/\H a=some (.tup (ao ns))/\ns.length<=1000/\∀l ms b,aq H b->b l=some (.tup (ao ms))->ms.length=ns.length->(∀L,M11.bP L ns->M11.bP L ms)->Q (.ref l) b
def Rk:Sp:=λd H Q _=>∃(a:Addr) (cs:List Int),d=[.ref a]/\H a=some (.lst (ao cs))/\cs.length<=24/\∀l b c,aq H c->H l=none->bM c l b->(∀u∈b,M11.bP 2 u/\u.length<=24)->b.length<=25->Q (.ref l) c
inductive Bg (K:Za1) (vs:List V) (H:Hp) (Q:VK) (E_:XK):Prop
 |mk (z:Int) (a:Addr) (cs:List Int):vs=[.int z,.ref a]->0<=z->H a=some (.lst (ao cs))->cs.length<=24->(∀l Ws H',aq H H'->bM H' l Ws->(∀u∈Ws,M11.bP 2 u/\u.length<=100)->Ws.length<=27->Q (.ref l) H')->Bg K vs H Q E_
def K8 (K:Za1):Sp:=λd H Q _=>∃(a:Addr) (ns:List Int),d=[.ref a]/\aD K H a (ao ns)/\ns.length<=63/\∀q l L c b,aq H b->b q=some (.tup [.int ((L:Nat):Int),.ref l])->bM b l c->2<=L->L<=3->(∀u∈c,M11.bP L u/\u.length<=100)->c.length<=28->Q (.ref q) b
def K9:Sp:=λa H Q _=>∃z:Int,a=[.int z]/\0<=z/\∀n:Nat,1<=n->n<=24->Q (.int n) H
inductive zK (vs:List V) (H:Hp) (Q:VK) (E_:XK):Prop
 |mk (ru:Addr) (L lim:Nat) (rs:Za3):vs=[.int L,.ref ru,.int lim]->1<=L->L<=3->1<=lim->lim<=24->bM H ru rs->(∀u∈rs,M11.bP L u/\u.length<=100)->rs.length<=28->(∀H',aq H H'->Q .non H')->(∀tb T N H',aq H H'->TabAt H' tb T->FT L N T->N<=24->Q (.ref tb) H')->zK vs H Q E_
inductive Bh (vs:List V) (H:Hp) (Q:VK) (E_:XK):Prop
 |mk (a m:Addr) (T:Za3) (ns:List Int) (r:Nat):vs=[.ref a,.int r,.ref m]->TabAt H a T->T.length<64->H m=some (.lst (ao ns))->ns.length=T.length->ns[0]?=some (r:Int)->ns.Perm (gb 0 T.length)->(∀H',aq H H'->Q (.bl true) H')->Bh vs H Q E_
theorem vy (T:Txt K mg A):bj P w K mg base (bF P w) 1 A.xq A.xr ["_law_script","_law_k"] (Pz K):=by
 refine T._law_at.F.okN Cu (λf H Q E h=>?_) (λi o c s H f Q E m h=>?_)
 ·obtain⟨a,b,n,rfl,_⟩:=h;rfl
 ·obtain⟨a,b,n,rfl,d,l,k⟩:=h
  refine⟨_,(ah (bO (bu lT (pv 1) (bx bC rfl T.dA ab6 (ae (pv 0) aj)) (bD _))
   (au (bf (bI bL (pv 0) (pv 1) (λ_ _=>rfl))))
   bq)
   (au (bf (aT dM (aT gW ay (pv 1)) ay)))),?_⟩
  refine oM ?_;intro g;refine⟨_,rfl,_,rfl,a,_,rfl,.inl d,_,_,rfl,rfl,_,rfl,?_⟩;refine dH (λh=>?_) (λh=>?_)
  ·have e:(n:Int)<((ao b).length:Int):=ab9 h;rw[aI]at e;have j:b[n]?=some b[n]:=abm (by omega)
   exact⟨_,rfl,_,rfl,a,_,_,_,rfl,rfl,d,cI (bV j),k _⟩
  ·exact⟨_,rfl,_,_,rfl,rfl,.inl ⟨by decide,by decide⟩,_,_,rfl,rfl,k _⟩
theorem jJ (T:Txt K mg A):bj P w K mg base (bF P w) 1 A.vd A.ve ["_law_number","_law_place"] Rj:=by
 refine T._law_mix.F.okN fS (λo H Q E h=>?_) (λx G e s H o Q E D h=>?_)
 ·obtain⟨z,p,rfl,_⟩:=h;rfl
 ·obtain⟨z,p,rfl,B,j,k⟩:=h
  refine⟨_,(ah (bO (bu HF (pv 0) (aT CQ ay ay) (bD _))
   (ah (aZ (i:=0) fS.nd rfl (Or.inl rfl) (aT jL (aT yo (pv 0) (aT CQ ay ay)) ay))
   (ah (cz abQ rfl (iH rfl T.gJ (ae (aT cK (pv 1) ay) aj)) (bK (i:=2) fS.nd rfl (Or.inl rfl))
    (au (aZ (i:=0) fS.nd rfl (Or.inl rfl) (aT yo (pv 0) ay))))
   (au (bf (aT cK (pv 0) ay)))))
   bq)
   (ah (aZ (i:=3) fS.nd rfl (Or.inl rfl) (aT cK (aT gW (aT dM (aT dM (aT cK (pv 0) ay) (pv 1)) ay) (aT dM (aT gW (aT gW ay (pv 1)) (pv 1)) ay)) ay))
   (ah (aZ (i:=3) fS.nd rfl (Or.inl rfl) (aT cK (aT gW (pv 3) (pv 3)) ay))
   (au (bf (aT cK (aT gW (pv 3) (aT dM (pv 3) ay)) ay)))))),?_⟩
  refine fF ?_;intro u m r;refine⟨_,rfl,_,_,rfl,rfl,⟨by decide,by decide,by decide⟩,_,_,rfl,rfl,_,rfl,?_⟩;refine dH (λh=>?_) (λh=>?_)
  ·refine⟨_,rfl,_,_,rfl,rfl,⟨by decide,by decide,by decide⟩,_,_,rfl,rfl,⟨by decide,PyProof.noPylong_of_log2 (by decide)⟩,_,_,rfl,rfl,?_⟩;refine⟨_,rfl,_,_,rfl,rfl,(by show (0:Int)<61;decide),(p % 61),rfl,by omega,by omega,?_⟩;refine jK (lo:=0) (n:=(p % 61).toNat) (λi d b=>∃(y:Int) (v:Option V),d=[some (.int y),some (.int p),v,none]/\b=H) ⟨_,none,rfl,rfl⟩ ?_ ?_
   ·rintro i d b C ⟨y,v,rfl,rfl⟩;refine⟨_,rfl,_,_,rfl,rfl,⟨by decide,PyProof.noPylong_of_log2 (by decide)⟩,?_⟩;exact⟨_,_,rfl,rfl⟩
   ·rintro d b ⟨y,v,rfl,rfl⟩;exact⟨_,rfl,_,_,rfl,rfl,(by show (0:Int)<2147483648;decide),k _ (adb _ (by decide))⟩
  ·have J:=adb z (show (2147483629:Int)≠0 by decide);have F:=adf z (show (0:Int)<2147483629 by decide);refine⟨_,rfl,_,_,rfl,rfl,(by show (0:Int)<2147483629;decide),_,rfl,_,_,rfl,rfl,_,_,rfl,rfl,_,rfl,_,_,rfl,rfl,.inl ⟨by decide,by decide⟩,_,rfl,_,_,rfl,rfl,.inr ⟨by omega,by omega⟩,_,_,rfl,rfl,_,_,rfl,rfl,.inl ⟨by omega,by omega⟩,_,_,rfl,rfl,(by show (0:Int)<2147483647;decide),?_⟩;generalize ((z % 2147483629+ p+ 1)* (8* p* p+ 48271))=c;have q:=adb c (show (2147483647:Int)≠0 by decide);have g:=adf c (show (0:Int)<2147483647 by decide);generalize c % 2147483647=f at q g ⊢;refine⟨_,rfl,_,rfl,_,_,rfl,rfl,.inl ⟨by omega,by omega⟩,_,_,rfl,rfl,(by show (0:Int)<2147483587;decide),?_⟩;generalize f* f=a;have l:=adb a (show (2147483587:Int)≠0 by decide);have t:=adf a (show (0:Int)<2147483587 by decide);generalize a % 2147483587=I at l t ⊢;refine⟨_,rfl,_,rfl,_,_,rfl,rfl,_,_,rfl,rfl,.inl ⟨by omega,by omega⟩,_,_,rfl,rfl,(by show (0:Int)<2147483579;decide),?_⟩;exact k _ (adb _ (by decide))
theorem gx (T:Txt K mg A):bj P w K mg base (bF P w) 2 A.sP A.sQ ["_law_cells","_law_letters"] Fh:=by
 refine T._law_word.F.okN fq (λG H Q E h=>?_) (λR AA x s H G Q E D h=>?_)
 ·obtain⟨a,cs,L,rfl,_⟩:=h;rfl
 ·obtain⟨a,cs,L,rfl,B,S,N,tf,k⟩:=h
  refine⟨_,(ah (aZ (i:=2) fq.nd rfl (Or.inl rfl) (cD aj))
   (ah (cz abQ rfl (cS (pv 0)) (bK (i:=3) fq.nd rfl (Or.inl rfl))
    (ah (aZ (i:=4) fq.nd rfl (Or.inl rfl) (bA (jJ T) (D.mono (by decide)) rfl T._law_mix.m T._law_mix.F.kp T._law_mix.b .nil aM (ae (pv 3) (ae ay aj))))
    (ah (aZ (i:=5) fq.nd rfl (Or.inl rfl) (aT dM ay (aT cK (aT iI (pv 4) ay) (pv 1))))
    (ah (cC (bO (bu i5 (aT cK (pv 4) ay) ay (bD _))
     (au (aZ (i:=5) fq.nd rfl (Or.inl rfl) (aT jL ay (pv 5))))
     bq))
    (au (aV (cP abC abI abJ bN (pv 2) (ae (pv 5) aj))))))))
   (au (bf (dc fL rfl T.jC acF (ae (pv 2) aj)))))),?_⟩
  refine cX ?_;intro F J;refine⟨abS _,λl n=>?_⟩;have O:l≠a:=λe=>by rw[e,B]at n;cases n
  have C:aq H (upd H l (.lst [])):=aq.upd n;refine⟨_,rfl,a,rfl,⟨_,aD.of (C _ _ B)⟩,?_⟩
  refine eR (K:=K) (a:=a) (xs:=ao cs) (λi p j=>∃(ws:List Int) (t v u:Option V),p=[some (.ref a),some (.int L),some (.ref l),t,v,u]/\aq H j/\j l=some (.lst (ao ws))/\M11.bP L ws/\ws.length=i)
   ⟨[],none,none,none,rfl,C,ai,(λs f=>by cases f),rfl⟩ (λi p j _ ⟨_,_,_,_,_,s,_⟩=>aD.of (s _ _ B)) ?_ ?_
  ·rintro i y p j I ⟨ws,t,v,u,rfl,s2,c,g,d⟩;obtain⟨z,rfl,Z⟩:=cq I;have U:i<cs.length:=(abk.mp Z).1;refine⟨_,rfl,z,2,rfl,by decide,by decide,λr D=>?_⟩;have e1:=adb (r / 2) (show (L:Int)≠0 by omega);have e2:=adf (r / 2) (show (0:Int)<(L:Int) by omega);refine⟨_,rfl,_,_,rfl,rfl,⟨by decide,by decide⟩,_,rfl,_,_,rfl,rfl,(by show (0:Int)<(L:Int);omega),_,_,rfl,rfl,?_⟩;refine⟨λ m Y=>∃st:Int,m=[some (.ref a),some (.int L),some (.ref l),some (.int z),some (.int r),some (.int st)]/\Y=j/\st≠0/\st.natAbs<=L,?_,?_⟩
   ·refine⟨_,rfl,_,_,rfl,rfl,(by show (0:Int)<2;decide),rfl,_,rfl,?_⟩;refine dH (λ_=>?_) (λ_=>⟨_,rfl,rfl,by omega,by omega⟩);exact⟨_,rfl,_,_,rfl,rfl,_,rfl,rfl,by omega,by omega⟩
   rintro m H3 ⟨st,rfl,rfl,M,X⟩;refine⟨_,rfl,.inl ⟨rfl,_,aD.of c⟩,_,rfl,l,_,_,rfl,rfl,c,?_,?_⟩
   ·rw[aI];exact abz (show ws.length<=63 by omega) (by decide)
   refine⟨ws++[st],_,_,_,rfl,λb o e=>by rw[ak (aw e n)];exact s2 _ _ e,by rw[ai,ints_app];rfl,λs f=>?_,by rw[abj,d];rfl⟩;rcases abx.mp f with f|f
   ·exact g s f
   ·rw[abp.mp f];exact⟨M,X⟩
  ·rintro p j ⟨ws,t,v,u,rfl,s2,c,g,d⟩;rw[aI]at d;refine⟨_,rfl,l,_,rfl,.inl ⟨aD.of c,λlt q=>?_⟩⟩;exact k lt ws _ (s2.trans (aq.upd q)) ai g d
def La:Sp:=λa H Q _=>∃n:Int,a=[.int n]/\Q (.bl true) H
theorem xP (T:Txt K mg A):bj P w K mg base (bF P w) 1 A.qG A.qH ["_law_found"] La:=by
 refine T._law_whole.F.okN xK (λc H Q E h=>?_) (λb e a s H c Q E d h=>?_)
 ·obtain⟨n,rfl,_⟩:=h;rfl
 ·obtain⟨n,rfl,k⟩:=h;refine⟨_,(au (bf (Ls (bx fD rfl T.cZ ab8 (ae (pv 0) (ae (gy (v:=.ty "int") rfl T.IB PyProof.Rows.boot_int rfl) aj))) (Lq (Lv (bx fD rfl T.cZ ab8 (ae (pv 0) (ae (gy (v:=.ty "bool") rfl T.NT PyProof.Rows.boot_bool rfl) aj)))))))),?_⟩;refine⟨_,rfl,_,_,_,_,rfl,.int n,tG K "int",_,rfl,gS ?_⟩;exact⟨_,rfl,_,_,_,_,rfl,.int n,yn K,_,rfl,k⟩
open M11 in
def cj (T:Za3)(w:List Int):List Int:=(List.range T.length).map λi=>((M11.walk T w i:Nat):Int)
def Lb:Sp:=λa H Q _=>∃s:Int,a=[.int s]/\s≠0/\s.natAbs<=1000/\Q (.int (M11.pl s)) H
inductive xE (vs:List V) (H:Hp) (Q:VK) (E_:XK):Prop
 |mk (a wa:Addr) (T:Za3) (L:Nat) (w:List Int):vs=[.ref a,.ref wa]->TabAt H a T->M11.Tab L T->H wa=some (.tup (ao w))->M11.bP L w->(∀l H',aq H H'->H l=none->H' l=some (.lst (ao (cj T w)))->Q (.ref l) H')->xE vs H Q E_
theorem r9 {T:Za3}(h:TabAt H a T)(f:M11.Tab n T)(b:i<T.length):∃(rs:List Addr) (r:Addr) (row:List Int),H a=some (.lst (rs.map V.ref))/\rs[i]?=some r/\H r=some (.lst (ao row))/\row.length=2* n/\∀k,k<2* n->row[k]?=some ((M11.nx T k i:Nat):Int):=by
 obtain⟨rs,m,j⟩:=h;have c:i<rs.length:=by rw[j.1];exact b
 have e:rs[i]?=some rs[i]:=abm c
 have d:T[i]?=some T[i]:=abm b
 refine⟨rs,_,_,m,e,j.2 i _ _ e d,f.row i _ d,λk o=>?_⟩;obtain⟨r,g,l⟩:=f.val i k b o;rw[d]at g;rw[Za0 g];exact l
theorem xF {T:Za3}{w:List Int}(h:w[n]?=some z):M11.walk T (w.take (n+ 1)) i=M11.nx T (M11.pl z) (M11.walk T (w.take n) i):=by
 rw[adj,h];exact M11.jy T (w.take n) [z] i
theorem vz {w:List Int}(a:Nat)(h:M11.bP n w):M11.bP n (w.take a):=λs b=>h s (List.mem_of_mem_take b)
theorem j3 (T:Za3)(w:List Int):(cj T w).length=T.length:=by unfold cj;rw[abo,abY]
theorem ua {T:Za3}{w:List Int}(h:i<T.length):(cj T w)[i]?=some ((M11.walk T w i:Nat):Int):=by
 unfold cj;rw[aby,acQ h];rfl
theorem Ae (T:Txt K mg A):bj P w K mg base (bF P w) 1 A.uW A.uX ["step"] Lb:=by
 refine T.oT.F.okN zY (λg H Q E h=>?_) (λc j a s H g Q E i h=>?_)
 ·obtain⟨s,rfl,_⟩:=h;rfl
 ·obtain⟨s,rfl,e,f,k⟩:=h
  refine⟨_,(ah (bO (bu HD (pv 0) ay (bD _))
   (au (bf (aT jL (aT gW ay (pv 0)) ay)))
   bq)
   (au (bf (aT jL (aT gW (fB dW ay) (pv 0)) ay)))),?_⟩
  refine oM ?_;intro d;refine⟨_,rfl,_,_,rfl,rfl,_,rfl,?_⟩;refine dH (λh=>?_) (λh=>?_)
  ·have b:(0:Int)<s:=ab9 h;refine⟨_,rfl,_,_,rfl,rfl,.inl ⟨by decide,by decide⟩,_,_,rfl,rfl,?_⟩;unfold M11.pl at k;rw[abN b,show ((2* s.natAbs - 2:Nat):Int)=2* s - 2 by omega]at k;exact k
  ·have b:¬(0:Int)<s:=λz=>h (abX z)
   refine⟨_,rfl,_,rfl,_,_,rfl,rfl,.inl ⟨by decide,by decide⟩,_,_,rfl,rfl,?_⟩;unfold M11.pl at k;rw[abH b,show ((2* s.natAbs - 1:Nat):Int)= -2* s - 1 by omega]at k;exact k
theorem Fi {b:Za3}{ws:List Int}(h:ws[n]?=some z):(cj b (ws.take n)).map (λa=>((M11.nx b (M11.pl z) a.toNat:Nat):Int))=cj b (ws.take (n+ 1)):=by
 unfold cj;rw[ab1];refine acx λi _=>?_
 show ((M11.nx b (M11.pl z) ((M11.walk b (ws.take n) i:Nat):Int).toNat:Nat):Int)=_;rw[ab2,xF h]
theorem Hr (a:Za3):cj a []=gb 0 a.length:=by
 unfold cj gb;refine acx λi _=>?_
 show ((i:Nat):Int)=0+ (i:Int);rw[ada]
theorem Fj (s:aq H I)(h:I a=none):H a=none:=by
 cases q:H a with
 |none=>rfl
 |some o=>rw[s _ _ q]at h;cases h
theorem vA (T:Txt K mg A):bj P w K mg base (bF P w) 2 A.xn A.xo ["table","word"] xE:=by
 refine T.jB.F.okN jj (λvs H Q E h=>?_) (λcf AA Y s H vs Q E hr h=>?_)
 ·obtain⟨a,u,b,L,ws,rfl,_⟩:=h;rfl
 ·obtain⟨a,u,b,L,ws,rfl,f,t,p,o,k⟩:=h
  refine⟨_,(ah (aZ (i:=2) jj.nd rfl (Or.inl rfl) (pj rfl rfl T.g6 rfl T.gJ (ae (bx bC rfl T.dA ab6 (ae (pv 0) aj)) aj)))
   (ah (cz abQ rfl (m5 (pv 1)) (bK (i:=3) jj.nd rfl (Or.inl rfl))
    (ah (aZ (i:=4) jj.nd rfl (Or.inr rfl) (bA (Ae T) hr.Za5 rfl T.oT.m T.oT.F.kp T.oT.b .nil aM (ae (pv 3) aj)))
    (au (jH (iy:=2) jj.nd rfl (Or.inl rfl) (fns:=["table","place"]) (ixs:=[0,4]) (cl:=_) rfl (cS (pv 2)) (ux rfl rfl rfl (by decide) rfl (by decide) rfl (by decide) (by decide) rfl rfl rfl rfl rfl rfl rfl) (λC s H ex=>(bI (ju (K:=K) rfl) (bI (ju (K:=K) rfl) (pv 1) (pv 0) (λ_ _=>rfl)) (pv 2) (λ_ _=>rfl)))))))
   (au (bf (pv 2))))),?_⟩
  refine cX ?_;intro hH fv;obtain⟨rs,G,S⟩:=id f;have q:=t.top;have I:=t.NF;have hlen:((rs.map V.ref).length:Int)=(b.length:Int):=by rw[abo,S.1]
  refine⟨_,rfl,a,_,rfl,.inl (aD.of G),b.length,by rw[<-hlen],by omega,λl hl=>?_⟩;have N:aq H (upd H l (.lst (ao (gb 0 b.length)))):=aq.upd hl;have j:upd H l (.lst (ao (gb 0 b.length))) l=some (.lst (ao (cj b (ws.take 0)))):=by rw[ai,List.take_zero,Hr]
  generalize upd H l (.lst (ao (gb 0 b.length)))=H0 at N j ⊢;refine⟨_,rfl,u,rfl,⟨_,bQ.of (N _ _ p)⟩,?_⟩;refine vE (K:=K) (a:=u) (xs:=ao ws) (λn B d=>∃(l:Addr) (J X:Option V),B=[some (.ref a),some (.ref u),some (.ref l),J,X]/\aq H d/\H l=none/\d l=some (.lst (ao (cj b (ws.take n))))) ⟨l,none,none,rfl,N,hl,j⟩ (λn B d _ ⟨_,_,_,_,s,_⟩=>bQ.of (s _ _ p)) ?_ ?_
  ·rintro n y B d hn ⟨l,J,X,rfl,s2,m,c⟩;obtain⟨z,rfl,hz⟩:=cq hn;have M:=o z (abn hz);have g:=f.same s2;refine⟨_,rfl,z,rfl,M.1,abB M.2 (abB I (by decide)),?_⟩;refine⟨_,rfl,l,rfl,⟨_,aD.of c⟩,?_⟩;refine iJ (ao (cj b (ws.take n))) (λv=>match v with|.int Z=>.int ((M11.nx b (M11.pl z) Z.toNat:Nat):Int)|v=>v) (kK (aD.of c)) (jr (aD.of c)) (ip (aD.of c)) (by rw[aI,j3];exact abB q (by decide)) (λi x U R hR=>?_) (λD hD=>?_)
   ·have hi:i<b.length:=by
     have:=(abk.mp U).1;rw[aI,j3]at this;exact this
    rw[bV (ua hi)]at U;have ex:=Za0 U;subst ex;have F:=M11.jx t (vz n o) hi;obtain⟨rs,r,row,h1,h2,h3,h4,h5⟩:=r9 g t F
    have O:R (V.int ((M11.nx b (M11.pl z) (M11.walk b (ws.take n) i):Nat):Int)) d:=by
     have:R (V.int ((M11.nx b (M11.pl z) ((M11.walk b (ws.take n) i:Nat):Int).toNat:Nat):Int)) d:=hR;rw[ab2]at this;exact this
    exact⟨_,rfl,_,rfl,a,_,_,_,rfl,rfl,aD.of h1,cG h2,_,rfl,r,_,_,_,rfl,rfl,aD.of h3,cI (bV (h5 _ (M11.rX M))),O⟩
   ·have e:((ao (cj b (ws.take n))).map λv=>match v with|.int Z=>V.int ((M11.nx b (M11.pl z) Z.toNat:Nat):Int)|v=>v)=ao (cj b (ws.take (n+ 1))):=by
     rw[<-Fi hz];unfold ao;rw[ab1,ab1];rfl
    rw[e];exact⟨D,_,_,rfl,s2.trans (aq.upd hD),Fj s2 hD,ai⟩
  ·rintro B d ⟨l,J,X,rfl,s2,m,c⟩;rw[aI,acN]at c;exact⟨_,rfl,k l d s2 m c⟩
def wd (u:List Nat):List Int:=u.map M12.st
structure LW (L:Nat) (T:Za3) (ws:List (List Nat)):Prop where
 lw:M12.Lw L T ws
 ok:∀(i:Nat) (u:List Nat),ws[i]?=some u->(∀k∈u,k<2* L)/\M11.walk T (wd u) 0=i/\u.length<=300
inductive Bi (vs:List V) (H:Hp) (Q:VK) (E_:XK):Prop
 |mk (a:Addr) (T:Za3) (L:Nat):vs=[.ref a]->TabAt H a T->M11.Tab L T->M12.Fc (2* L) T.flatten T.length->(∀l ws H',aq H H'->H l=none->bM H' l (ws.map wd)->LW L T ws->Q (.ref l) H')->Bi vs H Q E_
theorem Fm (u:List Nat):(wd u).length=u.length:=by unfold wd;rw[abo]
theorem Hs (h:∀k∈B,k<2* n):M11.bP n (wd B):=λs a=>by
 unfold wd at a;obtain⟨k,b,rfl⟩:=ach.mp a;exact M12.B9 (h k b)
theorem PD (u v:List Nat):wd (u++v)=wd u++wd v:=by unfold wd;rw[abU]
def mY (a:List (Key×V))(b:List Addr):Prop:=a.length<=b.length/\∀i:Nat,bp a (Sum.inl (i:Int))=(b[i]?).map V.ref
theorem mY.one (p:Addr):mY [(Sum.inl 0,.ref p)] [p]:=by
 refine⟨abr _,λi=>?_⟩
 cases i with
 |zero=>exact cy rfl
 |succ i=>
  rw[cu (λz=>by injection z with z;omega)];rfl
theorem mY.put {a:List (Key×V)}(h:mY a F)(p:Addr):mY (putK a (Sum.inl (F.length:Int)) (.ref p)) (F++[p]):=by
 have b:bp a (Sum.inl (F.length:Int))=none:=by rw[h.2,abT (abr _)];rfl
 refine⟨?_,λi=>?_⟩
 ·rw[tJ _ b,abj,abj];have:=h.1;simp only[abL,ack];omega
 ·rw[kO];by_cases e:i=F.length
  ·subst e;rw[abN rfl,abw (abr _),acC];rfl
  ·rw[abH (λz=>e (by injection z with z;omega)),h.2];by_cases c:i<F.length
   ·rw[abu c]
   ·rw[abT (show F.length<=i by omega),abT (by rw[abj];simp only[abL,ack];omega)]
theorem mY.get {b:List (Key×V)}(h:mY b F)(hd:H d=some (.dK b))(c:F[i]?=some a):dX H d (.int (i:Int)) (some (.ref a)):=by
 have:=dX.k (k:=Sum.inl (i:Int)) hd;rw[h.2 i,c]at this;exact this
def ub (n:Nat):List V:=(List.range n).map λi:Nat=>V.int (i:Int)
theorem lO (n:Nat):(ub n).length=n:=by unfold ub;rw[abo,abY]
theorem Bj (h:i<n):(ub n)[i]?=some (V.int (i:Int)):=by
 unfold ub;rw[aby,acQ h];rfl
theorem Af {Q:VK}(g:Nat->V)(d:n<=1000)(l:∀i:Nat,i<n->∀R:VK,R (g i) H->r (some (.int (i:Int))::D) H R)(f:∀a,H a=none->Q (.ref a) (upd H a (.lst ((List.range n).map g)))):uv r D Q (wu 0 n) H:=by
 refine iJ (ub n) (λv=>match v with|.int z=>g z.toNat|v=>v) (λi b=>by rw[lO]at b;exact b) (λi x o b y=>?_) (by rw[lO];exact abr _) (by rw[lO];exact abB d (by decide)) (λi x c R m=>?_) (λa j=>?_)
 ·rw[lO]at b;obtain⟨k,h⟩:=y;refine⟨k,?_⟩;rw[Bj b]
  congr 1
  rw[h,ada]
 ·have b:i<n:=by
   have:=(abk.mp c).1;rw[lO]at this;exact this
  rw[Bj b]at c;have ex:=Za0 c;subst ex;refine l i b R ?_;have:R (g ((i:Int)).toNat) H:=m;rw[ab2]at this;exact this
 ·have e:((ub n).map λv=>match v with|.int z=>g z.toNat|v=>v)=(List.range n).map g:=by
   unfold ub;rw[ab1];rfl
  rw[e];exact f a j
theorem Cz (a:List Addr):((List.range a.length).map λi=>V.ref (a.getD i 0))=a.map V.ref:=by
 apply List.ext_getElem
 ·simp
 ·intro i b c;simp[abt]at b ⊢;rw[abm b];rfl
theorem xQ (T:Txt K mg A):bj P w K mg base (bF P w) 2 A.qE A.qF ["table"] Bi:=by
 refine T.kx.F.okN dJ (λvs H Q E h=>?_) (λcf AA outer s H vs Q E hr h=>?_)
 ·obtain⟨a,g,L,rfl,_⟩:=h;rfl
 ·obtain⟨a,g,L,rfl,T5,x,hF,k⟩:=h;have J:=hO hr
  refine⟨_,(ah (aZ (i:=1) dJ.nd rfl (Or.inl rfl) (bA (mX T) hr.Za5 rfl T.eV.m T.eV.F.kp T.eV.b .nil aM (ae (aT iI (bx bC rfl T.dA ab6 (ae (bI bL (pv 0) ay (λ_ _=>rfl)) aj)) ay) aj)))
   (ah (aZ (i:=2) dJ.nd rfl (Or.inr rfl) (Au (yx ay (cV aj) As) rfl rfl (by simp) (by decide)))
   (ah (cz abQ rfl (yC rfl T.mU (pv 0)) (m3 rfl (dF (bK (i:=3) dJ.nd rfl (Or.inl rfl)) (dF (bK (i:=4) dJ.nd rfl (Or.inl rfl)) kA)))
    (au (cz abQ rfl (MK rfl T.Q7 (ae (pv 1) (ae (pv 4) aj))) (m3 rfl (dF (bK (i:=5) dJ.nd rfl (Or.inl rfl)) (dF (bK (i:=6) dJ.nd rfl (Or.inl rfl)) kA)))
     (au (cC (bO (CH (wH J (pv 6) (pv 2)))
      (au (m9 J (pv 2) (pv 6) (aT kL (rL J (pv 2) (pv 3) (λ_ _=>rfl)) (cV (ae (pv 5) aj))) rfl))
      bq))))))
   (au (bf (iz (fns:=["ways"]) (ixs:=[2]) (cl:=_) rfl (iH rfl T.gJ (ae (bx bC rfl T.dA ab6 (ae (pv 0) aj)) aj)) (kl rfl rfl (by decide) rfl (by decide) rfl (by decide) (by decide) rfl rfl rfl rfl) (λC s H ex=>(rL J (pv 1) (pv 0) (λ_ _=>rfl))))))))),?_⟩
  refine fF ?_;intro jn hH fv;have aaz:=x.top;have h40:=x.NF;have q8:=x.let1;obtain⟨rs0,r0,Vt,g1,g2,g3,g4,g5⟩:=r9 T5 x x.pos;have eL:((ao Vt).length:Int) / 2=(L:Int):=by rw[aI,g4];omega
  refine⟨_,rfl,a,_,_,.ref r0,rfl,rfl,aD.of g1,cG (i:=0) g2,r0,_,rfl,.inl (aD.of g3),_,_,rfl,rfl,⟨by decide,by decide⟩,?_⟩;refine⟨L,by rw[<-eL];rfl,q8,by omega,λsl H1 s1 Jv=>?_⟩;intro d hd;refine⟨abS _,λN B=>?_⟩;refine⟨(aq.upd B) _ _ ai,[(Sum.inl 0,.ref N)],rfl,by show 1<=15;decide,?_⟩;have T6:N≠d:=λz=>by rw[z,ai]at B;cases B
  have EH:H1 N=none:=by rw[ak T6]at B;exact B
  generalize O:upd (upd (upd H1 d (.dK [])) N (.tup [])) d _=H2;have hd2:H2 d=some (.dK [(Sum.inl 0,.ref N)]):=by rw[<-O,ai];rfl
  have I8:H2 N=some (.tup (ao (wd []))):=by rw[<-O,ak T6,ai];rfl
  have s2:aq H1 H2:=λb o e=>by rw[<-O,ak (aw e hd),ak (aw e EH),ak (aw e hd)];exact e
  clear O
  have yB:cN H2 [N] ([[]].map wd):=⟨rfl,λi p w h1 h2=>by
   rw[abp.mp (abn h1),abp.mp (abn h2)];exact I8⟩
  obtain⟨rs,zL,G⟩:=T5.same s1;have hlen:((rs.map V.ref).length:Int)=(g.length:Int):=by rw[abo,G.1]
  refine⟨_,rfl,a,rfl,⟨_,aD.of (s2 _ _ zL)⟩,?_⟩
  refine wJ (K:=K) (a:=a) (xs:=rs.map V.ref) (λi Y H3=>∃(f:List Addr) (ws:List (List Nat)) (c:List (Key×V)) (v3 v4 v5 v6:Option V),Y=[some (.ref a),some (.ref sl),some (.ref d),v3,v4,v5,v6]/\aq H1 H3/\H3 d=some (.dK c)/\mY c f/\cN H3 f (ws.map wd)/\M13.Part L g ws (i* (2* L)))
   ⟨[N],[[]],_,none,none,none,none,rfl,s2,hd2,mY.one N,yB,by rw[Nat.zero_mul];exact M13.Part.start x hF⟩ (λi Y H3 _ ⟨_,_,_,_,_,_,_,_,s,_⟩=>aD.of (s _ _ zL)) ?_ ?_
  ·rintro i v Y H3 p hi hp ⟨f,ws,c,v3,v4,v5,v6,rfl,s3,Bd,PF,S,t⟩;rw[aby]at hi
   have Dv:i<rs.length:=by
    cases e:rs[i]? with
    |none=>rw[e]at hi;cases hi
    |some r=>exact(abk.mp e).1
   have q1:rs[i]?=some rs[i]:=abm Dv
   rw[q1]at hi;have ey:V.ref rs[i]=v:=Za0 hi;subst ey;generalize rs[i]=rr at q1;have y:i<g.length:=by rw[<-G.1];exact Dv
   have q2:g[i]?=some g[i]:=abm y
   generalize g[i]=row at q2;have Oy:=G.2 i rr row q1 q2;have pU:=x.row i row q2;have M:=aq.upd (o:=.tup [.int (i:Int),.ref rr]) hp;refine⟨p,_,rfl,bQ.of ai,rfl,_,_,rfl,_,_,rfl,rfl,?_⟩;generalize upd H3 p (.tup [.int (i:Int),.ref rr])=H4 at M ⊢;have s4:=s3.trans M;refine⟨_,rfl,_,rfl,sl,rr,rfl,⟨_,aD.of (s4 _ _ Jv)⟩,⟨_,aD.of (s4 _ _ Oy)⟩,?_⟩
   refine Kc (K:=K) (a:=sl) (b:=rr) (xs:=ao ((List.range (2* L)).map M12.st)) (ys:=ao row) (λn Y H5=>∃(f:List Addr) (ws:List (List Nat)) (c:List (Key×V)) (v5 v6:Option V),Y=[some (.ref a),some (.ref sl),some (.ref d),some (.int (i:Int)),some (.ref rr),v5,v6]/\aq H1 H5/\H5 d=some (.dK c)/\mY c f/\cN H5 f (ws.map wd)/\M13.Part L g ws (i* (2* L)+ n))
    (by rw[aI,aI,abo,abY,pU]) ⟨f,ws,c,v5,v6,rfl,s4,M _ _ Bd,PF,S.same M,t⟩ (λn Y H5 _ ⟨_,_,_,_,_,_,s,_⟩=>⟨aD.of (s _ _ Jv),aD.of (s _ _ Oy)⟩) ?_ ?_
   ·rintro n v u Y H5 q hv F hq ⟨f,ws,c,v5,v6,rfl,s5,PH,l,X,j⟩
    have Z:n<2* L:=by
     have:=(abk.mp hv).1;rw[aI,abo,abY]at this;exact this
    rw[show (ao ((List.range (2* L)).map M12.st))[n]?=some (V.int (M12.st n)) from bV (oj Z)]at hv;have ev:=Za0 hv;subst ev;obtain⟨r',e1,e2⟩:=x.val i n y Z;have er:row=r':=Za0 (q2.symm.trans e1);subst er;rw[bV e2]at F;have eu:=Za0 F;subst eu;obtain⟨Y8,w6⟩:=M13.Part.step x hF j y Z;have hle:=M13.Part.le x hF j y Z;have U:=aq.upd (o:=.tup [.int (M12.st n),.int ((M11.nx g n i:Nat):Int)]) hq;refine⟨q,_,rfl,bQ.of ai,rfl,_,_,rfl,_,_,rfl,rfl,?_⟩;generalize upd H5 q (.tup [.int (M12.st n),.int ((M11.nx g n i:Nat):Int)])=H6 at U ⊢;have s6:=s5.trans U;have I:=U _ _ PH;have A3:=X.same U;have ot:f.length=ws.length:=by have:=X.1;rw[abo]at this;exact this
    refine⟨_,?_,λ_ _ h=>h⟩;refine⟨_,rfl,_,rfl,d,_,rfl,dX.k (k:=Sum.inl ((M11.nx g n i:Nat):Int)) I,_,rfl,?_⟩;rw[l.2];by_cases PL:M11.nx g n i=ws.length
    ·rw[abT (show f.length<=M11.nx g n i by omega)];refine gS ?_;have Y9:=j.has x hF y rfl;have F:ws[i]?=some ws[i]:=abm Y9
     generalize ws[i]=u at F;have m:f[i]?=some (f[i]'(by omega)):=abm (by omega)
     generalize f[i]'(by omega)=pa at m;have zH:=A3.2 i pa (wd u) m (by rw[aby,F];rfl);have zq:=(j.ok i u F).2.2;have aaA:=j.top;refine⟨_,rfl,_,rfl,d,_,rfl,l.get I m,_,rfl,by show 1<=sizeLine;decide,λq7 JD=>?_⟩;have PN:aq H6 (upd H6 q7 (.tup [.int (M12.st n)])):=aq.upd JD;have PQ:upd H6 q7 (.tup [.int (M12.st n)]) q7=some (.tup (ao (wd [n]))):=ai;generalize upd H6 q7 (.tup [.int (M12.st n)])=H7 at PN PQ ⊢;refine⟨pa,q7,_,_,rfl,rfl,PN _ _ zH,PQ,?_,λp3 H8 Za h8=>?_⟩
     ·rw[aI,aI,Fm,Fm];exact abB (show u.length+ 1<=400 by omega) (by decide)
     rw[<-ints_app,<-PD]at h8;have PR:=PN.trans Za;have T7:=PR _ _ I;refine⟨_,rfl,_,rfl,d,_,rfl,oH.k (k:=Sum.inl ((M11.nx g n i:Nat):Int)) T7 (abz (show c.length<=300 by have:=l.1;omega) (by decide)),?_⟩
     have kp:∀p xs,H8 p=some (.tup xs)->upd H8 d (.dK (putK c (Sum.inl ((M11.nx g n i:Nat):Int)) (.ref p3))) p=some (.tup xs):=λp xs e=>by
      rw[ak (bW e T7 (by intro z;cases z))];exact e
     refine⟨f++[p3],ws++[u++[n]],_,_,_,rfl,λb o e=>?_,ai,?_,?_,w6 PL u F⟩
     ·rw[ak (aw e hd)];exact PR _ _ (s6 _ _ e)
     ·have:=l.put p3;rw[ot,<-PL]at this;exact this
     ·rw[abU];exact((A3.same PR).snoc h8).keep kp
    ·have Zb:f[M11.nx g n i]?=some (f[M11.nx g n i]'(by omega)):=abm (by omega)
     rw[Zb];exact dk ⟨f,ws,c,_,_,rfl,s6,I,l,A3,Y8 PL⟩
   ·rintro Y H5 ⟨f,ws,c,v5,v6,rfl,s5,PH,l,X,j⟩;rw[aI,abo,abY]at j;exact⟨f,ws,c,_,_,_,_,rfl,s5,PH,l,X,by rw[Nat.succ_mul];exact j⟩
  ·rintro Y H3 ⟨f,ws,c,v3,v4,v5,v6,rfl,s3,Bd,PF,S,t⟩;rw[abo,G.1]at t;have T8:=M13.Part.end_ x hF t;have ot:f.length=g.length:=by have:=S.1;rw[abo,T8.1]at this;exact this
   refine⟨_,rfl,a,_,rfl,.inl (aD.of (s3 _ _ zL)),(g.length:Int),by rw[<-hlen],by omega,by omega,?_⟩;rw[ab2];refine Af (λi=>V.ref (f.getD i 0)) (by omega) (λi hi R hR=>?_) (λD hD=>?_)
   ·have m:f[i]?=some (f[i]'(by omega)):=abm (by omega)
    rw[abt,m]at hR;exact⟨_,rfl,_,rfl,d,_,rfl,PF.get Bd m,hR⟩
   ·rw[<-ot,Cz];refine k D ws _ ((s1.trans s3).trans (aq.upd hD)) ((s1.trans s3).free hD) ⟨f,ai,S.same (aq.upd hD)⟩ ⟨T8,λi u F=>?_⟩;obtain⟨a1,a2,a3⟩:=t.ok i u F;have hi:=(abk.mp F).1;have:=t.top;exact⟨a1,a2,by omega⟩
theorem zM (T:Txt K mg A):bj P w K mg base (bF P w) 1 A.sR A.sS ["_law_word_here"] PB:=by
 refine T._law_back.F.okN zi (λg H Q E h=>?_) (λu J c s H g Q E I h=>?_)
 ·obtain⟨a,ns,rfl,_⟩:=h;rfl
 ·obtain⟨a,ns,rfl,F,f,k⟩:=h;refine⟨_,(au (bf (dc fL rfl T.jC acF (ae (iz (fns:=[]) (ixs:=[]) (cl:=[]) rfl (m5 (De JW (pv 0) kB kB (fb (fB dW ay)))) (i7 (by decide) (by decide) rfl (by decide) rfl) (λC s H ex=>(aT jL ay (pv 0)))) aj)))),?_⟩;refine⟨_,rfl,_,rfl,_,rfl,a,_,rfl,F,rfl,rfl,rfl,λp o=>?_⟩;have s1:aq H (upd H p (.tup (ao ns).reverse)):=aq.upd o;have b:upd H p (.tup (ao ns).reverse) p=some (.tup (ao ns.reverse)):=by rw[ai];unfold ao;rw[List.map_reverse]
  generalize upd H p (.tup (ao ns).reverse)=G at s1 b ⊢;refine⟨p,rfl,⟨_,bQ.of b⟩,?_⟩;refine iJ (ao ns.reverse) (λv=>match v with|.int z=>.int (0 - z)|v=>v) (C9 (bQ.of b)) (Ap (bQ.of b)) (ym (bQ.of b)) ?_ (λi x q R B=>?_) (λD n=>?_)
  ·rw[aI,aeg];exact abB f (by decide)
  ·obtain⟨z,rfl,_⟩:=cq q;exact⟨_,rfl,_,_,rfl,rfl,B⟩
  ·have e:((ao ns.reverse).map λv=>match v with|.int z=>V.int (0 - z)|v=>v)=ao (ns.reverse.map λz=>0 - z):=by unfold ao;rw[ab1,ab1];rfl
   rw[e];refine⟨D,_,rfl,.inl ⟨aD.of ai,λl j=>?_⟩⟩;refine k l _ _ (s1.trans ((aq.upd n).trans (aq.upd j))) ai (by rw[abo,aeg]) λL m z d=>?_
   obtain⟨y,t,rfl⟩:=ach.mp d;have:=m y (List.mem_reverse.mp t);omega
theorem xR (T:Txt K mg A):bj P w K mg base (bF P w) 1 A.qM A.qN ["_law_number"] K9:=by
 refine T._law_limit.F.okN xM (λe H Q E h=>?_) (λb j a s H e Q E f h=>?_)
 ·obtain⟨z,rfl,_⟩:=h;rfl
 ·obtain⟨z,rfl,l,k⟩:=h
  refine⟨_,(ah (bO (bu i5 (aT cK (pv 0) ay) ay (bD _))
   (au (bf ay))
   bq)
   (ah (bO (bu lT (aT cK (pv 0) ay) ay (bD _))
    (au (bf (aT dM ay (aT cK (aT iI (pv 0) ay) ay))))
    bq)
   (au (bf ay)))),?_⟩
  refine cX ?_;intro d c;have g:=adb (z / 8) (show (12:Int)≠0 by decide);have i:=adf (z / 8) (show (0:Int)<12 by decide);refine⟨_,rfl,_,_,rfl,rfl,(by show (0:Int)<8;decide),rfl,_,rfl,dH (λ_=>k 24 (by decide) (by decide)) λ_=>?_⟩;refine⟨_,rfl,_,_,rfl,rfl,(by show (0:Int)<8;decide),_,_,rfl,rfl,_,rfl,dH (λ_=>?_) λ_=>k 12 (by decide) (by decide)⟩;refine⟨_,rfl,_,_,rfl,rfl,⟨by decide,by decide⟩,_,_,rfl,rfl,(by show (0:Int)<12;decide),_,_,rfl,rfl,?_⟩;have:=k (1+ z / 8 % 12).toNat (by omega) (by omega);rw[show (((1+ z / 8 % 12).toNat:Nat):Int)=1+ z / 8 % 12 by omega]at this;exact this
theorem zN {a:Za3}(h:cN H F a){w:Addr}{b:List V}{o:HO}(c:H w=some (.lst b)):cN (upd H w o) F a:=h.keep λp d e=>by
 rw[ak (bW e c (by intro z;cases z))];exact e
theorem pe {d:Za3}(h:bM H a d)(c:H a=some (.lst L))(f:H b=some (.tup (ao l))):bM (upd H a (.lst (L++[.ref b]))) a (d++[l]):=by
 obtain⟨i,e,g⟩:=h;rw[c]at e;cases e;exact⟨i++[b],by rw[ai,abU];rfl,zN (g.snoc f) c⟩
theorem fA {b:Za3}(h:bM H a b):∃xs,H a=some (.lst xs)/\xs.length=b.length:=by
 obtain⟨e,c,d⟩:=h;exact⟨_,c,by rw[abo,d.1]⟩
theorem sv (T:Txt K mg A):bj P w K mg base (bF P w) 3 A.lu A.lz ["_law_cells"] Rk:=by
 refine T._law_cut_words.F.okN dN (λvs H Q E h=>?_) (λcf AA outer s H vs Q E G h=>?_)
 ·obtain⟨a,cs,rfl,_⟩:=h;rfl
 ·obtain⟨a,cs,rfl,ha,xA,k⟩:=h
  refine⟨_,(ah (aZ (i:=1) dN.nd rfl (Or.inl rfl) (cD aj))
   (ah (aZ (i:=2) dN.nd rfl (Or.inl rfl) (cD aj))
   (ah (cz abQ rfl (cS (pv 0)) (bK (i:=3) dN.nd rfl (Or.inl rfl))
    (ah (aV (cP abC abI abJ bN (pv 2) (ae (pv 3) aj)))
    (au (cC (bO (bu i5 (aT cK (bA (jJ T) (G.mono (by decide)) rfl T._law_mix.m T._law_mix.F.kp T._law_mix.b .nil aM (ae (pv 3) (ae ay aj))) ay) ay (bD _))
     (ah (aV (cP abC abI abJ bN (pv 1) (ae (bA (gx T) (G.mono (by decide)) rfl T._law_word.m T._law_word.F.kp T._law_word.b .nil aM (ae (pv 2) (ae ay aj))) aj)))
     (au (aZ (i:=2) dN.nd rfl (Or.inl rfl) (cD aj))))
     bq)))))
   (ah (aV (cP abC abI abJ bN (pv 1) (ae (bA (gx T) (G.mono (by decide)) rfl T._law_word.m T._law_word.F.kp T._law_word.b .nil aM (ae (pv 2) (ae ay aj))) aj)))
   (au (bf (pv 1))))))),?_⟩
  refine yJ ?_;intro rh jn hH fv;refine⟨abS _,λd t=>?_⟩;have s0:aq H (upd H d (.lst [])):=aq.upd t;have h0:upd H d (.lst []) d=some (.lst (([]:List Addr).map V.ref)):=ai;generalize upd H d (.lst [])=H0 at s0 h0 ⊢;refine⟨abS _,λlk n=>?_⟩;have R:aq H0 (upd H0 lk (.lst [])):=aq.upd n;have h1:upd H0 lk (.lst []) lk=some (.lst (ao [])):=ai;have I:d≠lk:=λe=>by rw[<-e,h0]at n;cases n
  have g:H lk=none:=s0.free n;generalize upd H0 lk (.lst [])=H1 at R h1 ⊢;refine⟨_,rfl,a,rfl,⟨_,aD.of (R _ _ (s0 _ _ ha))⟩,?_⟩
  refine eR (K:=K) (a:=a) (xs:=ao cs) (λi Z m=>∃(p:Za3) (lk:Addr) (f:List Int) (v4:Option V),Z=[some (.ref a),some (.ref d),some (.ref lk),v4]/\aq H m/\H lk=none/\d≠lk/\bM m d p/\(∀u∈p,M11.bP 2 u/\u.length<=24)/\p.length<=i/\m lk=some (.lst (ao f))/\f.length<=i)
   ⟨[],lk,[],none,rfl,s0.trans R,g,I,⟨[],R _ _ h0,rfl,λi r ns h1=>by simp at h1⟩,λr G=>by simp at G,abr _,h1,abr _⟩ (λi Z m _ ⟨_,_,_,_,_,s,_⟩=>aD.of (s _ _ ha)) ?_ ?_
  ·rintro i y Z m hi ⟨p,lk,f,v4,rfl,s2,g,F,X,S,C,l,N⟩;obtain⟨z,rfl,hz⟩:=cq hi;have Dv:i<cs.length:=(abk.mp hz).1;refine⟨_,rfl,.inl ⟨rfl,_,aD.of l⟩,_,rfl,lk,_,_,rfl,rfl,l,by rw[aI];exact abz (show f.length<=63 by omega) (by decide),?_⟩;have O:upd m lk (.lst (ao f++[.int z])) lk=some (.lst (ao (f++[z]))):=by rw[ai,ints_app];rfl
   have s3:aq H (upd m lk (.lst (ao f++[.int z]))):=λb o e=>by rw[ak (aw e g)];exact s2 _ _ e
   have Y:bM (upd m lk (.lst (ao f++[.int z]))) d p:=by obtain⟨ps,q1,q2⟩:=X;exact⟨ps,by rw[ak F];exact q1,zN q2 l⟩
   generalize upd m lk (.lst (ao f++[.int z]))=H3 at O s3 Y ⊢;have L:(f++[z]).length=f.length+ 1:=by rw[abj];rfl
   generalize f++[z]=kw at O L;refine⟨_,?_,λ_ _ h=>h⟩;refine⟨_,rfl,z,3,rfl,by decide,by decide,λr G=>?_⟩;refine⟨_,_,rfl,rfl,(by show (0:Int)<6;decide),rfl,_,rfl,dH (λ_=>?_) (λ_=>⟨p,lk,kw,_,rfl,s3,g,F,Y,S,by omega,O,by omega⟩)⟩;obtain⟨xs,D,JF⟩:=fA Y;refine⟨_,rfl,.inl ⟨rfl,_,aD.of D⟩,_,rfl,lk,kw,2,rfl,O,by omega,by decide,by decide,λM u U c x B zq=>?_⟩;refine⟨d,_,_,rfl,rfl,c _ _ D,abz (show xs.length<=63 by omega) (by decide),?_⟩;have w5:=pe (Y.same c) (c _ _ D) x;have s5:aq H (upd U d (.lst (xs++[.ref M]))):=λb o e=>by rw[ak (aw e t)];exact c _ _ (s3 _ _ e)
   have n5:upd U d (.lst (xs++[.ref M])) d=some (.lst (xs++[.ref M])):=ai;generalize upd U d (.lst (xs++[.ref M]))=H5 at w5 s5 n5 ⊢;refine⟨abS _,λq J=>?_⟩;refine⟨p++[u],q,[],_,rfl,s5.trans (aq.upd J),s5.free J,(λe=>by rw[<-e,n5]at J;cases J),w5.same (aq.upd J),λv j=>?_,by rw[abj];exact Nat.succ_le_succ C,ai,abS _⟩;rcases abx.mp j with j|j
   ·exact S v j
   ·rw[abp.mp j];exact⟨B,by omega⟩
  ·rintro Z m ⟨p,lk,f,v4,rfl,s2,g,F,X,S,C,l,N⟩;rw[aI]at C N;obtain⟨xs,D,JF⟩:=fA X;refine⟨_,rfl,.inl ⟨rfl,_,aD.of D⟩,_,rfl,lk,f,2,rfl,l,by omega,by decide,by decide,λM u U c x B zq=>?_⟩;refine⟨d,_,_,rfl,rfl,c _ _ D,abz (show xs.length<=63 by omega) (by decide),?_⟩;refine⟨_,rfl,k d (p++[u]) _ (λb o e=>by rw[ak (aw e t)];exact c _ _ (s2 _ _ e)) t (pe (X.same c) (c _ _ D) x) (λv j=>?_) (by rw[abj];exact Nat.succ_le_succ (by omega))⟩;rcases abx.mp j with j|j
   ·exact S v j
   ·rw[abp.mp j];exact⟨B,by omega⟩
theorem Ht {a:Za3}(h:∀u∈a,M11.bP n u/\u.length<=100):∀u∈a++[],Pp n u:=λu b=>by
 rw[abO]at b;obtain⟨c,d⟩:=h u b;exact⟨by omega,c⟩
theorem wg (T:Txt K mg A):bj P w K mg base (bF P w) 12 A.pJ A.pK ["_law_letters","_law_rules_here","_law_limit_here"] zK:=by
 refine T._law_filled.F.okN gM (λX H Q E h=>?_) (λcf AA D s H X Q E hr h=>?_)
 ·obtain⟨F,L,a,C,rfl,_⟩:=h;rfl
 ·obtain⟨F,L,a,C,rfl,k,tf,j,q,r,B,x,kn,Y⟩:=h;obtain⟨tkd,o⟩:=T.fill.bd
  refine⟨_,(ah (aZ (i:=3) gM.nd rfl (Or.inl rfl) dh)
   (ah (cC (KH rfl rfl (KG (i:=3) gM.nd rfl (Or.inl rfl) (GA (dvs:=[V.str (tx [114,111,111,109,115])]) (K7 T) hr.Za5 rfl T.fill.m T.fill.kp o (.cons ⟨_,rfl⟩ .nil) (ae (pv 0) (ae (pv 1) (ae (cD aj) (ae (pv 2) aj))))))
    (ND rfl T.xt (λ_=>(au (aZ (i:=3) gM.nd rfl (Or.inl rfl) dh)))
    Nz)))
   (ah (bO (bu m6 (pv 3) dh (bD _))
    (au (bf dh))
    bq)
   (au (bf (bI gj (pv 3) ay (λ_ _=>rfl))))))),?_⟩
  refine fF ?_;intro jn U fv;have ok:=Ht B;refine⟨λ l I=>aq H I/\∃v,l=[some (.int L),some (.ref F),some (.int a),some v]/\(v=.non\/∃t b e N T,v=.ref t/\I t=some (.tup [.ref b,.ref e])/\TabAt I b T/\FT L N T/\N<=24),?_,?_⟩
  ·refine⟨_,rfl,_,rfl,abS _,λg np=>⟨_,rfl,?_⟩⟩;have s1:aq H (upd H g (.lst [])):=aq.upd np;have f:bM (upd H g (.lst [])) g []:=⟨[],ai,rfl,λi p w h=>by simp at h⟩;generalize upd H g (.lst [])=M at s1 f ⊢;have:=aeJ q x;refine⟨F,g,L,a,C,[],rfl,k,by omega,j,by omega,r.same s1,f,ok,by simp only[ack];omega,by omega,abS _,λt b e S N H2 y O R G m n _=>?_,λd e S H2 y _ _ _ _=>?_⟩
   ·have c:∀u∈C++[],∀z∈u,z∈bz (2* L)/\-z∈bz (2* L):=λu hu z hz=>((rz (by omega) (ok u hu)).2 z hz).2
    obtain⟨hm,J⟩:=O.mL c j;rw[J]at m n;obtain⟨Z,ft⟩:=O.ft c R (by omega) k (by omega) J n;exact⟨s1.trans y,_,rfl,.inr ⟨t,b,e,N,_,rfl,G,m,ft,by omega⟩⟩
   ·exact⟨_,rfl,true,T.Wy,gS ⟨s1.trans y,_,rfl,.inl rfl⟩⟩
  rintro l M ⟨s1,v,rfl,rfl|⟨t,b,e,N,TT,rfl,G,m,ft,n⟩⟩
  ·exact⟨_,rfl,rfl,_,rfl,gS (kn _ s1)⟩
  ·exact⟨_,rfl,rfl,_,rfl,dk ⟨_,rfl,t,_,_,_,rfl,rfl,bQ.of G,rfl,Y b TT N M s1 m ft n⟩⟩
theorem iq (cs:List Int)(lo a:Option Int):∃ds,gf (ao cs) lo a=ao ds/\ds.length<=cs.length:=⟨_,by unfold gf ao;rw[<-List.map_drop,<-List.map_take],by rw[abZ,acy];omega⟩
theorem Fn {e:Za3}(h:bM H a e)(m:H a=some (.lst L))(lo f:Option Int):∃k g,gf L lo f=k.map V.ref/\cN H k g/\(∀u∈g,u∈e)/\g.length<=e.length:=by
 obtain⟨q,l,j⟩:=h;rw[m]at l;cases l;have o:=j.1;unfold gf;generalize HT.bX _ 0 lo=d;generalize HT.bX _ _ f - d=t;refine⟨(q.drop d).take t,(e.drop d).take t,by rw[List.map_take,List.map_drop],⟨by rw[abZ,abZ,acy,acy,o],λi p w c b=>?_⟩,λu n=>List.mem_of_mem_drop (List.mem_of_mem_take n),by rw[abZ,acy];omega⟩;rw[List.getElem?_take]at c b;split at c
 ·rename_i f;rw[abN f,aev]at b;rw[aev]at c;exact j.2 _ p w c b
 ·cases c
theorem Hu {d:List Addr}{c f:Za3}(h:cN H F c)(k:cN H d f):cN H (F++d) (c++f):=by
 have e:=h.1;refine⟨by rw[abj,abj,e,k.1],λi p w a b=>?_⟩;rw[List.getElem?_append]at a b;split at a
 ·rename_i g;rw[abN (by omega)]at b;exact h.2 i p w a b
 ·rename_i g;rw[abH (by omega),<-e]at b;exact k.2 _ p w a b
theorem pf (n:Nat)(w:List Int):(List.replicate ((n:Int)).toNat (ao w)).flatten=ao (List.replicate n w).flatten:=by
 unfold ao;rw[ab2,List.map_flatten,List.map_replicate]
theorem vB {w:List Int}(d:M11.bP 2 w)(a:n* w.length<=m):M11.bP 2 (List.replicate n w).flatten/\(List.replicate n w).flatten.length<=m:=by
 refine⟨λs b=>?_,by simpa using a⟩;obtain⟨u,c,h⟩:=List.mem_flatten.mp b;rw[List.eq_of_mem_replicate c]at h;exact d s h
theorem mO {v:List Int}(c:M11.bP n l)(b:M11.bP n v):M11.bP n (l++v):=λs a=>(abx.mp a).elim (c s) (b s)
theorem xS (T:Txt K mg A):bj P w K mg base (bF P w) 4 A.qI A.qJ ["_law_number","_law_cells"] (Bg K):=by
 refine T._law_rules.F.okN eF (λvs H Q E h=>?_) (λcf AA outer s H vs Q E Y h=>?_)
 ·obtain⟨z,a,cs,rfl,_⟩:=h;rfl
 ·obtain⟨z,a,cs,rfl,hz,ha,xA,k⟩:=h
  refine⟨_,(ah (aZ (i:=2) eF.nd rfl (Or.inl rfl) (aT dM ay (aT cK (aT iI (pv 0) ay) ay)))
   (ah (aZ (i:=3) eF.nd rfl (Or.inl rfl) (aT dM ay (aT cK (aT iI (pv 0) ay) ay)))
   (ah (aZ (i:=4) eF.nd rfl (Or.inl rfl) (aT dM ay (aT cK (aT iI (pv 0) ay) ay)))
   (ah (aZ (i:=5) eF.nd rfl (Or.inl rfl) (cD (ae (aT rJ (cV (ae ay aj)) (pv 2)) (ae (aT rJ (cV (ae ay aj)) (pv 3)) aj))))
   (ah (cC (bO (bu i5 (aT cK (pv 0) ay) ay (bD _))
    (au (aV (cP abC abI abJ bN (pv 5) (ae (aT rJ (cV (ae ay (ae ay aj))) (pv 4)) aj))))
    bq))
   (ah (cC (bO (bu i5 (aT cK (pv 0) ay) ay (bD _))
    (au (aV (cP abC abI abJ bN (pv 5) (ae (cV (ae ay (ae ay (ae (fB dW ay) (ae (fB dW ay) aj))))) aj))))
    bq))
   (ah (cC (bO (bu i5 (aT cK (pv 0) ay) ay (bD _))
    (au (aV (cP abC abI abJ bN (pv 5) (ae (aT kL (cV (ae (fB dW ay) (ae ay (ae ay aj)))) (aT rJ (cV (ae (fB dW ay) aj)) (aT cK (pv 4) (pv 2)))) aj))))
    bq))
   (ah (bO (bu i5 (aT cK (pv 0) ay) ay (bD _))
    (au (bf (aT uq (ig m7 (pv 5) kB (fb (aT cK (aT iI (pv 0) ay) ay))) (bA (sv T) (Y.mono (by decide)) rfl T._law_cut_words.m T._law_cut_words.F.kp T._law_cut_words.b .nil aM (ae (pv 1) aj)))))
    bq)
   (ah (aZ (i:=6) eF.nd rfl (Or.inl rfl) (bA (gx T) (Y.mono (by decide)) rfl T._law_word.m T._law_word.F.kp T._law_word.b .nil aM (ae (ig m7 (pv 1) kB (fb ay)) (ae ay aj))))
   (au (bf (aT uq (pv 5) (cD (ae (aT kL (aT kL (pv 6) (bI bL (pv 5) ay (λ_ _=>rfl))) (bA (zM T) (Y.mono (by decide)) rfl T._law_back.m T._law_back.F.kp T._law_back.b .nil aM (ae (pv 6) aj))) aj)))))))))))))),?_⟩
  refine Gb ?_;intro Zc Sg IH AZ ti rh jn hH fv;obtain⟨x,e1,hn1,aaB⟩:∃n:Nat,1+ z / 4 % 6=(n:Int)/\1<=n/\n<=6:=⟨(1+ z / 4 % 6).toNat,by omega,by omega,by omega⟩;obtain⟨U,e2,S7,aaC⟩:∃n:Nat,1+ z / 24 % 6=(n:Int)/\1<=n/\n<=6:=⟨(1+ z / 24 % 6).toNat,by omega,by omega,by omega⟩;obtain⟨I,e3,TC,aaD⟩:∃n:Nat,1+ z / 144 % 9=(n:Int)/\1<=n/\n<=9:=⟨(1+ z / 144 % 9).toNat,by omega,by omega,by omega⟩;refine⟨_,rfl,_,_,rfl,rfl,⟨by decide,by decide⟩,_,_,rfl,rfl,(by show (0:Int)<6;decide),_,_,rfl,rfl,?_⟩;rw[e1];refine⟨_,rfl,_,_,rfl,rfl,⟨by decide,by decide⟩,_,_,rfl,rfl,(by show (0:Int)<6;decide),_,_,rfl,rfl,?_⟩;rw[e2];refine⟨_,rfl,_,_,rfl,rfl,⟨by decide,by decide⟩,_,_,rfl,rfl,(by show (0:Int)<9;decide),_,_,rfl,rfl,?_⟩;rw[e3];refine⟨by show 1<=sizeLine;decide,λp1 T9=>⟨_,rfl,p1,_,_,rfl,rfl,ai,by omega,by omega,?_,λX H1 s1 S=>?_⟩⟩
  ·exact abB (show 1* ((x:Int)).toNat<=100 by omega) (by decide)
  replace s1:=(aq.upd T9).trans s1;rw[show [V.int 1]=ao [1] from rfl,pf]at S;refine⟨by show 1<=sizeLine;decide,λp2 pV=>⟨_,rfl,p2,_,_,rfl,rfl,ai,by omega,by omega,?_,λq2 H2 Z O=>?_⟩⟩
  ·exact abB (show 1* ((U:Int)).toNat<=100 by omega) (by decide)
  replace Z:=(aq.upd pV).trans Z;rw[show [V.int 2]=ao [2] from rfl,pf]at O;refine⟨by show 2<=sizeLine;decide,λl nl=>?_⟩;have Sr:H l=none:=(s1.trans Z).free nl;have g:aq H (upd H2 l (.lst [.ref X,.ref q2])):=(s1.trans Z).trans (aq.upd nl)
  have wl:bM (upd H2 l (.lst [.ref X,.ref q2])) l [(List.replicate x [1]).flatten,(List.replicate U [2]).flatten]:=by
   have st:cN (upd H2 l (.lst [.ref X,.ref q2])) ([]++[X]) ([]++[(List.replicate x [(1:Int)]).flatten]):=cN.snoc ⟨rfl,λi p w h=>by simp at h⟩ ((aq.upd nl) _ _ (Z _ _ S));exact⟨[X,q2],ai,st.snoc ((aq.upd nl) _ _ O)⟩
  have d:∀u∈[(List.replicate x [(1:Int)]).flatten,(List.replicate U [2]).flatten],M11.bP 2 u/\u.length<=24:=λu r=>by
   rcases abD.mp r with rfl|r
   ·exact vB (λs j=>by rw[abp.mp j];decide) (by simp;omega)
   ·rw[abp.mp r];exact vB (λs j=>by rw[abp.mp j];decide) (by simp;omega)
  generalize hg:[(List.replicate x [(1:Int)]).flatten,(List.replicate U [2]).flatten]=c at wl d;have R:c.length=2:=by rw[<-hg];rfl
  clear hg;generalize upd H2 l (.lst [.ref X,.ref q2])=H3 at g wl ⊢;clear S O s1 Z nl T9 pV
  have add:∀{H3 J:Hp} {c:Za3} {q:Addr} {u:List Int} {G:Hp->Prop} {m:Nat},aq H H3->bM H3 l c->(∀u∈c,M11.bP 2 u/\u.length<=24)->c.length=2->aq H3 J->J q=some (.tup (ao u))->M11.bP 2 u/\u.length<=24->(∀C F,aq H C->bM C l F->(∀u∈F,M11.bP 2 u/\u.length<=24)->F.length=3->G C)->vK (.ref l) [.ref q] J λ_ C=>G C:=λ{H3 J c q u G m} s3 w3 d h2 s4 hq r kk=>by
   obtain⟨xs,B,JF⟩:=fA w3;refine⟨l,xs,_,rfl,rfl,s4 _ _ B,abz (show xs.length<=2 by omega) (by decide),kk _ (c++[u]) (λb o e=>by rw[ak (aw e Sr)];exact s4 _ _ (s3 _ _ e)) (pe (w3.same s4) (s4 _ _ B) hq) (λv y=>?_) (by rw[abj,h2];rfl)⟩;rcases abx.mp y with y|y
   ·exact d v y
   ·rw[abp.mp y];exact r
  have m0:=adb z (show (4:Int)≠0 by decide);have m4:=adf z (show (0:Int)<4 by decide);refine⟨λ f L=>∃c,f=[some (.int z),some (.ref a),some (.int x),some (.int U),some (.int I),some (.ref l),none]/\aq H L/\bM L l c/\(∀u∈c,M11.bP 2 u/\u.length<=24)/\c.length=if z % 4<=0 then 3 else 2,?_,?_⟩
  ·refine⟨_,rfl,_,_,rfl,rfl,(by show (0:Int)<4;decide),rfl,_,rfl,dH (λh=>?_) (λh=>⟨c,rfl,g,wl,d,by rw[abH (λq=>h (abX (by rw[show z % 4=0 by omega])))];exact R⟩)⟩;have h:z % 4=0:=V.int.inj (ab9 h);obtain⟨xs,B,_⟩:=fA wl;refine⟨_,rfl,.inl ⟨rfl,_,aD.of B⟩,by show 2<=sizeLine;decide,λp3 D=>⟨_,rfl,p3,_,_,rfl,rfl,ai,by omega,by omega,?_,λq3 J s4 Ua=>?_⟩⟩
   ·exact abB (show 2* ((I:Int)).toNat<=100 by omega) (by decide)
   rw[show [V.int 1,V.int 2]=ao [1,2] from rfl,pf]at Ua;exact add (m:=0) g wl d R ((aq.upd D).trans s4) Ua (vB (λs j=>by simp at j;rcases j with rfl|rfl <;> decide) (by simp;omega)) λC F a1 a2 a3 a4=>⟨F,rfl,a1,a2,a3,by rw[abN (by omega)];exact a4⟩
  clear g wl d R;rintro f J ⟨c,rfl,g,wl,d,t⟩;refine⟨λ f L=>∃c,f=[some (.int z),some (.ref a),some (.int x),some (.int U),some (.int I),some (.ref l),none]/\aq H L/\bM L l c/\(∀u∈c,M11.bP 2 u/\u.length<=24)/\c.length=if z % 4<=1 then 3 else 2,?_,?_⟩
  ·refine⟨_,rfl,_,_,rfl,rfl,(by show (0:Int)<4;decide),rfl,_,rfl,dH (λh=>?_) (λh=>⟨c,rfl,g,wl,d,by
    have h:z % 4≠1:=λq=>h (abX (by rw[q]))
    rw[t];split <;> split <;> omega⟩)⟩
   have h:z % 4=1:=V.int.inj (ab9 h);rw[abH (by omega)]at t;obtain⟨xs,B,_⟩:=fA wl;refine⟨_,rfl,.inl ⟨rfl,_,aD.of B⟩,_,rfl,_,rfl,by show 4<=sizeLine;decide,λp3 D=>?_⟩;exact add (m:=0) (u:=[1,2,-1,-2]) g wl d t (aq.upd D) ai ⟨λs j=>by simp at j;rcases j with rfl|rfl|rfl|rfl <;> decide,by decide⟩ λC F a1 a2 a3 a4=>⟨F,rfl,a1,a2,a3,by rw[abN (by omega)];exact a4⟩
  clear g wl d t;rintro f J ⟨c,rfl,g,wl,d,t⟩;refine⟨λ f L=>∃c,f=[some (.int z),some (.ref a),some (.int x),some (.int U),some (.int I),some (.ref l),none]/\aq H L/\bM L l c/\(∀u∈c,M11.bP 2 u/\u.length<=24)/\c.length=if z % 4<=2 then 3 else 2,?_,?_⟩
  ·refine⟨_,rfl,_,_,rfl,rfl,(by show (0:Int)<4;decide),rfl,_,rfl,dH (λh=>?_) (λh=>⟨c,rfl,g,wl,d,by
    have h:z % 4≠2:=λq=>h (abX (by rw[q]))
    rw[t];split <;> split <;> omega⟩)⟩
   have h:z % 4=2:=V.int.inj (ab9 h);rw[abH (by omega)]at t;obtain⟨xs,B,_⟩:=fA wl;have b1:=adb (I:Int) (show (x:Int)≠0 by omega);have b2:=adf (I:Int) (show (0:Int)<(x:Int) by omega);obtain⟨n4,e4,h4⟩:∃n:Nat,(I:Int) % (x:Int)=(n:Int)/\n<=6:=⟨((I:Int) % (x:Int)).toNat,by omega,by omega⟩;refine⟨_,rfl,.inl ⟨rfl,_,aD.of B⟩,_,rfl,by show 3<=sizeLine;decide,λp3 D=>⟨_,rfl,by show 1<=sizeLine;decide,λp4 Zd=>⟨_,rfl,_,rfl,_,_,rfl,rfl,(by show (0:Int)<(x:Int);omega),?_⟩⟩⟩;rw[e4];refine⟨p4,_,_,rfl,rfl,ai,by omega,by omega,abB (show 1* ((n4:Int)).toNat<=100 by omega) (by decide),λq4 C s5 Ub=>?_⟩;replace s5:=(aq.upd Zd).trans s5;rw[show [V.int (-1)]=ao [-1] from rfl,pf]at Ub;have Y:=vB (n:=n4) (m:=6) (w:=[-1]) (λs j=>by rw[abp.mp j];decide) (by simp;omega);refine⟨p3,q4,_,_,rfl,rfl,s5 _ _ ai,Ub,abB (show 3+ (ao _).length<=100 by rw[aI];omega) (by decide),λq5 H6 s6 Ze=>?_⟩;exact add (m:=0) (u:=[-2,1,2]++(List.replicate n4 [-1]).flatten) g wl d t ((aq.upd D).trans (s5.trans s6)) (by rw[ints_app];exact Ze) ⟨mO (λs j=>by simp at j;rcases j with rfl|rfl|rfl <;> decide) Y.1,by rw[abj];exact abB (Nat.add_le_add_left Y.2 3) (by decide)⟩ λC F a1 a2 a3 a4=>⟨F,rfl,a1,a2,a3,by rw[abN (by omega)];exact a4⟩
  clear g wl d t add;rintro f J ⟨c,rfl,g,wl,d,t⟩;obtain⟨xs,B,JF⟩:=fA wl;have PV:c.length<=3:=by rw[t];split <;> omega
  refine⟨_,rfl,_,_,rfl,rfl,(by show (0:Int)<4;decide),rfl,_,rfl,dH (λh=>?_) (λh=>?_)⟩
  ·have h:z % 4=3:=V.int.inj (ab9 h);rw[abH (by omega)]at t;refine⟨_,rfl,_,rfl,_,_,rfl,rfl,⟨by decide,by decide⟩,_,_,rfl,rfl,(by show (0:Int)<3;decide),_,rfl,l,_,rfl,aD.of B,λp np=>?_⟩;obtain⟨qs,F,e,ht,hV,hVl⟩:=Fn wl B none (some (z / 1296 % 3));rw[e];refine⟨_,rfl,a,cs,rfl,(aq.upd np) _ _ (g _ _ ha),xA,λl2 Us C s5 _ w5 hU hUl=>?_⟩;obtain⟨Uc,Zf,Ud⟩:=w5;have Sv:=ht.1;have aaE:=Ud.1;refine⟨p,l2,_,_,rfl,rfl,s5 _ _ ai,Zf,?_,λq nq=>?_⟩
   ·rw[abo,abo];exact abB (show qs.length+ Uc.length<=100 by omega) (by decide)
   refine k q (F++Us) _ (g.trans ((aq.upd np).trans (s5.trans (aq.upd nq)))) ⟨qs++Uc,by rw[ai,abU],(Hu (ht.same ((aq.upd np).trans s5)) Ud).same (aq.upd nq)⟩ (λu r=>?_) (by rw[abj];omega);rcases abx.mp r with r|r
   ·have:=d u (hV u r);exact⟨this.1,by omega⟩
   ·have:=hU u r;exact⟨this.1,by omega⟩
  ·have h:z % 4≠3:=λq=>h (abX (by rw[q]))
   rw[abN (by omega)]at t;refine⟨_,rfl,_,rfl,a,_,rfl,aD.of (g _ _ ha),λp np=>?_⟩;obtain⟨ds,e,Ue⟩:=iq cs none (some 6);rw[e];refine⟨p,ds,2,rfl,ai,by omega,by decide,by decide,λq6 u C s5 Ug r zq=>?_⟩;replace s5:=(aq.upd np).trans s5;obtain⟨ps,h1,h2⟩:=wl.same s5;have ot:=h2.1;have M:ps[2]?=some (ps[2]'(by omega)):=abm (by omega)
   have Uh:c[2]?=some (c[2]'(by omega)):=abm (by omega)
   have t2:=h2.2 2 _ _ M Uh;obtain⟨w6,ln2⟩:=d _ (abn Uh);generalize ps[2]'(by omega)=p2 at M t2;generalize c[2]'(by omega)=w2 at t2 w6 ln2;refine⟨_,rfl,_,rfl,_,rfl,l,_,_,_,rfl,rfl,aD.of h1,(show lW _ ((2:Nat):Int)=_ from cG M),q6,p2,_,_,rfl,rfl,Ug,t2,abB (show (ao u).length+ (ao w2).length<=100 by rw[aI,aI];omega) (by decide),λq7 H7 s7 JD=>?_⟩;rw[<-ints_app]at JD;refine⟨_,rfl,q6,u,rfl,s7 _ _ Ug,by omega,λlb ms H8 s8 hb Ui Zg=>?_⟩;refine⟨q7,lb,_,_,rfl,rfl,s8 _ _ JD,hb,abB (show (ao (u++w2)).length+ (ao ms).length<=100 by rw[aI,aI,abj];omega) (by decide),λq9 H9 s9 Uj=>?_⟩;rw[<-ints_app]at Uj;refine⟨by show 1<=sizeLine;decide,λll Uk=>?_⟩;have N:=s7.trans (s8.trans (s9.trans (aq.upd (o:=.lst [.ref q9]) Uk)));refine⟨l,ll,_,_,rfl,rfl,N _ _ h1,ai,?_,λq nq=>?_⟩
   ·rw[abo];exact abB (show ps.length+ 1<=100 by omega) (by decide)
   refine k q (c++[u++w2++ms]) _ (g.trans (s5.trans (N.trans (aq.upd nq)))) ⟨ps++[q9],by rw[ai,abU];rfl,((h2.same N).snoc ((aq.upd Uk) _ _ Uj)).same (aq.upd nq)⟩ (λv y=>?_) (by rw[abj,acr];omega);rcases abx.mp y with y|y
   ·have:=d v y;exact⟨this.1,by omega⟩
   ·rw[abp.mp y];exact⟨mO (mO r w6) (Zg 2 r),by rw[abj,abj];omega⟩
theorem aD.xY {K:Za1}(h:aD K H a L)(s:aq H I):aD K I a L:=by
 rcases h with (h|⟨o,h⟩)|h
 ·exact .inl (.inl (s _ _ h))
 ·exact .inl (.inr ⟨o,s _ _ h⟩)
 ·exact .inr h
theorem xT (T:Txt K mg A):bj P w K mg base (bF P w) 5 A.qK A.qL ["_law_script"] (K8 K):=by
 refine T._law_group.F.okN kb (λZ H Q E h=>?_) (λcf AA L s H Z Q E t h=>?_)
 ·obtain⟨a,r,rfl,_⟩:=h;rfl
 ·obtain⟨a,r,rfl,F,hn,k⟩:=h
  refine⟨_,(ah (aZ (i:=1) kb.nd rfl (Or.inl rfl) (bA (jJ T) (t.mono (by decide)) rfl T._law_mix.m T._law_mix.F.kp T._law_mix.b .nil aM (ae (bA (vy T) (t.mono (by decide)) rfl T._law_at.m T._law_at.F.kp T._law_at.b .nil aM (ae (pv 0) (ae ay aj))) (ae ay aj))))
   (ah (aZ (i:=2) kb.nd rfl (Or.inl rfl) (bA (xS T) (t.mono (by decide)) rfl T._law_rules.m T._law_rules.F.kp T._law_rules.b .nil aM (ae (pv 1) (ae (ig m7 (pv 0) (fb ay) (fb ay)) aj))))
   (ah (bO (bu i5 (aT cK (aT iI (pv 1) ay) ay) ay (bD _))
    (au (bf (cV (ae ay (ae (aT uq (pv 2) (cD (ae (aT kL (cV (ae ay aj)) (bA (gx T) (t.mono (by decide)) rfl T._law_word.m T._law_word.F.kp T._law_word.b .nil aM (ae (ig m7 (pv 0) (fb ay) (fb ay)) (ae ay aj)))) aj))) aj)))))
    bq)
   (au (bf (cV (ae ay (ae (pv 2) aj)))))))),?_⟩
  refine fF ?_;intro jn X fv;refine⟨_,rfl,a,r,0,rfl,F,by decide,λy=>⟨y,4,rfl,by decide,by decide,λz hz=>?_⟩⟩;refine⟨_,rfl,_,rfl,_,rfl,_,rfl,a,_,rfl,F,λp np=>?_⟩;obtain⟨ds,e,Ue⟩:=iq r (some 4) (some 28);rw[e];have m:ds.length<=24:=by rw[<-aI,<-e];unfold gf;rw[abZ,acy];unfold HT.bX;simp;omega
  have s1:aq H (upd H p (.lst (ao ds))):=aq.upd np;have M:upd H p (.lst (ao ds)) p=some (.lst (ao ds)):=ai;generalize upd H p (.lst (ao ds))=H1 at s1 M ⊢;refine⟨z,p,ds,rfl,hz,M,m,λl N H2 s2 G I PV=>?_⟩;refine⟨_,rfl,_,_,rfl,rfl,⟨by decide,by decide⟩,_,_,rfl,rfl,(by show (0:Int)<4;decide),rfl,_,rfl,dH (λ_=>?_) (λ_=>?_)⟩
  ·obtain⟨xs,O,JF⟩:=fA G;refine⟨_,rfl,by show 1<=sizeLine;decide,λV g=>⟨_,rfl,_,rfl,_,rfl,a,_,rfl,aD.xY F (s1.trans (s2.trans (aq.upd g))),λp4 j=>?_⟩⟩;obtain⟨S,e2,Y⟩:=iq r (some 4) (some 10);rw[e2];refine⟨p4,S,2,rfl,ai,by omega,by decide,by decide,λq5 u H5 s5 B hu zq=>?_⟩;refine⟨V,q5,_,_,rfl,rfl,s5 _ _ ((aq.upd j) _ _ ai),B,abB (show 1+ (ao u).length<=100 by rw[aI];omega) (by decide),λD H6 s6 C=>?_⟩;have x:=(aq.upd (o:=.tup [.int 3]) g).trans ((aq.upd (o:=.lst (ao S)) j).trans (s5.trans s6));refine⟨by show 1<=sizeLine;decide,λll n=>?_⟩;have c:=x.trans (aq.upd (o:=.lst [.ref D]) n);refine⟨l,ll,_,_,rfl,rfl,c _ _ O,ai,abB (show xs.length+ 1<=100 by omega) (by decide),λq nq=>?_⟩;refine⟨by show 2<=sizeLine;decide,λJ b=>?_⟩;have R:=(aq.upd (o:=.lst (xs++[.ref D])) nq).trans (aq.upd (o:=.tup [.int 3,.ref q]) b);obtain⟨ps,U,h2⟩:=G;rw[O]at U;cases U;refine k J q 3 (N++[3::u]) _ (s1.trans (s2.trans (c.trans R))) ai ⟨ps++[D],(aq.upd b) _ _ (by rw[ai,abU];rfl),((h2.same c).snoc ((aq.upd n) _ _ C)).same R⟩ (by decide) (by decide) (λv d=>?_) (by rw[abj,acr];omega);have up:∀{u:List Int},M11.bP 2 u->M11.bP 3 u:=λh s f=>⟨(h s f).1,abB (h s f).2 (by decide)⟩
   rcases abx.mp d with d|d
   ·exact⟨up (I v d).1,(I v d).2⟩
   ·rw[abp.mp d];refine⟨λs f=>?_,by rw[abL];omega⟩;rcases abD.mp f with rfl|f
    ·decide
    ·exact up hu s f
  ·refine⟨_,rfl,by show 2<=sizeLine;decide,λJ b=>?_⟩;exact k J l 2 N _ (s1.trans (s2.trans (aq.upd b))) ai (G.same (aq.upd b)) (by decide) (by decide) I (by omega)
theorem PX (n:Nat):(gb 0 n).Pairwise (·<= ·):=by
 unfold gb;rw[adn];exact List.Pairwise.imp (λh=>by omega) (aeB (n:=n))
theorem xU (T:Txt K mg A):bj P w K mg base (bF P w) 2 A.qO A.qP ["_law_table","_law_room","_law_made"] Bh:=by
 refine T._law_turns.F.okN pR (λL H Q E h=>?_) (λY AA u s H L Q E F h=>?_)
 ·obtain⟨a,m,TT,p,r,rfl,_⟩:=h;rfl
 ·obtain⟨a,m,TT,p,r,rfl,n,G,b,t,S,I,k⟩:=h;have R:=Nat.lt_of_succ_lt (hO F)
  refine⟨_,(ah (cC (bO (PW.pt (Hy (yc (iZ (bx fD rfl T.cZ ab8 (ae (pv 2) (ae (gy (v:=.ty "list") rfl T.g6 acA rfl) aj))))) (Hy (bu oD (bx bC rfl T.dA ab6 (ae (pv 2) aj)) (bx bC rfl T.dA ab6 (ae (pv 0) aj)) (bD _)) (Lp (bu oD (bI bL (pv 2) ay (λ_ _=>rfl)) (pv 1) (bD _))))))
   (au (bf lS))
   bq))
   (ah (cz abQ rfl (cS (pv 2)) (bK (i:=3) pR.nd rfl (Or.inl rfl))
    (au (bO (yc (iZ (bA (xP T) (F.mono (by decide)) rfl T._law_whole.m T._law_whole.F.kp T._law_whole.b .nil aM (ae (pv 3) aj))))
     (au (bf lS))
     bq)))
   (au (bf (vG (Ay R) (bx y6 rfl T.GC PyProof.Rows.boot_sorted (ae (pv 2) aj)) (pj rfl rfl T.g6 rfl T.gJ (ae (bx bC rfl T.dA ab6 (ae (pv 0) aj)) aj)) (bD _)))))),?_⟩
  refine cX ?_;intro J U;obtain⟨ps,c,q⟩:=id n;have d:ps.length=TT.length:=q.1;refine⟨λ f x=>f=[some (.ref a),some (.int r),some (.ref m),none]/\x=H,?_,?_⟩
  ·refine⟨_,rfl,_,_,_,_,rfl,.lst b,tG _ _,true,rfl,dk ?_⟩;refine⟨_,rfl,m,_,rfl,.inl (aD.of b),_,rfl,a,_,rfl,.inl (aD.of c),rfl,_,rfl,rH (by rw[aI,abo,t,d]) ?_⟩;exact⟨_,rfl,m,_,_,_,rfl,rfl,aD.of b,(show lW _ ((0:Nat):Int)=_ from cI (bV S)),_,rfl,rfl,_,rfl,rH rfl ⟨rfl,rfl⟩⟩
  rintro f x ⟨rfl,rfl⟩;refine⟨_,rfl,m,rfl,⟨_,aD.of b⟩,?_⟩;refine eR (K:=K) (a:=m) (xs:=ao p) (λi j g=>∃o:Option V,j=[some (.ref a),some (.int r),some (.ref m),o]/\g=x) ⟨none,rfl,rfl⟩ (λi j g _ ⟨_,_,e⟩=>by rw[e];exact aD.of b) ?_ ?_
  ·rintro i y j g M ⟨o,rfl,rfl⟩;obtain⟨z,rfl,_⟩:=cq M;exact⟨_,rfl,z,rfl,true,rfl,dk ⟨_,rfl,rfl⟩⟩
  ·rintro j g ⟨o,rfl,rfl⟩;refine⟨_,rfl,m,p,rfl,aD.of b,by omega,λD N C pm O=>?_⟩;refine⟨_,rfl,a,_,rfl,.inl (aD.of ((aq.upd C) _ _ c)),TT.length,by rw[abo,d],by omega,λl B=>?_⟩;refine⟨D,l,N,_,rfl,rfl,(aq.upd B) _ _ ai,ai,?_⟩;rw[abX ((pm.trans I).eq_of_pairwise (λ_ _ _ _ Z X=>Int.le_antisymm Z X) O (PX _))];exact k _ ((aq.upd C).trans (aq.upd B))
theorem Lc {ys:List V}{rows:Za3}(c:ys.length=rows.length)(h:∀(j:Nat) (v:V),ys[j]?=some v->∃p,v=.ref p/\∀row,rows[j]?=some row->H p=some (.lst (ao row))):∃rs:List Addr,ys=rs.map V.ref/\eG H rs rows:=by
 refine⟨ys.map (λv=>match v with|.ref p=>p|_=>0),?_,by rw[abo,c],λi r row a b=>?_⟩
 ·apply adk;intro j;rw[ab1,aby]
  cases e:ys[j]? with
  |none=>rfl
  |some v=>obtain⟨p,rfl,_⟩:=h j v e;rfl
 ·rw[aby]at a
  cases e:ys[i]? with
  |none=>rw[e]at a;cases a
  |some v=>
   obtain⟨p,rfl,q⟩:=h i v e;rw[e]at a;rw[<-Za0 a];exact q row b
theorem FT.turn {T:Za3}(ft:FT n m T){u v:List Int}(c:M11.bP n u)(b:M11.bP n v)(e:M11.walk T u 0=M11.walk T v 0):cj T u=cj T v:=by
 unfold cj;refine acx λi a=>?_
 rw[ft.r u v c b e i (by rw[<-ft.n];exact aca.mp a)]
theorem Fo {T:Za3}(d:M11.Tab n T){u:List Int}(c:M11.bP n u):(cj T u).Perm (gb 0 T.length):=by
 have inv:∀{w:List Int},M11.bP n w->∀i,i<T.length->M11.walk T (M11.back w) (M11.walk T w i)=i:=λ{w} m i b=>by rw[<-M11.jy];exact M11.xh d m b
 have g:M11.back (M11.back u)=u:=by unfold M11.back;rw[<-List.map_reverse,List.reverse_reverse,ab1];exact(acx λz _=>acX z).trans (List.map_id' u)
 unfold cj gb;refine(List.perm_ext_iff_of_nodup ?_ ?_).mpr λz=>?_
 ·rw[List.nodup_iff_pairwise_ne,adn];refine List.Pairwise.imp_of_mem (λ{i j} b k h e=>?_) (aeB (n:=T.length));have e:M11.walk T u i=M11.walk T u j:=by omega
  have l:=inv c i (aca.mp b);rw[e,inv c j (aca.mp k)]at l;omega
 ·rw[List.nodup_iff_pairwise_ne,adn];exact List.Pairwise.imp (λh=>by omega) (aeB (n:=T.length))
 ·rw[ach,ach];constructor
  ·rintro ⟨i,b,rfl⟩;exact⟨_,aca.mpr (M11.jx d c (aca.mp b)),ada _⟩
  ·rintro ⟨i,b,rfl⟩;have b:=aca.mp b;have f:=M11.B7 c;refine⟨M11.walk T (M11.back u) i,aca.mpr (M11.jx d f b),?_⟩;have:=inv f i b;rw[g]at this;rw[this,ada]
theorem Fq (T:Za3)(w:List Int)(s:Int):(cj T w).map (λz=>((M11.nx T (M11.pl s) z.toNat:Nat):Int))=cj T (w++[s]):=by
 unfold cj;rw[ab1];refine acx λi _=>?_
 show ((M11.nx T (M11.pl s) ((M11.walk T w i:Nat):Int).toNat:Nat):Int)=_;rw[ab2,M11.jy];rfl
theorem PY (T:Txt K mg A):bj P w K mg base (bF P w) 13 A.Iz A.IA ["_law_script"] (xX K):=by
 refine T.law.F.okN fu (λvs H Q E h=>?_) (λcf AA outer s H vs Q E g h=>?_)
 ·obtain⟨a,ns,rfl,_⟩:=h;rfl
 ·obtain⟨a,ns,rfl,hS,hlen,k⟩:=h;have G:=Nat.lt_of_succ_lt (hO g)
  refine⟨_,(ah (p7 (bA (xT T) (g.mono (by decide)) rfl T._law_group.m T._law_group.F.kp T._law_group.b .nil aM (ae (pv 0) aj)) (m3 rfl (dF (bK (i:=1) fu.nd rfl (Or.inl rfl)) (dF (bK (i:=2) fu.nd rfl (Or.inl rfl)) kA))))
   (ah (aZ (i:=3) fu.nd rfl (Or.inr rfl) (bA (wg T) (g.mono (by decide)) rfl T._law_filled.m T._law_filled.F.kp T._law_filled.b .nil aM (ae (pv 1) (ae (pv 2) (ae (bA (xR T) (g.mono (by decide)) rfl T._law_limit.m T._law_limit.F.kp T._law_limit.b .nil aM (ae (bA (jJ T) (g.mono (by decide)) rfl T._law_mix.m T._law_mix.F.kp T._law_mix.b .nil aM (ae (bA (vy T) (g.mono (by decide)) rfl T._law_at.m T._law_at.F.kp T._law_at.b .nil aM (ae (pv 0) (ae ay aj))) (ae ay aj))) aj)) aj)))))
   (ah (bO (bu m6 (pv 3) dh (bD _))
    (au (bf lS))
    bq)
   (ah (jH (iy:=4) fu.nd rfl (Or.inl rfl) (fns:=["_law_table"]) (ixs:=[3]) (cl:=_) rfl (cS (bA (xQ T) (g.mono (by decide)) rfl T.kx.m T.kx.F.kp T.kx.b .nil aM (ae (pv 3) aj))) (kl rfl rfl (by decide) rfl (by decide) rfl (by decide) (by decide) rfl rfl rfl rfl) (λC s H ex=>(bA (vA T) (g.mono (by decide)) rfl T.jB.m T.jB.F.kp T.jB.b .nil aM (ae (pv 1) (ae (pv 0) aj)))))
   (ah (bO (bu oD (bx bC rfl T.dA ab6 (ae (pv 4) aj)) (bx bC rfl T.dA ab6 (ae (pv 3) aj)) (bD _))
    (au (bf lS))
    bq)
   (ah (cz abQ rfl (iH rfl T.gJ (ae (bx bC rfl T.dA ab6 (ae (pv 3) aj)) aj)) (bK (i:=5) fu.nd rfl (Or.inl rfl))
    (au (bO (yc (iZ (bA (xU T) (g.mono (by decide)) rfl T._law_turns.m T._law_turns.F.kp T._law_turns.b .nil aM (ae (pv 3) (ae (pv 5) (ae (bI bL (pv 4) (pv 5) (λ_ _=>rfl)) aj))))))
     (au (bf lS))
     bq)))
   (ah (cz abQ rfl (iH rfl T.gJ (ae (bx bC rfl T.dA ab6 (ae (pv 3) aj)) aj)) (bK (i:=5) fu.nd rfl (Or.inl rfl))
    (au (cz abQ rfl (iH rfl T.gJ (ae (aT gW ay (pv 1)) aj)) (bK (i:=6) fu.nd rfl (Or.inr rfl))
     (ah (jH (iy:=7) fu.nd rfl (Or.inl rfl) (fns:=["_law_table","_law_k"]) (ixs:=[3,6]) (cl:=_) rfl (cS (bI bL (pv 4) (pv 5) (λ_ _=>rfl))) (ux rfl rfl rfl (by decide) rfl (by decide) rfl (by decide) (by decide) rfl rfl rfl rfl rfl rfl rfl) (λC s H ex=>(bI (ju (K:=K) rfl) (bI (ju (K:=K) rfl) (pv 1) (pv 0) (λ_ _=>rfl)) (pv 2) (λ_ _=>rfl))))
     (au (bO (bu (Ka G) (bI bL (pv 4) (bI bL (bI bL (pv 3) (pv 5) (λ_ _=>rfl)) (pv 6) (λ_ _=>rfl)) (λ_ _=>rfl)) (pv 7) (bD _))
      (au (bf lS))
      bq))))))
   (ah (aZ (i:=8) fu.nd rfl (Or.inl rfl) (bA (gx T) (g.mono (by decide)) rfl T._law_word.m T._law_word.F.kp T._law_word.b .nil aM (ae (ig m7 (pv 0) (fb ay) (fb ay)) (ae (pv 1) aj))))
   (ah (aZ (i:=5) fu.nd rfl (Or.inl rfl) ay)
   (ah (cz abQ rfl (m5 (pv 8)) (bK (i:=9) fu.nd rfl (Or.inl rfl))
    (au (aZ (i:=5) fu.nd rfl (Or.inl rfl) (bI bL (bI bL (pv 3) (pv 5) (λ_ _=>rfl)) (aT dM (aT jL (aT gW ay (bx FC rfl T.Q8 PyProof.Rows.boot_abs (ae (pv 9) aj))) ay) (dc Ds rfl T.IB PyProof.Rows.boot_int (ae (vG lT (pv 9) ay (bD _)) aj))) (λ_ _=>rfl)))))
   (au (bf (vG (Ay G) (bA (vA T) (g.mono (by decide)) rfl T.jB.m T.jB.F.kp T.jB.b .nil aM (ae (pv 3) (ae (pv 8) aj))) (bI bL (pv 4) (pv 5) (λ_ _=>rfl)) (bD _)))))))))))))),?_⟩
  refine DN ?_;intro aaF Zc Sg IH AZ ti rh jn hH fv;replace hS:aD K H a (ao ns):=hS;refine⟨_,rfl,a,ns,rfl,hS,hlen,λq l L Ws H1 s1 hq wl tf Zh hW PV=>?_⟩;refine⟨q,_,rfl,bQ.of hq,rfl,_,_,rfl,_,_,rfl,rfl,?_⟩;refine⟨_,rfl,_,rfl,_,rfl,a,ns,1,rfl,aD.xY hS s1,by decide,λy=>⟨y,5,rfl,by decide,by decide,λz hz=>⟨z,rfl,hz,λlim h1 Zi=>?_⟩⟩⟩;refine⟨l,L,lim,Ws,rfl,by omega,Zh,h1,Zi,wl,hW,PV,λH2 s2=>⟨_,rfl,rfl,_,rfl,gS (k _)⟩,λF TT N H2 s2 hT ft hN=>?_⟩;refine⟨_,rfl,rfl,_,rfl,dk ?_⟩;have Zj:=ft.n;have tab:=ft.t;have PZ:=tab.pos;refine⟨_,rfl,F,TT,L,rfl,hT,tab,ft.f,λwl ws H3 s3 _ Ou lw=>?_⟩;obtain⟨d,M,P0⟩:=Ou;have YC:ws.length=TT.length:=lw.lw.1;have aaG:d.length=ws.length:=by have:=P0.1;rw[abo]at this;exact this
  have aO:∀i,i<TT.length->∃u,ws[i]?=some u/\M11.bP L (wd u)/\M11.walk TT (wd u) 0=i:=λi hi=>by
   have e:ws[i]?=some (ws[i]'(by omega)):=abm (by omega)
   obtain⟨o1,o2,_⟩:=lw.ok i _ e;exact⟨_,e,Hs o1,o2⟩
  refine⟨wl,rfl,⟨_,aD.of M⟩,?_⟩;have el:(d.map V.ref).length=d.length:=abo ..;refine lY d.length (λi=>(d.map V.ref).getD i .non) (λO v i=>∃p,v=.ref p/\∀row,(ws.map λu=>cj TT (wd u))[i]?=some row->O p=some (.lst (ao row))) (λO Z v i s ⟨p,e,h⟩=>⟨p,e,λrow g=>s _ _ (h row g)⟩) (abB (show d.length<=100 by omega) (by decide)) (λi O s4 hi=>kK (aD.of (s4 _ _ M)) i (by omega)) (λi x O Z s4 hi y=>?_) (λO s4=>by have:=ip (aD.of (K:=K) (s4 _ _ M));rw[el]at this;exact this) (λi O Rr hi s4 kk=>?_) (λD O ys s4 nD MZ g=>?_)
  ·obtain⟨e1,e2⟩:=jr (aD.of (s4 _ _ M)) i x Z (by omega) y;exact⟨e1,by rw[abt,e2];rfl⟩
  ·obtain⟨u,G,c,f⟩:=aO i (by omega);have J:d[i]?=some d[i]:=abm hi
   generalize d[i]=wp at J;have Zk:=P0.2 i wp (wd u) J (by rw[aby,G];rfl);refine⟨_,rfl,_,rfl,F,wp,TT,L,wd u,?_,hT.same (s3.trans s4),tab,s4 _ _ Zk,c,λp Z s5 _ hp=>kk _ Z s5 ⟨p,rfl,λrow P1=>?_⟩⟩
   ·rw[abt,aby,J];rfl
   ·rw[aby,G]at P1;rw[<-Za0 P1];exact hp
  obtain⟨ms,rfl,b⟩:=Lc (rows:=ws.map λu=>cj TT (wd u)) (H:=O) (by rw[abo];omega) g;have JG:aq H3 (upd O D (.lst (ms.map V.ref))):=s4.trans (aq.upd nD);have hD:upd O D (.lst (ms.map V.ref)) D=some (.lst (ms.map V.ref)):=ai;replace b:=b.same (aq.upd (o:=.lst (ms.map V.ref)) nD);generalize upd O D (.lst (ms.map V.ref))=Z at JG hD b ⊢;have Ui:ms.length=N:=by have:=b.1;rw[abo]at this;omega
  have S:=hT.same (s3.trans JG);have Zm:=aD.xY hS (s1.trans (s2.trans (s3.trans JG)));clear g MZ el P0 M s4 JG nD
  have row:∀i,i<N->∃m u,ms[i]?=some m/\Z m=some (.lst (ao (cj TT (wd u))))/\M11.bP L (wd u)/\M11.walk TT (wd u) 0=i:=λi hi=>by
   obtain⟨u,G,c,f⟩:=aO i (by omega);have J:ms[i]?=some (ms[i]'(by omega)):=abm (by omega)
   exact⟨_,u,J,b.2 i _ _ J (by rw[aby,G];rfl),c,f⟩
  obtain⟨rs,zL,Zn⟩:=id S;have pU:(rs.map V.ref).length=N:=by rw[abo,Zn.1,Zj]
  refine⟨_,rfl,D,_,rfl,.inl (aD.of hD),_,rfl,F,_,rfl,.inl (aD.of zL),rfl,_,rfl,rH (by rw[pU,abo,Ui]) ?_⟩;refine⟨_,rfl,F,_,rfl,.inl (aD.of zL),(N:Int),by rw[pU],by omega,by omega,?_⟩;rw[ab2];refine jK (lo:=0) (n:=N) (λi t H6=>∃v5:Option V,t=[some (.ref a),some (.int L),some (.ref l),some (.ref F),some (.ref D),v5,none,none,none,none]/\aq Z H6) ⟨none,rfl,λ_ _ e=>e⟩ ?_ ?_
  ·rintro i t H6 hi ⟨v5,rfl,s6⟩;obtain⟨m,u,J,hm,c,f⟩:=row i hi;refine⟨_,rfl,_,rfl,_,rfl,_,rfl,D,_,_,_,rfl,rfl,aD.of (s6 _ _ hD),(by rw[ada];exact cG J),F,m,TT,_,i,(by rw[ada];rfl),S.same s6,by omega,s6 _ _ hm,j3 _ _,?_,Fo tab c,λH7 s7=>⟨true,rfl,dk ⟨_,rfl,s6.trans s7⟩⟩⟩;rw[ua (by omega),f]
  rintro t H6 ⟨v5,rfl,s6⟩;refine⟨_,rfl,F,_,rfl,.inl (aD.of (s6 _ _ zL)),(N:Int),by rw[pU],by omega,by omega,?_⟩;rw[ab2];refine jK (lo:=0) (n:=N) (λi t H7=>∃v5 X U:Option V,t=[some (.ref a),some (.int L),some (.ref l),some (.ref F),some (.ref D),v5,X,U,none,none]/\aq Z H7) ⟨v5,none,none,rfl,s6⟩ ?_ ?_
  ·rintro i t H7 hi ⟨v5,X,U,rfl,s7⟩;refine⟨_,rfl,_,_,rfl,rfl,.inl ⟨by decide,by decide⟩,2* (L:Int),rfl,by omega,by omega,?_⟩;rw[show (2* (L:Int)).toNat=2* L by omega];refine jK (lo:=0) (n:=2* L) (λj t I=>∃X U:Option V,t=[some (.ref a),some (.int L),some (.ref l),some (.ref F),some (.ref D),some (.int (i:Int)),X,U,none,none]/\aq Z I) ⟨X,U,by rw[ada];rfl,s7⟩ ?_ (λ t I ⟨X,U,e,B⟩=>⟨_,X,U,e,B⟩);rintro j t I hj ⟨X,U,rfl,B⟩;obtain⟨m,u,J,hm,c,f⟩:=row i hi;have Y:=B _ _ hm;refine⟨_,rfl,_,rfl,D,_,_,_,rfl,rfl,aD.of (B _ _ hD),cG J,m,rfl,⟨_,aD.of Y⟩,?_⟩
   have eg:∀x:Nat,x<TT.length->∃(rs:List Addr) (r:Addr) (row:List Int),I F=some (.lst (rs.map V.ref))/\rs[x]?=some r/\I r=some (.lst (ao row))/\row[j]?=some ((M11.nx TT j x:Nat):Int):=λx hx=>by
    obtain⟨rs,r,row,h1,h2,h3,_,h5⟩:=r9 (S.same B) tab hx;exact⟨rs,r,row,h1,h2,h3,h5 j hj⟩
   refine iJ (ao (cj TT (wd u))) (λv=>match v with|.int z'=>.int ((M11.nx TT j z'.toNat:Nat):Int)|v=>v) (kK (aD.of Y)) (jr (aD.of Y)) (ip (aD.of Y)) (by rw[aI,j3];exact abB (show TT.length<=100 by omega) (by decide)) (λi' x hx R hR=>?_) (λE nE=>?_)
   ·have Jw:i'<TT.length:=by
     have:=(abk.mp hx).1;rw[aI,j3]at this;exact this
    rw[bV (ua Jw)]at hx;have ex:=Za0 hx;subst ex;obtain⟨rs,r,row,h1,h2,h3,h5⟩:=eg _ (M11.jx tab c Jw);have Zo:R (V.int ((M11.nx TT j (M11.walk TT (wd u) i'):Nat):Int)) I:=hR;exact⟨_,rfl,_,rfl,F,_,_,_,rfl,rfl,aD.of h1,cG h2,_,rfl,r,_,_,_,rfl,rfl,aD.of h3,(by rw[ada];exact cI (bV h5)),Zo⟩
   have e:((ao (cj TT (wd u))).map λv=>match v with|.int z'=>V.int ((M11.nx TT j z'.toNat:Nat):Int)|v=>v)=ao (cj TT (wd u++[M12.st j])):=by
    rw[<-Fq,M12.uH];unfold ao;rw[ab1,ab1];rfl
   rw[e];have s9:aq I (upd I E (.lst (ao (cj TT (wd u++[M12.st j]))))):=aq.upd nE;have hE:upd I E (.lst (ao (cj TT (wd u++[M12.st j])))) E=some (.lst (ao (cj TT (wd u++[M12.st j])))):=ai;generalize upd I E (.lst (ao (cj TT (wd u++[M12.st j]))))=H9 at s9 hE ⊢;obtain⟨rs,r,rw_,h1,h2,h3,h5⟩:=eg i (by omega);have qc:=tab.lt i j (by omega) hj;obtain⟨m2,u2,g2,EG,Vu,Vv⟩:=row (M11.nx TT j i) (by omega);refine⟨_,rfl,_,rfl,_,rfl,F,_,_,_,rfl,rfl,aD.of (s9 _ _ h1),cG h2,_,rfl,r,_,_,_,rfl,rfl,aD.of (s9 _ _ h3),(by rw[ada];exact cI (bV h5)),D,_,_,_,rfl,rfl,aD.of (s9 _ _ (B _ _ hD)),cG g2,_,rfl,m2,E,_,_,rfl,rfl,s9 _ _ (B _ _ EG),hE,_,rfl,?_⟩;rw[abX (ft.turn Vu (mO c (λs hs=>by rw[abp.mp hs];exact M12.B9 hj)) (by rw[Vv,M11.jy,f];show _=M11.nx TT (M11.pl (M12.st j)) i;rw[M12.uH]))];exact dk ⟨_,_,rfl,B.trans s9⟩
  rintro t H7 ⟨v5,X,U,rfl,s7⟩;refine⟨_,rfl,_,rfl,_,rfl,a,_,rfl,aD.xY Zm s7,λp np=>?_⟩;obtain⟨ds,e,Ue⟩:=iq ns (some 4) (some 63);rw[e];refine⟨_,rfl,p,ds,L,rfl,ai,by omega,by omega,by omega,λqw u I B P8 G zq=>?_⟩;replace B:=s7.trans ((aq.upd np).trans B);refine⟨_,rfl,qw,rfl,⟨_,bQ.of P8⟩,?_⟩;refine vE (K:=K) (a:=qw) (xs:=ao u) (λn t H9=>∃v9:Option V,t=[some (.ref a),some (.int L),some (.ref l),some (.ref F),some (.ref D),some (.int ((M11.walk TT (u.take n) 0:Nat):Int)),X,U,some (.ref qw),v9]/\H9=I) ⟨none,rfl,rfl⟩ (λi t H9 _ ⟨_,_,e⟩=>by rw[e];exact bQ.of P8) ?_ ?_
  ·rintro n y t H9 hn ⟨v9,rfl,rfl⟩;obtain⟨z,rfl,hz⟩:=cq hn;have hs:=G z (abn hz);have qc:=M11.jx tab (vz n G) PZ;obtain⟨rs,r,row,t1,t2,t3,_,t5⟩:=r9 (S.same B) tab qc
   have Zq:2* (if z<0 then -z else z) - 2+ (if decide (z<0)=true then 1 else 0)=((M11.pl z:Nat):Int):=by
    unfold M11.pl;by_cases h:z<0
    ·rw[abN h,abN (abX h),abH (show ¬ 0<z by omega)];omega
    ·rw[abH h,abH (by rw[acj h];decide),abN (show 0<z by omega)];omega
   refine⟨_,rfl,_,rfl,F,_,_,_,rfl,rfl,aD.of t1,cG t2,_,rfl,z,rfl,_,_,rfl,rfl,.inl ⟨by decide,by decide⟩,_,_,rfl,rfl,_,rfl,_,_,rfl,rfl,_,rfl,_,_,rfl,rfl,?_⟩;rw[Zq];refine⟨r,_,_,_,rfl,rfl,aD.of t3,cI (bV (t5 _ (M11.rX hs))),?_⟩;exact⟨_,by rw[xF hz];rfl,rfl⟩
  rintro t H9 ⟨v9,rfl,rfl⟩;rw[aI,acN];have qc:=M11.jx tab G PZ;obtain⟨m,w,J,hm,c,f⟩:=row (M11.walk TT u 0) (by omega);refine⟨_,rfl,_,rfl,F,qw,TT,L,u,rfl,S.same B,tab,P8,G,λlr A0 Ul _ Ff=>?_⟩;refine⟨_,rfl,_,rfl,D,_,_,_,rfl,rfl,aD.of (Ul _ _ (B _ _ hD)),cG J,lr,m,_,_,rfl,rfl,Ff,Ul _ _ (B _ _ hm),?_⟩;rw[abX (ft.turn G c f.symm)];exact k _
end
theorem all_mk {l:PySem.W.OpenLaw}(Zr:M "law"=some (.ref a))
 {b d g h f c:Addr}
 {f1 f2 f3 f4 f5 f6 f7 f8 f9 EB V ED Zt R IX r Zu J Zv Zw Zx Zy X N Zz j ZC ZD ZE ZF n H E ZG ZH ZI ZJ u ZK ZL m ZM ZN ZO y O x ZP ZQ D S ZR:Addr} {d1 d2 d3 d4 d5 d6 d7 d8 d9 ZS k I ZT ZU F ZV ZW q ZX ZY ZZ P Z0 U Z1 A L Z2 Q Z3 Z4 Z5 Z6 C G Z7 Z8 Y Z9 d40 W o d43 d44 B i z t d49 Z d51 p:FuncData}
 (T:Txt K M ⟨f1,d1,f2,d2,f3,d3,f4,d4,f5,d5,f6,d6,f7,d7,f8,d8,f9,d9,EB,ZS,V,k,ED,I,Zt,ZT,R,ZU,IX,F,r,ZV,Zu,ZW,J,q,Zv,ZX,Zw,ZY,Zx,ZZ,Zy,P,X,Z0,N,U,Zz,Z1,j,A,ZC,L,ZD,Z2,ZE,Q,ZF,Z3,n,Z4,H,Z5,E,Z6,ZG,C,ZH,G,ZI,Z7,ZJ,Z8,u,Y,ZK,Z9,ZL,d40,m,W,ZM,o,ZN,d43,ZO,d44,y,B,O,i,x,z,ZP,t,ZQ,d49,D,Z,S,d51,ZR,p,b,d,g,h,f,c⟩)
 :∃fd:FuncData,(∀(s:Shared) (v:Value),BindsTo s fd ⟨[v],[]⟩ [("_law_script",v)])/\∀base:Heap,K.In base->base.Ns mainGlobals M->bj l.prog w K M base (bF l.prog w) 13 a fd ["_law_script"] (xX K):=by
 have e:=Zr.symm.trans T.law.m;cases e;obtain⟨kV,doc,pm,an,cf,ct,e⟩:=T.law.fd;exact⟨_,λs v=>by rw[e];exact .of_eq rfl,λbase _ _=>PY T⟩
theorem walk {l:PySem.W.OpenLaw}{loose:List Str}{XP:(Str->Option Value)->Heap->Prop}{g:World->Heap->Prop}{d:DefRec}{K:Params->Za1}(i:l.most=some 63)(c:d.params.defaults=[])
 (q:∀(w:World) (h:Heap),g w h->(K w.params).In h)
 (F:∀(w:World) (b:Str->Option Value) (e:Addr) (h:Heap),(K w.params).In h->h.Ns mainGlobals b->b d.name=some (.ref e)->
  ∃fd:FuncData,(∀(s:Shared) (u:Value),BindsTo s fd ⟨[u],[]⟩ [("_law_script",u)])/\∀base:Heap,(K w.params).In base->base.Ns mainGlobals b->bj l.prog w (K w.params) b base (bF l.prog w) 13 e fd ["_law_script"] (xX (K w.params))):
 PySem.W.WalkO P loose XP g l.row.toRowW d [] (λf j=>PySem.call f j):=
 L2.JV (n:=63) (k:=13) (x:="_law_script") (CX:=λw=>(bF l.prog w)) (sp:=λw=>xX (K w.params)) i (by decide) c ⟨rfl,by decide,by decide⟩ q F (λ_ _ a o m _ p=>⟨a,o,rfl,p,m,λ_=>rfl⟩) λ_ _ _ _ _ z=>Iq z
end K55
open PySem PySem.W PyProof.Rows
namespace PySem.W.Fast
def tw17692265097332249723:=0
def tw14024741058407472748:=0
def tw12135319499539219462:=0
def tw17160491252615387756:=0
def tw17074039532019957049:=0
def tw7645798583841506577:=0
def tw12523517434206923793:=0
def tw5065743644609644884:=0
def tw2618402301318610063:=0
def tw17704614591546727204:=0
def tw10818206964556794273:=0
def tw12537043384445418270:=0
def tw7102876489643953338:=0
def tw5994498764649436007:=0
def tw9303173368338043166:=0
def tw14395296809491156370:=0
def tw5856870775436820835:=0
def tw2616166019359357202:=0
def tw4851422931444831934:=0
def tw2161162836056250105:=0
def tw7721554442676701357:=0
def tw5098828403140876074:=0
def tw4731892971869079335:=0
def tw5350668020645350355:=0
def tw2307240128526120607:=0
def tw2547523042677615866:=0
def tw7854456382869174253:=0
def tw18135357081895527875:=0
def tw11564199326184054129:=0
def tw12636809695455102850:=0
def tw4135125497261725945:=0
def tw10975174700849633166:=0
def tw4433225185806351809:=0
def tw3744992786967585719:=0
def tw9455189456455175283:=0
def tw1270738935220335029:=0
def tw6695196155717845783:=0
def tw7997576759660326431:=0
def tw15434305762338460681:=0
def tw12707630423899030072:=0
def tw11487438696734520964:=0
def tw5864882234411296191:=0
def tw12483281393387861995:=0
def tw3845128382986642635:=0
def tw14635408191978923618:=0
def tw6392166491464994096:=0
def tw10234649608651666527:=0
def tw1353846072607095806:=0
def tw14895347713353471855:=0
def tw8099787047858571487:=0
def tw14547683858043082720:=0
def tw14943149957771250668:=0
def tw4611138352485441833:=0
def tw11187333019050682293:=0
def tw6473445109739852513:=0
def tw14026305732913572225:=0
def tw955210421469455150:=0
def tw5660173791890393757:=0
def tw3084703872835579601:=0
def tw13136056386050394025:=0
def tw5607752108744653838:=0
def tw3417935187350657443:=0
def tw12277070794965014414:=0
def tw7221942897214865901:=0
def tw6428322351378898420:=0
def tw1282348741066147329:=0
def tw17169757019450064166:=0
def tw8917486397943604387:=0
def tw6366847705516851283:=0
def tw2413260019604476974:=0
def tw11732425248385686906:=0
def tw10626475622373091974:=0
def tw16613044250419619757:=0
def tw5963649144607102690:=0
def tw13662824023080870982:=0
def tw6063925504559943493:=0
def tw210247722932414910:=0
def tw6780158265475204299:=0
def tw31764367508753208:=0
def tw14969353650541554622:=0
def tw5177066544972859254:=0
def tw8406519696549616810:=0
def tw13869529397062013505:=0
def tw13802309053632739199:=0
def tw15613789697441649018:=0
def tw8997392514219197536:=0
def tw17674238873542163508:=0
def tw17656030725422033373:=0
def tw7000466822434777500:=0
def tw2891616796773132648:=0
def tw15861384215215342990:=0
def tw5272881120292847981:=0
def tw13879820302188176200:=0
def tw6623064030356493211:=0
def tw1113874907466944620:=0
def tw7338984414151894961:=0
def tw224001924054998646:=0
def tw3259339784548190039:=0
def tw8878550313182234850:=0
def tw5717121756669837484:=0
def tw13895516617068280100:=0
def tw8621666118977285667:=0
def tw14232130981845220063:=0
def tw3220455475256848399:=0
def tw11652350008328006937:=0
def tw13066909950162348591:=0
def tw13008609189913951562:=0
def tw15688400685803442105:=0
def tw17749677152488671449:=0
def tw6572606232713222199:=0
def tw7992821917409111192:=0
def tw16167728281088925186:=0
def tw15908196486384623672:=0
def tw16728441773908965818:=0
def tw14956463679440747881:=0
def tw10784562120463890729:=0
def tw6470677111869551208:=0
def tw5795626627963173758:=0
def tw12251263432618151218:=0
def tw8292920165881540958:=0
def tw7557412880563107017:=0
def tw11085532564863478224:=0
def tw15045854956681608817:=0
def tw8729183357898348308:=0
def tw8672936042367698849:=0
def tw15370753556747852008:=0
def tw6585454724923613060:=0
def tw2472745444715033230:=0
def tw2497165743873433342:=0
def tw9909790349952117252:=0
def tw3634337076760184863:=0
def tw7960206744392674613:=0
def tw7400012258261189947:=0
def tw5564223711410233456:=0
def tw13577284265096552204:=0
def tw2257369542669865088:=0
def tw2832051910045121288:=0
def tw13413141145943820793:=0
def tw11008146204597242972:=0
def tw2544312513018497353:=0
def tw2044222461432289357:=0
def tw6655312245249966612:=0
def tw16414641608923453533:=0
def tw15330071429991486022:=0
def tw3844203740481310061:=0
def tw17564887400397083873:=0
def tw16991069538272490878:=0
def tw14349495673486045691:=0
def tw11571920995203411540:=0
def tw7866223347547916226:=0
def tw3713402010869672498:=0
def tw15975227878502196611:=0
def tw14908265437918018085:=0
def tw4858047324781607180:=0
def tw11154578717072500178:=0
def tw10445667111117644073:=0
def tw14530639511752917709:=0
def tw12155476858128119132:=0
def tw14578501658333324734:=0
def tw2841250585230431481:=0
def tw14890745987961779088:=0
def tw11828081500656351532:=0
def tw16359879058830756019:=0
def tw11657439337497183213:=0
def tw2616430242061238034:=0
def tw2192638774360772222:=0
def tw12415553456553835704:=0
def tw353757668240461209:=0
def tw15140326071595972842:=0
def tw15751205429997944673:=0
def tw17292325113865007915:=0
def tw7790207831532996622:=0
def tw5508819253114429160:=0
def tw12576534688096514140:=0
def tw17752979909847290898:=0
def tw15209069805274330565:=0
def tw4960571074901211033:=0
def tw2281902957046791920:=0
def tw7312198309138470661:=0
def tw10898104240495504060:=0
def tw11690152582094545425:=0
def tw13701385128090137095:=0
def tw14194936330973241479:=0
def tw6339536374526615474:=0
def tw14776891243209274636:=0
def tw16904183357953407370:=0
def tw9104483714931448023:=0
def tw17309574831323459025:=0
def tw2680328451625863412:=0
def tw15134139440514984745:=0
def tw12841834386269163518:=0
def tw15009491915919212579:=0
def tw11951762579534389409:=0
def tw1837396723322347863:=0
def tw8131045546811610162:=0
def tw16277736219865586882:=0
def tw14892409886238731785:=0
def tw7815036402943646598:=0
def tw5821480594914116532:=0
def tw9446458751147678305:=0
end PySem.W.Fast
end
set_option maxRecDepth 100000 in
set_option maxHeartbeats 0 in
theorem PySem.Challenge.cw_cosetyard_k55_whole_alike_from_each_room_holds : PySem.Challenge.rw_cosetyard_k55_whole_alike_from_each_room.Holds := by
  w_on; o_law; k_head;(case hw => w_witness2)
  k_fill
  refine K55.walk (l := PySem.Challenge.rw_cosetyard_k55_whole_alike_from_each_room) rfl rfl (fun w h Y => PySem.W.km_in_of Y) ?F
  case F =>
    intro w mg fa h KX G hmg
    refine' K55.all_mk hmg ⟨?D1,?D2,?D3,?D4,?D5,?D6,?D7,?D8,?D9,?D10,?D11,?D12,?D13,?D14,?D15,?D16,?D17,?D18,?D19,?D20,?D21,?D22,?D23,?D24,?D25,?D26,?D27,?D28,?D29,?D30,?D31,?D32,?D33,?D34,?D35,?D36,?D37,?D38,?D39,?D40,?D41,?D42,?D43,?D44,?D45,?D46,?D47,?D48,?D49,?D50,?D51,?D52,?z1,?z2,?z3,?z4,?z5,?z6,?z7,?z8,?z9,?z10,?z11,?z12,?z13,?z14,?y_YardError,?y_TooMany,?y_Order,?y_Rooms,?y_Going,?y_Closing,_,_,_,_,_,_,_,_,_,_,_,_,_,_,_,_,_,_,_,_,_,_,_,_,_,_,_,_,_,_,_,_,_,_,_,_,_,_,_,_,_,_,_,_,_,_,_,_,_,_,_,_,_,_,_,_,_,_,_,_,_,_⟩
    all_goals try dsimp only
    (case y_YardError|y_TooMany|y_Order|y_Rooms|y_Going|y_Closing => refine' PySem.W.mg_of KX G ?a;(case a => k_is))
    (case D1|D2|D3|D6|D7|D9|D10|D12|D13|D17|D18|D20|D21|D24 => refine' L2.Def.of KX G ?_ ?_ ?_ ?_ (fun _ _ _ _ _ _ _ hl => by obtain ⟨_, rfl⟩ := L2.args_is1 hl; rfl);all_goals try k_is)
    (case D4|D8|D14|D15|D16|D19 => refine' L2.Def.of KX G ?_ ?_ ?_ ?_ (fun _ _ _ _ _ _ _ hl => by obtain ⟨_, _, rfl⟩ := L2.args_is2 hl; rfl);all_goals try k_is)
    (case D5|D22|D23 => refine' L2.Def.of KX G ?_ ?_ ?_ ?_ (fun _ _ _ _ _ _ _ hl => by obtain ⟨_, _, _, rfl⟩ := L2.args_is3 hl; rfl);all_goals try k_is)
    (case D11 => refine' L2.DDef.of KX G ?_ ?_ ?_ ?_ ?_ (fun _ _ _ _ _ _ _ hl => by obtain ⟨_, _, _, _, _, rfl⟩ := L2.args_is5 hl; exact ⟨_, rfl, rfl⟩) (fun _ _ _ _ _ _ _ hl => by obtain ⟨_, _, _, _, rfl⟩ := L2.args_is4 (Nat.succ.inj hl); exact ⟨_, rfl, rfl⟩);all_goals try k_is)
    (case D25|D33|D37|D42|D44|D50|D52 => refine' L2.MDef.of ?_ ?_ ?_ ?_ ?_ (fun _ _ _ _ _ _ _ hl => by obtain ⟨_, _, _, rfl⟩ := L2.args_is3 hl; rfl);all_goals try k_is)
    (case D26|D29|D31|D35|D49 => refine' L2.MDef.of ?_ ?_ ?_ ?_ ?_ (fun _ _ _ _ _ _ _ hl => by obtain ⟨_, _, _, _, rfl⟩ := L2.args_is4 hl; rfl);all_goals try k_is)
    (case D27|D28|D30|D34|D36|D39|D40|D41|D45|D48 => refine' L2.MDef.of ?_ ?_ ?_ ?_ ?_ (fun _ _ _ _ _ _ _ hl => by obtain ⟨_, _, rfl⟩ := L2.args_is2 hl; rfl);all_goals try k_is)
    (case D32|D38|D46|D47 => refine' L2.MDef.of ?_ ?_ ?_ ?_ ?_ (fun _ _ _ _ _ _ _ hl => by obtain ⟨_, rfl⟩ := L2.args_is1 hl; rfl);all_goals try k_is)
    (case D43 => refine' L2.MDef.of ?_ ?_ ?_ ?_ ?_ (fun _ _ _ _ _ _ _ hl => by obtain ⟨_, _, _, _, _, rfl⟩ := L2.args_is5 hl; rfl);all_goals try k_is)
    (case D51 => refine' L2.MDef.of ?_ ?_ ?_ ?_ ?_ (fun _ _ _ _ _ _ _ hl => by obtain ⟨_, _, _, _, _, _, rfl⟩ := L2.args_is6 hl; rfl);all_goals try k_is)
    (case z1|z2|z3|z4|z5|z6|z7|z8|z9|z10|z11|z12|z13|z14 => refine' PySem.W.mg_none_of KX G ?a;(case a => k_is))
    all_goals first|k_is|kit_is|kts_exm|kernel_rfl
