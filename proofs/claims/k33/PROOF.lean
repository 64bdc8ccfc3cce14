import PyProof.Rows.All
import Wide.All
import OpenK.AllK
import Wide.FinOn
import Lean
import PyProof.EqAt
import PyProof.EqKinds
import PyProof.TupleCall
import PyProof.FString
import OpenK.KOwn
import KE.KTryMore
import PyProof.NsDelKeeps
import PyProof.StrBlock2
import PyProof.AutoListH
import KE.KIntText
import PyProof.Rows.StrIntSpec
import KE.KRevIter
import PyProof.StrWalks
import PyProof.CompUse
import PyProof.NeKinds
import PyProof.Rows.Range3
import PyProof.Rows.EnumRows
import PyProof.ConsumeWalk
import PyProof.Rows.SeqGen
import PyProof.StrLawsRepr
import PyProof.ZipIter
import PyProof.Rows.FactsT2
import PyProof.EnumMake
import PyProof.DictWalks
import PyProof.DictTruth
import PyProof.ListRange
import PyProof.ListStr
import PyProof.TupleOfGen
import PyProof.TupleOfSeq
import PyProof.MinMaxWalk
import PyProof.WalkInts
import KE.KSortAsk
import PyProof.MeetsSeq3
import KE.KRevSl
import PyProof.Rows.SeqMore
import PyProof.ListMulRoad
import PyProof.Rows.SumAny
import PyProof.SeqI3
import PyProof.AttrMissSeq
import KE.KDictOf
import PyProof.Rows.StrCut
import PyProof.Rows.StrSplitCount
import PyProof.DictItems
import PyProof.Rows.SortWalk
import PySem.Challenge.RW_cosetyard_k33_whole_table_stands
set_option Elab.async false
set_option linter.all false
set_option maxRecDepth 100000
set_option compiler.extract_closed false
set_option compiler.small 0
set_option genSizeOfSpec false
set_option maxHeartbeats 4000000
noncomputable section
local macro_rules|`(tactic|decide)=>`(tactic|decide +kernel)
local macro_rules|`(tactic|ac_rfl)=>`(tactic|exact⟨rfl,rfl,rfl,by decide,rfl,by decide,by decide⟩)
local macro_rules|`(⟨$x,*⟩)=>do
  let mut r:Array Lean.Term:=#[]
  let mut b:=false
  for e in x.getElems do
    match e.raw.isNatLit? with
    |some n=>
      b:=true
      for c in (toString n).toList do r:=r.push (←if c='1'then`(_)else if c='2'then`(rfl)else if c='3'then`(by omega)else if c='4'then`(by decide)else`(?_))
    |_=>r:=r.push e
  if b then`(⟨$r,*⟩)else Lean.Macro.throwUnsupported
local macro_rules|`(tactic|erw[$r,*])=>do let a:=r.getElems.map λe=>(⟨e.raw[1]⟩:Lean.Term);`(tactic|refine⟨$a,*, ?_⟩)
local macro_rules|`(tactic|rwa[$r,*])=>do let a:=r.getElems.map λe=>(⟨e.raw[1]⟩:Lean.Term);if a.size=1&&(a[0]!).raw.isNatLit?.isNone then`(tactic|refine $(a[0]!))else`(tactic|exact⟨$a,*⟩)
local macro_rules|`([$x,*]▸$e)=>do let a←x.getElems.mapM λt=>do match(⟨t⟩:Lean.Term)with|`(-$s)=>`(Lean.Parser.Tactic.rwRule|←$s:term)|s=>`(Lean.Parser.Tactic.rwRule|$s:term)
                                   `(by rw[$a,*];exact $e)
def CVP:Nat→Lean.Term→Lean.MacroM (Lean.TSyntax `rcasesPat)
|0,_=>Lean.Macro.throwUnsupported
|n+1,t=>do match t with
  |`(⟨$x,*⟩)=>let a←x.getElems.mapM λt=>do`(Lean.Parser.Tactic.rcasesPatLo|$(←CVP n t):rcasesPat)
              `(rcasesPat|⟨$a,*⟩)
  |`($i:ident)=>`(rcasesPat|$i:ident)
  |`(_)=>`(rcasesPat|_)
  |_=>Lean.Macro.throwUnsupported
local macro_rules|`(tactic|let $p:term:=$e)=>do match p with|`(⟨$_,*⟩)=>`(tactic|obtain $(←CVP 9 p):rcasesPat:=$e)|_=>Lean.Macro.throwUnsupported
local macro_rules|`(∅)=>`(by omega)
local macro_rules|`(⋯)=>`(by decide)
local macro_rules|`(tactic|omega)=>`(tactic|lia)
local macro_rules|`($a\$b)=>`($a=some $b)
local macro_rules|`($a^$b)=>match b.raw.isNatLit? with|some _=>Lean.Macro.throwUnsupported|_=>`($a _ _ $b)
local macro_rules|`(↥$s)=>`(($s).heap.objs.size)
local macro_rules|`(#v[$x,*])=>do let a←x.getElems.mapM λe=>do if e.raw.isOfKind `coeNotation||e.raw.isOfKind ``Lean.Parser.Term.dotIdent||e.raw[0].isOfKind ``Lean.Parser.Term.dotIdent then`(some $e)else pure e
                                  `([$a,*])
local macro_rules|`(s!"")=>`(by intro _ z;cases z)
local macro_rules|`(f!"")=>`(by intro z;cases z)
local macro_rules|`($s<*$h)=>`({ $s with heap:=$h })
local macro_rules|`(⇑$s)=>`(($s).length)
local macro_rules|`(↑$s)=>`(.ref $s)
local macro_rules|`(tactic|let $x:ident$[:$t]?:=$e)=>`(tactic|have $x$[:$t]?:=$e)
local macro_rules|`(tactic|trivial)=>`(tactic|first|exact Or.inl rfl|exact Or.inr rfl|exact Or.inr (.inl rfl)|exact Or.inr (.inr rfl)|assumption)
local macro_rules|`(tactic|cbv)=>`(tactic|grind -abstractProof)
local macro_rules|`(tactic|ext $p*)=>match p with|#[]=>`(tactic|omega)|_=>let i:Lean.Ident:=⟨p[0]!.raw[0][0]⟩;`(tactic|cases $i:ident)
local macro_rules|`($a:str>>>$b)=>`({ cls:=.type $a,data:=$b })
local macro_rules|`($x⁻¹)=>`(PySem.wpAny (PySem.model ($x).prog ($x).w))
local macro_rules|`($x<|>$y)=>`(PySem.wpAny (PySem.model $x $y))
local macro_rules|`(universe $x*)=>do return Lean.mkNullNode (←x.mapM λi=>do return(←`(command|def $i:ident:=Nat)).raw)
abbrev Zg:=List Int
abbrev Zh:=List Nat
abbrev Zi:=Option Nat
abbrev Zj:=Option Int
abbrev Zk:=List PySem.Value
abbrev Zl:=Option PySem.Value
abbrev Zm:=Array PySem.Value
abbrev Zn:=List PySem.Addr
abbrev Zo:=Option PySem.Addr
abbrev Zp:=List PySem.Str
abbrev Zq:=List PySem.Env
abbrev Zr:=List PySem.Expr
abbrev Zs:=PySem.Addr
abbrev Zt:=PySem.Value
abbrev Zu:=PySem.Shared
abbrev Za0:=@Option.some.inj
abbrev Za1:=PySem.W.Frag
abbrev Za2:=Nat->Int->Nat->Prop
abbrev Za3:=List Zg
def Za4 (n:Nat)(h:n<=PySem.sizeLine:=by decide):n<=PySem.sizeLine:=h
abbrev agI:=@PySem.wpAny_bind
abbrev agJ:=@List.getElem?_eq_getElem
abbrev agK:=@List.mem_of_getElem?
abbrev agL:=@PySem.Heap.get?_push_of_some
abbrev agM:=@List.getElem?_eq_some_iff
abbrev agN:=@List.length_append
abbrev agO:=@List.length_map
abbrev agP:=@PySem.wpAny_pure
abbrev agQ:=@Nat.le_refl
abbrev agR:=@List.mem_singleton
abbrev agS:=@List.mem_append_right
abbrev agT:=@List.getD_eq_getElem?_getD
abbrev agU:=@Nat.lt_of_le_of_lt
abbrev agV:=@List.getElem?_append_left
abbrev agW:=@List.getElem?_append_right
abbrev agX:=@List.mem_append
abbrev agY:=@PySem.F.plainAttrs_list
abbrev agZ:=@PySem.Heap.get?_push_size
abbrev ag0:=@List.getElem?_map
abbrev ag2:=@List.mem_cons_self
abbrev ag3:=@Nat.le_trans
abbrev ag4:=@List.mem_cons
abbrev ag6:=@List.size_toArray
abbrev ag8:=@PySem.Heap.lt_size
abbrev ag9:=@beq_eq_false_iff_ne
abbrev aha:=@PySem.F.slot_list_append
abbrev ahb:=@PySem.F.type_list_append
abbrev ahc:=@if_neg
abbrev ahd:=@List.mem_append_left
abbrev ahe:=@PySem.PassesOwn.never
abbrev ahf:=@if_pos
abbrev ahg:=@Nat.zero_le
abbrev ahh:=@Nat.lt_of_lt_of_le
abbrev ahi:=@List.length_cons
abbrev ahj:=@List.length_set
abbrev ahk:=@Nat.ne_of_lt
abbrev ahl:=@List.append_nil
abbrev ahm:=@List.mem_cons_of_mem
abbrev ahn:=@Int.toNat_natCast
abbrev aho:=@List.map_append
abbrev ahp:=@decide_eq_true
abbrev ahq:=@of_decide_eq_true
abbrev ahr:=@List.length_take
abbrev ahs:=@List.nodup_cons
abbrev aht:=@PyProof.Rows.boot_isinstance
abbrev ahu:=@PySem.boot_len
abbrev ahv:=@PySem.Heap.get?_update_self
abbrev ahw:=@List.length_range
abbrev ahx:=@PySem.Heap.get?_update_other
abbrev ahy:=@List.not_mem_nil
abbrev ahz:=@List.getElem?_eq_none
abbrev ahA:=@decide_eq_false
abbrev ahB:=@PyProof.Rows.boot_list
abbrev ahC:=@Bool.false_ne_true
abbrev ahD:=@decide_eq_true_iff
abbrev ahE:=@List.map_map
abbrev ahF:=@List.getElem?_of_mem
abbrev ahG:=@List.mem_range
abbrev ahH:=@List.getElem?_set_self
abbrev ahI:=@PySem.wpAny_newObj_type
abbrev ahJ:=@List.append_assoc
abbrev ahK:=@List.nodup_append
abbrev ahL:=@PySem.Calls.spliced_cons
abbrev ahM:=@PyProof.Rows.callWith_type1
abbrev ahN:=@PySem.wpAny_mono
abbrev ahO:=@List.mem_map
abbrev ahP:=@List.length_drop
abbrev ahQ:=@PySem.wpAny_callSpecial?_slot
abbrev ahR:=@PySem.wpAny_field
abbrev ahS:=@List.map_congr_left
abbrev ahT:=@PySem.Calls.callWith_builtin
abbrev ahU:=@PySem.wpAny_call_entry
abbrev ahV:=@PyProof.Rows.slot_tuple_getitem
abbrev ahW:=@PySem.wpAny_Call_Name_kw
abbrev ahX:=@List.length_singleton
abbrev ahY:=@PySem.wpAny_holding
abbrev ahZ:=@congrArg
abbrev ah0:=@Nat.ne_of_gt
abbrev ah1:=@Option.map_eq_some_iff
abbrev ah2:=@Nat.lt_irrefl
abbrev ah3:=@List.map_cons
abbrev ah4:=@PySem.wpAny_setField_rec
abbrev ah5:=@Ne.symm
abbrev ah6:=@Bool.eq_iff_iff
abbrev ah7:=@PySem.F.plainAttrs_dict
abbrev ah8:=@List.getElem?_set_ne
abbrev ah9:=@Int.emod_lt_of_pos
abbrev aia:=@PySem.W.kia_one
abbrev aib:=@List.range_succ
abbrev aic:=@Nat.lt_succ_self
abbrev aid:=@List.take_length
abbrev aie:=@List.eq_nil_of_length_eq_zero
abbrev aif:=@PySem.F.slot_dict_itemiterator_next
abbrev aih:=@PySem.mem_of_lookup
abbrev aii:=@PySem.Heap.SameBut.update
abbrev aij:=@PySem.Calls.spliced_nil
abbrev aik:=@Nat.lt_succ_of_lt
abbrev ail:=@PySem.F.slot_dict_keyiterator_next
abbrev aim:=@List.take_succ
abbrev ain:=@Int.emod_nonneg
abbrev aio:=@List.length_nil
abbrev aip:=@PySem.Obj.data_mapFields
abbrev aiq:=@PySem.Calls.evalArgs_plain
abbrev air:=@Nat.mul_le_mul_right
abbrev ais:=@List.mem_flatMap
abbrev ait:=@Array.getElem?_eq_some_iff
abbrev aiu:=@Array.length_toList
abbrev aiv:=@List.pairwise_map
abbrev aiw:=@PySem.Heap.size_push
abbrev aix:=@List.nodup_nil
abbrev aiy:=@List.mem_filter
abbrev aiz:=@PySem.F.slot_dict_get
abbrev aiA:=@Nat.lt_or_ge
abbrev aiB:=@PySem.wpAny_typeNameOfWhole_itemiter
abbrev aiC:=@List.take_append_drop
abbrev aiD:=@Bool.and_eq_true
abbrev aiE:=@PySem.wpAny_typeNameOfWhole_keyiter
abbrev aiF:=@Int.neg_neg
abbrev aiG:=@List.mem_iff_getElem
abbrev aiH:=@PySem.codeAny_call_builtin
abbrev aiI:=@List.dropLast_concat_getLast
abbrev aiJ:=@PySem.F.slot_dict_setdefault
abbrev aiK:=@PyProof.Rows.boot_tuple
abbrev aiL:=@Nat.sub_self
abbrev aiM:=@PySem.wpAny_truthy_bool
abbrev aiN:=@PySem.wpAny_dictEntries
abbrev aiO:=@List.replicate_succ
abbrev aiP:=@List.getElem?_range
abbrev aiQ:=@List.filter_sublist
abbrev aiR:=@List.take_of_length_le
abbrev aiS:=@PySem.F.slot_tuple_iterator_next
abbrev aiT:=@PySem.F.excBase_ValueError
abbrev aiU:=@List.lookup_cons
abbrev aiV:=@List.length_filter_le
abbrev aiW:=@PySem.tupleKind_room_in1
abbrev aiX:=@PySem.Obj.isFreed_of_fields
abbrev aiY:=@or_false
abbrev aiZ:=@Nat.le_succ
abbrev ai0:=@PySem.wpAny_setField
abbrev ai1:=@List.mem_or_eq_of_mem_set
abbrev ai2:=@PySem.wpAny_typeNameOf_itemiter
abbrev ai3:=@List.getElem?_eq_none_iff
abbrev ai4:=@List.getElem_toArray
abbrev ai5:=@List.mem_of_mem_take
abbrev ai6:=@PySem.wpAny_execs_nil
abbrev ai7:=@PySem.wpAny_passesOwn
abbrev ai8:=@PySem.wpAny_pyIter_list
abbrev ai9:=@List.flatten_cons
abbrev aja:=@List.ext_getElem?
abbrev ajb:=@PySem.wpAny_Call_method
abbrev ajc:=@PySem.wpAny_loadPart'
abbrev ajd:=@PySem.wpAny_typeNameOf_keyiter
abbrev aje:=@PySem.wpAny_updateSeq
abbrev ajf:=@List.foldl_append
abbrev ajg:=@not_false_eq_true
abbrev ajh:=@List.length_erase_of_mem
abbrev aji:=@Nat.min_eq_left
abbrev ajj:=@PySem.codeAny_mono
abbrev ajk:=@PySem.wpAny_typeOf
abbrev ajl:=@PySem.call_meetsIn
abbrev ajm:=@PySem.plainId_quiet
abbrev ajn:=@List.mem_map_of_mem
abbrev ajo:=@Nat.add_mul
abbrev ajp:=@List.cons_append
abbrev ajq:=@PySem.F.plain_min_loop
abbrev ajr:=@PySem.wpAny_seqItems
abbrev ajs:=@PySem.F.entry_dict_get
abbrev ajt:=@List.find?_cons_of_neg
abbrev aju:=@PySem.W.callWith_K
abbrev ajv:=@Bool.false_eq_true
abbrev ajw:=@Array.getElem?_toList
abbrev ajx:=@List.nil_append
abbrev ajy:=@List.find?_cons
abbrev ajz:=@PySem.F.slot_dict_pop
abbrev ajA:=@PySem.F.slot_enumerate_next
abbrev ajB:=@PySem.F.slot_enumerate_iter
abbrev ajC:=@PySem.wpAny_notOrdered_dict
abbrev ajD:=@PySem.wpAny_dictEpoch
abbrev ajE:=@PyProof.Rows.boot_int
abbrev ajF:=@PySem.wpAny_standAt
abbrev ajG:=@PySem.wpAny_call
abbrev ajH:=@if_false
abbrev ajI:=@Decidable.not_not
abbrev ajJ:=@PySem.wpAny_loadPart_at
abbrev ajK:=@PySem.Around.under_plainId
abbrev ajL:=@List.drop_eq_getElem_cons
abbrev ajM:=@Classical.byContradiction
abbrev ajN:=@Nat.mul_le_mul
abbrev ajO:=@Nat.min_eq_right
abbrev ajP:=@PySem.W.hideAll_get
abbrev ajQ:=@List.flatMap_append
abbrev ajR:=@Nat.le_of_lt
abbrev ajS:=@beq_iff_eq
abbrev ajT:=@Nat.le_of_eq
abbrev ajU:=@Option.isSome_iff_exists
abbrev ajV:=@List.getElem?_take_of_lt
abbrev ajW:=@PySem.F.args_tuple_add_2
abbrev ajX:=@PySem.call_meets
abbrev ajY:=@Nat.lt_trans
abbrev ajZ:=@Nat.le_total
abbrev aj0:=@List.Pairwise.imp_of_mem
abbrev aj1:=@List.mem_filterMap
abbrev aj2:=@PySem.F.entry_tuple_add
abbrev aj3:=@Bool.or_eq_true
abbrev aj4:=@PySem.codeAny_builtin
abbrev aj5:=@PySem.wpAny_ite_split
abbrev aj6:=@Nat.max_eq_left
abbrev aj7:=@List.filter_cons_of_pos
abbrev aj8:=@List.getElem?_drop
abbrev aj9:=@PySem.W.cellsFrom_some
abbrev aka:=@PySem.F.slot_tuple_add
abbrev akb:=@Array.getElem?_eq_none
abbrev akc:=@Option.map_eq_none_iff
abbrev akd:=@List.pairwise_lt_range
abbrev ake:=@PyProof.Rows.boot_dict
abbrev akf:=@PySem.wpAny_rule
abbrev akg:=@PySem.wpAny_letGo
abbrev akh:=@List.filter_congr
abbrev aki:=@List.getElem?_inj
abbrev akj:=@List.findIdx_cons
abbrev akk:=@PySem.wpAny_tryCatch
abbrev akl:=@Nat.zero_add
abbrev akm:=@Int.zero_add
abbrev akn:=@Nat.max_eq_right
abbrev ako:=@List.nodup_range
abbrev akp:=@if_true
namespace Lake
namespace L2
open PySem PySem.Spec PyProof.Rows
abbrev Key:=Sum Int Str
abbrev Zd:=List Key
noncomputable def sO:Key->Zt->Bool
 |.inl k,v=>Value.isInt k v
 |.inr x,v=>Value.isStrOf x v
noncomputable def Yp (w:World):Key->Int
 |.inl k=>hashInt k
 |.inr x=>hashStr w x
theorem dU:∀{k:Key} {v:Zt},sO k v=true->(∃i t,k=Sum.inl i/\v=Value.int i t)\/(∃x t,k=Sum.inr x/\v=Value.str x t)
 |.inl i,v,h=>by
  let⟨t,e⟩:=Value.isInt_shape (k:=i) (v:=v) h;rwa[.inl ⟨i,t,2,e⟩]
 |.inr x,v,h=>by
  let⟨t,e⟩:=Value.isStrOf_shape (x:=x) (v:=v) h;rwa[.inr ⟨x,t,2,e⟩]
def Gy (i:Int)(t:Tok):sO (.inl i) (.int i t)=true:=by simp[sO,Value.isInt]
def Gz (x:Str)(t:Tok):sO (.inr x) (.str x t)=true:=by simp[sO,Value.isStrOf]
def Qj (a b:Int):decide ((Sum.inl a:Key)=Sum.inl b)=(a==b):=by
 cbv
def Qk (a b:Str):decide ((Sum.inr a:Key)=Sum.inr b)=decide (a=b):=by
 cbv
def Ql (a:Int)(b:Str):decide ((Sum.inl a:Key)=Sum.inr b)=false:=ahA (λq=>nomatch q)
def Qm (a:Str)(b:Int):decide ((Sum.inr a:Key)=Sum.inl b)=false:=ahA (λq=>nomatch q)
def bQ (c:Program)(w:World):PySem.KeyKind c w Key where
 is:=sO
 hash:=Yp w
 inj:=λv a b m f=>by
  rcases dU m with ⟨i,t,rfl,rfl⟩|⟨x,t,rfl,rfl⟩
  ·rcases dU f with ⟨j,u,rfl,e⟩|⟨y,u,rfl,e⟩
   ·cbv
   cbv
  ·rcases dU f with ⟨j,u,rfl,e⟩|⟨y,u,rfl,e⟩
   ·rwa[nomatch e]
   cbv
 byValue:=λk v h=>by
  rcases dU h with ⟨i,t,rfl,rfl⟩|⟨x,t,rfl,rfl⟩ <;> rfl
 pyHash:=λd h=>by
  rcases dU d with ⟨i,t,rfl,rfl⟩|⟨x,t,rfl,rfl⟩
  ·rwa[wpAny_pyHash_int h]
  ·rwa[wpAny_pyHash_str h]
 eqBool:=λg d h=>by
  rcases dU g with ⟨i,t,rfl,rfl⟩|⟨x,t,rfl,rfl⟩
  ·rcases dU d with ⟨j,u,rfl,rfl⟩|⟨y,u,rfl,rfl⟩
   ·rw[Qj]at h;rwa[wpAny_eqBool_int h]
   ·rw[Ql]at h;rwa[SeqAt.EqAt.int_str i t y u _ _ _ _ h]
  ·rcases dU d with ⟨j,u,rfl,rfl⟩|⟨y,u,rfl,rfl⟩
   ·rw[Qm]at h;rwa[SeqAt.EqAt.str_int x t j u _ _ _ _ h]
   ·rw[Qk]at h;rwa[wpAny_eqBool_str h]
 «strs»:=λk x t v h=>by
  rcases dU h with ⟨i,u,rfl,e⟩|⟨y,u,rfl,e⟩
  ·rwa[nomatch e]
  ·injection e with l _
   subst l;cases v <;> rfl
def CY (a:Program)(w:World)(i:Int)(t:Tok):(bQ a w).is (.inl i) (.int i t)=true:=Gy i t
def CZ (a:Program)(w:World)(x:Str)(t:Tok):(bQ a w).is (.inr x) (.str x t)=true:=Gz x t
end L2
variable {n m i j:Nat}{a b c d:PySem.Addr}{z y:Int}{v u:PySem.Value}{x f:PySem.Str}{e:PySem.Expr}{p:PySem.Pos}{K:Za1}{Q E:PySem.Value->PySem.Shared->Prop}{s t:PySem.Shared}{P:PySem.Program}{w:PySem.World}{h g:PySem.Heap}{R:Za2}{A:PySem.Around}{o:List (PySem.Addr×PySem.Obj)}{M:PySem.Str->Option PySem.Value}{l:Zg}{N:List PySem.Value}{B:Zh}{W:Za3}{U:Unit->PySem.Shared->Prop}{C:List PySem.Expr}{F:List PySem.Addr}{Z:List PySem.Str}
namespace L2
open PySem PySem.Spec PyProof.Rows
inductive V where
 |non|bl (b:Bool)|int (i:Int)|str (x:Str)|m7 (b:Array UInt8)|zV (b:UInt64)|ref (a:Zs)|ty (n:String)
 deriving DecidableEq
abbrev Zc:=Option V
abbrev Zb:=List V
def RelV:V->Zt->Prop
 |.non,u=>u=Value.none
 |.bl b,u=>u=Value.bool b
 |.int i,u=>∃t,u=Value.int i t
 |.str x,u=>∃t,u=Value.str x t
 |.m7 b,u=>∃t,u=Value.bytes b t
 |.zV b,u=>∃t,u=Value.float b t
 |.ref a,u=>u=Value.ref a
 |.ty n,u=>u=Value.type n
abbrev Vals:Zb->Zk->Prop:=Paired RelV
def Vals.length {xs:Zb}{us:Zk}(r:Vals xs us):⇑xs=⇑us:=Paired.length r
theorem Vals.get:∀{a:Zb} {b:Zk} {i:Nat} {x:V},Vals a b->a[i]?\x->∃u,b[i]?\u/\RelV x u
 |_,_,_,_,.nil,e=>by simp at e
 |_,_,0,_,.cons r _,e=>by simp at e;subst e;rwa[12,r]
 |_,_,i+ 1,x,.cons _ t,e=>by
  let⟨u,d,c⟩:=Vals.get (i:=i) (x:=x) t (by simpa using e);rwa[u,by simpa using d,c]
theorem Vals.set {x:V}(r:RelV x u):∀{xs:Zb} {us:Zk} (i:Nat),Vals xs us->Vals (xs.set i x) (us.set i u)
 |_,_,_,.nil=>.nil
 |_,_,0,.cons _ t=>.cons r t
 |_,_,i+ 1,.cons q t=>.cons q (Vals.set r i t)
theorem Vals.append:∀{b ys:Zb} {a ws:Zk},Vals b a->Vals ys ws->Vals (b++ys) (a++ws)
 |_,_,_,_,.nil,s=>s
 |_,_,_,_,.cons r t,s=>.cons r (Vals.append t s)
theorem Vals.take:∀{xs:Zb} {us:Zk} (n:Nat),Vals xs us->Vals (xs.take n) (us.take n)
 |_,_,0,_=>.nil
 |_,_,_+ 1,.nil=>.nil
 |_,_,n+ 1,.cons r t=>.cons r (Vals.take n t)
theorem Vals.drop:∀{xs:Zb} {us:Zk} (n:Nat),Vals xs us->Vals (xs.drop n) (us.drop n)
 |_,_,0,r=>r
 |_,_,_+ 1,.nil=>.nil
 |_,_,n+ 1,.cons _ t=>Vals.drop n t
def eS:Zc->Zl->Prop
 |some v,some u=>RelV v u
 |none,none=>True
 |_,_=>False
def KV {a:Type}:List (a×V)->List (a×Zt)->Prop:=Paired λ(p:a×V) (q:a×Zt)=>p.1=q.1/\RelV p.2 q.2
noncomputable def kV:Key->V
 |.inl i=>.int i
 |.inr x=>.str x
inductive HO where
 /-- a list -/
 |lst (xs:Zb)
 /-- a tuple (never changes) -/
 |tup (xs:Zb)
 /-- a dict whose keys are ints and texts;one whose keys are tuples of ints and texts (the empty one is both) -/
 |dK (kvs:List (Key×V))|dT (kvs:List (Zd×V))
 /-- a set of ints:its members,its size -/
 |set (S:Int->Bool) (n:Nat)
 /-- an instance of the class at C,its dict at dx,its attributes -/
 |ins (C dx:Zs) (fs:List (Str×V))
 /-- the dict of the instance at x -/
 |own (x:Zs)
 /-- the dict of an exception -/
 |xd (fs:List (Str×V))
 /-- a bound method,f of x -/
 |met (f x:Zs)
 /-- a range object lo,lo+ 1,.. below hi -/
 |eU (lo hi:Int)
 /-- a thing that is known to the object (the script;a dict while a loop walks it):read,never written while it is so -/
 |cR (o:Obj) (u:HO)
 /-- a code object's table -/
 |fE (ps:Zm)
 /-- any other thing,by what is true of its one object (a def of afc own:afm a S n:=HO.ext λh=>..) -/
 |ext (φ:Heap->Prop)
abbrev Hp:=Zs->Option HO
noncomputable def upd (H:Hp)(a:Zs)(o:HO):Hp:=λb=>if b=a then some o else H b
def ah {H:Hp}{o:HO}:upd H a o a\o:=by unfold upd;cbv
def ak {H:Hp}{o:HO}(h:b≠a):upd H a o b=H b:=by unfold upd;rw[ahc h]
def N7 {H:Hp}{o u:HO}:upd (upd H a o) a u=upd H a u:=by
 funext b;unfold upd;cbv
def bW {H:Hp}{o u:HO}(h:H a\o)(c:H b\u)(d:o≠u):a≠b:=by
 cbv
def ax {H:Hp}{o:HO}(h:H a\o)(c:H b=none):a≠b:=by
 cbv
section
variable (P:Program) (w:World)
def bV (H:Hp)(h:Heap)(a:Zs):HO->Prop
 |.lst xs=>⇑xs<=sizeLine/\∃(b:Zk) (n:Nat),Vals xs b/\h.get? a\("list">>>.seq b.toArray n)
 |.tup xs=>⇑xs<=sizeLine/\∃b:Zk,Vals xs b/\IsTup h a b.toArray
 |.dK c=>⇑c<=sizeLine/\(a==sysModules)=false/\∃l,KV c l/\h.DictOf (bQ P w) a l
 |.dT c=>⇑c<=sizeLine/\(a==sysModules)=false/\∃xs:List (Zd×Zs×Zt),
  Paired (λ(p:Zd×V) (q:Zd×Zs×Zt)=>p.1=q.1/\H q.2.1\.tup (p.1.map kV)/\RelV p.2 q.2.2) c xs/\
  ∃o i s,h.get? a\o/\o.ExactDict/\o.data=.dict i s/\i.toList=xs.map (entryOfKey (tupleKind (bQ P w)))/\(xs.map (·.1)).Nodup
 |.set S n=>h.SetOf (intKind P w) a S n
 |.ins C e fs=>H e\.own a/\⇑fs<=1000/\e≠a/\h.get? a\PySem.W.instObj C e/\
  ∃d,h.Ns1 e d/\(∀f,eS (fs.lookup f) (d f))/\PySem.Within d (fs.map (·.1))
 |.own _=>∃o,h.get? a\o
 |.xd fs=>∃d,h.Ns1 a d/\∀f,eS (fs.lookup f) (d f)
 |.eU lo r=>∃t u v,h.get? a\("range">>>.fields #[.int lo t,.int r u,.int 1 v])
 |.cR o u=>h.get? a\o/\bV H h a u
 |.fE m=>h.get? a\{ cls:=.none,data:=.fields m }
 |.met f x=>h.get? a\(PySem.W.methodObj ↑f ↑x)
 |.ext g=>g h/\(∃o,h.get? a\o)/\∀k j:Heap,g k->(∀o,k.get? a\o->j.get? a\o)->g j
def dH (H:Hp)(h:Heap):Prop:=∀a o,H a\o->bV P w H h a o
end
section
variable {P:Program}{w:World}{H H':Hp}{h h':Heap}{a:Zs}{o:HO}
def bV.lt (x:bV P w H h a o):a<h.objs.size:=by
 cases o with
 |lst c=>let⟨_,_,_,_,e⟩:=x;rwa[ag8 e]
 |tup c=>let⟨_,_,_,p⟩:=x;rwa[p.lt]
 |dK b=>let⟨_,_,_,_,o,_,_,e,_⟩:=x;rwa[ag8 e]
 |dT b=>let⟨_,_,_,_,o,_,_,e,_⟩:=x;rwa[ag8 e]
 |set S n=>let⟨o,_,_,_,e,_⟩:=x;rwa[ag8 e]
 |ins C dx fs=>let⟨_,_,_,e,_⟩:=x;rwa[ag8 e]
 |own y=>let⟨_,e⟩:=x;rwa[ag8 e]
 |xd fs=>let⟨_,⟨_,_,_,e,_⟩,_⟩:=x;rwa[ag8 e]
 |eU lo j=>let⟨_,_,_,e⟩:=x;rwa[ag8 e]
 |cR i u=>let⟨e,_⟩:=x;rwa[ag8 e]
 |fE d=>exact ag8 (show h.get? a=some _ from x)
 |met f y=>exact ag8 (show h.get? a=some _ from x)
 |ext g=>let⟨_,⟨_,e⟩,_⟩:=x;rwa[ag8 e]
theorem Paired.JF {g e:Type}{F G:g->e->Prop}:∀{d:List g} {c:List e},Paired F d c->(∀a b,F a b->G a b)->Paired G d c
 |_,_,.nil,_=>.nil
 |_,_,.cons r t,f=>.cons (f^r) (Paired.JF t f)
theorem bV.fy (x:bV P w H h a o)(k:∀b u,(b=a\/H b\.own a)->h.get? b\u->h'.get? b\u)
 (E:∀b,H b\.own a->H' b\.own a) (F:∀b m,H b\.tup m->H' b\.tup m):bV P w H' h' a o:=by
 induction o with
 |lst m=>let⟨z,l,n,r,e⟩:=x;rwa[z,l,n,r,k _ _ (.inl rfl) e]
 |tup m=>let⟨z,l,r,g,e,c⟩:=x;rwa[z,l,r,g,k _ _ (.inl rfl) e,c]
 |dK B=>let⟨z,y,G,r,g,i,j,e,c⟩:=x;rwa[z,y,G,r,g,i,j,k _ _ (.inl rfl) e,c]
 |dT B=>
  let⟨z,y,m,r,g,i,j,e,c⟩:=x;rwa[z,y,m,Paired.JF r λp q z=>⟨z.1,F^z.2.1,z.2.2⟩,g,i,j,k _ _ (.inl rfl) e,c]
 |set S n=>let⟨g,i,j,t,e,c⟩:=x;rwa[g,i,j,t,k _ _ (.inl rfl) e,c]
 |ins C dx fs=>
  let⟨d,z,ne,e,s,⟨A,i,j,I,c⟩,r⟩:=x;rwa[E _ d,z,ne,k _ _ (.inl rfl) e,s,⟨A,i,j,k _ _ (.inr d) I,c⟩,r]
 |own y=>let⟨g,e⟩:=x;rwa[g,k _ _ (.inl rfl) e]
 |xd fs=>let⟨s,⟨A,i,j,e,c⟩,r⟩:=x;rwa[s,⟨A,i,j,k _ _ (.inl rfl) e,c⟩,r]
 |eU lo M=>let⟨t,u,v,e⟩:=x;rwa[t,u,v,k _ _ (.inl rfl) e]
 |cR g u J=>let⟨e,q⟩:=x;rwa[k _ _ (.inl rfl) e,J q]
 |fE D=>
  let e:h.get? a\{ cls:=.none,data:=.fields D }:=x;show h'.get? a\{ cls:=.none,data:=.fields D };rwa[k a _ (.inl rfl) e]
 |met f y=>
  let e:h.get? a\(PySem.W.methodObj ↑f ↑y):=x;show h'.get? a\PySem.W.methodObj ↑f ↑y;rwa[k a _ (.inl rfl) e]
 |ext L=>let⟨p,⟨o,e⟩,st⟩:=x;rwa[st _ _ p λo q=>k _ _ (.inl rfl) q,⟨o,k _ _ (.inl rfl) e⟩,st]
def dH.lt (x:dH P w H h)(e:H a\o):a<h.objs.size:=(x a o e).lt
def dH.fresh (x:dH P w H h)(e:h.objs.size<=a):H a=none:=by
 cases q:H a with
 |none=>rfl
 |some u=>exact absurd (ahh (x.lt q) e) (ah2 _)
def dH.kept (x:dH P w H h)(k:∀b u,h.get? b\u->h'.get? b\u):dH P w H h':=λa o e=>
 (x a o e).fy (λb u _ q=>k b u q) (λ_ q=>q) λ_ _ q=>q
def dH.laid (x:dH P w H h)(k:∀b u,h.get? b\u->h'.get? b\u)(g:h.objs.size<=a)(new:bV P w (upd H a o) h' a o):dH P w (upd H a o) h':=λb u e=>by
 let d:=x.fresh g;by_cases f:b=a
 ·subst f;rw[ah]at e;cbv
 ·rw[ak f]at e;rwa[(x b u e).fy (λc v _ q=>k c v q) (λc q=>[ak (ax q d)]▸q) λc i q=>[ak (ax q d)]▸q]
end
def Rd (H:Hp)(a:Zs)(u:HO):Prop:=H a\u\/∃o,H a\(.cR o u)
def Rd.ok {H:Hp}{u:HO}(r:Rd H a u)(x:dH P w H h):bV P w H h a u:=by
 rcases r with r|⟨o,r⟩
 ·rwa[x a u r]
 ·let⟨_,q⟩:=x a _ r;rwa[q]
def tS:Option HO->Prop
 |some (.lst _)=>True
 |some (.dK _)=>True
 |some (.dT _)=>True
 |some (.set _ _)=>True
 |some (.ins _ _ _)=>True
 |some (.ext _)=>True
 |_=>False
section
variable {P:Program}{w:World}{H:Hp}{h h':Heap}{x e:Zs}{o':HO}
theorem dH.write (ok:dH P w H h)(mu:tS (H x))(l:e=x\/H e\.own x)(k:∀b u,b≠e->h.get? b\u->h'.get? b\u)(f:∃u,h'.get? e\u)
 (new:bV P w (upd H x o') h' x o'):dH P w (upd H x o') h':=λb u q=>by
 let a:∀c y,H c\.own y->c≠x:=λc y r z=>by subst z;rw[r]at mu;rwa[mu]
 let jg:∀c d,H c\.tup d->c≠x:=λc d r z=>by subst z;rw[r]at mu;rwa[mu]
 by_cases i:b=x
 ·subst i;rw[ah]at q;cbv
 ·rw[ak i]at q;by_cases g:b=e
  ·let j:H b\(.own x):=by
    rcases l with z|z
    ·cbv
    ·rw[g];rwa[z]
   rw[q]at j;ext j;let⟨v,m⟩:=f;rwa[v,by cbv]
  ·refine(ok b u q).fy (λc v hc r=>k c v ?_ r) (λc r=>[ak (a c b r)]▸r) λc d r=>by rw[ak (jg c d r)];rwa[r]
   cbv
end
structure Un (fs ex:Zn) (H H':Hp) (h h':Heap):Prop where
 keep:∀b o,h.get? b\o->H b=none->b∉fs->b∉ex->h'.get? b\o
 slot:∀b o,h.get? b\o->H b=none->b∈fs->b∉ex->∃sl,h'.get? b\{ o with slots:=sl }
 free:∀b o,h.get? b\o->H b=none->b∉ex->H' b=none
 there:∀b o,h.get? b\o->b∉ex->∃o',h'.get? b\o'
 iq:∀b xs,H b\.tup xs->H' b\(.tup xs)
 gN:∀b o u,H b\.cR o u->H' b\(.cR o u)
 iu:∀b ps,H b\.fE ps->∃more,H' b\(.fE (ps++more))
section
variable {fs ex:Zn}{H H1:Hp}{h h1 h':Heap}{a x e:Zs}{o:HO}
def Un.any (u:Un fs ex H H1 h h1){b:Zs}{c:Obj}(q:h.get? b\c)(n:H b=none)(f:b∉ex):∃sl,h1.get? b\{ c with slots:=sl }:=by
 by_cases d:b∈fs
 ·rwa[u.slot b c q n d f]
 ·rwa[c.slots,u.keep b c q n d f]
def Un.kept (k:∀b u,h.get? b\u->h'.get? b\u):Un fs ex H H h h':=
 ⟨λb c q _ _ _=>k b c q,λb c q _ _ _=>⟨c.slots,k b c q⟩,λ_ _ _ n _=>n,λb c q _=>⟨c,k b c q⟩,λ_ _ q=>q,λ_ _ _ q=>q,λ_ d q=>⟨#[],by rw[q];simp⟩⟩
def Un.refl:Un fs ex H H h h:=Un.kept λ_ _ q=>q
theorem Un.laid (k:∀b u,h.get? b\u->h'.get? b\u)(f:h.objs.size<=a)(c:H a=none):Un fs ex H (upd H a o) h h' where
 keep:=λb u q _ _ _=>k b u q
 slot:=λb u q _ _ _=>⟨u.slots,k b u q⟩
 free:=λb u q n _=>by rw[ak (ahk (ahh (ag8 q) f))];rwa[n]
 there:=λb u q _=>⟨u,k b u q⟩
 iq:=λb d q=>by rw[ak (ax q c)];rwa[q]
 gN:=λb u d q=>by rw[ak (ax q c)];rwa[q]
 iu:=λb g q=>⟨#[],by rw[ak (ax q c),q];simp⟩
def Un.write (mu:tS (H x))(l:e=x\/H e\.own x)(k:∀b u,b≠e->h.get? b\u->h'.get? b\u)(g:∃u,h'.get? e\u):Un fs ex H (upd H x o) h h':=by
 let i:∀b,H b=none->b≠x:=λb n z=>by subst z;rw[n]at mu;rwa[mu]
 let d:∀b,H b=none->b≠e:=λb n z=>by
  cbv
 let c:∀b u,H b\u->¬tS (some u)->b≠x:=λb u q nm z=>by cbv
 rwa[⟨λb u q n _ _=>k b u (d b n) q,λb u q n _ _=>⟨u.slots,k b u (d b n) q⟩,λb u q n _=>[ak (i b n)]▸n,λb u q _=>?_,λb f q=>[ak (c b _ q λz=>z)]▸q,λb u f q=>[ak (c b _ q λz=>z)]▸q,λb j q=>⟨#[],by rw[ak (c b _ q λz=>z),q];simp⟩⟩]
 cbv
end
noncomputable def L5 (h:Heap)(H:Hp):Zn:=(List.range h.objs.size).filter λa=>(H a).isSome
def pC (h:Heap)(H:Hp):Heap:=PySem.W.hideAll h (L5 h H)
def GA (h:Heap)(H:Hp):(pC h H).objs.size=h.objs.size:=PySem.W.hideAll_size _ _
def uq {H:Hp}{o:Obj}(e:h.get? b\o)(n:H b=none):(pC h H).get? b\o:=
 ajP _ e λa=>by
  let q:(H b).isSome=true:=(aiy.mp a).2
  cbv
def N8 {H:Hp}{o:Obj}(e:(pC h H).get? b\o):h.get? b\o/\H b=none:=by
 let a:h.get? b\o:=PySem.W.of_hideAll (L5 h H) e;erw[a]
 cases q:H b with
 |none=>rfl
 |some x=>
  let c:b∈L5 h H:=aiy.mpr ⟨ahG.mpr (ag8 a),by simp[q]⟩;let z:(pC h H).get? b=none:=PySem.W.hideAll_none (L5 h H) c
  cbv
noncomputable def N9 (g h:Heap)(L:Zs):List (Zs×Obj):=(List.range h.objs.size).filterMap λa=>if a=L\/(g.get? a).isSome=true then none else (h.get? a).map λo=>(a,o)
def rest (g h:Heap)(L d:Zs):List (Zs×Obj):=(N9 g h L).filter λp=>decide (p.1≠d)
end L2
variable {H I J:L2.Hp}{q:L2.V}{L:List L2.V}
namespace L2
open PySem PySem.Spec PyProof.Rows
structure Mod (K:Za1) (mg:Str->Zl) (base:Heap):Prop where
 vn:K.In base
 glob:base.Ns mainGlobals mg
 blt:∃mb,base.Ns builtinsNs mb/\∀x:Str,x≠"__name__"->mb x=bootBuiltins x
 nolimit:base.NoLimit
structure Cx where
 prog:Program
 w:World
 K:Za1
 mg:Str->Zl
 base:Heap
 A:Around
 N:Zp
 eB:Zu
 ur:Hp
 env:Env
 outer:Zq
 stack:Zq
 ex:Zn
 fn:Str->Bool
 calm:Bool
 pn:List (Zs×Obj)
 xe:Zt->Zu->Prop
noncomputable def cH (l:Zq):Zn:=l.filterMap (·.frame)
abbrev Cx.fs (X:Cx):Zn:=cH X.outer
def Qn (sc:Scope)(x:Str):Prop:=sc.names.lookup x=some .local\/sc.names.lookup x=some .cell\/sc.names.lookup x=some .free
def Loc (sc:Scope)(x:Str):Prop:=sc.names.lookup x=some .local\/sc.names.lookup x=some .cell
def Look (env:Env)(h:Heap)(m:Str->Zl)(x:Str)(u:Zt):Prop:=
 (env.kindOf x=some .local/\m x\u)\/((env.kindOf x=some .cell\/env.kindOf x=some .free)/\∃c,env.cells.lookup x\c/\h.IsCell c (some u))
structure Cx.Ok (X:Cx):Prop where
 mod:Mod X.K X.mg X.base
 kind:X.env.scope.kind=.function
 glob:X.env.globals=mainGlobals
 blt:X.env.builtins=builtinsNs
 above:X.eB.heap.objs.size<=X.env.locals
 inj:∀x y c,X.env.cells.lookup x\c->X.env.cells.lookup y\c->x=y
 has:∀x,(X.env.kindOf x=some .cell\/X.env.kindOf x=some .free)->∃c,X.env.cells.lookup x\c
 zW:∀x c,X.fn x=true->X.env.cells.lookup x\c->X.eB.heap.objs.size<=c
 hd:X.calm=true->X.A.handled=none
 frames:X.A.frames\X.stack
 Dz:X.stack=X.outer\/(X.stack=X.env::X.outer/\X.env.frame\X.env.locals)
 L6:∀b∈X.ex,b≠X.env.locals/\∀x c,X.env.cells.lookup x\c->c≠b
 bs:∀b o,X.base.get? b\o->X.eB.heap.get? b\o/\X.ur b=none
 qS:X.base.objs.size<=X.eB.heap.objs.size
 uv:∀b o,X.base.get? b\o->b∉X.ex
 xm:∀b∈X.ex,b∉X.fs
 jh:X.eB.heap.FunFrames X.base X.outer
 tT:∀b∈X.fs,X.ur b=none
structure Inv (X:Cx) (pins:List (Zs×Obj)) (σ:List Zc) (H:Hp) (s:Zu):Prop where
 ok:X.Ok
 os:s.os=X.eB.os
 bare:AllBare s.gens
 base:Un X.fs X.ex X.ur H X.eB.heap s.heap
 loc:∃m,s.heap.Ns X.env.locals m/\∀(i:Nat) (x:Str) (v:V),X.N[i]?\x->σ[i]?\some v->Qn X.env.scope x->∃u,RelV v u/\Look X.env s.heap m x u
 cell:∀x c,X.env.cells.lookup x\c->∃v,s.heap.IsCell c v
 free:H X.env.locals=none
 gO:∀x c,X.env.cells.lookup x\c->H c=none
 pin:∀p∈X.pn++pins,s.heap.get? p.1\p.2/\H p.1=none/\p.1≠X.env.locals/\p.1∉X.fs/\∀v,p.2.data≠.cell v
 aO:dH X.prog X.w H s.heap
 len:⇑σ=⇑X.N
section
variable {X:Cx}{pins:List (Zs×Obj)}{σ:List Zc}{H H':Hp}{s:Zu}{h':Heap}
def Cx.Ok.Yq (ok:X.Ok){b:Zs}{o:Obj}(e:X.base.get? b\o):b∉X.fs:=λa=>by
 have:=(ok.jh.mem a).1
 cbv
def Inv.bs (I:Inv X pins σ H s):∀b o,X.base.get? b\o->s.heap.get? b\o/\H b=none:=λb o e=>
 ⟨I.base.keep b o (I.ok.bs b o e).1 (I.ok.bs b o e).2 (I.ok.Yq e) (I.ok.uv b o e),I.base.free b o (I.ok.bs b o e).1 (I.ok.bs b o e).2 (I.ok.uv b o e)⟩
def Inv.bk (I:Inv X pins σ H s):∀b o,X.base.get? b\o->s.heap.get? b\o:=λb o e=>(I.bs b o e).1
def Inv.mod (I:Inv X pins σ H s):Mod X.K X.mg X.base:=I.ok.mod
def Inv.dw (I:Inv X pins σ H s):X.K.In s.heap:=I.ok.mod.vn.keeps I.bk
def Inv.lt (I:Inv X pins σ H s):X.env.locals<↥s:=let ⟨_,a,_⟩:=I.loc;a.lt
def Inv.sz (I:Inv X pins σ H s):X.eB.heap.objs.size<=↥s:=ag3 I.ok.above (ajR I.lt)
def Inv.E4 (I:Inv X pins σ H s){a:Zs}(h:↥s<=a):a∉X.fs:=λb=>by
 let⟨_,o,c,_⟩:=I.ok.jh.mem b;rwa[absurd (ahh (ag8 c) (ag3 I.sz h)) (ah2 _)]
def Inv.lE (I:Inv X pins σ H s):∀x c,X.env.cells.lookup x\c->c≠X.env.locals:=λx c e z=>by
 let⟨v,o,h,hd⟩:=I.cell x c e;let⟨m,⟨d,f,g,a,b,_⟩,_⟩:=I.loc
 cbv
def Inv.jh (I:Inv X pins σ H s):s.heap.FunFrames X.base X.outer:=by
 let all:∀(l:Zq),(∀b∈cH l,b∈X.fs)->X.eB.heap.FunFrames X.base l->s.heap.FunFrames X.base l:=by
  intro l
  induction l with
  |nil=>intro _ _;trivial
  |cons env r m=>
   intro f j;let⟨h,⟨L,o,d,i,k,hd⟩,g⟩:=j;let a:L∈X.fs:=f L (by unfold cH;cbv);let⟨sl,e⟩:=I.base.slot L o k (I.ok.tT L a) a λz=>I.ok.xm L z a
   rwa[h,⟨L,_,d,i,e,hd⟩,m (λb c=>f b (by unfold cH;rw[List.filterMap_cons,d];rwa[ahm _ c])) g]
 rwa[all X.outer (λ_ c=>c) I.ok.jh]
def Inv.stack (I:Inv X pins σ H s):s.heap.FunFrames X.base X.stack:=by
 rcases I.ok.Dz with e|⟨e,b⟩
 ·rw[e];rwa[I.jh]
 ·rw[e];let⟨m,a,_⟩:=I.loc;rwa[.cons (by rw[I.ok.kind];decide) b a ?_ I.jh];rwa[Heap.get?_none_of_le (ag3 I.ok.qS I.ok.above)]
def Inv.zX (I:Inv X pins σ H s):∀b∈cH X.stack,b∈X.env.locals::X.fs:=λb a=>by
 rcases I.ok.Dz with e|⟨e,c⟩
 ·cbv
 ·rw[e]at a;unfold cH at a;rw[List.filterMap_cons,c]at a;rwa[a]
def Inv.oq (I:Inv X pins σ H s):∀b∈cH X.stack,H b=none:=λb a=>by
 rcases ag4.mp (I.zX b a) with e|a
 ·rw[e];rwa[I.free]
 ·let⟨_,o,c,_⟩:=I.ok.jh.mem a;rwa[I.base.free b o c (I.ok.tT b a) λz=>I.ok.xm b z a]
theorem Inv.step {g':Array GenState}{t':Nat}{d':Drawn}{ch:Zn}(I:Inv X pins σ H s)
 (f:∀b∈ch,(b∈X.ex\/X.eB.heap.objs.size<=b)/\b≠X.env.locals/\(∀x c,X.env.cells.lookup x\c->c≠b)/\∀p∈X.pn++pins,p.1≠b)
 (keep:∀b o,b≠X.env.locals->b∉X.fs->b∉ch->s.heap.get? b\o->H b=none->h'.get? b\o)
 (slot:∀b o,b≠X.env.locals->b∈X.fs->b∉ch->s.heap.get? b\o->H b=none->∃sl,h'.get? b\{ o with slots:=sl }) (free:∀b o,b∉ch->s.heap.get? b\o->H b=none->H' b=none)
 (there:∀b o,b∉ch->s.heap.get? b\o->∃A,h'.get? b\A)
 (iq:∀b j,H b\.tup j->H' b\.tup j) (gN:∀b o u,H b\.cR o u->H' b\.cR o u) (iu:∀b C,H b\.fE C->∃more,H' b\.fE (C++more))
 (ns:∀m,s.heap.Ns X.env.locals m->h'.Ns X.env.locals m) (aO:dH X.prog X.w H' h') (N:AllBare g'):
 Inv X pins σ H' { s with heap:=h',gens:=g',drawn:=d',toks:=t' }:=by
 let B:∀b o,X.eB.heap.get? b\o->b≠X.env.locals:=λb o e=>ahk (ahh (ag8 e) I.ok.above)
 let h:∀b o,X.eB.heap.get? b\o->b∉X.ex->b∉ch:=λb o e a w=>by
  rcases (f b w).1 with z|z
  ·rwa[a z]
  ·rwa[absurd (ahh (ag8 e) z) (ah2 _)]
 let cellK:∀x c,X.env.cells.lookup x\c->∀v,s.heap.IsCell c v->h'.IsCell c v:=λx c e v ⟨o,y,hd⟩=>by
  let g:c∉ch:=λz=>(f c z).2.2.1 x c e rfl
  by_cases hc:c∈X.fs
  ·let⟨sl,q⟩:=slot c o (I.lE x c e) hc g y (I.gO x c e);rwa[_,q,hd]
  ·rwa[o,keep c o (I.lE x c e) hc g y (I.gO x c e),hd]
 rwa[⟨I.ok,I.os,N,⟨λb o e n w a=>?_,λb o e n w a=>?_,λb o e n a=>?_,λb o e a=>?_,λb j e=>iq b j (I.base.iq b j e),λb o j e=>gN b o j (I.base.gN b o j e),λb C e=>?_⟩,5,λx c e=>?_,5,λx c e=>?_,λp F=>?_,aO,I.len⟩]
 ·rwa[keep b o (B b o e) w (h b o e a) (I.base.keep b o e n w a) (I.base.free b o e n a)]
 ·let⟨sl,t⟩:=I.base.slot b o e n w a;let⟨E,D⟩:=slot b _ (B b o e) w (h b o e a) t (I.base.free b o e n a);rwa[E,D]
 ·let⟨A,t⟩:=I.base.there b o e a;rwa[free b A (h b o e a) t (I.base.free b o e n a)]
 ·let⟨A,t⟩:=I.base.there b o e a;rwa[there b A (h b o e a) t]
 ·let⟨O,t⟩:=I.base.iu b C e
  cbv
 ·let⟨m,L,M⟩:=I.loc;rwa[⟨m,ns m L,λi x v t D J=>?_⟩];let⟨u,r,l⟩:=M i x v t D J;erw[u,r];rcases l with l|⟨k,c,e,z⟩
  ·rwa[.inl l]
  ·rwa[.inr ⟨k,c,e,cellK x c e _ z⟩]
 ·let⟨v,z⟩:=I.cell x c e;rwa[v,cellK x c e v z]
 ·let⟨m,⟨o,_,_,y,_⟩,_⟩:=I.loc;rwa[free _ o (λz=>(f _ z).2.1 rfl) y I.free]
 ·let⟨v,o,y,hd⟩:=I.cell x c e;rwa[free c o (λz=>(f c z).2.2.1 x c e rfl) y (I.gO x c e)]
 ·let⟨e,n,ne,G,d⟩:=I.pin p F;let g:p.1∉ch:=λz=>(f p.1 z).2.2.2 p F rfl
  rwa[keep p.1 p.2 ne G g e n,free p.1 p.2 g e n,ne,G,d]
def Inv.un {t':Nat}(I:Inv X pins σ H s)(u:Un X.fs [] H H' s.heap h')(aO:dH X.prog X.w H' h'):Inv X pins σ H' { s with heap:=h',toks:=t' }:=by
 let⟨m,⟨o,v,t,g,r⟩,_⟩:=id I.loc;let⟨sl,i⟩:=u.any g I.free (by simp)
 exact I.step (g':=s.gens) (d':=s.drawn) (ch:=[]) (λ_ z=>nomatch z) (λb o _ c _ e n=>u.keep b o e n c (by simp)) (λb o _ c _ e n=>u.slot b o e n c (by simp)) (λb o _ e n=>u.free b o e n (by simp)) (λb o _ e=>u.there b o e (by simp)) u.iq u.gN u.iu (λq h=>by
  let⟨k,d,f,a,j⟩:=h;rw[g]at a;ext a;rwa[_,d,f,i,j]) aO I.bare
theorem Inv.call {g':Array GenState}{t':Nat}{d':Drawn}{ch:Zn}(I:Inv X pins σ H s)(u:Un (cH X.stack) ch H H' s.heap h')(aO:dH X.prog X.w H' h')(q:AllBare g')
 (a:∀b∈ch,(b∈X.ex\/X.eB.heap.objs.size<=b)/\b≠X.env.locals/\(∀x c,X.env.cells.lookup x\c->c≠b)/\∀p∈X.pn++pins,p.1≠b):
 Inv X pins σ H' { s with heap:=h',gens:=g',drawn:=d',toks:=t' }:=by
 let⟨m,⟨o,v,y,i,r⟩,_⟩:=id I.loc;let⟨sl,f⟩:=u.any i I.free λz=>(a _ z).2.1 rfl
 exact I.step (ch:=ch) a (λb o f k hc e n=>u.keep b o e n (λz=>(ag4.mp (I.zX b z)).elim f k) hc) (λb o _ _ hc e n=>u.any e n hc) (λb o hc e n=>u.free b o e n hc) (λb o hc e=>u.there b o e hc) u.iq u.gN u.iu (λw j=>by
  let⟨t,g,h,d,l⟩:=j;rw[i]at d;ext d;rwa[_,g,h,f,l]) aO q
theorem Inv.turned {t':Nat}{it:Zs}(I:Inv X pins σ H s)(k:∀b o,b≠it->s.heap.get? b\o->h'.get? b\o)(B:H it=none)(a:it≠X.env.locals)
 (l:it∈X.ex\/X.eB.heap.objs.size<=it) (j:∀x c,X.env.cells.lookup x\c->c≠it) (w:∀p∈X.pn++pins,p.1≠it):Inv X pins σ H { s with heap:=h',toks:=t' }:=by
 let d:∀b u,H b\u->b≠it:=λb u e z=>by cbv
 refine I.step (g':=s.gens) (d':=s.drawn) (ch:=[it]) (λb g=>?_) (λb o _ _ hc e _=>k b o (λz=>hc (by simp[z])) e) (λb o _ _ hc e _=>⟨o.slots,k b o (λz=>hc (by simp[z])) e⟩) (λ_ _ _ _ n=>n)
  (λb o hc e=>⟨o,k b o (λz=>hc (by simp[z])) e⟩) (λ_ _ e=>e) (λ_ _ _ e=>e) (λb C e=>⟨#[],by rw[e];simp⟩) (λm f=>?_) (λb u e=>?_) I.bare
 ·let e:b=it:=by simpa using g
  subst e;rwa[l,a,j,w]
 ·let⟨o,h,t,i,r⟩:=f;rwa[o,h,t,k _ o (ah5 a) i,r]
 ·rwa[(I.aO b u e).fy (λc v hc q=>k c v ?_ q) (λ_ q=>q) λ_ _ q=>q]
  cbv
def Inv.tok (I:Inv X pins σ H s)(t:Nat):Inv X pins σ H { s with toks:=t }:=I.un (h':=s.heap) (t':=t) Un.refl I.aO
def Inv.kept {t':Nat}(I:Inv X pins σ H s)(k:∀b u,s.heap.get? b\u->h'.get? b\u):Inv X pins σ H { s with heap:=h',toks:=t' }:=I.un (Un.kept k) (I.aO.kept k)
theorem Inv.laid {o:HO}{t':Nat}(I:Inv X pins σ H s)(k:∀b u,s.heap.get? b\u->h'.get? b\u)(c:↥s<=a)(new:bV X.prog X.w (upd H a o) h' a o):
 Inv X pins σ (upd H a o) { s with heap:=h',toks:=t' }:=I.un (Un.laid k c (I.aO.fresh c)) (I.aO.laid k c new)
theorem Inv.write {x e:Zs}{o:HO}{t':Nat}(I:Inv X pins σ H s)(mu:tS (H x))(c:e=x\/H e\.own x)(k:∀b u,b≠e->s.heap.get? b\u->h'.get? b\u)(a:∃u,h'.get? e\u)
 (new:bV X.prog X.w (upd H x o) h' x o):Inv X pins σ (upd H x o) { s with heap:=h',toks:=t' }:=I.un (Un.write mu c k a) (I.aO.write mu c k a new)
def Inv.jq (I:Inv X pins σ H s)(h:∀p∈o,s.heap.get? p.1\p.2/\H p.1=none/\p.1≠X.env.locals/\p.1∉X.fs/\∀v,p.2.data≠.cell v):Inv X o σ H s:=
 ⟨I.ok,I.os,I.bare,I.base,I.loc,I.cell,I.free,I.gO,λp a=>(agX.mp a).elim (λz=>I.pin p (ahd _ z)) (h p),I.aO,I.len⟩
def uw (e:Z.Nodup){i j:Nat}{x:Str}(a:Z[i]?\x)(b:Z[j]?\x):i=j:=by
 let⟨g,c⟩:=agM.mp a;let⟨f,d⟩:=agM.mp b;rwa[(List.getElem_inj e).mp (c.trans d.symm)]
theorem yp {M:Model}{v:V}(I:Inv X pins σ H s)(hN:X.N.Nodup)(L:X.N[i]?\x)(l:Loc X.env.scope x)(r:RelV v u)
 (h:∀Z,Inv X pins (σ.set i (some v)) H Z->(∃a,Heap.SameBut a s.heap Z.heap/\(a=X.env.locals\/X.env.cells.lookup x\a))->U () Z) (hf:X.fn x=true\/X.env.scope.names.lookup x=some .local:=by trivial):wpAny M A (storeName X.env x u) U E s:=by
 let⟨m,S,hl⟩:=id I.loc;let J:(X.env.scope.kind==.class || (X.env.scope.kind==.module && X.env.locals !=X.env.globals))=false:=by rw[I.ok.kind];rfl
 let B:i < ⇑σ:=by rw[I.len];rwa[(agM.mp L).1]
 let lE:=I.lE
 let tracked:∀{a:Zs} {h':Heap},(∃o,s.heap.get? a\o/\H a=none)->Heap.SameBut a s.heap h'->dH X.prog X.w H h':=λ{a h'} ha f b ob e=>by
  let⟨_,_,afd⟩:=ha;rwa[(I.aO b ob e).fy (λc w' t q=>(f.2 c ?_).trans q) (λ_ q=>q) λ_ _ q=>q]
  cbv
 rcases l with G|G
 ·rwa[wpAny_storeName_local G S (λh' hn' f=>?_) J];let⟨oL,_,_,Y,_⟩:=id S;rwa[h _ ⟨I.ok,I.os,I.bare,⟨λb o e n C l=>?_,λb o e n C l=>?_,I.base.free,λb o e l=>?_,I.base.iq,I.base.gN,I.base.iu⟩,⟨_,hn',λj y Q g w P=>?_⟩,λy c e=>?_,I.free,I.gO,λp R=>?_,tracked ⟨oL,Y,I.free⟩ f,by simpa using I.len⟩ ⟨_,f,.inl rfl⟩]
  ·rwa[(f.2 b (ahk (ahh (ag8 e) I.ok.above))).trans (I.base.keep b o e n C l)]
  ·let⟨W,g⟩:=I.base.slot b o e n C l;rwa[W,(f.2 b (ahk (ahh (ag8 e) I.ok.above))).trans g]
  ·let⟨O,g⟩:=I.base.there b o e l;rwa[O,(f.2 b (ahk (ahh (ag8 e) I.ok.above))).trans g]
  ·by_cases F:j=i
   ·subst F;rw[L]at g;ext g;rw[ahH B]at w;ext w;rwa[u,r,.inl ⟨G,by simp⟩]
   ·rw[ah8 (ah5 F)]at w;let⟨u',r',q⟩:=hl j y Q g w P;erw[u',r'];rcases q with ⟨k,e⟩|⟨k,c,e,z⟩
    ·rwa[.inl ⟨k,?_⟩];have:y≠x:=λe=>F (uw hN g (e ▸ L))
     simp[this,e]
    ·rwa[.inr ⟨k,c,e,z.sameBut f (lE y c e)⟩]
  ·let⟨w',z⟩:=I.cell y c e;rwa[w',z.sameBut f (lE y c e)]
  ·let⟨e,n,ne,nf,d⟩:=I.pin p R;rwa[(f.2 p.1 ne).trans e,n,ne,nf,d]
 ·let D:X.fn x=true:=by
   rcases hf with z|z
   ·rwa[z]
   ·cbv
  let⟨c,t⟩:=I.ok.has x (.inl G);let⟨w',z⟩:=I.cell x c t;rwa[wpAny_storeName_cell I.ok.kind G t z (λh' T f=>?_)];let⟨oc,GB,afn⟩:=id z;rwa[h (s<*h') ⟨I.ok,I.os,I.bare,⟨λb o e n C l=>?_,λb o e n C l=>?_,I.base.free,λb o e l=>?_,I.base.iq,I.base.gN,I.base.iu⟩,⟨m,S.sameBut f (ah5 (lE x c t)),λj y Q g w P=>?_⟩,λy N e=>?_,I.free,I.gO,λp R=>?_,tracked ⟨oc,GB,I.gO x c t⟩ f,by simpa using I.len⟩ ⟨c,f,.inr t⟩]
  ·rwa[(f.2 b (ahk (ahh (ag8 e) (I.ok.zW x c D t)))).trans (I.base.keep b o e n C l)]
  ·let⟨W,g⟩:=I.base.slot b o e n C l;rwa[W,(f.2 b (ahk (ahh (ag8 e) (I.ok.zW x c D t)))).trans g]
  ·let⟨O,g⟩:=I.base.there b o e l;rwa[O,(f.2 b (ahk (ahh (ag8 e) (I.ok.zW x c D t)))).trans g]
  ·by_cases F:j=i
   ·subst F;rw[L]at g;ext g;rw[ahH B]at w;ext w;rwa[u,r,.inr ⟨.inl G,c,t,T⟩]
   ·rw[ah8 (ah5 F)]at w;let⟨u',r',q⟩:=hl j y Q g w P;erw[u',r'];rcases q with q|⟨k,N,e,z'⟩
    ·rwa[.inl q]
    ·rwa[.inr ⟨k,N,e,z'.sameBut f ?_⟩];rintro rfl;rwa[F (uw hN g (I.ok.inj _ _ _ e t ▸ L))]
  ·by_cases hcc:N=c
   ·cbv
   ·let⟨w2,z2⟩:=I.cell y N e;rwa[w2,z2.sameBut f hcc]
  ·let⟨e,n,ne,nf,d⟩:=I.pin p R;rwa[⟨(f.2 p.1 ?_).trans e,n,ne,nf,d⟩]
   cbv
theorem pD {M:Model}{v:V}(I:Inv X pins σ H s)(e:X.N.Nodup)(f:X.N[i]?\x)(c:Loc X.env.scope x)(r:RelV v u)
 (h:∀a,Inv X pins (σ.set i (some v)) H a->U () a) (b:X.fn x=true\/X.env.scope.names.lookup x=some .local:=by trivial):wpAny M A (storeName X.env x u) U E s:=
 yp I e f c r (λa d _=>h a d) b
theorem Inv.E5 {s':Zu}{ch:Zn}(I:Inv X pins σ H s)(j:s'.os=s.os)(u:Un (cH X.stack) ch H H' s.heap s'.heap)(aO:dH X.prog X.w H' s'.heap)(i:AllBare s'.gens)
 (a:∀b∈ch,(b∈X.ex\/X.eB.heap.objs.size<=b)/\b≠X.env.locals/\(∀x c,X.env.cells.lookup x\c->c≠b)/\∀p∈X.pn++pins,p.1≠b):Inv X pins σ H' s':=by
 let⟨h',d,f,g,h⟩:=s';let e:h=s.os:=j;subst e;rwa[I.call (g':=d) (t':=g) (d':=f) u aO i a]
end
abbrev XK:=Zt->Zo->Hp->Prop
abbrev St:=List Zc
abbrev VK:=V->Hp->Prop
abbrev TE:=St->Hp->VK->Prop
abbrev TT:=St->Hp->(Bool->Hp->Prop)->Prop
abbrev TA:=St->Hp->(Zb->Hp->Prop)->Prop
structure Ends where
 nx:St->Hp->Prop
 rt:VK
 bk:St->Hp->Prop:=λ_ _=>False
 ct:St->Hp->Prop:=λ_ _=>False
abbrev TS:=Ends->St->Hp->Prop
def EP (X:Cx)(a:List (Zs×Obj))(d:St)(Q:VK)(u:Zt)(c:Zu):Prop:=∃v b,Inv X a d b c/\RelV v u/\Q v b
def TP (X:Cx)(a:List (Zs×Obj))(e:St)(Q:Bool->Hp->Prop)(b:Bool)(d:Zu):Prop:=∃c,Inv X a e c d/\Q b c
def AP (X:Cx)(a:List (Zs×Obj))(f:St)(Q:Zb->Hp->Prop)(d:Zk)(e:Zu):Prop:=∃c b,Inv X a f b e/\Vals c d/\Q c b
def SP (X:Cx)(b:List (Zs×Obj))(D:Ends)(f:Flow)(d:Zu):Prop:=
 match f with
 |.next=>∃ a c,Inv X b a c d/\D.nx a c
 |.brk=>∃ a c,Inv X b a c d/\D.bk a c
 |.cont=>∃ a c,Inv X b a c d/\D.ct a c
 |.ret u=>∃v a c,Inv X b a c d/\RelV v u/\D.rt v c
def PE (X:Cx)(e:Expr)(t:TE):Prop:=
 ∀(a:List (Zs×Obj)) (s:Zu) (b:St) (H:Hp) (Q:VK),Inv X a b H s->t b H Q->X⁻¹ X.A (eval e X.env) (EP X a b Q) X.xe s
def PT (X:Cx)(e:Expr)(t:TT):Prop:=
 ∀(a:List (Zs×Obj)) (s:Zu) (b:St) (H:Hp) (Q:Bool->Hp->Prop),Inv X a b H s->t b H Q->X⁻¹ X.A (isTrue e X.env (eval e X.env)) (TP X a b Q) X.xe s
def PW (X:Cx)(e:Expr)(t:TT):Prop:=
 ∀(whole:Sem Zt) (a:List (Zs×Obj)) (s:Zu) (b:St) (H:Hp) (Q:Bool->Hp->Prop),Inv X a b H s->t b H Q->X⁻¹ X.A (isTrue e X.env whole) (TP X a b Q) X.xe s
def PW.pt {X:Cx}{t:TT}(h:PW X e t):PT X e t:=h _
def PA (X:Cx)(d:Zr)(t:TA):Prop:=
 ∀(c:Pos) (a:List (Zs×Obj)) (s:Zu) (b:St) (H:Hp) (Q:Zb->Hp->Prop),Inv X a b H s->t b H Q->X⁻¹ X.A (spliced (backTo c (starEach d X.env))) (AP X a b Q) X.xe s
def PS (X:Cx)(st:Stmt)(t:TS):Prop:=
 ∀(a:List (Zs×Obj)) (s:Zu) (b:St) (H:Hp) (D:Ends),Inv X a b H s->t D b H->X⁻¹ X.A (exec st X.env) (SP X a D) X.xe s
def iS (X:Cx)(st:List Stmt)(t:TS):Prop:=
 ∀(a:List (Zs×Obj)) (s:Zu) (b:St) (H:Hp) (D:Ends),Inv X a b H s->t D b H->X⁻¹ X.A (execs st X.env) (SP X a D) X.xe s
def a9 {b:Type}{t:Sem b}{Q c:b->Zu->Prop}{M:Model}(h:wpAny M A t Q E s)(d:∀a s,Q a s->c a s):wpAny M A t c E s:=ahN h d λ_ _ x=>x
end L2
variable {D:L2.St}{G:L2.Ends}{X:L2.Cx}
namespace L2
open PySem PySem.Spec PyProof.Rows
section
variable {X:Cx}
theorem bin {b:Expr}{m n:TE}(q:PE X e m)(r:PE X b n){a:List (Zs×Obj)}{s:Zu}{d:St}{H:Hp}{R:V->V->Hp->Prop}(I:Inv X a d H s)(h:m d H λx k=>n d k λy c=>R x y c)
 {l:Type} {Q:l->Zu->Prop} {f:Zt->Zt->Sem l}
 (z:∀v u j x y c,Inv X a d c j->RelV x v->RelV y u->R x y c->X⁻¹ X.A (f v u) Q X.xe j):
 X⁻¹ X.A (eval e X.env) (λv g=>X⁻¹ X.A (eval b X.env) (λu i=>X⁻¹ X.A (f v u) Q X.xe i) X.xe g) X.xe s:=by
 rwa[a9 (q a s d H _ I h) λv p ζ=>?_];let⟨x,k,w,B,C⟩:=ζ
 rwa[a9 (r a p d k _ w C) λu j ζ=>?_];let⟨y,c,A,t,o⟩:=ζ
 rwa[z v u j x y c A B t o]
inductive ji (i:Nat) (σ:St) (H:Hp) (Q:VK):Prop
 |mk (v:V):σ[i]?\some v->Q v H->ji i σ H Q
def tC (v:V):TE:=λ_ H Q=>Q v H
def Qo (o:X.N[i]?\x)(q:Qn X.env.scope x)(g:(x==("__debug__":Str))=false:=by decide)(f:(x==("__classdict__":Str))=false:=by decide):PE X (.Name x p) (ji i):=by
 intro d s w H Q I h;let⟨v,e,h⟩:=h;let⟨m,n,t⟩:=I.loc;let⟨u,r,l⟩:=t i x v o e q;let fin:EP X d w Q u s:=⟨v,H,I,r,h⟩;rcases l with ⟨b,k⟩|⟨b,c,j,a⟩
 ·rwa[wpAny_Name (wpAny_loadName_local I.ok.kind b n k fin) g]
 ·rcases b with b|b
  ·rwa[wpAny_Name (wpAny_loadName_cell I.ok.kind b j a fin) g]
  ·rwa[wpAny_Name (wpAny_loadName_free I.ok.kind b j a fin f) g]
def au {i j a}:PE X (.Constant (.int i) j a) (tC (.int i)):=λ_ _ _ H _ I h=>wpAny_Constant_int ⟨.int i,H,I.tok _,⟨12⟩,h⟩
def kA {b j a}:PE X (.Constant (.bool b) j a) (tC (.bl b)):=λ_ _ _ H _ I h=>Constant_bool ⟨.bl b,H,I,2,h⟩
def dm {j a}:PE X (.Constant .none j a) (tC .non):=λ_ _ _ H _ I h=>Constant_none ⟨.non,H,I,2,h⟩
def Qp {x j a}:PE X (.Constant (.str x) j a) (tC (.str x)):=λ_ _ _ H _ I h=>Calls.Constant_str ⟨.str x,H,I.tok _,⟨12⟩,h⟩
def Gl (X:Cx)(x:Str):Prop:=X.env.kindOf x=some .globalImplicit
theorem j7 (I:Inv X o D H s)(b:Gl X x)(a:X.mg x\u)(h:Q u s)
 (c:(x==("__debug__":Str))=false:=by decide):X⁻¹ X.A (eval (.Name x p) X.env) Q E s:=
 Calls.Name_function_global I.ok.kind b (Calls.loadGlobal_global ([I.ok.glob]▸I.mod.glob.keeps I.bk) a h) c
theorem gZ (I:Inv X o D H s)(e:Gl X x)(d:X.mg x=none)(g:bootBuiltins x\u)(h:Q u s)
 (b:x≠"__name__":=by decide) (f:(x==("__debug__":Str))=false:=by decide):X⁻¹ X.A (eval (.Name x p) X.env) Q E s:=by
 let⟨i,c,a⟩:=I.mod.blt;rwa[Calls.Name_function_global I.ok.kind e (Calls.loadGlobal_builtin ([I.ok.glob]▸I.mod.glob.keeps I.bk) d ([I.ok.blt]▸c.keeps I.bk) ((a x b).trans g) h) f]
def gk {v:V}(c:Gl X x)(b:X.mg x=none)(e:bootBuiltins x\u)(r:RelV v u)(a:x≠"__name__":=by decide)(d:(x==("__debug__":Str))=false:=by decide):PE X (.Name x p) (tC v):=
 λ_ _ _ H _ I h=>gZ I c b e ⟨v,H,I,r,h⟩ a d
def t2I (b d:TE)(k:Int->Int->Hp->Prop):St->Hp->Prop:=λ a H=>b a H λx c=>d a c λy e=>∃i j,x=.int i/\y=.int j/\k i j e
variable {a b:Expr}{ta tb:TE}{pos:Pos}
def PC (X:Cx)(g:CmpOp)(a b:Expr)(t:TE):Prop:=
 ∀(c:List (Zs×Obj)) (s:Zu) (f:St) (H:Hp) (Q:VK),Inv X c f H s->t f H Q->
  X⁻¹ X.A (eval a X.env) (λv e=>X⁻¹ X.A (eval b X.env) (λu d=>X⁻¹ X.A (compareOp g v u) (EP X c f Q) X.xe d) X.xe e) X.xe s
def JG (b:Expr){c:CmpOp}(h:c≠.In)(f:c≠.NotIn):behindInMarks c b=false:=by
 let d:(c==CmpOp.In)=false:=by cbv
 let e:(c==CmpOp.NotIn)=false:=by cbv
 cases b <;> simp[behindInMarks,d,e]
def Yr (p:Int->Int->Bool)(ta tb:TE):TE:=λ d H Q=>t2I ta tb (λi j c=>Q (.bl (p i j)) c) d H
abbrev L7:TE->TE->TE:=Yr λi j=>decide (i<j)
def tB (t:TE):TT:=λ e H Q=>t e H λx d=>∃c,x=.bl c/\Q c d
def Qq {f:CmpOp}{t:TE}(h:PC X f a b t)(g:behindInMarks f b=false:=by first|rwa[JG _ (by decide) (by decide)]|rfl):PT X (.Compare a [f] [b] pos) (tB t):=by
 intro e s n H Q I l;rwa[wpAny_isTrue_Compare1 (a9 (h e s n H _ I l) λv p g=>a9 g λu w k=>a9 k λc r ζ=>?_) g];let⟨x,i,j,m,o⟩:=ζ;let⟨d,rfl,q⟩:=o;ext m;rwa[aiM ⟨i,j,q⟩]
def eV {t:TE}(h:PE X e t)(i:∀whole,isTrue e X.env whole=(do let v <-whole;standAt e.pos;holding [v] (truthy v)):=by intro _;rfl):PT X e (tB t):=by
 intro c s l H Q I j;rwa[isTrue_plain (a9 (h c s l H _ I j) λv n ζ=>?_) (i _)];let⟨x,f,g,k,m⟩:=ζ;let⟨d,rfl,q⟩:=m;ext k;rwa[aiM ⟨f,g,q⟩]
variable {tA L8:TT}{rest:Zr}
def Ys (t u:TT):TT:=λ e H Q=>t e H λc d=>if c=true then u e d Q else Q false d
def tOr (t u:TT):TT:=λ e H Q=>t e H λc d=>if c=true then Q true d else u e d Q
def Yt (t:TT):TT:=λ e H Q=>t e H λc d=>Q (!c) d
def xn (f:PT X a tA):PW X (.BoolOp .And [a] pos) tA:=by
 intro j d s g H Q I h;rwa[isTrue_and (a9 (f d s g H Q I h) λc i e=>?_)]
 cases c with
 |true=>exact isTrue_and_nil e
 |false=>exact e
def ou (f:PT X a tA):PW X (.BoolOp .Or [a] pos) tA:=by
 intro j d s g H Q I h;rwa[isTrue_or (a9 (f d s g H Q I h) λc i e=>?_)]
 cases c with
 |false=>exact isTrue_or_nil e
 |true=>exact e
def zY (k:PT X a tA)(l:PW X (.BoolOp .And (b::rest) pos) L8):PW X (.BoolOp .And (a::b::rest) pos) (Ys tA L8):=by
 intro m d s e H Q I h;rwa[isTrue_and (a9 (k d s e H _ I h) λc j ζ=>?_)];let⟨g,f,i⟩:=ζ
 cases c with
 |true=>exact l m d j e g Q f i
 |false=>rwa[g,f,i]
def kB (k:PT X a tA)(l:PW X (.BoolOp .Or (b::rest) pos) L8):PW X (.BoolOp .Or (a::b::rest) pos) (tOr tA L8):=by
 intro m d s e H Q I h;rwa[isTrue_or (a9 (k d s e H _ I h) λc j ζ=>?_)];let⟨g,f,i⟩:=ζ
 cases c with
 |true=>rwa[g,f,i]
 |false=>exact l m d j e g Q f i
def qT (e:PT X a tA):PT X (.UnaryOp .Not a pos) (Yt tA):=by
 intro d s g H Q I h;rwa[isTrue_not (e d s g H (λc f=>Q (!c) f) I h)]
def U1 (ta tb:TE):TE:=λ e H Q=>ta e H λx d=>∃c,x=.bl c/\if c=true then tb e d Q else Q (.bl false) d
def U2 (ta:TE):TE:=λ e H Q=>ta e H λx d=>∃c,x=.bl c/\Q (.bl (!c)) d
def GC {f}{t:TE}(h:PE X a t):PE X (.BoolOp f [a] pos) t:=λc s d H Q I e=>BoolOp_one (h c s d H Q I e)
def zZ (k:PE X a ta)(m:PE X (.BoolOp .And (b::rest) pos) tb):PE X (.BoolOp .And (a::b::rest) pos) (U1 ta tb):=by
 intro d s i H Q I h;rwa[BoolOp_and (a9 (k d s i H _ I h) λv j ζ=>?_)];let⟨x,g,f,l,e⟩:=ζ;let⟨c,rfl,e⟩:=e;ext l;rwa[aiM ?_]
 cases c with
 |true=>exact m d j i g Q f e
 |false=>rwa[.bl false,g,f,2,e]
def Qr (f:PE X a ta):PE X (.UnaryOp .Not a pos) (U2 ta):=by
 intro d s k H Q I h;rwa[UnaryOp_ (a9 (f d s k H _ I h) λv l ζ=>?_)];let⟨x,i,g,j,e⟩:=ζ;let⟨c,rfl,e⟩:=e;ext j;rwa[not_of (aiM ⟨.bl (!c),i,g,2,e⟩)]
end
def aD (K:Za1)(H:Hp)(a:Zs)(c:Zb):Prop:=
 Rd H a (.lst c)\/
  ∃(o:Obj) (b:Zm) (n:Nat),K.lookup a\o/\o.cls=.type "list"/\o.dict=none/\o.data=.seq b n/\b.size<=sizeLine/\Vals c b.toList
def bG (K:Za1)(H:Hp)(a:Zs)(c:Zb):Prop:=
 Rd H a (.tup c)\/
  ∃(o:Obj) (b:Zm) (n:Nat),K.lookup a\o/\o.cls=.type "tuple"/\o.data=.seq b n/\b.size<=sizeLine/\Vals c b.toList
noncomputable def Yu:Zt->Zc
 |.none=>some .non
 |.bool b=>some (.bl b)
 |.int i _=>some (.int i)
 |.str x _=>some (.str x)
 |.bytes b _=>some (.m7 b)
 |.float b _=>some (.zV b)
 |.ref a=>some ↑a
 |.type n=>some (.ty n)
 |_=>none
def RelV.abs {x:V}(r:RelV x u):Yu u\x:=by
 cases x with
 |non=>ext r;rfl
 |bl _=>ext r;rfl
 |int _=>let⟨t,rfl⟩:=r;rfl
 |str _=>let⟨t,rfl⟩:=r;rfl
 |m7 _=>let⟨t,rfl⟩:=r;rfl
 |zV _=>let⟨t,rfl⟩:=r;rfl
 |ref _=>ext r;rfl
 |ty _=>ext r;rfl
def RelV.inj {x:V}(r:RelV x u)(a:RelV q u):x=q:=Za0 (r.abs.symm.trans a.abs)
theorem Vals.inj:∀{a ys:Zb} {b:Zk},Vals a b->Vals ys b->a=ys
 |_,_,_,.nil,.nil=>rfl
 |_,_,_,.cons r t,.cons d c=>by rw[r.inj d,Vals.inj t c]
section
variable {X:Cx}{pins:List (Zs×Obj)}{σ:St}{H:Hp}{s:Zu}{a:Zs}{xs ys:Zb}
def aD.of (h:H a\.lst xs):aD K H a xs:=.inl (.inl h)
def bG.of (h:H a\.tup xs):bG K H a xs:=.inl (.inl h)
def Inv.list (I:Inv X pins σ H s)(h:aD X.K H a xs):∃b:Zk,Vals xs b/\PlainL s.heap a b.toArray/\⇑xs<=sizeLine:=by
 rcases h with h|⟨o,b,n,c,hc,hd,d,hz,r⟩
 ·let⟨z,b,n,r,e⟩:=h.ok I.aO;rwa[b,r,⟨_,n,e,222⟩,z]
 ·erw[b.toList,r,⟨o,n,I.dw a o c,hc,hd,3⟩];let e:=⇑r;simp only[aiu]at e;ext
def Inv.tuple (I:Inv X pins σ H s)(h:bG X.K H a xs):∃b:Zk,Vals xs b/\IsTup s.heap a b.toArray/\⇑xs<=sizeLine:=by
 rcases h with h|⟨o,b,n,c,hc,d,hz,r⟩
 ·let⟨z,b,r,p⟩:=h.ok I.aO;rwa[b,r,p,z]
 ·erw[b.toList,r,⟨o,I.dw a o c,hc,n,3⟩];let e:=⇑r;simp only[aiu]at e;ext
def Inv.ux (I:Inv X pins σ H s)(h:aD X.K H a xs)(i:aD X.K H a ys):xs=ys:=by
 let⟨c,r,⟨o,n,e,_,_,d⟩,_⟩:=I.list h;let⟨b,j,⟨l,k,f,_,_,g⟩,_⟩:=I.list i;rw[e]at f;ext f;rw[d]at g;injection g with d1 _
 have:c=b:=by simpa using ahZ Array.toList d1
 subst this;rwa[r.inj j]
def Inv.GD (I:Inv X pins σ H s)(h:bG X.K H a xs)(i:bG X.K H a ys):xs=ys:=by
 let⟨c,r,⟨o,e,_,n,d⟩,_⟩:=I.tuple h;let⟨b,j,⟨l,f,_,k,g⟩,_⟩:=I.tuple i;rw[e]at f;ext f;rw[d]at g;injection g with d1 _
 have:c=b:=by simpa using ahZ Array.toList d1
 subst this;rwa[r.inj j]
end
abbrev Cx.wish (X:Cx) (E:Zt->Zu->Prop):Cx:={ X with xe:=E }
abbrev Cx.tU (X:Cx):Cx:=X.wish λ_ _=>False
def Cx.Ok.wish (ok:X.Ok)(E:Zt->Zu->Prop):(X.wish E).Ok:=
 ⟨ok.mod,ok.kind,ok.glob,ok.blt,ok.above,ok.inj,ok.has,ok.zW,ok.hd,ok.frames,ok.Dz,ok.L6,ok.bs,ok.qS,ok.uv,ok.xm,ok.jh,ok.tT⟩
def Cx.Ok.iw (ok:(X.wish E).Ok):X.Ok:=
 ⟨ok.mod,ok.kind,ok.glob,ok.blt,ok.above,ok.inj,ok.has,ok.zW,ok.hd,ok.frames,ok.Dz,ok.L6,ok.bs,ok.qS,ok.uv,ok.xm,ok.jh,ok.tT⟩
section
variable {X:Cx}{pins:List (Zs×Obj)}{σ:St}{H:Hp}{s:Zu}{E:Zt->Zu->Prop}
def Inv.wish (I:Inv X pins σ H s)(E:Zt->Zu->Prop):Inv (X.wish E) pins σ H s:=⟨I.ok.wish E,I.os,I.bare,I.base,I.loc,I.cell,I.free,I.gO,I.pin,I.aO,I.len⟩
def Inv.iw (I:Inv (X.wish E) pins σ H s):Inv X pins σ H s:=⟨I.ok.iw,I.os,I.bare,I.base,I.loc,I.cell,I.free,I.gO,I.pin,I.aO,I.len⟩
def SP.iw {f:Flow}(h:SP (X.wish E) pins G f t):SP X pins G f t:=by
 cases f with
 |next=>let⟨a,b,I,q⟩:=h;rwa[a,b,I.iw,q]
 |brk=>let⟨a,b,I,q⟩:=h;rwa[a,b,I.iw,q]
 |cont=>let⟨a,b,I,q⟩:=h;rwa[a,b,I.iw,q]
 |ret u=>let⟨v,a,b,I,r,q⟩:=h;rwa[v,a,b,I.iw,r,q]
def iS.tU {st:List Stmt}{t:TS}(h:iS X.tU st t):iS X st t:=λpins s σ H D I a=>
 ahN (h pins s σ H D (I.wish _) a) (λ_ _ q=>q.iw) λ_ _ z=>False.elim z
end
section
variable {X:Cx}{st:Stmt}{rest:List Stmt}{t u:TS}{e:Expr}{te:TE}{pos:Pos}
def U4:TS:=λD a H=>D.nx a H
def aP (t u:TS):TS:=λD a H=>t { D with nx:=u D } a H
def bp:iS X [] U4:=λ_ _ a H _ I h=>ai6 ⟨a,H,I,h⟩
def aj (k:PS X st t)(c:iS X rest u):iS X (st::rest) (aP t u):=by
 intro a s d H D I h;rwa[wpAny_execs_cons (a9 (k a s d H { D with nx:=u D } I h) λf g q=>?_)]
 cases f with
 |next=>
  let⟨b,j,i,q⟩:=q;rwa[c a g b j D i q]
 |ret v=>exact q
 |brk=>exact q
 |cont=>exact q
def av (b:PS X st t):iS X [st] t:=by
 intro a s c H D I h;rwa[wpAny_execs_cons (a9 (b a s c H D I h) λf d q=>?_)]
 cases f with
 |next=>exact ai6 q
 |ret v=>exact q
 |brk=>exact q
 |cont=>exact q
def Qs:TS:=λD a H=>D.bk a H
def uy:PS X (.Break pos) Qs:=λ_ _ a H _ I h=>wpAny_Break ⟨a,H,I,h⟩
def Inv.quiet (I:Inv X o D H s):interactive X.env=false:=by simp[interactive,I.ok.kind]
def U6 (te:TE):TS:=λD a H=>te a H λ_ b=>D.nx a b
def aV (c:PE X e te)(i:swapsWith e none pos.line X.env=pure false:=by rfl):PS X (.Expr e pos) (U6 te):=by
 intro a s b H D I h;rwa[wpAny_Expr_any (a9 (c a s b H _ I h) λv j ζ=>?_) I.quiet i];let⟨x,f,d,k,g⟩:=ζ;rwa[⟨b,f,d,g⟩]
def Yv (te:TE):TS:=λD a H=>te a H D.rt
def bh (c:PE X e te):PS X (.Return (some e) pos) (Yv te):=by
 intro a s b H D I h;rwa[wpAny_Return_some (a9 (c a s b H _ I h) λv j ζ=>?_)];let⟨x,f,d,g,i⟩:=ζ;rwa[⟨x,b,f,d,g,i⟩]
def U9:TS:=λD _ H=>D.rt .non H
def xo:PS X (.Return none pos) U9:=λ_ _ a H _ I h=>wpAny_Return_none ⟨.non,a,H,I,2,h⟩
def Yw (c:TT)(t u:TS):TS:=λD a H=>c a H λb d=>if b=true then t D a d else u D a d
def bH {c:Expr}{a b:List Stmt}{l:TT}(p:PT X c l)(n:iS X a t)(o:iS X b u):PS X (.If c a b pos) (Yw l t u):=by
 intro f s g H D I h;rwa[wpAny_If (a9 (p f s g H _ I h) λd i ζ=>?_)];let⟨j,k,m⟩:=ζ
 cases d with
 |true=>exact n f i g j D k m
 |false=>exact o f i g j D k m
def GF:TS:=λ_ _ _=>False
def JH:PS X st GF:=λ_ _ _ _ _ _ h=>h.elim
def kL {a:List Stmt}:iS X a GF:=λ_ _ _ _ _ _ h=>h.elim
end
abbrev TG:=V->St->Hp->(St->Hp->Prop)->Prop
abbrev DB:=Zb->St->Hp->(St->Hp->Prop)->Prop
def PG (X:Cx)(target:Expr)(t:TG):Prop:=
 ∀(a:List (Zs×Obj)) (s:Zu) (c:St) (H:Hp) (v:V) (u:Zt) (Q:St->Hp->Prop),Inv X a c H s->RelV v u->t v c H Q->
  X⁻¹ X.A (assign target X.env u) (λ_ e=>∃ b d,Inv X a b d e/\Q b d) X.xe s
def L9 (X:Cx)(g:Zr)(t:DB):Prop:=
 ∀(a:List (Zs×Obj)) (s:Zu) (c:St) (H:Hp) (f:Zb) (d:Zk) (Q:St->Hp->Prop),Inv X a c H s->Vals f d->t f c H Q->
  X⁻¹ X.A (assignInOrder ((assignEach g X.env).map (·.2)) d) (λ_ h=>∃ b e,Inv X a b e h/\Q b e) X.xe s
abbrev JK:=V->V->V->Hp->(Hp->Prop)->Prop
def Qt (X:Cx)(t:JK):Prop:=
 ∀(a:List (Zs×Obj)) (s:Zu) (c:St) (H:Hp) (o i v:V) (d b u:Zt) (Q:Hp->Prop),Inv X a c H s->RelV o d->RelV i b->RelV v u->t o i v H Q->
  X⁻¹ X.A (setItem d b u) (λ_ f=>∃e,Inv X a c e f/\Q e) X.xe s
section
variable {X:Cx}{pos:Pos}
def m8 (i:Nat):TG:=λv a H Q=>Q (a.set i (some v)) H
def DC (f:X.N.Nodup)(b:X.N[i]?\x)(e:Loc X.env.scope x)(c:X.fn x=true\/X.env.scope.names.lookup x=some .local:=by trivial):PG X (.Name x pos) (m8 i):=by
 intro a s g H v u Q I r h;rwa[wpAny_assign_Name (pD I f b e r (λj d=>⟨_,H,d,h⟩) c)]
def Yx:DB:=λa b H Q=>a=[]/\Q b H
inductive Ma (t:TG) (u:DB) (vs:Zb) (σ:St) (H:Hp) (Q:(St->Hp->Prop)):Prop
 |mk (v:V) (r:Zb):vs=v::r->(t v σ H λ gI H'=>u r gI H' Q)->Ma t u vs σ H Q
def jr:L9 X [] Yx:=by
 intro a s b H d c Q I r h;let⟨e,h⟩:=h;subst e;rwa[assignInOrder_nil ⟨b,H,I,h⟩]
theorem cF {t:TG}{u:DB}(k:PG X e t)(i:L9 X C u)
 (g:(assignEach (e::C) X.env).map (·.2)=assign e X.env::(assignEach C X.env).map (·.2):=by rfl):L9 X (e::C) (Ma t u):=by
 intro a s m H q p Q I r h;let⟨v,o,l,h⟩:=h;subst l
 cases r with
 |cons r j=>
  rw[g];rwa[assignInOrder_cons (a9 (k a s m H _ _ _ I r h) λ_ c ζ=>?_)];let⟨b,d,f,n⟩:=ζ;rwa[i a c b d _ _ Q f j n]
inductive Qu (K:Za1) (n:Nat) (t:DB) (v:V) (σ:St) (H:Hp) (Q:(St->Hp->Prop)):Prop
 |mk (a:Zs) (xs:Zb):v=↑a->bG K H a xs->⇑xs=n->t xs σ H Q->Qu K n t v σ H Q
theorem kM {k:Nat}{t:DB}(q:X.calm=true)(h:L9 X C t)
 (p:⇑(assignEach C X.env)=n:=by rfl) (d:(assignEach C X.env).findIdx? (·.1)=none:=by rfl):PG X (.Tuple C k pos) (Qu X.K n t):=by
 intro c s g H v u Q I r f;let⟨a,i,z,l,B,f⟩:=f;subst z;ext r;let⟨j,x,A,D⟩:=I.tuple l;rwa[assign_Tuple_tuple (I.ok.hd q) A (by simp[p,<-B,⇑x]) d λw y=>?_]
 let m:Inv X c g H (s<*w):=I.kept (t':=s.toks) λb o e=>y b o (ahk (ag8 e)) e
 rwa[h c _ g H i _ Q m ∅ f]
def Yy (to e:TE)(t:JK):TG:=λv a H Q=>to a H λo c=>e a c λi d=>t o i v d λb=>Q a b
theorem vo {i:Expr}{to f:TE}{t:JK}(n:PE X e to)(p:PE X i f)(o:Qt X t)
 (G:∀v,assign (.Subscript e i pos) X.env v=(do
  let b <-holding [v] (eval e X.env)
  let c <-holding [v,b] (eval i X.env)
  standAt pos
  holding [v,b,c] (setItem b c v)
  release [v,b,c] []):=by intro _;rfl):PG X (.Subscript e i pos) (Yy to f t):=by
 intro a s d H v u Q I r h;rwa[agI (ahY (a9 (n a s d H _ I h) λb j ζ=>?_))];let⟨x,k,m,B,E⟩:=ζ;rwa[agI (ahY (a9 (p a j d k _ m E) λc C ζ=>?_))];let⟨y,A,q,l,g⟩:=ζ;rwa[agI (ajF (agI (ahY (a9 (o a C d A x y v b c u _ q B l r g) λ_ F ζ=>?_))))];let⟨w,D,z⟩:=ζ;rwa[wpAny_release ⟨d,w,D,z⟩]
def xq (c:TE)(g:TG):TS:=λD a H=>c a H λx b=>g x a b D.nx
def mh {a:Expr}{c:TE}{g:TG}(l:PE X a c)(p:PG X e g)(k:swapsWithSole [e] a pos.line X.env=pure false:=by rfl)(n:swappedStores [e] a X.env=pure none:=by rfl)
 (m:(assignEach [e] X.env).map (·.2)=[assign e X.env]:=by rfl):PS X (.Assign [e] a pos) (xq c g):=by
 intro b s d H D I h;rwa[wpAny_Assign_stores (a9 (l b s d H _ I h) λv f ζ=>?_) k n];let⟨x,i,j,o,r⟩:=ζ;rw[m];rwa[a9 (p b f d i x v _ j o r) λ_ t q=>q]
def Qw {b:TE}{pos':Pos}(g:X.N.Nodup)(k:X.N[i]?\x)(n:Loc X.env.scope x)(m:PE X e b)(j:swapsWith e (some (.Name x pos')) pos.line X.env=pure false:=by rfl)(f:X.fn x=true\/X.env.scope.names.lookup x=some .local:=by trivial):
 PS X (.Assign [.Name x pos'] e pos) (xq b (m8 i)):=by
 intro a s p H D I h;rwa[wpAny_Assign_Name (a9 (m a s p H _ I h) λv r ζ=>?_) j];let⟨y,c,d,o,q⟩:=ζ;rwa[pD d g k n o (λt l=>⟨_,c,l,q⟩) f]
inductive ipI (f:Int->Int->Int) (x:V) (y:V) (H:Hp) (Q:VK):Prop
 |mk (i j:Int):x=.int i->y=.int j->Q (.int (f i j)) H->ipI f x y H Q
end
section
variable {X:Cx}{pos:Pos}
def Qx (c:TT)(h:TS):TS:=λD a H=>∃W:Nat->St->Hp->Prop,(∃m,W m a H)/\∀m a H,W m a H->
 c a H λb e=>if b=true then ∃N:St->Hp->Prop,(∀ d f,N d f->∃g,g<m/\W g d f)/\h { D with nx:=N,ct:=N,bk:=D.nx } a e else D.nx a e
def gP {body:List Stmt}{z:TT}{y:TS}(t:PassesOwn (model X.prog X.w) X.A X.env X.xe)(G:PT X e z)(C:iS X body y):PS X (.While e body [] pos) (Qx z y):=by
 intro c s P H D I h;let⟨W,⟨F,M⟩,turn⟩:=h;rwa[wpAny_While (codeAny_whileLoop (λn J=>∃ g x,Inv X c g x J/\W n g x) ?_ F ⟨P,H,I,M⟩)];rintro n B ⟨d,r,E,L⟩;rwa[ai7 t (a9 (G c B d r _ E (turn n d r L)) λb O ζ=>?_)];let⟨A,w,j⟩:=ζ
 cases b with
 |true=>
  let⟨N,u,j⟩:=j;rwa[ai7 t (a9 (C c O d A _ w j) λf Q k=>?_)]
  cases f with
  |next=>
   let⟨a,i,q,l⟩:=k;let⟨p,m,o⟩:=u a i l;rwa[p,m,a,i,q,o]
  |cont=>
   let⟨a,i,q,l⟩:=k;let⟨p,m,o⟩:=u a i l;rwa[p,m,a,i,q,o]
  |brk=>exact k
  |ret v=>exact k
 |false=>
  rwa[ai6 ⟨d,A,w,j⟩]
end
structure It where
 go:Nat->Hp->Prop
 mj:Nat->Hp->V->Hp->Prop
 stop:Nat->Hp->Prop
def pE (X:Cx)(a:List (Zs×Obj))(H:Hp)(b:Zs):Prop:=
 H b=none/\b≠X.env.locals/\b∉X.fs/\(b∈X.ex\/X.eB.heap.objs.size<=b)/\(∀x c,X.env.cells.lookup x\c->c≠b)/\∀p∈X.pn++a,p.1≠b
def Inv.pF (a:Inv X o D H s)(d:↥s<=b)(f:I b=none):pE X o I b:=by
 rwa[⟨f,ah0 (ahh a.lt d),a.E4 d,.inr (ag3 a.sz d),λx c e z=>?_,λp g z=>?_⟩]
 ·let⟨v,q⟩:=a.cell x c e;rwa[absurd (ahh q.lt ([z]▸d)) (ah2 _)]
 ·rwa[absurd (ahh (ag8 (a.pin p g).1) ([z]▸d)) (ah2 _)]
structure Turn (P:Program) (w:World) (K:Za1) (tg:Expr) (J:It) (fp:Zn) (it:Zs) (tn:Nat->Heap->Prop):Prop where
 mem:it∈fp
 obj:∀i h,tn i h->∀b∈fp,∃o,h.get? b\o/\∀v,o.data≠.cell v
 keep:∀i h h',tn i h->(∀b∈fp,∀o,h.get? b\o->h'.get? b\o)->tn i h'
 item:∀(X:Cx),X.prog=P->X.w=w->X.K=K->X.calm=true->∀(i:Nat) (pins:List (Zs×Obj)) (s:Zu) (σ:St) (H:Hp) (E:Zt->Zu->Prop),Inv X pins σ H s->(∀b∈fp,pE X pins H b)->tn i s.heap->J.go i H->
  (P<|>w) X.A (pyNext ↑it) (λr s1=>∃u,r\u/\
   (P<|>w) X.A (letOwnedTupleGo tg ↑it u) (λ_ s2=>∃x H',Inv X pins σ H' s2/\RelV x u/\J.mj i H x H'/\tn (i+ 1) s2.heap/\∀b∈fp,H' b=none) E s1) E s
 done:∀(X:Cx),X.prog=P->X.w=w->X.K=K->X.calm=true->∀(i:Nat) (pins:List (Zs×Obj)) (s:Zu) (σ:St) (H:Hp) (E:Zt->Zu->Prop),Inv X pins σ H s->(∀b∈fp,pE X pins H b)->tn i s.heap->J.stop i H->
  (P<|>w) X.A (pyNext ↑it) (λr s1=>r=none/\Inv X pins σ H s1) E s
 self:∀(A:Around) (i:Nat) (s:Zu) (Q:Zt->Zu->Prop) (E:Zt->Zu->Prop),tn i s.heap->Q ↑it s->(P<|>w) A (pyIter ↑it) Q E s
abbrev TI:=St->Hp->(It->Hp->Prop)->Prop
def Wc (X:Cx)(a:List (Zs×Obj))(g:St)(h:Expr)(R:It->Hp->Prop)(d:Zt)(s2:Zu):Prop:=
 ∃(it:Zs) (e:Zn) (f:Nat->Heap->Prop) (J:It) (c:Hp),d=↑it/\Inv X a g c s2/\Turn X.prog X.w X.K h J e it f/\f 0 s2.heap/\(∀b∈e,pE X a c b)/\R J c
def PI (X:Cx)(e iter:Expr)(d:TI):Prop:=
 ∀(a:List (Zs×Obj)) (s:Zu) (b:St) (H:Hp) (R:It->Hp->Prop),Inv X a b H s->d b H R->
  X⁻¹ X.A (eval iter X.env) (λv c=>X⁻¹ X.A (pyIter v) (Wc X a b e R) X.xe c) X.xe s
theorem zN {M:Model}{it:Zs}{o:Obj}{n:String}{b:Zm}(f:s.heap.get? it\o)(c:o.cls=.type n)(d:o.data=.fields b)
 (g:["enumerate","zip","dict_itemiterator","dict_reverseitemiterator","odict_iterator","itertools.zip_longest","itertools.pairwise"].contains n=false) (a:U () s):wpAny M A (letOwnedTupleGo e ↑it u) U E s:=by
 cases e <;> first
  |rwa[agP a]
  |(cases u <;> first
   |rwa[agP a]
   |(rwa[agI (wpAny_load f ?_)]
     rw[c,d];show wpAny M A (if (["enumerate","zip","dict_itemiterator","dict_reverseitemiterator","odict_iterator","itertools.zip_longest","itertools.pairwise"].contains n && b[0]?==some (rawInt _))=true then _ else _) U E s;rw[ahc (by cbv)];rwa[agP a]))
noncomputable def vp (K:Za1)(a:Zs):It:=
 ⟨λi H=>∃xs x,aD K H a xs/\xs[i]?\x,λi H x b=>b=H/\∀xs,aD K H a xs->xs[i]?\x,λi H=>∃xs,aD K H a xs/\⇑xs<=i⟩
noncomputable def yq (K:Za1)(a:Zs):It:=
 ⟨λi H=>∃xs x,bG K H a xs/\xs[i]?\x,λi H x b=>b=H/\∀xs,bG K H a xs->xs[i]?\x,λi H=>∃xs,bG K H a xs/\⇑xs<=i⟩
noncomputable def vq (lo:Int)(n:Nat):It:=⟨λi _=>i<n,λi H x a=>a=H/\x=.int (lo+ i),λi _=>n<=i⟩
theorem GH (a it:Zs):Turn P w K e (vp K a) [it] it (λi h=>h.IsListIter it a i) where
 mem:=by simp
 obj:=λi h st b j=>by
  let f:b=it:=by simpa using j
  subst f;let⟨o,f,c,d⟩:=st
  cbv
 keep:=λi h q st k=>st.at λo f=>k it (by simp) o f
 item:=by
  intro X r D t L i g s M H E I n st G;subst r D t;let⟨O,x,m,C⟩:=G;let⟨v,B,p,R⟩:=I.list m;let⟨u,V,U⟩:=B.get C;let⟨y,J,T,A,z,F⟩:=n it (by simp);rwa[wpAny_pyNext_list_item st p.isList (x:=u) (by simpa using V) λq l N=>?_]
  let Q:Inv X g M H (s<*q):=I.turned (t':=s.toks) (λb o j f=>(N.2 b j).trans f) y J A z F;let⟨o,f,c,d⟩:=id l;rwa[u,2,zN (s:=(s<*q)) f c d ⋯ ⟨x,H,Q,U,⟨2,λys W=>[I.ux W m]▸C⟩,l,λb j=>(n b j).1⟩]
 done:=by
  intro X r D t L i g s M H E I n st G;subst r D t;let⟨O,m,C⟩:=G;let⟨v,B,p,R⟩:=I.list m;let⟨y,J,T,A,z,F⟩:=n it (by simp);let Z:=⇑B;rwa[wpAny_pyNext_list_end (I.ok.hd L) st p.isList (by simp;omega) λq S=>⟨2,I.turned (t':=s.toks) (λb o j f=>S b o j f) y J A z F⟩]
 self:=λ_ _ _ _ _ st h=>wpAny_pyIter_listiter st h
theorem E6 (a it:Zs):Turn P w K e (yq K a) [it] it (λi h=>h.IsTupleIter it a i) where
 mem:=by simp
 obj:=λi h st b j=>by
  let f:b=it:=by simpa using j
  subst f;let⟨o,f,c,d⟩:=st
  cbv
 keep:=λi h r st k=>st.at λo f=>k it (by simp) o f
 item:=by
  intro X t D v L i g s M H E I q st G;subst t D v;let⟨O,x,n,C⟩:=G;let⟨l,B,p,R⟩:=I.tuple n;let⟨u,V,U⟩:=B.get C;let⟨y,J,T,A,z,F⟩:=q it (by simp);rwa[wpAny_pyNext_tuple_item st (show s.heap.IsTuple a l.toArray from p) (x:=u) (by simpa using V) λr m N=>?_]
  let Q:Inv X g M H (s<*r):=I.turned (t':=s.toks) (λb o j f=>(N.2 b j).trans f) y J A z F;let⟨o,f,c,d⟩:=id m;rwa[u,2,zN (s:=(s<*r)) f c d ⋯ ⟨x,H,Q,U,⟨2,λys W=>[I.GD W n]▸C⟩,m,λb j=>(q b j).1⟩]
 done:=by
  intro X t D v L i g s M H E I q st G;subst t D v;let⟨O,n,C⟩:=G;let⟨l,B,p,R⟩:=I.tuple n;let⟨y,J,T,A,z,F⟩:=q it (by simp);let Z:=⇑B;rwa[wpAny_pyNext_tuple_end (I.ok.hd L) st (show s.heap.IsTuple a l.toArray from p) (by simp;omega) λr S=>⟨2,I.turned (t':=s.toks) (λb o j f=>S b o j f) y J A z F⟩]
 self:=λ_ _ _ _ _ st h=>wpAny_pyIter_tupleiter st h
theorem E7 (it:Zs)(lo:Int)(n:Nat):Turn P w K e (vq lo n) [it] it (λi h=>IsRangeIter h it (lo+ (i:Nat)* 1) ((n:Int) - (i:Nat)) 1) where
 mem:=by simp
 obj:=λi h st b d=>by
  cbv
 keep:=λi h j st k=>k it (by simp) _ st
 item:=by
  intro X y B z p i c s D H E I g st u;subst y B z;let⟨l,x,L,q,m,r⟩:=g it (by simp);let W:=Walks.range (prog:=X.prog) (w:=X.w) (I.ok.hd p) it lo 1 n;rwa[W.item i s _ _ u st λv j A M f F=>?_]
  let⟨t,rfl⟩:=M;let G:Inv X c D H { s with heap:=j,toks:=A }:=I.turned (λb o d a=>F b o (by cbv) a) l x q m r;rwa[⟨12,zN (s:={ s with heap:=j,toks:=A }) (n:="range_iterator") f rfl rfl ⋯ ⟨.int (lo+ i),H,G,⟨t,5⟩,⟨22⟩,f,λb d=>(g b d).1⟩⟩]
  cbv
 done:=by
  intro X y B z p i c s D H E I g st u;let⟨l,x,L,q,m,r⟩:=g it (by simp);rwa[wpAny_pyNext_range_end (I.ok.hd p) st (by have:n<=i:=u;omega) λj J=>⟨2,I.turned (t':=s.toks) (λb o d a=>J b o d a) l x q m r⟩]
 self:=λ_ _ _ _ _ st h=>wpAny_pyIter_rangeiter st h
section
variable {X:Cx}{tg:Expr}
def Va (K:Za1)(tl:TE):TI:=λ d H R=>tl d H λx b=>∃a,x=↑a/\(∃c,aD K b a c)/\R (vp K a) b
def Yz (K:Za1)(tl:TE):TI:=λ d H R=>tl d H λx b=>∃a,x=↑a/\(∃c,bG K b a c)/\R (yq K a) b
def cP {tl:TE}(l:PE X e tl):PI X tg e (Va X.K tl):=by
 intro d s n H R I h;rwa[a9 (l d s n H _ I h) λv s1 ζ=>?_];let⟨x,g,f,m,r⟩:=ζ
 let⟨a,c,⟨t,k⟩,q⟩:=r;subst c;ext m;let⟨j,w,p,u⟩:=f.list k;rwa[ai8 p.isList ?_];rwa[⟨↥s1,[↥s1],11,g,2,f.kept (t':=s1.toks) λb o c=>agL _ c,GH a _,⟨_,agZ _ rfl,22⟩,λb i=>?_,q⟩];let c:b=↥s1:=by simpa using i
 subst c;rwa[f.pF (agQ _) (f.aO.fresh (agQ _))]
def vt {tl:TE}(l:PE X e tl):PI X tg e (Yz X.K tl):=by
 intro d s n H R I h;rwa[a9 (l d s n H _ I h) λv s1 ζ=>?_];let⟨x,i,f,m,r⟩:=ζ
 let⟨a,c,⟨t,k⟩,q⟩:=r;subst c;ext m;let⟨g,w,p,u⟩:=f.tuple k;rwa[wpAny_pyIter_tuple (show s1.heap.IsTuple a g.toArray from p) ?_];rwa[⟨↥s1,[↥s1],11,i,2,f.kept (t':=s1.toks) λb o c=>agL _ c,E6 a _,⟨_,agZ _ rfl,22⟩,λb j=>?_,q⟩];let c:b=↥s1:=by simpa using j
 subst c;rwa[f.pF (agQ _) (f.aO.fresh (agQ _))]
theorem Aa {R:It->Hp->Prop}{lo:Int}{t u v:Tok}(I:Inv X o D H s)(i: -(2 ^ 62)<=lo)(h:lo<2 ^ 62)(k: -(2 ^ 62)<=z)(g:z<2 ^ 62)
 (q:R (vq lo (z - lo).toNat) H):X⁻¹ X.A (pyIter ↑↥s) (Wc X o D tg R) E { s with heap:=s.heap.push ("range">>>.fields #[.int lo t,.int z u,.int 1 v]),toks:=n }:=by
 rwa[wpAny_pyIter_range (IsRange.new ..) (small_one i h k g) ?_];let c:Inv X o D H { s with heap:=s.heap.push ("range">>>.fields #[.int lo t,.int z u,.int 1 v]),toks:=n }:=I.kept λb a e=>agL _ e
 rwa[⟨(s.heap.push ("range">>>.fields #[.int lo t,.int z u,.int 1 v])).objs.size,[(s.heap.push ("range">>>.fields #[.int lo t,.int z u,.int 1 v])).objs.size],11,H,2,c.kept (t':=n) λb a e=>agL _ e,E7 _ lo (z - lo).toNat,5,λb f=>?_,q⟩]
 ·let j:lo+ ((0:Nat):Int)* 1=lo:=by simp
  let d:(((z - lo).toNat:Nat):Int) - ((0:Nat):Int)=Builtin.Range.rangeSize lo z 1:=by rw[rangeSize_one];split <;> ext
  rw[j,d];rwa[agZ _ rfl]
 ·let e:b=(s.heap.push ("range">>>.fields #[.int lo t,.int z u,.int 1 v])).objs.size:=by simpa using f
  subst e;rwa[c.pF (agQ _) (c.aO.fresh (agQ _))]
def Vb (a:TA):TI:=λ d H R=>a d H λc b=>∃j:Int,c=[.int j]/\-(2 ^ 62)<=j/\j<2 ^ 62/\R (vq 0 j.toNat) b
def Vc (a:TA):TI:=λ d H R=>a d H λc b=>∃i j:Int,c=[.int i,.int j]/\(-(2 ^ 62)<=i/\i<2 ^ 62/\-(2 ^ 62)<=j/\j<2 ^ 62)/\R (vq i (j - i).toNat) b
def gJ {f:TA}{c:Pos}(u:Gl X "range")(k:X.mg "range"=none)(i:PA X [e] f)(m:starEach [e] X.env=[(false,eval e X.env)]:=by rfl):PI X tg (.Call (.Name "range" p) [e] [] c) (Vb f):=by
 intro a s v H R I h;rwa[Call_ (gZ I u k boot_range (ahM (a9 (i c a s v H _ I h) λy w ζ=>?_) m rfl))];let⟨z,x,l,o,d⟩:=ζ;let⟨j,b,d,g,q⟩:=d;subst b
 cases o with
 |cons r n=>
  ext n;let⟨t,rfl⟩:=r;rwa[call_range_1 (Aa l ∅ ∅ d g (by simpa using q))]
theorem m9 {b:Expr}{l:TA}{f:Pos}(A:Gl X "range")(u:X.mg "range"=none)(n:PA X [e,b] l)(w:starEach [e,b] X.env=[(false,eval e X.env),(false,eval b X.env)]:=by rfl)(a:starEach [b] X.env=[(false,eval b X.env)]:=by rfl):
 PI X tg (.Call (.Name "range" p) [e,b] [] f) (Vc l):=by
 intro d s B H R I h;rwa[Call_ (gZ I A u boot_range (ahM (a9 (n f d s B H _ I h) λE C ζ=>?_) (by rw[w,a]) (by rw[a];rfl)))];let⟨G,D,v,z,k⟩:=ζ;let⟨i,j,c,⟨k,m,y,o⟩,q⟩:=k;subst c
 cases z with
 |cons r g=>
  cases g with
  |cons x g=>
   ext g;let⟨t,rfl⟩:=r;let⟨F,rfl⟩:=x;rwa[call_range_2 (Aa v k m y o q)]
def YB (f:TI)(g:TG)(h:TS):TS:=λD a H=>f a H λJ j=>∃W:Nat->Nat->St->Hp->Prop,(∃m,W 0 m a j)/\∀i m a H,W i m a H->
 (J.stop i H/\D.nx a H)\/(J.go i H/\∃N:St->Hp->Prop,(∀ b c,N b c->∃e,e<m/\W (i+ 1) e b c)/\∀x c,J.mj i H x c->g x a c λ d k=>h { D with nx:=N,ct:=N,bk:=D.nx } d k)
noncomputable def vu (a:Zn)(h:Heap):List (Zs×Obj):=a.filterMap λb=>(h.get? b).map λo=>(b,o)
def iH {o:Obj}(a:b∈F)(e:h.get? b\o):(b,o)∈vu F h:=aj1.mpr ⟨b,a,by rw[e];rfl⟩
def GJ {p:Zs×Obj}(a:p∈vu F h):p.1∈F/\h.get? p.1\p.2:=by
 let⟨b,c,e⟩:=aj1.mp a
 cases q:h.get? b with
 |none=>rw[q]at e;ext e
 |some o=>
  cbv
def Inv.pinned (I:Inv X o D H s)(f:∀b∈F,pE X o H b)(i:∀b∈F,∃a,s.heap.get? b\a/\∀v,a.data≠.cell v):Inv X (o++vu F s.heap) D H s:=
 I.jq λp c=>(agX.mp c).elim (λz=>I.pin p (agS _ z)) λz=>by
  let⟨d,e⟩:=GJ z;let⟨g,f1,h,_⟩:=f p.1 d
  cbv
def Inv.uz {pl:List (Zs×Obj)}(I:Inv X (o++pl) D H s):Inv X o D H s:=I.jq λp a=>I.pin p (agS _ (ahd _ a))
theorem ck {iter:Expr}{body:List Stmt}{Z:TI}{g:TG}{U:TS}(E:PassesOwn (model X.prog X.w) X.A X.env X.xe)(hc:X.calm=true)(hi:PI X tg iter Z)(hg:PG X tg g)(q:iS X body U)
 (hs:∀x,foldedSetIterable iter X.env x=pure x:=by intro _;rfl):PS X (.For tg iter body [] p) (YB Z g U):=by
 intro c s V H D I h;rwa[wpAny_For (a9 (hi c s V H _ I h) λv s1 h1=>a9 h1 λitv s2 h2=>?_) hs];let⟨it,A,tn,J,H2,e,I2,T,P,f2,W,⟨m0,w0⟩,turn⟩:=h2;subst e
 let stat:∀{w:Hp},(∀b∈A,w b=none)->∀b∈A,pE X c w b:=λhn b q=>⟨hn b q,(f2 b q).2⟩
 rwa[codeAny_forLoop_any (λn s'=>∃i t w,Inv X c t w s'/\tn i s'.heap/\(∀b∈A,w b=none)/\W i n t w) ?_ m0 ⟨(0),V,H2,I2,P,λb q=>(f2 b q).1,w0⟩];rintro n S ⟨i,l,G,Y,C,F,w3⟩;rcases turn i n l G w3 with ⟨stop,qn⟩|⟨go,N,hN,step⟩
 ·rwa[ai7 E (a9 (T.done X rfl rfl rfl hc i c S l G X.xe Y (stat F) C stop) λr s4 ζ=>?_)];let⟨R,I4⟩:=ζ;subst R;rwa[ai6 ⟨l,G,I4,qn⟩]
 ·rwa[ai7 E (a9 (T.item X rfl rfl rfl hc i c S l G X.xe Y (stat F) C go) λr s4 ζ=>?_)];let⟨u,R,h4⟩:=ζ;subst R;rwa[ai7 E (a9 h4 λ_ s5 ζ=>?_)];let⟨x,H5,I5,r5,y5,z,L⟩:=ζ;let Q:=I5.pinned (stat L) (T.obj^z);rwa[ai7 E (a9 (hg _ s5 l H5 x u _ Q r5 (step x H5 y5)) λ_ s6 ζ=>?_)];let⟨O,H6,I6,q6⟩:=ζ;rwa[ai7 E (a9 (q _ s6 O H6 _ I6 q6) λf M y=>?_)]
  let again:∀{a:St} {k:Hp},Inv X (c++vu A s5.heap) a k M->N a k->∃m,m<n/\∃i t w,Inv X c t w M/\tn i M.heap/\(∀b∈A,w b=none)/\W i m t w:=λ{a k} j B=>by
   let⟨m',hm,w7⟩:=hN a k B;rwa[⟨m',hm,i+ 1,a,k,j.uz,T.keep _ _ _ z λb q o e=>(j.pin (b,o) (agS _ (agS _ (iH q e)))).1,λb q=>?_,w7⟩];let⟨o,e,d⟩:=T.obj _ _ z b q;rwa[(j.pin (b,o) (agS _ (agS _ (iH q e)))).2.1]
  cases f with
  |next=>let⟨a,k,j,B⟩:=y;rwa[again j B]
  |cont=>let⟨a,k,j,B⟩:=y;rwa[again j B]
  |brk=>let⟨a,k,j,y⟩:=y;rwa[a,k,j.uz,y]
  |ret v=>let⟨x7,a,k,j,r7,y⟩:=y;rwa[x7,a,k,j.uz,r7,y]
end
theorem eX {xs:Zb}{g:TG}{l:TS}(b:Nat->St->Hp->Prop)(n:b 0 D H)(v:∀i D H,i<=⇑xs->b i D H->aD K H a xs)
 (r:∀i x D H,xs[i]?\x->b i D H->g x D H λ d j=>l { G with nx:=b (i+ 1),ct:=b (i+ 1),bk:=G.nx } d j) (u:∀ D H,b ⇑xs D H->G.nx D H):
 ∃W:Nat->Nat->St->Hp->Prop,(∃m,W 0 m D H)/\∀i m D H,W i m D H->
  ((vp K a).stop i H/\G.nx D H)\/((vp K a).go i H/\∃N:St->Hp->Prop,(∀ c f,N c f->∃k,k<m/\W (i+ 1) k c f)/\∀x f,(vp K a).mj i H x f->g x D f λ d j=>l { G with nx:=N,ct:=N,bk:=G.nx } d j):=by
 erw[λi m D H=>m=⇑xs - i/\i<=⇑xs/\b i D H,⟨⇑xs,by simp,ahg _,n⟩];rintro i m D H ⟨rfl,s,p⟩;let q:=v i D H s p;by_cases h:i<⇑xs
 ·rwa[.inr ⟨⟨xs,xs[i],q,by simp[h]⟩,b (i+ 1),λ c f o=>⟨⇑xs - (i+ 1),32,h,o⟩,λx f y=>?_⟩];let⟨e,y⟩:=y;subst e;rwa[r i x D _ (y xs q) p]
 ·let e:i=⇑xs:=∅
  subst e;rwa[.inl ⟨⟨xs,q,agQ _⟩,u D H p⟩]
theorem xr {xs:Zb}{g:TG}{l:TS}(b:Nat->St->Hp->Prop)(n:b 0 D H)(v:∀i D H,i<=⇑xs->b i D H->bG K H a xs)
 (r:∀i x D H,xs[i]?\x->b i D H->g x D H λ d j=>l { G with nx:=b (i+ 1),ct:=b (i+ 1),bk:=G.nx } d j) (u:∀ D H,b ⇑xs D H->G.nx D H):
 ∃W:Nat->Nat->St->Hp->Prop,(∃m,W 0 m D H)/\∀i m D H,W i m D H->
  ((yq K a).stop i H/\G.nx D H)\/((yq K a).go i H/\∃N:St->Hp->Prop,(∀ c f,N c f->∃k,k<m/\W (i+ 1) k c f)/\∀x f,(yq K a).mj i H x f->g x D f λ d j=>l { G with nx:=N,ct:=N,bk:=G.nx } d j):=by
 erw[λi m D H=>m=⇑xs - i/\i<=⇑xs/\b i D H,⟨⇑xs,by simp,ahg _,n⟩];rintro i m D H ⟨rfl,s,p⟩;let q:=v i D H s p;by_cases h:i<⇑xs
 ·rwa[.inr ⟨⟨xs,xs[i],q,by simp[h]⟩,b (i+ 1),λ c f o=>⟨⇑xs - (i+ 1),32,h,o⟩,λx f y=>?_⟩];let⟨e,y⟩:=y;subst e;rwa[r i x D _ (y xs q) p]
 ·let e:i=⇑xs:=∅
  subst e;rwa[.inl ⟨⟨xs,q,agQ _⟩,u D H p⟩]
theorem gL {lo:Int}{g:TG}{k:TS}(d:Nat->St->Hp->Prop)(l:d 0 D H)
 (q:∀i D H,i<n->d i D H->g (.int (lo+ i)) D H λ c h=>k { G with nx:=d (i+ 1),ct:=d (i+ 1),bk:=G.nx } c h) (s:∀ D H,d n D H->G.nx D H):
 ∃W:Nat->Nat->St->Hp->Prop,(∃m,W 0 m D H)/\∀i m D H,W i m D H->
  ((vq lo n).stop i H/\G.nx D H)\/((vq lo n).go i H/\∃N:St->Hp->Prop,(∀ b f,N b f->∃j,j<m/\W (i+ 1) j b f)/\∀x f,(vq lo n).mj i H x f->g x D f λ c h=>k { G with nx:=N,ct:=N,bk:=G.nx } c h):=by
 erw[λi m D H=>m=n - i/\i<=n/\d i D H,⟨n,by simp,ahg _,l⟩];rintro i m D H ⟨rfl,t,p⟩;by_cases a:i<n
 ·rwa[.inr ⟨a,d (i+ 1),λ b f o=>⟨n - (i+ 1),32,a,o⟩,λx f y=>?_⟩];let⟨e,y⟩:=y;subst e y;rwa[q i D _ a p]
 ·let e:i=n:=∅
  subst e;rwa[.inl ⟨agQ _,s D H p⟩]
abbrev R2:=V->V->Hp->VK->Prop
def gn (X:Cx)(f:Zt->Zt->Sem Zt)(r:R2):Prop:=
 ∀(a:List (Zs×Obj)) (s:Zu) (b:St) (H:Hp) (x y:V) (v u:Zt) (Q:VK),Inv X a b H s->RelV x v->RelV y u->r x y H Q->
  X⁻¹ X.A (f v u) (EP X a b Q) X.xe s
def Qy (X:Cx)(f:Zt->Sem Zt)(r:V->Hp->VK->Prop):Prop:=
 ∀(a:List (Zs×Obj)) (s:Zu) (b:St) (H:Hp) (x:V) (v:Zt) (Q:VK),Inv X a b H s->RelV x v->r x H Q->
  X⁻¹ X.A (f v) (EP X a b Q) X.xe s
def ie (X:Cx)(f:Zt)(r:Zb->Hp->VK->Prop):Prop:=
 ∀(a:List (Zs×Obj)) (s:Zu) (b:St) (H:Hp) (c:Zb) (d:Zk) (Q:VK),Inv X a b H s->Vals c d->r c H Q->
  X⁻¹ X.A (call f d) (EP X a b Q) X.xe s
def YC (X:Cx)(r:V->Hp->(Bool->Hp->Prop)->Prop):Prop:=
 ∀(a:List (Zs×Obj)) (s:Zu) (b:St) (H:Hp) (x:V) (v:Zt) (Q:Bool->Hp->Prop),Inv X a b H s->RelV x v->r x H Q->
  X⁻¹ X.A (truthy v) (TP X a b Q) X.xe s
def Mb (r:R2)(b d:TE):TE:=λ a H Q=>b a H λx c=>d a c λy e=>r x y e Q
def tUn (r:V->Hp->VK->Prop)(a:TE):TE:=λ c H Q=>a c H λx b=>r x b Q
inductive rI (C:Int->Int->Prop) (g:Int->Int->V) (x:V) (y:V) (H:Hp) (Q:VK):Prop
 |mk (i j:Int):x=.int i->y=.int j->C i j->Q (g i j) H->rI C g x y H Q
inductive vw (g:Int->Int->V) (x:V) (y:V) (H:Hp) (Q:VK):Prop
 |mk (i j:Int):x=.int i->y=.int j->Q (g i j) H->vw g x y H Q
inductive rU (g:Int->V) (x:V) (H:Hp) (Q:VK):Prop
 |mk (i:Int):x=.int i->Q (g i) H->rU g x H Q
section
variable {X:Cx}{a b:Expr}{ta tb:TE}{pos:Pos}
theorem JL (o:PE X a ta)(p:PE X b tb){d:List (Zs×Obj)}{s:Zu}{g:St}{H:Hp}{R:V->V->Hp->Prop}(I:Inv X d g H s)
 (h:ta g H λx l=>tb g l λy e=>R x y e) {Q:Zt->Zu->Prop} {f:Zt->Zt->Sem Zt}
 (t:∀v u k x y e,Inv X d g e k->RelV x v->RelV y u->R x y e->X⁻¹ X.A (f v u) Q X.xe k):
 X⁻¹ X.A (eval a X.env) (λv i=>X⁻¹ X.A (eval b X.env) (λu j=>X⁻¹ X.A (f v u) Q X.xe j) X.xe i) X.xe s:=by
 rwa[a9 (o d s g H _ I h) λv n ζ=>?_];let⟨x,l,r,z,A⟩:=ζ
 rwa[a9 (p d n g l _ r A) λu k ζ=>?_];let⟨y,e,w,q,m⟩:=ζ
 rwa[t v u k x y e w z q m]
def aK {e:Operator}{r:R2}(j:gn X (binaryOp e) r)(f:PE X a ta)(g:PE X b tb):PE X (.BinOp a e b pos) (Mb r ta tb):=by
 intro d s o H Q I h;rwa[wpAny_BinOp (JL f g I h λv u n x y m k l i q=>j d n o m x y v u Q k l i q)]
def fY {f:UnaryOp}{r:V->Hp->VK->Prop}(n:Qy X (unaryOp f) r)(i:PE X a ta):PE X (.UnaryOp f a pos) (tUn r ta):=by
 intro d s e H Q I h;rwa[UnaryOp_ (a9 (i d s e H _ I h) λv g ζ=>?_)];let⟨x,k,j,l,m⟩:=ζ;rwa[n d g e k x v Q j l m]
theorem Qz {f:Zt->Zt->Sem Zt}{C:Int->Int->Prop}{g:Int->Int->Int}
 (rule:∀(i j:Int) (t u:Tok) (s:Zu) (Q:Zt->Zu->Prop) (E:Zt->Zu->Prop),C i j->Q (.int (g i j) s.toks) { s with toks:=s.toks+ 1 }->X⁻¹ X.A (f (.int i t) (.int j u)) Q E s):
 gn X f (rI C λi j=>.int (g i j)):=by
 intro d s n H x y v u Q I l e h;let⟨i,j,rfl,rfl,k,q⟩:=h;let⟨t,rfl⟩:=l;let⟨m,rfl⟩:=e;rwa[rule i j t m s _ _ k ⟨.int (g i j),H,I.tok _,⟨12⟩,q⟩]
theorem QB {f:Zt->Zt->Sem Zt}{g:Int->Int->Int}
 (rule:∀(i j:Int) (t u:Tok) (s:Zu) (Q:Zt->Zu->Prop) (E:Zt->Zu->Prop),Q (.int (g i j) s.toks) { s with toks:=s.toks+ 1 }->X⁻¹ X.A (f (.int i t) (.int j u)) Q E s):
 gn X f (vw λi j=>.int (g i j)):=by
 intro d s m H x y v u Q I k e h;let⟨i,j,rfl,rfl,q⟩:=h;let⟨t,rfl⟩:=k;let⟨l,rfl⟩:=e;rwa[rule i j t l s _ _ ⟨.int (g i j),H,I.tok _,⟨12⟩,q⟩]
theorem E8 {f:Zt->Zt->Sem Zt}{g:Int->Int->Bool}
 (rule:∀(i j:Int) (t u:Tok) (s:Zu) (Q:Zt->Zu->Prop) (E:Zt->Zu->Prop),Q (.bool (g i j)) s->X⁻¹ X.A (f (.int i t) (.int j u)) Q E s):
 gn X f (vw λi j=>.bl (g i j)):=by
 intro d s m H x y v u Q I k e h;let⟨i,j,rfl,rfl,q⟩:=h;let⟨t,rfl⟩:=k;let⟨l,rfl⟩:=e;rwa[rule i j t l s _ _ ⟨.bl (g i j),H,I,2,q⟩]
def YD (i j:Int):Prop:=0<j/\j<1073741824
def JM (i j:Int):Prop:=(-(2 ^ 64)<i/\i<2 ^ 64)\/(-(2 ^ 64)<j/\j<2 ^ 64)
def JM.ok (h:JM z y):IntMulOk z y:=by
 rcases h with ⟨e,d⟩|⟨e,d⟩
 ·rwa[.of_left (intBits_le_64 e d)]
 ·rwa[.of_right (intBits_le_64 e d)]
def cI:gn X (binaryOp .Add) (vw λi j=>.int (i+ j)):=QB λ_ _ _ _ _ _ _ q=>add_int q
def g6:gn X (binaryOp .Sub) (vw λi j=>.int (i - j)):=QB λ_ _ _ _ _ _ _ q=>sub_int q
def iz:gn X (binaryOp .Mult) (rI JM λi j=>.int (i* j)):=Qz λ_ _ _ _ _ _ _ d q=>mul_int q d.ok
def cX:gn X (binaryOp .FloorDiv) (rI YD λi j=>.int (i / j)):=Qz λi j _ _ _ _ _ d q=>by
 let f:(0:Int)<j:=d.1;let e:j<1073741824:=d.2;rwa[floordiv_int ∅ ([Int.fdiv_eq_ediv_of_nonneg i ∅]▸q) (.inl (PyProof.noPylong_small ∅))]
def bO:gn X (binaryOp .Mod) (rI (λ_ j=>0<j) λi j=>.int (i % j)):=Qz λi j _ _ _ _ _ d q=>by
 rwa[mod_int' ∅ ([Int.fmod_eq_emod_of_nonneg i ∅]▸q)]
theorem unI {f:Zt->Sem Zt}{g:Int->Int}
 (rule:∀(i:Int) (t:Tok) (s:Zu) (Q:Zt->Zu->Prop) (E:Zt->Zu->Prop),Q (.int (g i) s.toks) { s with toks:=s.toks+ 1 }->X⁻¹ X.A (f (.int i t)) Q E s):
 Qy X f (rU λi=>.int (g i)):=by
 intro d s j H x v Q I e h;let⟨i,rfl,q⟩:=h;let⟨t,rfl⟩:=e;rwa[rule i t s _ _ ⟨.int (g i),H,I.tok _,⟨12⟩,q⟩]
def eJ:Qy X (unaryOp .USub) (rU λi=>.int (-i)):=unI λ_ _ _ _ _ q=>neg_int q
end
noncomputable def JN:V->V->Bool
 |.non,.non=>true|.non,.int _=>true|.int _,.non=>true|.non,.bl _=>true|.bl _,.non=>true|.non,.str _=>true|.str _,.non=>true
 |.int _,.int _=>true|.bl _,.bl _=>true|.str _,.str _=>true|.m7 _,.m7 _=>true
 |.int _,.str _=>true|.str _,.int _=>true|.bl _,.str _=>true|.str _,.bl _=>true
 |_,_=>false
inductive Wd (x:V) (y:V) (H:Hp) (Q:VK):Prop
 |mk:JN x y=true->Q (.bl (decide (x=y))) H->Wd x y H Q
inductive Wg (x:V) (y:V) (H:Hp) (Q:VK):Prop
 |mk:JN x y=true->Q (.bl (!decide (x=y))) H->Wg x y H Q
def DE:decide (V.int z=V.int y)=(z==y):=by
 rw[ah6];simp
def GK {i j:Bool}:decide (V.bl i=V.bl j)=(i==j):=by
 rw[ah6];simp
def DF:decide (V.str x=V.str f)=(x==f):=by
 rw[ah6];simp
def DG {i j:Array UInt8}:decide (V.m7 i=V.m7 j)=(i.toList==j.toList):=by
 rw[ah6];ext i;ext j;simp
section
variable {X:Cx}{a b:Expr}{ta tb:TE}{pos:Pos}
def bS {Q:VK}{k d:Bool}(I:Inv X o D H s)(q:Q (.bl k) H)(e:k=d):EP X o D Q (.bool d) s:=by
 subst e;rwa[.bl k,H,I,2,q]
def eh:gn X (compareOp .Eq) Wd:=by
 intro k s l H x y v u Q I g d h;let⟨f,q⟩:=h
 cases x with
 |non=>
  ext g
  cases y with
  |non=>ext d;rwa[PySem.EqNone.eq_none_none (bS I q (by simp))]
  |bl j=>ext d;rwa[PySem.EqNone.eq_none_bool (bS I q (by simp))]
  |int j=>let⟨e,rfl⟩:=d;rwa[PySem.EqNone.eq_none_int (bS I q (by simp))]
  |str j=>let⟨e,rfl⟩:=d;rwa[PySem.EqNone.eq_none_str (bS I q (by simp))]
  |_=>exact absurd (show false=true from f) ahC
 |bl i=>
  ext g
  cases y with
  |non=>ext d;rwa[PySem.EqNone.eq_bool_none (bS I q (by simp))]
  |bl j=>ext d;rwa[eq_bool (bS I q GK)]
  |str j=>let⟨e,rfl⟩:=d;rwa[PySem.EqMixed.eq_bool_str (bS I q (by simp))]
  |_=>exact absurd (show false=true from f) ahC
 |int i=>
  let⟨t,rfl⟩:=g
  cases y with
  |non=>ext d;rwa[PySem.EqNone.eq_int_none (bS I q (by simp))]
  |int j=>let⟨e,rfl⟩:=d;rwa[eq_int (bS I q DE)]
  |str j=>let⟨e,rfl⟩:=d;rwa[PySem.EqMixed.eq_int_str (bS I q (by simp))]
  |_=>exact absurd (show false=true from f) ahC
 |str i=>
  let⟨t,rfl⟩:=g
  cases y with
  |non=>ext d;rwa[PySem.EqNone.eq_str_none (bS I q (by simp))]
  |bl j=>ext d;rwa[PySem.EqMixed.eq_str_bool (bS I q (by simp))]
  |int j=>let⟨e,rfl⟩:=d;rwa[PySem.EqMixed.eq_str_int (bS I q (by simp))]
  |str j=>let⟨e,rfl⟩:=d;rwa[eq_str (bS I q DF)]
  |_=>exact absurd (show false=true from f) ahC
 |m7 i=>
  let⟨t,rfl⟩:=g
  cases y with
  |m7 j=>let⟨e,rfl⟩:=d;rwa[PySem.W.eq_bytes (bS I q DG)]
  |_=>exact absurd (show false=true from f) ahC
 |_=>cases y <;> rwa[absurd (show false=true from f) ahC]
def jK:gn X (compareOp .NotEq) Wg:=by
 intro k s l H x y v u Q I g d h;let⟨f,q⟩:=h
 cases x with
 |non=>
  ext g
  cases y with
  |non=>ext d;rwa[PySem.EqNone.ne_none_none (bS I q (by simp))]
  |bl j=>ext d;rwa[PySem.EqNone.ne_none_bool (bS I q (by simp))]
  |int j=>let⟨e,rfl⟩:=d;rwa[PySem.EqNone.ne_none_int (bS I q (by simp))]
  |str j=>let⟨e,rfl⟩:=d;rwa[PySem.EqNone.ne_none_str (bS I q (by simp))]
  |_=>exact absurd (show false=true from f) ahC
 |bl i=>
  ext g
  cases y with
  |non=>ext d;rwa[PySem.EqNone.ne_bool_none (bS I q (by simp))]
  |bl j=>ext d;rwa[ne_bool (bS I q (ahZ not GK))]
  |str j=>let⟨e,rfl⟩:=d;rwa[PySem.EqMixed.ne_bool_str (bS I q (by simp))]
  |_=>exact absurd (show false=true from f) ahC
 |int i=>
  let⟨t,rfl⟩:=g
  cases y with
  |non=>ext d;rwa[PySem.EqNone.ne_int_none (bS I q (by simp))]
  |int j=>let⟨e,rfl⟩:=d;rwa[ne_int (bS I q (ahZ not DE))]
  |str j=>let⟨e,rfl⟩:=d;rwa[PySem.EqMixed.ne_int_str (bS I q (by simp))]
  |_=>exact absurd (show false=true from f) ahC
 |str i=>
  let⟨t,rfl⟩:=g
  cases y with
  |non=>ext d;rwa[PySem.EqNone.ne_str_none (bS I q (by simp))]
  |bl j=>ext d;rwa[PySem.EqMixed.ne_str_bool (bS I q (by simp))]
  |int j=>let⟨e,rfl⟩:=d;rwa[PySem.EqMixed.ne_str_int (bS I q (by simp))]
  |str j=>let⟨e,rfl⟩:=d;rwa[ne_str (bS I q (ahZ not DF))]
  |_=>exact absurd (show false=true from f) ahC
 |m7 i=>
  let⟨t,rfl⟩:=g
  cases y with
  |m7 j=>let⟨e,rfl⟩:=d;rwa[PySem.W.ne_bytes (bS I q (ahZ not DG))]
  |_=>exact absurd (show false=true from f) ahC
 |_=>cases y <;> rwa[absurd (show false=true from f) ahC]
def pG:gn X (compareOp .Lt) (vw λi j=>.bl (decide (i<j))):=E8 λ_ _ _ _ _ _ _ q=>lt_int q
def Vd:gn X (compareOp .LtE) (vw λi j=>.bl (decide (i<=j))):=E8 λ_ _ _ _ _ _ _ q=>le_int q
def sP:gn X (compareOp .Gt) (vw λi j=>.bl (decide (j<i))):=E8 λ_ _ _ _ _ _ _ q=>gt_int q
def E9:gn X (compareOp .GtE) (vw λi j=>.bl (decide (j<=i))):=E8 λ_ _ _ _ _ _ _ q=>ge_int q
def qU:gn X (compareOp .Is) (λx y H Q=>y=.non/\Q (.bl (decide (x=.non))) H):=by
 intro e s g H x y v u Q I d f h;let⟨rfl,q⟩:=h;ext f;rwa[is_none_gen (bS I q ?_)]
 cases x <;> first
  |(ext d;rfl)
  |(let⟨t,rfl⟩:=d;rfl)
def lY:gn X (compareOp .IsNot) (λx y H Q=>y=.non/\Q (.bl (!decide (x=.non))) H):=by
 intro e s g H x y v u Q I d f h;let⟨rfl,q⟩:=h;ext f;rwa[isnot_none_gen (bS I q ?_)]
 cases x <;> first
  |(ext d;rfl)
  |(let⟨t,rfl⟩:=d;rfl)
def aY (b:Expr){d:CmpOp}(h:d≠.In:=by decide)(g:d≠.NotIn:=by decide):behindInMarks d b=false:=by
 let e:(d==CmpOp.In)=false:=by cbv
 let f:(d==CmpOp.NotIn)=false:=by cbv
 cases b <;> simp[behindInMarks,e,f]
def iI {e:CmpOp}{r:R2}(k:gn X (compareOp e) r)(f:PE X a ta)(i:PE X b tb)(g:behindInMarks e b=false):PE X (.Compare a [e] [b] pos) (Mb r ta tb):=by
 intro d s p H Q I h;rwa[wpAny_Compare1 (JL f i I h λv u o x y n l m j q=>k d o p n x y v u Q l m j q) g]
inductive QC (x:V) (H:Hp) (Q:Bool->Hp->Prop):Prop
 |mk (k:Bool):x=.bl k->Q k H->QC x H Q
def Ve (t:TE):TT:=λ e H Q=>t e H λx d=>QC x d Q
def aX {f:CmpOp}{r:R2}(t:gn X (compareOp f) r)(l:PE X a ta)(o:PE X b tb)(n:behindInMarks f b=false):PT X (.Compare a [f] [b] pos) (Ve (Mb r ta tb)):=by
 intro d s g H Q I h
 refine wpAny_isTrue_Compare1 (a9 (l d s g H _ I h) λv j ⟨x,m,q,E,J⟩=>a9 (o d j g m _ q J) λu F ⟨y,D,w,p,i⟩=>
  a9 (t d F g D x y v u _ w E p i) λc L ⟨z,A,G,B,k,e,C⟩=>?_) n
 subst e;ext B;rwa[aiM ⟨A,G,C⟩]
def QD (K:Za1)(x:V)(H:Hp)(k:Bool):Prop:=
 match x with
 |.non=>k=false
 |.bl b=>k=b
 |.int i=>k=(i !=0)
 |.str y=>⇑y<=sizeLine/\k=((⇑y:Int) !=0)
 |.m7 y=>y.size<=sizeLine/\k=((y.size:Int) !=0)
 |.ref p=>(∃xs,aD K H p xs/\k=!xs.isEmpty)\/(∃xs,bG K H p xs/\k=!xs.isEmpty)\/∃d,H p\.dK d/\k=!d.isEmpty
 |_=>False
def Fb {f:Type}{d:List (f×V)}{e:List (f×Zt)}(r:KV d e):(!e.isEmpty)=!d.isEmpty:=by
 cases r <;> rfl
def vx {xs:Zb}(r:Vals xs N):(!N.toArray.isEmpty)=!xs.isEmpty:=by
 cases r <;> simp
def qV:(sizeLine:Nat)<2 ^ 63:=⋯
def QF:YC X (λx H Q=>∃k,QD X.K x H k/\Q k H):=by
 intro o s C H x v Q I g h;let⟨k,e,q⟩:=h;let B:=qV;let A:sizeLine=16777216:=sizeLine_eq
 cases x with
 |non=>
  ext g;let d:k=false:=e;subst d;rwa[truthy_none ⟨H,I,q⟩]
 |bl b=>
  ext g;let d:k=b:=e;subst d;rwa[aiM ⟨H,I,q⟩]
 |int i=>
  let⟨t,rfl⟩:=g;let d:k=(i !=0):=e;subst d;rwa[PySem.P.truthy_int ⟨H,I,q⟩]
 |str y=>
  let⟨t,rfl⟩:=g;obtain⟨z,d⟩:⇑y<=sizeLine/\k=((⇑y:Int) !=0):=e;subst d;rwa[PySem.P.truthy_str ∅ ⟨H,I.tok _,q⟩]
 |m7 y=>
  let⟨t,rfl⟩:=g;obtain⟨z,d⟩:y.size<=sizeLine/\k=((y.size:Int) !=0):=e;subst d;rwa[PySem.W.truthy_bytes ∅ ⟨H,I.tok _,q⟩]
 |ref p=>
  ext g;let d:(∃xs,aD X.K H p xs/\k=!xs.isEmpty)\/(∃xs,bG X.K H p xs/\k=!xs.isEmpty)\/∃f,H p\.dK f/\k=!f.isEmpty:=e;rcases d with ⟨xs,j,d⟩|⟨xs,j,d⟩|⟨f,j,d⟩
  ·subst d;let⟨n,r,pl,u⟩:=I.list j;let hlen:=⇑r;rwa[wpAny_truthy_list pl.isList (by simp only[ag6];omega) ⟨H,I.tok _,[vx r]▸q⟩]
  ·subst d;let⟨n,r,pl,u⟩:=I.tuple j;let hlen:=⇑r;rwa[truthy_tuple pl (by simp only[ag6];omega) ⟨H,I.tok _,[vx r]▸q⟩]
  ·subst d;obtain⟨u,w,l,r,m⟩:⇑f<=sizeLine/\(p==sysModules)=false/\∃l,KV f l/\s.heap.DictOf (bQ X.prog X.w) p l:=I.aO p _ j;let hlen:⇑f=⇑l:=Paired.length r;rwa[wpAny_truthy_dict w m ∅ ⟨H,I.tok _,[Fb r]▸q⟩]
 |_=>exact(show False from e).elim
theorem Ab (j:PE X a ta)(i:∀whole,isTrue a X.env whole=(do let v <-whole;standAt a.pos;holding [v] (truthy v))):
 PT X a (λ e H Q=>ta e H λx f=>∃k,QD X.K x f k/\Q k f):=by
 intro d s e H Q I h;rwa[isTrue_plain (a9 (j d s e H _ I h) λv g ζ=>?_) (i _)];let⟨x,m,l,n,o⟩:=ζ;rwa[QF d g e m x v Q l n o]
def vals1 {x:V}(r:Vals [x] N):∃u,N=[u]/\RelV x u:=by
 cases r with
 |cons d e=>ext e;rwa[12,d]
def vals2 {x:V}(r:Vals [x,q] N):∃u d,N=[u,d]/\RelV x u/\RelV q d:=by
 cases r with
 |cons h f=>
  cases f with
  |cons g e=>ext e;rwa[112,h,g]
def JP:ie X (.builtin "abs") (λd H Q=>∃i,d=[.int i]/\Q (.int (if i<0 then -i else i)) H):=by
 intro e s f H d g Q I r h;let⟨i,rfl,q⟩:=h;let⟨u,rfl,t,rfl⟩:=vals1 r;rwa[call_abs_int λu j=>⟨.int (if i<0 then -i else i),H,I.tok _,⟨12⟩,q⟩]
def GN (g:X.calm=true):ie X (.builtin "max") (λe H Q=>∃i j,e=[.int i,.int j]/\Q (.int (if j > i then j else i)) H):=by
 intro f s v H e o Q I r h;let⟨i,j,rfl,q⟩:=h;let⟨u,n,rfl,⟨t,rfl⟩,⟨p,rfl⟩⟩:=vals2 r;rwa[max_two_ints (I.ok.hd g) λl m k=>⟨_,H,I.kept k,5,q⟩]
 by_cases d:j > i
 ·rw[ahf d,ahf d];rwa[12]
 ·rw[ahc d,ahc d];rwa[12]
def GO (g:X.calm=true):ie X (.builtin "min") (λe H Q=>∃i j,e=[.int i,.int j]/\Q (.int (if j<i then j else i)) H):=by
 intro f s v H e o Q I r h;let⟨i,j,rfl,q⟩:=h;let⟨u,n,rfl,⟨t,rfl⟩,⟨p,rfl⟩⟩:=vals2 r;rwa[min_two_ints (I.ok.hd g) λl m k=>⟨_,H,I.kept k,5,q⟩]
 by_cases d:j<i
 ·rw[ahf d,ahf d];rwa[12]
 ·rw[ahc d,ahc d];rwa[12]
end
structure uA (h:Heap) (x dx C:Zs) (mA:Str->Zl):Prop where
 obj:h.get? x\(PySem.W.instObj C dx)
 ns:h.Ns1 dx mA
 ne:dx≠x
def GP (n:h.Ns1 a M):∃d,h.get? a\d/\∀name,PySem.W.lookIn name d\(M name):=by
 let⟨o,g,m,i,k,j,_,f⟩:=n;rwa[⟨o,i,λname=>?_⟩];let e:=f name;unfold nsFind findBy at e;rw[<-Array.find?_toList]at e;unfold PySem.W.lookIn;rw[k];dsimp only;split
 ·cbv
 ·rename_i q;rw[q]at e
  let b:g.toList.any (·.refKey)=false:=by
   rw[List.any_eq_false];intro y l;let⟨z,t,c⟩:=j y (Array.mem_toList_iff.mp l);simp[DictEntry.refKey,c]
  cbv
def uA.look {x dx:Zs}(I:uA h x dx a M):∃b,PySem.W.InstAt h x (PySem.W.instObj a dx) a (some b)/\∀name,PySem.W.lookIn name b\(M name):=
 let ⟨b,d,c⟩:=GP I.ns
 ⟨b,⟨I.obj,22,d⟩,c⟩
section
variable {prog:Program}{w:World}{A:Around}{E:Zt->Zu->Prop}{s:Zu}{K:Za1}{x dx C f:Zs}{mA:Str->Zl}{name:Str}{v:Zt}
theorem get_map {expr:Bool}(X:K.In s.heap)(I:uA s.heap x dx C mA)(d:PySem.W.plainGet K C name=true)(e:PySem.W.hasDictIn K C=true)
 (b:PySem.W.findIn K ↑C name\none) (g:mA name\v) (a:PySem.W.handedIn v=true) (h:Q v { s with toks:=s.toks+ 1 }):
 (prog<|>w) A (getAttr ↑x name expr) Q E s:=by
 let⟨i,J,c⟩:=I.look;rwa[PySem.W.get_value X J (PySem.W.plainGet_of d).1 (PySem.W.findObj_own e b rfl (by rw[c,g])) a h]
theorem JQ {pl:Sem Bool}{Q:Zt×Zk->Zu->Prop}(X:K.In s.heap)(I:uA s.heap x dx C mA)(a:PySem.W.plainGet K C name=true)
 (e:PySem.W.findIn K ↑C name\some ↑f) (b:PySem.W.isFn K ↑f=true) (g:mA name=none) (h:Q (↑f,[↑x]) s):
 (prog<|>w) A (getMethod ↑x name pl) Q E s:=by
 let⟨d,J,c⟩:=I.look;rwa[PySem.W.method_fn X J (PySem.W.plainGet_of a).1 (PySem.W.plainGet_of a).2 e (ajS.mp b) (by show (PySem.W.lookIn name d).map (·.isSome)\false;rw[c,g];rfl) h]
theorem Ob {ns:Zp}(X:K.In s.heap)(I:uA s.heap x dx C mA)
 (p:PySem.W.findIn K ↑C "__setattr__"=some (some (.builtin "object.__setattr__"))) (l:PySem.W.plainOver K C=true) (z:PySem.W.takerIn K C name\none) (n:PySem.W.hasDictIn K C=true)
 (u:PySem.Within mA ns) (B:⇑ns<=sizeLine)
 (h:∀e,uA e x dx C (λy=>if y=name then some v else mA y)->Heap.SameBut dx s.heap e->U () { s with heap:=e,toks:=s.toks+ 2 }):
 (prog<|>w) A (setAttr ↑x name v) U E s:=by
 let⟨F,J,G⟩:=I.look;rwa[PySem.W.set_plain X J p (PySem.W.osa_open (s:={ s with toks:=s.toks+ 1 }) (r:=none) X J l z λb=>?_)];let⟨H,o,k⟩:=PySem.W.any_some n;let t:s.heap.get? x\⟨↑C,some dx,.plain,#[]⟩:=I.obj;rwa[agI (agP (agI (agI (wpAny_loadPart t (agI (PySem.W.Looks.here (s:={ s with toks:=s.toks+ 1 }) (PySem.W.looks_clsIn X o) ?_))))))];rw[k];rwa[agP (a:=some dx) (agI (agP (agI ?_)))];rwa[wpAny_nsSet1 (s:={ s with toks:=s.toks+ 1 }) I.ns λe d c=>?_]
 let⟨D,m,q,j,i,g⟩:=d.count (PySem.Within.cons name v u);rwa[agI (wpAny_lookBehind j ([i]▸pastItsLine_dict (ag3 g (by rw[ahi];omega))) ?_)];rwa[agP (h _ ⟨(c.2 _ (ah5 I.ne)).trans I.obj,d,I.ne⟩ c)]
theorem JR {R:Result->Zu->Prop}{a:List (Str×Zt)}(X:K.In s.heap)(c:PySem.W.makesIn K C=true)
 (d:PySem.W.findIn K ↑C "__init__"=some (some ↑f)) (b:PySem.W.typeIn K ↑f\(.type "function"))
 (h:codeAny (model prog w) (A.under (.builtin "type.__call__" ⟨↑C::N,a⟩)) (.call ↑f ⟨↑(↥s+ 1)::N,a⟩) (PySem.W.InitBack (↥s+ 1) R)
  { s with heap:=(s.heap.push PySem.W.emptyDict).push (PySem.W.instObj C ↥s) }):
 codeAny (model prog w) A (.call ↑C ⟨N,a⟩) R s:=by
 rwa[PySem.W.make_core (PySem.W.makes_of X c) (PySem.W.looks_findIn X d) (λself=>PySem.W.bind_fn X self b) (.inl rfl) h]
theorem GQ {R:Result->Zu->Prop}(X:K.In s.heap)(a:PySem.W.makesIn K C=true)
 (c:PySem.W.findIn K ↑C "__init__"=some (some (.builtin "object.__init__")))
 (b:∀self,PySem.W.Looks (model prog w) s.heap (bindSpecial (.builtin "object.__init__") self) (.builtin "object.__init__",[self]))
 (h:codeAny (model prog w) (A.under (.builtin "type.__call__" ⟨[↑C],[]⟩)) (.call (.builtin "object.__init__") ⟨[↑(↥s+ 1)],[]⟩) (PySem.W.InitBack (↥s+ 1) R)
  { s with heap:=(s.heap.push PySem.W.emptyDict).push (PySem.W.instObj C ↥s) }):
 codeAny (model prog w) A (.call ↑C ⟨[],[]⟩) R s:=by
 rwa[PySem.W.make_core (PySem.W.makes_of X a) (PySem.W.looks_findIn X c) b (.inr ⟨22⟩) h]
end
noncomputable def bL (f:Str)(v:V):List (Str×V)->List (Str×V)
 |[]=>[(f,v)]
 |(g,x)::r=>if g=f then (g,v)::r else (g,x)::bL f v r
theorem nY (f g:Str)(v:V):∀fs:List (Str×V),(bL f v fs).lookup g=if g=f then some v else fs.lookup g
 |[]=>by
  show List.lookup g [(f,v)]=_
  cbv
 |(k,x)::r=>by
  let a:=nY f g v r;rw[show bL f v ((k,x)::r)=(if k=f then (k,v)::r else (k,x)::bL f v r) from rfl]
  cbv
theorem kO (f:Str)(v:V):∀fs:List (Str×V),f∈(bL f v fs).map (·.1)/\∀g,g∈fs.map (·.1)->g∈(bL f v fs).map (·.1)
 |[]=>⟨by simp[bL],λg h=>by simp at h⟩
 |(k,x)::r=>by
  let⟨a,b⟩:=kO f v r;rw[show bL f v ((k,x)::r)=(if k=f then (k,v)::r else (k,x)::bL f v r) from rfl]
  cbv
theorem tV (f:Str)(v:V):∀fs:List (Str×V),⇑(bL f v fs)<=⇑fs+ 1
 |[]=>by simp[bL]
 |(k,x)::r=>by
  let a:=tV f v r;rw[show bL f v ((k,x)::r)=(if k=f then (k,v)::r else (k,x)::bL f v r) from rfl]
  cbv
def eS.some_of {v:V}{o:Zl}(r:eS (some v) o):∃u,o\u/\RelV v u:=by
 cases o with
 |none=>exact(show False from r).elim
 |some u=>rwa[u,2,r]
def eS.none_of {o:Zl}(r:eS none o):o=none:=by
 cases o with
 |none=>rfl
 |some u=>exact(show False from r).elim
def GR (r:RelV q u):PySem.W.handedIn u=true:=by
 cases q with
 |non=>cases (show u=Value.none from r);rfl
 |bl b=>cases (show u=Value.bool b from r);rfl
 |int i=>let⟨t,e⟩:=(show ∃t,u=Value.int i t from r);ext e;rfl
 |str x=>let⟨t,e⟩:=(show ∃t,u=Value.str x t from r);ext e;rfl
 |m7 b=>let⟨t,e⟩:=(show ∃t,u=Value.bytes b t from r);ext e;rfl
 |zV b=>let⟨t,e⟩:=(show ∃t,u=Value.float b t from r);ext e;rfl
 |ref a=>cases (show u=Value.ref a from r);rfl
 |ty n=>cases (show u=Value.type n from r);rfl
section
variable {P:Program}{w:World}{H:Hp}{h:Heap}{a C dx:Zs}{fs:List (Str×V)}
def sQ (c:dH P w H h)(e:H a\.ins C dx fs):∃b,uA h a dx C b/\(∀f,eS (fs.lookup f) (b f))/\PySem.Within b (fs.map (·.1))/\⇑fs<=1000/\H dx\(.own a):=by
 let⟨d,z,ne,g,b,n,r,q⟩:=(show bV P w H h a (.ins C dx fs) from c a _ e);rwa[b,⟨g,n,ne⟩,r,q,z,d]
end
structure j3 (K:Za1) (C:Zs):Prop where
 pg:PySem.W.plainGet K C Str.empty=true
 hd:PySem.W.hasDictIn K C=true
 po:PySem.W.plainOver K C=true
 sa:PySem.W.findIn K ↑C "__setattr__"=some (some (.builtin "object.__setattr__"))
def j3.get (c:j3 K a)(f:Str):PySem.W.plainGet K a f=true:=c.pg
def kP (K:Za1)(C:Zs)(f:Str):Prop:=PySem.W.findIn K ↑C f\none
def kP.Fd (n:kP K a f):PySem.W.takerIn K a f\none:=by
 unfold PySem.W.takerIn;rw[show PySem.W.findIn K ↑a f=some none from n];rfl
structure Con (K:Za1) (C:Zs) (f:Str) (v:V) (u:Zt):Prop where
 at_:PySem.W.findIn K ↑C f\(some u)
 rel:RelV v u
 get:PySem.W.specialIn K u "__get__"=some none
 cp:PySem.W.copiedNames.contains f=false
structure Meth (K:Za1) (C:Zs) (m:Str) (f:Zs):Prop where
 at_:PySem.W.findIn K ↑C m\(some ↑f)
 fn:PySem.W.isFn K ↑f=true
 kp:PySem.W.keepIn K ↑f=true
section
variable {X:Cx}{pins:List (Zs×Obj)}{σ:St}{H:Hp}{s:Zu}{a C dx:Zs}{fs:List (Str×V)}{f:Str}{v:V}{A:Around}{E:Zt->Zu->Prop}
theorem Fe {b:Bool}(I:Inv X pins σ H s)(e:H a\.ins C dx fs)(c:j3 X.K C)(n:kP X.K C f)(l:fs.lookup f\v)
 (h:∀u d,Inv X pins σ H d->RelV v u->Q u d):X⁻¹ A (getAttr ↑a f b) Q E s:=by
 let⟨j,O,r,_,_,_⟩:=sQ I.aO e;let⟨u,i,g⟩:=eS.some_of (v:=v) (o:=j f) (by rw[<-l];rwa[r f]);rwa[get_map I.dw O (c.get f) c.hd n i (GR g) (h u _ (I.tok _) g)]
theorem vy {pl:Sem Bool}{Q:Zt×Zk->Zu->Prop}(I:Inv X pins σ H s)(e:H a\.ins C dx fs)(c:j3 X.K C)(k:Meth X.K C x b)(l:fs.lookup x=none)
 (h:Q (↑b,[↑a]) s):X⁻¹ A (getMethod ↑a x pl) Q E s:=by
 let⟨d,O,r,_,_,_⟩:=sQ I.aO e;let g:d x=none:=eS.none_of (by cbv);rwa[JQ I.dw O (c.get x) k.at_ k.fn g h]
theorem Ff (I:Inv X pins σ H s)(e:H a\.ins C dx fs)(c:j3 X.K C)(n:kP X.K C f)(J:⇑fs<1000)(w:RelV q u)
 (h:∀l,Inv X pins σ (upd H a (.ins C dx (bL f q fs))) l->U () l):X⁻¹ A (setAttr ↑a f u) U E s:=by
 let⟨p,O,r,j,_,k⟩:=sQ I.aO e;let y:⇑(fs.map (·.1))<=sizeLine:=by rw[agO,sizeLine_eq];ext
 rwa[Ob I.dw O c.sa c.po n.Fd c.hd j y λB i m=>h _ ?_]
 let D:∃o,B.get? dx\o:=let ⟨o,_,_,F,_⟩:=i.ns;⟨o,F⟩
 rwa[I.write (x:=a) (e:=dx) ([e]▸True.intro) (.inr k) (λb d t z=>(m.2 b t).trans z) D ?_];rwa[⟨[ak O.ne]▸k,5,O.ne,i.obj,_,i.ns,λg=>?_,λg G=>?_⟩]
 ·have:=tV f q fs;ext
 ·show eS ((bL f q fs).lookup g) (if g=f then some u else p g);rw[nY];by_cases d:g=f
  ·rw[ahf d,ahf d];rwa[w]
  cbv
 ·by_cases d:g=f
  ·rw[d];rwa[(kO f q fs).1]
  ·rwa[(kO f q fs).2 g (j g λz=>G ?_)]
   cbv
theorem Inv.made (I:Inv X pins σ H s):Inv X pins σ (upd (upd H ↥s (.own (↥s+ 1))) (↥s+ 1) (.ins C ↥s []))
 { s with heap:=(s.heap.push PySem.W.emptyDict).push (PySem.W.instObj C ↥s) }:=by
 let c:(s.heap.push PySem.W.emptyDict).get? ↥s\PySem.W.emptyDict:=agZ s.heap rfl
 let k:((s.heap.push PySem.W.emptyDict).push (PySem.W.instObj C ↥s)).get? (↥s+ 1)\(PySem.W.instObj C ↥s):=by
  have:=agZ (s.heap.push PySem.W.emptyDict) (o:=PySem.W.instObj C ↥s) rfl
  rwa [aiw]at this
 let i:(s.heap.push PySem.W.emptyDict).Ns ↥s (λ_=>none):=⟨PySem.W.emptyDict,#[],_,c,2,(λe g=>absurd g (by simp)),λ_=>rfl⟩;let h:=I.laid (a:=↥s) (o:=.own (↥s+ 1)) (h':=s.heap.push PySem.W.emptyDict) (t':=s.toks) (λb u q=>agL _ q) (agQ _) ⟨_,c⟩;rwa[h.laid (a:=↥s+ 1) (o:=.ins C ↥s []) (t':=s.toks) (λb u q=>agL _ q) (ajT (aiw _ _)) ?_];let ne:↥s≠↥s+ 1:=ahk (aic _);rwa[⟨by rw[ak ne,ah],ahg _,ne,k,λ_=>none,(Heap.Ns1.of_empty i).at λo q=>agL _ q,λ_=>True.intro,λy d=>absurd rfl d⟩]
theorem Oc {env:Env}{f:Str}{s:Zu}(c:attributeBase e f env (eval e env)=eval e env)
 (h:(P<|>w) A (eval e env) (λo b=>(P<|>w) A (getAttr o f true) Q E b) E s):(P<|>w) A (eval (.Attribute e f p) env) Q E s:=
 Attribute_any_ h (by rw[arm_eval_Attribute,c])
end
inductive QG (K:Za1) (f:Str) (x:V) (H:Hp) (Q:VK):Prop
 |mk (a C dx:Zs) (fs:List (Str×V)) (v:V):x=↑a->H a\.ins C dx fs->j3 K C->kP K C f->fs.lookup f\v->Q v H->QG K f x H Q
def QH (K:Za1)(a:TE)(f:Str):TE:=λ c H Q=>a c H λx b=>QG K f x b Q
inductive QI (K:Za1) (f:Str) (y x:V) (H:Hp) (N:Hp->Prop):Prop
 |mk (a C dx:Zs) (fs:List (Str×V)):x=↑a->H a\.ins C dx fs->j3 K C->kP K C f->⇑fs<1000->N (upd H a (.ins C dx (bL f y fs)))->QI K f y x H N
def YF (K:Za1)(b e:TE)(f:Str):TS:=λD a H=>e a H λy c=>b a c λx d=>QI K f y x d (D.nx a)
section
variable {X:Cx}{o e value:Expr}{f:Str}{pos pos':Pos}{ta tv:TE}
def aH (k:PE X e ta)(g:attributeBase e f X.env (eval e X.env)=eval e X.env):PE X (.Attribute e f pos) (QH X.K ta f):=by
 intro b s t H Q I h;rwa[Oc g (a9 (k b s t H _ I h) λu w ζ=>?_)];let⟨x,d,i,p,a,C,y,fs,v,ex,m,c,n,l,q⟩:=ζ;subst ex;obtain rfl:u=Value.ref a:=p;rwa[Fe i m c n l λz A j r=>⟨v,d,j,r,q⟩]
def bY (j:PE X o ta)(z:PE X value tv)(r:swapsWith value (some (.Attribute o f pos')) pos.line X.env=pure false):PS X (.Assign [.Attribute o f pos'] value pos) (YF X.K ta tv f):=by
 intro b s d H D I h;rwa[plainObj_wpAny_Assign_Attribute (a9 (z b s d H _ I h) λu i ζ=>?_) r];let⟨y,k,p,m,q⟩:=ζ;rwa[a9 (j b i d k _ p q) λA J ζ=>?_];let⟨x,G,t,w,a,C,F,fs,ex,v,c,n,l,g⟩:=ζ;subst ex;obtain rfl:A=Value.ref a:=w;rwa[Ff t v c n l m λE B=>⟨d,_,B,g⟩]
inductive YH (x:V) (y:V) (H:Hp) (Q:VK):Prop
 |mk (i j:Int):x=.int i->y=.int j->Q (.int (i+ j)) H->YH x y H Q
inductive YJ (x:V) (y:V) (H:Hp) (Q:VK):Prop
 |mk (i j:Int):x=.int i->y=.int j->Q (.int (i - j)) H->YJ x y H Q
end
section
variable {X:Cx}{pins:List (Zs×Obj)}{σ:St}{H:Hp}{s:Zu}{A:Around}{E:Zt->Zu->Prop}{Q:Zt->Zu->Prop}{c:Zt}{b:Bool}
inductive jL (K:Za1) (H:Hp):V->Zt->Prop where
 |non:jL K H .non (.type "NoneType")
 |bl (x:Bool):jL K H (.bl x) (.type "bool")
 |int (i:Int):jL K H (.int i) (.type "int")
 |str (x:Str):jL K H (.str x) (.type "str")
 |zV (x:UInt64):jL K H (.zV x) (.type "float")
 |lst {a:Zs} {xs:Zb} (e:H a\.lst xs):jL K H ↑a (.type "list")
 |cR {a:Zs} {o:Obj} {xs:Zb} (e:H a\.cR o (.lst xs)):jL K H ↑a (.type "list")
 |tup {a:Zs} {xs:Zb} (e:H a\.tup xs):jL K H ↑a (.type "tuple")
 |dK {a:Zs} {kvs:List (Key×V)} (e:H a\.dK kvs):jL K H ↑a (.type "dict")
 |dT {a:Zs} {kvs:List (Zd×V)} (e:H a\.dT kvs):jL K H ↑a (.type "dict")
 |ins {a C dx:Zs} {fs:List (Str×V)} (e:H a\.ins C dx fs) (cl:j3 K C) (ha:PySem.W.findIn K ↑C "__class__"=some (some (.builtin "object.__class__")))
  (hn:PySem.W.specialIn K (.builtin "object.__class__") "__get__"=some (some (.builtin "getset_descriptor.__get__"))) (htk:PySem.W.takesIn K (.builtin "object.__class__")\true)
  (hm:PySem.W.mroIn K C (.type "object")\true):jL K H ↑a ↑C
theorem GU {x:V}(I:Inv X pins σ H s)(d:RelV x u)(r:jL X.K H x v)(e:PySem.W.kitOne X.K v c\b)(h:∀F,Q (.bool b) { s with toks:=F }):
 X⁻¹ A (call (.builtin "isinstance") [u,c]) Q E s:=by
 cases r with
 |non=>cases (show u=Value.none from d);rwa[aia PySem.W.kitx_none I.dw True.intro e (λz=>nomatch z) h]
 |bl y=>cases (show u=Value.bool y from d);rwa[aia PySem.W.kitx_bool I.dw True.intro e (λz=>nomatch z) h]
 |int i=>let⟨v,q⟩:=(show ∃v,u=Value.int i v from d);ext q;rwa[aia PySem.W.kitx_int I.dw True.intro e (λz=>nomatch z) h]
 |str y=>let⟨v,q⟩:=(show ∃v,u=Value.str y v from d);ext q;rwa[aia PySem.W.kitx_str I.dw True.intro e (λz=>nomatch z) h]
 |zV y=>let⟨v,q⟩:=(show ∃v,u=Value.float y v from d);ext q;rwa[aia PySem.W.kitx_float I.dw True.intro e (λz=>nomatch z) h]
 | @lst a k f=>
   cases (show u=Value.ref a from d);let⟨_,_,n,_,g⟩:=(show bV X.prog X.w H s.heap a (.lst k) from I.aO a _ f);rwa[aia PySem.W.kitx_list I.dw ⟨_,g,2⟩ e (λz=>nomatch z) h]
 | @cR a L k f=>
   cases (show u=Value.ref a from d);let⟨_,_,_,n,_,g⟩:=(show bV X.prog X.w H s.heap a (.cR L (.lst k)) from I.aO a _ f);rwa[aia PySem.W.kitx_list I.dw ⟨_,g,2⟩ e (λz=>nomatch z) h]
 | @tup a k f=>
   cases (show u=Value.ref a from d);let⟨_,_,_,p⟩:=(show bV X.prog X.w H s.heap a (.tup k) from I.aO a _ f);let⟨o,g,l,_⟩:=p;rwa[aia PySem.W.kitx_tuple I.dw ⟨o,g,l⟩ e (λz=>nomatch z) h]
 | @dK a j f=>
   cases (show u=Value.ref a from d);let⟨_,_,R,_,p⟩:=(show bV X.prog X.w H s.heap a (.dK j) from I.aO a _ f);let⟨o,B,G,g,l,_⟩:=p;rwa[aia PySem.W.kitx_dict I.dw ⟨o,g,l.1⟩ e (λz=>nomatch z) h]
 | @dT a j f=>
   cases (show u=Value.ref a from d);let⟨_,_,k,_,o,B,G,g,l,_⟩:=(show bV X.prog X.w H s.heap a (.dT j) from I.aO a _ f);rwa[aia PySem.W.kitx_dict I.dw ⟨o,g,l.1⟩ e (λz=>nomatch z) h]
 | @ins a C P fs f cl t D m w=>
   cases (show u=Value.ref a from d);let⟨M,O,_⟩:=sQ I.aO f;let⟨N,J,_⟩:=O.look;rwa[aia (PySem.W.kitx_own (cl.get _) cl.hd t D m w) I.dw J e (λz=>nomatch z) h]
end
structure cy (k:Nat) (A:Around):Prop where
 hd:A.handled=none
 dp:A.depth+ 3* k+ 5<recursionLimit
 un:A.units+ 16* k+ 200<cLine
def cy.mono {k:Nat}(r:cy k A)(h:j<=k):cy j A:=⟨r.hd,by have:=r.dp;ext,by have:=r.un;ext⟩
def cy.Za5 {j k:Nat}{A:Around}(r:cy k A)(h:j<=k:=by decide):cy j A:=r.mono h
def cy.deeper {k:Nat}(r:cy (k+ 1) A)(env:Env):cy k (A.deeper env):=
 ⟨r.hd,by have:=r.dp;show A.depth+ 1+ 3* k+ 5<_;ext,by have:=r.un;show A.units+ 3+ 16* k+ 200<_;ext⟩
def cy.in1 {k:Nat}(r:cy (k+ 1) A):cy k A.in1:=
 ⟨r.hd,by have:=r.dp;show A.depth+ 3* k+ 5<_;ext,by have:=r.un;show A.units+ 1+ 16* k+ 200<_;ext⟩
def Fg {b:List (Str×Zt)}:(A.under (.builtin "type.__call__" ⟨↑a::N,b⟩)).depth=A.depth+ 1:=by
 first|rfl|simp[Around.under,Code.weight,Code.isCreation,Code.isGuard,Code.isCaller,Code.frames,Code.isFrame,guardIds]
def Fh {b:List (Str×Zt)}:(A.under (.builtin "type.__call__" ⟨↑a::N,b⟩)).units=A.units+ 1:=by
 first|rfl|simp[Around.under,Code.cUnits,Code.frames,Code.isFrame]
def cy.make {k:Nat}(r:cy (k+ 1) A)(C:Zs)(b:Zk)(a:List (Str×Zt)):cy k (A.under (.builtin "type.__call__" ⟨↑C::b,a⟩)):=
 ⟨r.hd,by have:=r.dp;rw[Fg];ext,by have:=r.un;rw[Fh];ext⟩
def cy.depth {k:Nat}(r:cy k A):A.depth<recursionLimit:=by have:=r.dp;ext
def cy.units {k:Nat}(r:cy k A):A.units+ 64<cLine:=by have:=r.un;ext
def j8:TA:=λ_ H Q=>Q [] H
def jM (b:TE)(tr:TA):TA:=λ a H Q=>b a H λx d=>tr a d λc e=>Q (x::c) e
section
variable {X:Cx}{e:Expr}{es:Zr}{te:TE}{t:TA}{pos:Pos}
def ai:PA X [] j8:=λ_ _ _ _ H Q I h=>aij ⟨[],H,I,.nil,h⟩
def ae (g:PE X e te)(n:PA X es t)(l:starEach (e::es) X.env=(false,eval e X.env)::starEach es X.env:=by rfl):PA X (e::es) (jM te t):=by
 intro pos a s b H Q I h;rw[l];rwa[ahL (a9 (g a s b H _ I h) λu d ζ=>?_)];let⟨x,i,k,p,q⟩:=ζ;rwa[a9 (n pos a d b i _ k q) λr v ζ=>?_];let⟨f,o,m,j,c⟩:=ζ;rwa[⟨x::f,o,m,.cons p j,c⟩]
inductive QJ (xs:Zb) (H:Hp) (Q:VK):Prop
 |mk:⇑xs<=sizeLine->(∀p,H p=none->Q ↑p (upd H p (.tup xs)))->QJ xs H Q
def YK (t:TA):TE:=λ c H Q=>t c H λa b=>QJ a b Q
inductive QK (xs:Zb) (H:Hp) (Q:VK):Prop
 |mk:⇑xs<=sizeLine->(∀p,H p=none->Q ↑p (upd H p (.lst xs)))->QK xs H Q
def YL (t:TA):TE:=λ c H Q=>t c H λa b=>QK a b Q
def cJ {j}(h:PA X es t):PE X (.Tuple es j pos) (YK t):=by
 intro a s l H Q I g;rwa[wpAny_Tuple_spliced (a9 (h pos a s l H _ I g) λk s1 ζ=>?_)];let⟨f,c,d,r,z,q⟩:=ζ;rwa[⟨by rw[<-⇑r];rwa[z],5⟩];let i:c ↥s1=none:=d.aO.fresh (agQ _);rwa[⟨↑↥s1,upd c ↥s1 (.tup f),d.laid (t':=s1.toks) (λb u e=>agL _ e) (agQ _) ?_,2,q _ i⟩];rwa[z,k,r,⟨_,agZ _ rfl,212⟩]
def bT (h:PA X es t):PE X (.List es pos) (YL t):=by
 intro a s f H Q I i;rwa[wpAny_List_spliced (a9 (h pos a s f H _ I i) λj s1 ζ=>?_)];let⟨g,d,c,r,z,q⟩:=ζ;rwa[⟨by rw[<-⇑r];rwa[z],5⟩];let k:d ↥s1=none:=c.aO.fresh (agQ _);rwa[⟨↑↥s1,upd d ↥s1 (.lst g),c.laid (t':=s1.toks) (λb u e=>agL _ e) (agQ _) ?_,2,q _ k⟩];rwa[z,j,(0),r,agZ _ rfl]
end
abbrev Sp:=Zb->Hp->VK->XK->Prop
abbrev lF:=Zq->Hp->Zu->XK->Zt->Zu->Prop
structure ml (P:Program) (w:World) (K:Za1) (mg:Str->Zl) (base:Heap) (A:Around) (outer:Zq) (s:Zu) (H:Hp):Prop where
 frames:A.frames\outer
 mod:Mod K mg base
 bs:∀b o,base.get? b\o->s.heap.get? b\o/\H b=none
 qS:base.objs.size<=↥s
 jh:s.heap.FunFrames base outer
 tT:∀b∈cH outer,H b=none
 aO:dH P w H s.heap
 bare:AllBare s.gens
def CE (a:Zq)(P:Program)(w:World)(H:Hp)(s:Zu)(Q:VK)(u:Zt)(b:Zu):Prop:=
 ∃v c,b.os=s.os/\AllBare b.gens/\Un (cH a) [] H c s.heap b.heap/\dH P w c b.heap/\RelV v u/\Q v c
def CR (c:lF)(a:Zq)(P:Program)(w:World)(H:Hp)(s:Zu)(Q:VK)(E:XK)(r:Result)(b:Zu):Prop:=
 match r with
 |.ok (.ret u)=>CE a P w H s Q u b
 |.ok _=>False
 |.error e=>c a H s E e b
structure du (P:Program) (w:World) (K:Za1) (mg:Str->Zl) (base:Heap) (CX:lF) (k:Nat) (f:Zs) (fd:FuncData) (ps:Zp) (sp:Sp):Prop where
 len:∀vs H Q E,sp vs H Q E->⇑vs=⇑ps
 run:∀(A:Around) (outer:Zq) (s:Zu) (H:Hp) (args:Args) (us:Zk) (vs:Zb) (Q:VK) (E:XK),cy k A->ml P w K mg base A outer s H->BindsTo s fd args (ps.zip us)->Vals vs us->sp vs H Q E->
  codeAny (model P w) A (.call ↑f args) (CR CX outer P w H s Q E) s
theorem ml.make {mg:Str->Zl}{base:Heap}{outer:Zq}(e:ml P w K mg base A outer s H)(C:Zs)(a:Zk)(b:List (Str×Zt)):
 ml P w K mg base (A.under (.builtin "type.__call__" ⟨↑C::a,b⟩)) outer s H:=⟨by first|rwa[e.frames]|(simpa [Around.under,Code.envs,Code.isFrame,pushEnvs] using e.frames),e.mod,e.bs,e.qS,e.jh,e.tT,e.aO,e.bare⟩
theorem ml.in1 {mg:Str->Zl}{base:Heap}{outer:Zq}(e:ml P w K mg base A outer s H):
 ml P w K mg base A.in1 outer s H:=⟨e.frames,e.mod,e.bs,e.qS,e.jh,e.tT,e.aO,e.bare⟩
section
variable {X:Cx}{pins:List (Zs×Obj)}{σ:St}{H:Hp}{s s':Zu}
def Inv.Ac (I:Inv X pins σ H s):ml X.prog X.w X.K X.mg X.base X.A X.stack s H:=
 ⟨I.ok.frames,I.ok.mod,I.bs,ag3 I.ok.qS I.sz,I.stack,I.oq,I.aO,I.bare⟩
def Inv.after {Q:VK}(I:Inv X pins σ H s)(h:CE X.stack X.prog X.w H s Q u s'):EP X pins σ Q u s':=by
 let⟨v,c,os,bare,un,aO,r,q⟩:=h;let⟨e,g,d,t,a⟩:=s';obtain rfl:a=s.os:=os;rwa[v,c,I.call (h':=e) (g':=g) (d':=d) (t':=t) (ch:=[]) un aO bare (λb z=>absurd z (by simp)),r,q]
end
def Md (b:Sp)(a:Zb)(E:XK)(t:TA):TE:=λ e H Q=>t e H λd c=>b (d++a) c Q E
inductive QL (C:Zs) (m:Str) (sp:Sp) (dvs:Zb) (E:XK) (t:TA) (σ:St) (x:V) (H:Hp) (Q:VK):Prop
 |mk (a dx:Zs) (fs:List (Str×V)):x=↑a->H a\.ins C dx fs->fs.lookup m=none->t σ H (λvs H2=>sp (x::(vs++dvs)) H2 Q E)->QL C m sp dvs E t σ x H Q
def kD (C:Zs)(m:Str)(d:Sp)(a:Zb)(E:XK)(c:TE)(t:TA):TE:=λ b H Q=>c b H λx e=>QL C m d a E t b x e Q
def Vf (C:Zs)(d:Sp)(b:Zb)(E:XK)(t:TA):TE:=λ g H Q=>t g H λf c=>∀x a,c x=none->c a=none->a≠x->
 d (↑x::(f++b)) (upd (upd c a (.own x)) x (.ins C a [])) (λv e=>v=.non/\Q ↑x e) E
def Binds (K:Za1)(fd:FuncData)(b:Zp)(c:Zk):Prop:=
 ∀(s:Zu) (a:Zk),K.In s.heap->⇑(a++c)=⇑b->BindsTo s fd ⟨a,[]⟩ (b.zip (a++c))
def Binds.all {fd:FuncData}(h:∀us:Zk,⇑us=⇑Z->bindArgs fd ⟨us,[]⟩=pure (Z.zip us)):Binds K fd Z []:=λs us _ a=>by
 rw[ahl]at a ⊢;rwa[.of_eq (h us a)]
def Passes (c:lF)(X:Cx)(E:XK):Prop:=∀(a:List (Zs×Obj)) (d:St) (H:Hp) (s:Zu) (e:Zt) (b:Zu),Inv X a d H s->c X.stack H s E e b->X.xe e b
section
variable {X:Cx}{CX:lF}{k:Nat}{f C:Zs}{fd:FuncData}{ps:Zp}{sp:Sp}{dvs:Zb}{ds:Zk}{E:XK}{x m:Str}{p pos apos:Pos}{e o:Expr}{es:Zr}{ta:TE}{t:TA}
theorem Ad {a:List (Zs×Obj)}{Q:VK}{us:Zk}{vs:Zb}(F:du X.prog X.w X.K X.mg X.base CX k f fd ps sp)(d:cy k X.A)(l:Binds X.K fd ps ds)(n:Vals dvs ds)(q:Passes CX X E)
 (I:Inv X a D H s) (r:Vals vs us) (h:sp (vs++dvs) H Q E):X⁻¹ X.A (call ↑f us) (EP X a D Q) X.xe s:=by
 let c:Vals (vs++dvs) (us++ds):=r.append n;let i:⇑(us++ds)=⇑ps:=by rw[<-⇑c];rwa[F.len _ _ _ _ h]
 rwa[ajG (ajj (F.run X.A X.stack s H ⟨us,[]⟩ (us++ds) (vs++dvs) Q E d I.Ac (l s us I.dw i) c h) λr j b=>?_)]
 cases r with
 |error e=>exact q a D H s e j I b
 |ok g=>
  cases g with
  |ret u=>exact I.after b
  |next=>exact False.elim b
  |brk=>exact False.elim b
  |cont=>exact False.elim b
theorem xt (F:du X.prog X.w X.K X.mg X.base CX k f fd ps sp)(n:cy k X.A)(z:Gl X x)(j:X.mg x\↑f)(u:PySem.W.keepIn X.K ↑f=true)(l:Binds X.K fd ps ds)(w:Vals dvs ds)(y:Passes CX X E)
 (i:PA X (e::es) t) (c:(x==("__debug__":Str))=false:=by decide) (v:starEach (e::es) X.env=(false,eval e X.env)::starEach es X.env:=by rfl) (b:(backTo pos (starEach es X.env)).any (·.1)=false:=by rfl):
 PE X (.Call (.Name x p) (e::es) [] pos) (Md sp dvs E t):=by
 intro a s A H Q I h;rwa[ahW (j7 I z j ?_ c)];rwa[aju (h₀:=X.base) I.ok.mod.vn u (a9 (i pos a s A H _ I h) λG B ζ=>?_) v b];let⟨J,D,d,r,q⟩:=ζ;rwa[⟨d.dw,5⟩];rwa[Ad F n l w y d r q]
theorem j9 {pl:Sem Bool}(M:PE X o ta)(c:j3 X.K C)(hm:Meth X.K C m f)(F:du X.prog X.w X.K X.mg X.base CX k f fd ps sp)(L:cy k X.A)(J:Binds X.K fd ps ds)(P:Vals dvs ds)(R:Passes CX X E)(D:PA X (e::es) t)
 (g:starEach (e::es) X.env=(false,eval e X.env)::starEach es X.env:=by rfl) (d:(backTo pos (starEach es X.env)).any (·.1)=false:=by rfl)
 (S:eval (.Call (.Attribute o m apos) (e::es) [] pos) X.env=(do
  let w <-eval o X.env
  standAt apos.atName
  let (f,first) <-holding [w] (getMethod w m pl)
  callWith pos f first (backTo pos (starEach (e::es) X.env)) (backToKw pos (keywordEach [] X.env))):=by rfl):
 PE X (.Call (.Attribute o m apos) (e::es) [] pos) (kD C m sp dvs E ta t):=by
 intro b s z H Q I h;rwa[PySem.W.methodCall_KW (pl:=pl) (a9 (M b s z H _ I h) λu B ζ=>?_) S];let⟨x,G,i,O,a,T,fs,ex,N,l,q⟩:=ζ;subst ex;obtain rfl:u=Value.ref a:=O;rwa[vy i N c hm l ?_];rwa[aju (first:=[↑a]) (h₀:=X.base) I.ok.mod.vn hm.kp (a9 (D pos b B z G _ i q) λv W ζ=>?_) g d];let⟨y,U,j,r,A⟩:=ζ;rwa[⟨j.dw,5⟩];rwa[Ad (us:=↑a::v) (vs:=↑a::y) F L J P R j (.cons rfl r) A]
theorem JS {pl:Sem Bool}(n:PE X o ta)(c:j3 X.K C)(hm:Meth X.K C m f)(F:du X.prog X.w X.K X.mg X.base CX k f fd ps sp)(j:cy k X.A)(i:Binds X.K fd ps ds)(w:Vals dvs ds)(y:Passes CX X E)
 (z:eval (.Call (.Attribute o m apos) [] [] pos) X.env=(do
  let g <-eval o X.env
  standAt apos.atName
  let (f,first) <-holding [g] (getMethod g m pl)
  callWith pos f first (backTo pos (starEach [] X.env)) (backToKw pos (keywordEach [] X.env))):=by rfl):
 PE X (.Call (.Attribute o m apos) [] [] pos) (kD C m sp dvs E ta j8):=by
 intro b s A H Q I h;rwa[PySem.W.methodCall_KW (pl:=pl) (a9 (n b s A H _ I h) λu B ζ=>?_) z];let⟨x,D,d,v,a,G,fs,ex,r,l,q⟩:=ζ;subst ex;obtain rfl:u=Value.ref a:=v;rwa[vy d r c hm l ?_];rwa[PySem.W.callWith_K0 (first:=[↑a]) d.dw hm.kp (Ad (us:=[↑a]) (vs:=[↑a]) F j i w y d (.cons rfl .nil) q)]
structure Mk (K:Za1) (C f:Zs):Prop where
 makes:PySem.W.makesIn K C=true
 init:PySem.W.findIn K ↑C "__init__"=some (some ↑f)
 fn:PySem.W.isFn K ↑f=true
 kp:PySem.W.keepIn K ↑C=true
theorem JT {b:List (Zs×Obj)}{Q:VK}(M:Mk X.K C f)(F:du X.prog X.w X.K X.mg X.base CX k f fd ps sp)(n:cy (k+ 1) X.A)(l:Binds X.K fd ps ds)(A:Vals dvs ds)
 (B:Passes CX X E) (I:Inv X b D H s) (r:Vals L N)
 (h:∀x d,H x=none->H d=none->d≠x->sp (↑x::(L++dvs)) (upd (upd H d (.own x)) x (.ins C d [])) (λv O=>v=.non/\Q ↑x O) E):
 X⁻¹ X.A (call ↑C N) (EP X b D Q) X.xe s:=by
 let i:=h (↥s+ 1) ↥s (I.aO.fresh (aiZ _)) (I.aO.fresh (agQ _)) (ahk (aic _));let c:=Inv.made (C:=C) I;let g:Vals (V.ref (↥s+ 1)::(L++dvs)) (Value.ref (↥s+ 1)::(N++ds)):=.cons rfl (r.append A)
 let J:⇑(Value.ref (↥s+ 1)::N++ds)=⇑ps:=by
  let e:=⇑g;rw[F.len _ _ _ _ i]at e;rwa[e.symm]
 refine ajG (JR (f:=f) I.dw M.makes M.init (ajS.mp M.fn) (ajj (F.run _ X.stack _ _ ⟨Value.ref (↥s+ 1)::N,[]⟩ (Value.ref (↥s+ 1)::(N++ds)) _ _ E (n.make C N [])
  (c.Ac.make C N []) (l _ (Value.ref (↥s+ 1)::N) c.dw J) g i) λr y a=>?_))
 cases r with
 |error e=>exact B b D _ _ e y c a
 |ok q=>
  cases q with
  |ret u=>
   let⟨v,z,P,w,j,G⟩:=c.after a;subst j;rwa[w,⟨V.ref (↥s+ 1),z,P,2,G⟩]
  |next=>exact False.elim a
  |brk=>exact False.elim a
  |cont=>exact False.elim a
theorem xu (M:Mk X.K C f)(F:du X.prog X.w X.K X.mg X.base CX k f fd ps sp)(n:cy (k+ 1) X.A)(y:Gl X x)(j:X.mg x\↑C)(l:Binds X.K fd ps ds)(v:Vals dvs ds)(w:Passes CX X E)
 (i:PA X (e::es) t) (c:(x==("__debug__":Str))=false:=by decide) (u:starEach (e::es) X.env=(false,eval e X.env)::starEach es X.env:=by rfl) (b:(backTo pos (starEach es X.env)).any (·.1)=false:=by rfl):
 PE X (.Call (.Name x p) (e::es) [] pos) (Vf C sp dvs E t):=by
 intro a s z H Q I h;rwa[ahW (j7 I y j ?_ c)];rwa[aju (h₀:=X.base) I.ok.mod.vn M.kp (a9 (i pos a s z H _ I h) λD A ζ=>?_) u b];let⟨G,B,d,r,q⟩:=ζ;rwa[⟨d.dw,5⟩];rwa[JT M F n l v w d r q]
end
def PK (X:Cx)(kws:List Keyword)(t:TA):Prop:=
 ∀(c:Pos) (a:List (Zs×Obj)) (s:Zu) (b:St) (H:Hp) (Q:Zb->Hp->Prop),Inv X a b H s->t b H Q->X⁻¹ X.A (evalAll ((backToKw c (keywordEach kws X.env)).map (·.2))) (AP X a b Q) X.xe s
section
variable {X:Cx}{fd:FuncData}{ps ks:Zp}{x:Str}{pos YM:Pos}{e:Expr}{kws:List Keyword}{te:TE}{t:TA}{nm:Option Str}
def GV:PK X [] j8:=λ_ _ _ _ H Q I h=>wpAny_evalAll_nil ⟨[],H,I,.nil,h⟩
def DH (i:PE X e te)(r:PK X kws t):PK X (⟨nm,e,YM⟩::kws) (jM te t):=by
 intro pos a s b H Q I h;rwa[wpAny_evalAll_cons (agI (a9 (i a s b H _ I h) λu d ζ=>?_))];let⟨x,j,n,w,y⟩:=ζ;rwa[agI (ajF (agP ?_))];rwa[a9 (r pos a d b j _ n y) λz A ζ=>?_];let⟨g,v,q,l,c⟩:=ζ;rwa[⟨x::g,v,q,.cons w l,c⟩]
structure aaN (K:Za1) (fd:FuncData) (ps ks:Zp) (g:Zk->Zk->Zk) (gV:Zb->Zb->Zb):Prop where
 to:∀(s:Zu) (us ws:Zk),K.In s.heap->⇑(g us ws)=⇑ps->BindsTo s fd ⟨us,ks.zip ws⟩ (ps.zip (g us ws))
 rel:∀{vs:Zb} {us:Zk} {zs:Zb} {ws:Zk},Vals vs us->Vals zs ws->Vals (gV vs zs) (g us ws)
end
structure aS (N P:Zp) (sc:Scope):Prop where
 kind:sc.kind=.function
 co:sc.isCoroutine=false
 gen:sc.isGenerator=false
 nd:N.Nodup
 pre:N.take ⇑P=P
 par:∀x∈P,sc.names.lookup x=some .local\/sc.names.lookup x=some .cell
 QM:∀y∈sc.names,y.2≠.free
theorem yr {kindOf:Str->Option NameKind}:∀{binds:List (Str×Zt)} {m:Str->Zl},(∀v,(x,v)∉binds)->bindL kindOf binds m x=m x
 |[],_,_=>rfl
 |(n,v)::r,m,h=>by
  unfold bindL;rw[yr λw a=>h w (ahm _ a)];split
  ·cbv
  ·rfl
theorem yt {kindOf:Str->Option NameKind}:∀{binds:List (Str×Zt)} {m:Str->Zl},(∀v,(x,v)∉binds)->bindC kindOf binds m x=m x
 |[],_,_=>rfl
 |(n,v)::r,m,h=>by
  unfold bindC;rw[yt λw a=>h w (ahm _ a)];split
  ·rfl
  cbv
theorem yu {kindOf:Str->Option NameKind}{x:Str}{v:Zt}:∀{P:Zp} {a:Zk} {i:Nat} {m:Str->Zl},P.Nodup->P[i]?\x->a[i]?\v->kindOf x=some .local->
 bindL kindOf (P.zip a) m x=some v
 |[],_,_,_,_,h,_,_=>by simp at h
 |_::_,[],_,_,_,_,h,_=>by simp at h
 |p::P,w::a,0,m,d,c,b,e=>by
  simp at c b;subst c;subst b;show bindL kindOf ((p,w)::P.zip a) m p=_;unfold bindL;rw[yr λv f=>(ahs.mp d).1 (List.of_mem_zip f).1,ahf e];simp
 |p::P,w::a,i+ 1,m,d,c,b,e=>by
  unfold bindL;rwa[yu (i:=i) (ahs.mp d).2 (by simpa using c) (by simpa using b) e]
theorem yw {kindOf:Str->Option NameKind}{x:Str}{v:Zt}:∀{P:Zp} {a:Zk} {i:Nat} {m:Str->Zl},P.Nodup->P[i]?\x->a[i]?\v->kindOf x≠some .local->
 bindC kindOf (P.zip a) m x=some v
 |[],_,_,_,_,h,_,_=>by simp at h
 |_::_,[],_,_,_,_,h,_=>by simp at h
 |p::P,w::a,0,m,d,c,b,e=>by
  simp at c b;subst c;subst b;show bindC kindOf ((p,w)::P.zip a) m p=_;unfold bindC;rw[yt λv f=>(ahs.mp d).1 (List.of_mem_zip f).1,ahc e];simp
 |p::P,w::a,i+ 1,m,d,c,b,e=>by
  unfold bindC;rwa[yw (i:=i) (ahs.mp d).2 (by simpa using c) (by simpa using b) e]
noncomputable def start (N:Zp)(a:Zb):St:=a.map some++List.replicate (⇑N - ⇑a) none
noncomputable def cz (c:lF)(P:Program)(w:World)(K:Za1)(mg:Str->Zl)(base:Heap)(N:Zp)(qual:Str)(scope:Scope)(f:Zs)(b:Zt)(A:Around)(outer:Zq)(s:Zu)(H:Hp)(E:XK):Cx where
 prog:=P
 w:=w
 K:=K
 mg:=mg
 base:=base
 A:=A.deeper (envOfC qual scope ↥s f b)
 N:=N
 eB:=s
 ur:=H
 env:=envOfC qual scope ↥s f b
 outer:=outer
 stack:=envOfC qual scope ↥s f b::outer
 ex:=[]
 calm:=true
 fn:=λ_=>true
 pn:=[]
 xe:=λe g=>(P<|>w) (A.deeper (envOfC qual scope ↥s f b)) (leaving (envOfC qual scope ↥s f b) e) (λ_ a=>c outer H s E e a) (λd a=>c outer H s E d a) g
def Ae {sc:Scope}(h:sc.names.lookup x=some .cell):∃c,(cellsFrom n sc.names []).lookup x\c:=by
 let q:=aj9 sc.names n [] (.inl h);rwa[ajU.mp q]
theorem yx {O:lF}{base:Heap}{N:Zp}{qual:Str}{scope:Scope}{f:Zq}{E:XK}{G:Zk}
 (S:aS N Z scope) (U:A.handled=none) (j:ml P w K M base A f s H) (Y:⇑L=⇑Z) (r:Vals L G)
 (x:InCallC s ↥s (bindL (envOfC qual scope ↥s a v).kindOf (Z.zip G) λ_=>none) (cellsFrom (↥s+ 1) scope.names []) (bindC (envOfC qual scope ↥s a v).kindOf (Z.zip G) λ_=>none) t):
 Inv (cz O P w K M base N qual scope a v A f s H E) [] (start N L) H t:=by
 let R:⇑Z<=⇑N:=by have:=ahZ List.length S.pre;rw[ahr]at this;ext
 let⟨D,X,rfl,I⟩:=x.done;let m:∀b:Zs,b∉(cz O P w K M base N qual scope a v A f s H E).ex:=λb z=>absurd (show b∈([]:Zn) from z) (by simp)
 erw[⟨j.mod,S.kind,22,agQ _,λy z c D l=>?_,λy C=>?_,λy c _ h=>?_,λ_=>U,Around.frames_deeper j.frames,.inr ⟨22⟩,λb z=>absurd z (m b),j.bs,j.qS,λb _ _=>m b,λb z=>absurd z (m b),j.jh,j.tT⟩,2,j.bare,Un.kept I,⟨_,x.toInCall.ns,λi y d D l W=>?_⟩,λy c h=>⟨_,x.cell y c h⟩,j.aO.fresh (agQ _),λy c h=>?_,λp o=>absurd (show p∈([]:List (Zs×Obj)) from o) (by simp),j.aO.kept I]
 ·rwa[name_of_addr x.apart (aih D) (aih l)]
 ·rcases C with C|C
  ·rwa[Ae C]
  ·rwa[absurd rfl (S.QM _ (aih C))]
 ·rwa[ajR (x.above y c (aih h))]
 ·let F:i<⇑L:=by
   unfold start at l;by_cases F:i<⇑L
   ·rwa[F]
   ·cbv
  let Q:L[i]?\d:=by
   unfold start at l;rw[agV (by simpa using F),ag0]at l
   cases e:L[i]? with
   |none=>rw[e]at l;ext l
   |some g=>cbv
  let⟨u,J,T⟩:=r.get Q
  let o:Z[i]?\y:=by
   rw[<-S.pre,ajV ∅];rwa[D]
  let B:Z.Nodup:=by rw[<-S.pre];rwa[S.nd.sublist (List.take_sublist _ _)]
  erw[u,T];rcases S.par y (agK o) with k|k
  ·rwa[.inl ⟨k,yu B o J k⟩]
  ·let⟨c,e⟩:=Ae (n:=↥s+ 1) k;rwa[.inr ⟨.inl k,c,e,5⟩];let q:=x.cell y c e;rw[yw B o J (by show scope.names.lookup y≠_;cbv)]at q;rwa[q]
 ·rwa[j.aO.fresh (ajR (x.above y c (aih h)))]
 ·unfold start;show _=⇑N;rw[agN,agO,List.length_replicate];ext
theorem zO {B:lF}{base:Heap}{k:Nat}{name qual:Str}{params:Arguments}{body:List Stmt}{scope:Scope}{W kV doc pm d Y Z:Zt}{X od:Zo}
 {O:Array Zl} {N z:Zp} {F:Sp} (lk:K.lookup a\⟨Z,od,.func (PySem.W.fnOf name qual params body scope W kV doc pm X d Y),O⟩) (L:PySem.W.codeIn K d qual=true) (S:aS N z scope)
 (len:∀g H Q E,F g H Q E->⇑g=⇑z)
 (j:∀(A:Around) (c:Zq) (s:Zu) (H:Hp) (g:Zb) (Q:VK) (E:XK),cy k (A.deeper (envOfC qual scope ↥s a d))->F g H Q E->
  ∃t,iS (cz B P w K M base N qual scope a d A c s H E) body t/\t { nx:=λ_ h=>Q .non h,rt:=Q } (start N g) H):
 du P w K M base B (k+ 1) a (PySem.W.fnOf name qual params body scope W kV doc pm X d Y) z F:=by
 rwa[⟨len,λA c s H R us g Q E C p hb r m=>?_⟩];let hl:=len _ _ _ _ m;let U:K.In s.heap:=p.mod.vn.keeps λb o e=>(p.bs b o e).1
 let lim:s.heap.NoLimit:=p.mod.nolimit.keeps λb o e=>(p.bs b o e).1
 let i:∀y∈z.zip us,scope.names.lookup y.1=some .local\/(scope.names.lookup y.1=some .cell/\((cellsFrom (↥s+ 1) scope.names []).lookup y.1).isSome=true):=λ⟨n,v⟩ hy=>by
  rcases S.par n (List.of_mem_zip hy).1 with q|q
  ·rwa[.inl q]
  ·rwa[.inr ⟨q,aj9 _ _ _ (.inl q)⟩]
 rwa[codeAny_call_function C.depth (U^lk) rfl S.co S.gen rfl (PySem.W.codeRec_of U L) (hb _ _ _ _ ?_)];rwa[wpAny_newFunctionEnv_cells S.kind i λenv he T x=>?_]
 subst he;rwa[⟨lim.keeps x.toInCall.keep,codeAny_func ?_⟩];let⟨t,ht,hq⟩:=j A c s H g Q E (C.deeper _) m;let I:Inv (cz B P w K M base N qual scope a d A c s H E) [] (start N g) H T:=yx S C.hd p hl r x;rwa[ahN (ht [] T (start N g) H _ I hq) (λfl G l=>?_) λe G l=>l]
 let fin:∀{f:St} {h:Hp} {v:V} {u:Zt},Inv (cz B P w K M base N qual scope a d A c s H E) [] f h G->RelV v u->Q v h->CE c P w H s Q u G:=
  λ{f h v u} J D q=>⟨v,h,J.os,J.bare,J.base,J.aO,D,q⟩
 cases fl with
 |ret u=>
  let⟨v,f,h,J,D,q⟩:=l;rwa[fin J D q]
 |next=>
  let⟨f,h,J,q⟩:=l;rwa[fin (v:=V.non) (u:=Value.none) J rfl q]
 |brk=>
  let⟨_,_,_,q⟩:=l;rwa[False.elim q]
 |cont=>
  let⟨_,_,_,q⟩:=l;rwa[False.elim q]
section
variable {X:Cx}{x:Str}{p pos:Pos}{e:Expr}{es:Zr}{t:TA}{id T:String}{r:Zb->Hp->VK->Prop}
def Wh (r:Zb->Hp->VK->Prop)(t:TA):TE:=λ c H Q=>t c H λb a=>r b a Q
def bq (m:ie X (.builtin id) r)(v:Gl X x)(j:X.mg x=none)(o:bootBuiltins x\.builtin id)(g:PA X (e::es) t)(l:x≠"__name__":=by decide)(c:(x==("__debug__":Str))=false:=by decide)
 (n:starEach (e::es) X.env=(false,eval e X.env)::starEach es X.env:=by rfl) (b:(backTo pos (starEach es X.env)).any (·.1)=false:=by rfl):PE X (.Call (.Name x p) (e::es) [] pos) (Wh r t):=by
 intro a s d H Q I h;rwa[ahW (gZ I v j o ?_ l c)];rwa[PyProof.Rows.callWith_builtin1 (a9 (g pos a s d H _ I h) λq f ζ=>?_) n b];let⟨w,i,k,u,y⟩:=ζ;rwa[m a f d i w q Q k u y]
def c9 (m:ie X (.type T) r)(v:Gl X x)(j:X.mg x=none)(o:bootBuiltins x\.type T)(g:PA X (e::es) t)(l:x≠"__name__":=by decide)(c:(x==("__debug__":Str))=false:=by decide)
 (n:starEach (e::es) X.env=(false,eval e X.env)::starEach es X.env:=by rfl) (b:(backTo pos (starEach es X.env)).any (·.1)=false:=by rfl):PE X (.Call (.Name x p) (e::es) [] pos) (Wh r t):=by
 intro a s d H Q I h;rwa[ahW (gZ I v j o ?_ l c)];rwa[ahM (a9 (g pos a s d H _ I h) λq f ζ=>?_) n b];let⟨w,i,k,u,y⟩:=ζ;rwa[m a f d i w q Q k u y]
end
end L2
namespace HT
open PySem PyProof.Rows
noncomputable def lexLt:Zg->Zg->Bool
 |[],[]=>false
 |[],_::_=>true
 |_::_,[]=>false
 |x::a,y::ys=>if x=y then lexLt a ys else decide (x<y)
def lL (x y:Int)(a ys:Zg):lexLt (x::a) (y::ys)=if x=y then lexLt a ys else decide (x<y):=rfl
def qp:lexLt [] []=false:=rfl
section
variable {prog:Program}{w:World}{A:Around}{E:Zt->Zu->Prop}{s:Zu}
theorem Od {ws:Zk}(x:IsTup s.heap a N.toArray)(q:IsTup s.heap b ws.toArray)(p:N≠[])
 (u:ws=[]->Q ↑a s) (t:ws≠[]->Q ↑↥s { s with heap:=s.heap.push ("tuple">>>.seq (N++ws).toArray) })
 (y:⇑N+ ⇑ws<=sizeLine):(prog<|>w) A (binaryOp .Add ↑a ↑b) Q E s:=by
 let⟨⟨cls,o,data,l⟩,g,r,n,v⟩:=id x;let⟨⟨m,f,data2,d⟩,c,i,k,j⟩:=id q;subst r v i j;let e:N.toArray++ws.toArray=(N++ws).toArray:=by simp
 by_cases h:ws=[]
 ·exact concat_meets ⟨_,g,2⟩ ⟨_,c,2⟩ noFill_tuple_add seq_tuple_add aka aj2 (ajW _ _)
   (tuple_addW1 a b N.toArray ws.toArray n k o f l d (by simpa using p) (by simp[h])) ⟨g,c,u h⟩
 ·refine concat_meets ⟨_,g,2⟩ ⟨_,c,2⟩ noFill_tuple_add seq_tuple_add aka aj2 (ajW _ _)
   (tuple_addW2 a b N.toArray ws.toArray n k o f l d (by simpa using p) (by simpa using h) ∅) ⟨g,c,5⟩
  rw[e];rwa[t h]
noncomputable def bX (n d:Nat):Zj->Nat
 |none=>d
 |some v=>if v<0 then (v+ (n:Int)).toNat else min v.toNat n
def xA (n d k:Nat):bX n d (some (k:Int))=min k n:=by
 show (if (k:Int)<0 then ((k:Int)+ (n:Int)).toNat else min (k:Int).toNat n)=min k n;rw[ahc ∅,ahn]
def DJ (v:Int)(n d:Nat):(if v<0 then max (v+ (n:Int)) 0 else min v (n:Int))=((bX n d (some v):Nat):Int):=by
 show (if v<0 then max (v+ (n:Int)) 0 else min v (n:Int))=(((if v<0 then (v+ (n:Int)).toNat else min v.toNat n):Nat):Int);by_cases a:v<0
 ·cbv
 ·simp only[ahc a];ext
def Fi (lo a:Zj)(n:Nat):Builtin.Slice.sliceAdjust lo a 1 (n:Int)=(((bX n 0 lo:Nat):Int),((bX n n a:Nat):Int)):=by
 let b:¬((1:Int)<0):=∅
 unfold Builtin.Slice.sliceAdjust;rwa[Prod.ext ?_ ?_]
 ·cases lo with
  |none=>rfl
  |some v=>exact DJ v n 0
 ·cases a with
  |none=>rfl
  |some v=>exact DJ v n n
def Fj (i j:Nat):Builtin.Slice.slicePlaces (i:Int) (j:Int) 1=j - i:=by
 unfold Builtin.Slice.slicePlaces;let a:(1:Int) > 0:=∅
 split <;> ext
def vz {o:Zj}{Q:Zj->Zu->Prop}(p:IsPart v o)(h:Q o s):(prog<|>w) A (Builtin.Slice.slicePartIndex v) Q E s:=by
 cases p with
 |none=>exact slicePart_none h
 |int i t=>exact slicePart_int h
theorem mn {lo d:Zj}{Q:Int×Int×Nat->Zu->Prop}(e:s.heap.IsSliceOf a v u .none)(pl:IsPart v lo)(f:IsPart u d)
 (h:Q (((bX n 0 lo:Nat):Int),1,bX n n d - bX n 0 lo) s):(prog<|>w) A (Builtin.Slice.sliceApplied ↑a (pure (n:Int))) Q E s:=by
 let⟨os,b,g,c⟩:=id e;rwa[agI (agI (ahR b c (x:=v) rfl (agI (ahR b c (x:=u) rfl (agI (ahR b c (x:=.none) rfl (agP ?_)))))))];rwa[agI (slicePart_none ?_)];rwa[agI (vz pl (agI (vz f (agI (agP ?_)))))];show wpAny _ _ (match Builtin.Slice.sliceAdjust lo d 1 (n:Int) with|(lo,d)=>pure (lo,(1:Int),Builtin.Slice.slicePlaces lo d 1)) _ _ s;rw[Fi lo d n];show wpAny _ _ (pure (((bX n 0 lo:Nat):Int),(1:Int),Builtin.Slice.slicePlaces ((bX n 0 lo:Nat):Int) ((bX n n d:Nat):Int) 1)) _ _ s;rw[Fj];rwa[agP h]
def JV (xs:Zm)(i k:Nat):((List.range k).filterMap λ(m:Nat)=>xs[((i:Int)+ (m:Int)* 1).toNat]?).toArray=((xs.toList.drop i).take k).toArray:=by
 let e:(λ(m:Nat)=>xs[((i:Int)+ (m:Int)* 1).toNat]?)=λm=>xs[i+ m]?:=by
  funext m
  have:((i:Int)+ (m:Int)* 1).toNat=i+ m:=∅
  rw[this]
 rw[e];have:=pick_run xs i k;rw[List.filterMap_map]at this;let a:((λx=>xs[x]?) ∘ λx=>i+ x)=λm=>xs[i+ m]?:=rfl
 cbv
theorem tF {items:Zm}{lo d:Zj}(e:IsTup s.heap a items)(k:s.heap.IsSliceOf b v u .none)(pl:IsPart v lo)(n:IsPart u d)
 (o:¬(bX items.size 0 lo=0/\bX items.size items.size d=items.size))
 (h:Q ↑↥s { s with heap:=s.heap.push ("tuple">>>.seq ((items.toList.drop (bX items.size 0 lo)).take (bX items.size items.size d - bX items.size 0 lo)).toArray) })
 (p:items.size<=sizeLine):(prog<|>w) A (getItem ↑a ↑b) Q E s:=by
 let c:sizeOk (.seq ((items.toList.drop (bX items.size 0 lo)).take (bX items.size items.size d - bX items.size 0 lo)).toArray):=by
  show ((items.toList.drop (bX items.size 0 lo)).take (bX items.size items.size d - bX items.size 0 lo)).toArray.size<=sizeLine;rw[ag6,ahr,ahP,aiu];ext
 let⟨os,f,g,l⟩:=id k;let j:s.TypeIs ↑b "slice":=⟨os,f,g⟩;unfold getItem
 try with_reducible rwa[ahY ?_]
 rwa[agI (wpAny_sequenceKey e.typeIs ⋯ ?_)]
 refine agI (ahQ (name:=Str.ofString "__getitem__") e.typeIs ahV
  (ahU ahV e.typeIs entry_tuple_getitem ?_ (args_tuple_getitem _ _)))
 show wpAny _ _ (Builtin.Tuple.tupleItemsOf ↑a >>=_) _ _ s;rwa[agI (tupleItemsOf_ e ?_)];rwa[agI (ajk j ?_)];rwa[agI (mn k pl n ?_)]
 let i:¬((((bX items.size 0 lo:Nat):Int)==0 && (1:Int)==1 && (bX items.size items.size d - bX items.size 0 lo)==items.size)=true):=by
  intro q;rw[aiD,aiD]at q;let t:((bX items.size 0 lo:Nat):Int)=0:=eq_of_beq q.1.1;let r:bX items.size items.size d - bX items.size 0 lo=items.size:=eq_of_beq q.2;rwa[o ⟨33⟩]
 show wpAny _ _ (if (((bX items.size 0 lo:Nat):Int)==0 && (1:Int)==1 && (bX items.size items.size d - bX items.size 0 lo)==items.size)=true then _ else _) _ _ s;rw[ahc i,JV]
 first
  |rwa[agI (m:=Builtin.Tuple.tupleExact _) (ahI (agP ⟨_,rfl,agP h⟩) c)]
  |rwa[agI (m:=Builtin.Tuple.tupleExact _) (ahI (agI (agP (agP ⟨_,rfl,agP h⟩))) c)]
  |rwa[agI (agI (m:=Builtin.Tuple.tupleExact _) (ahI (agP (agP ⟨_,rfl,agP h⟩)) c))]
  |rwa[agI (agI (m:=Builtin.Tuple.tupleExact _) (ahI (agP ⟨_,rfl,agP h⟩) c))]
end
end HT
namespace L2
open PySem PySem.Spec PyProof.Rows
abbrev TO:=St->Hp->(Zj->Hp->Prop)->Prop
def PO (X:Cx)(e:Option Expr)(t:TO):Prop:=
 ∀(a:List (Zs×Obj)) (s:Zu) (b:St) (H:Hp) (Q:Zj->Hp->Prop),Inv X a b H s->t b H Q->
  X⁻¹ X.A (evalPart e X.env) (λu d=>∃o c,Inv X a b c d/\IsPart u o/\Q o c) X.xe s
def Oe:TO:=λ_ H Q=>Q none H
def Vg (t:TE):TO:=λ b H Q=>t b H λx a=>∃i,x=.int i/\Q (some i) a
section
variable {X:Cx}{e:Expr}{te:TE}{lo hi:Option Expr}{tl th:TO}{pos p2:Pos}
def xB:PO X none Oe:=by
 intro a s b H Q I h;rwa[agP ⟨none,H,I,.none,h⟩]
def oy (h:PE X e te):PO X (some e) (Vg te):=by
 intro a s b H Q I c;rwa[a9 (h a s b H _ I c) λu k ζ=>?_];let⟨x,f,d,g,j⟩:=ζ
 let⟨i,rfl,q⟩:=j;let⟨t,rfl⟩:=g;rwa[some i,f,d,.int i t,q]
def Mf (X:Cx)(r:V->Zj->Zj->Hp->VK->Prop):Prop:=
 ∀(a:List (Zs×Obj)) (s:Zu) (b:St) (H:Hp) (x:V) (v d f:Zt) (lo hi:Zj) (c:Zs) (Q:VK),Inv X a b H s->RelV x v->s.heap.IsSliceOf c d f .none->IsPart d lo->IsPart f hi->r x lo hi H Q->
  ∃T id,typeLookup (.type T) "__getitem__"=pure (some (.builtin id))/\s.TypeIs v T/\X⁻¹ X.A (getItem v ↑c) (EP X a b Q) X.xe s
def tSl (r:V->Zj->Zj->Hp->VK->Prop)(te:TE)(tl th:TO):TE:=λ a H Q=>te a H λx c=>tl a c λl d=>th a d λu b=>r x l u b Q
def pH {r:V->Zj->Zj->Hp->VK->Prop}(t:Mf X r)(y:PE X e te)(C:PO X lo tl)(A:PO X hi th):PE X (.Subscript e (.Slice lo hi none p2) pos) (tSl r te tl th):=by
 intro a s c H Q I h;rwa[Subscript_ (a9 (y a s c H _ I h) λv j ζ=>?_)];let⟨x,k,o,D,L⟩:=ζ;rwa[wpAny_Slice (a9 (C a j c k _ o L) λf E ζ=>?_)];let⟨l,F,p,pl,i⟩:=ζ;rwa[a9 (A a E c F _ p i) λd s3 ζ=>?_];let⟨u,g,G,w,z⟩:=ζ;rwa[agP ?_];let n:Inv X a c g { s3 with heap:=s3.heap.push ("slice">>>.fields #[f,d,.none]) }:=G.kept (t':=s3.toks) λb N q=>agL _ q
 let⟨T,id,m,B,J⟩:=t a { s3 with heap:=s3.heap.push ("slice">>>.fields #[f,d,.none]) } c g x v f d l u ↥s3 Q n D (Heap.IsSliceOf.new ..) pl w z;rwa[tail_any (ops:=[↑↥s3,v]) B m J (by with_unfolding_all rfl)]
def gQ (xs:Zb)(lo hi:Zj):Zb:=(xs.drop (HT.bX ⇑xs 0 lo)).take (HT.bX ⇑xs ⇑xs hi - HT.bX ⇑xs 0 lo)
def tW (xs:Zb)(lo hi:Zj):⇑(gQ xs lo hi)<=⇑xs:=by
 unfold gQ;rw[ahr,ahP];ext
inductive QN (K:Za1) (x:V) (lo:Zj) (hi:Zj) (H:Hp) (Q:VK):Prop
 |mk (a:Zs) (xs:Zb):x=↑a->bG K H a xs->¬(HT.bX ⇑xs 0 lo=0/\HT.bX ⇑xs ⇑xs hi=⇑xs)->(∀p,H p=none->Q ↑p (upd H p (.tup (gQ xs lo hi))))->QN K x lo hi H Q
def QO:Mf X (QN X.K):=by
 intro d s y H x v t p lo hi n Q I k i pl j h;let⟨a,xs,rfl,l,m,q⟩:=h;ext k;let⟨c,r,g,f⟩:=I.tuple l;let hlen:c.toArray.size=⇑xs:=by rwa[r.length.symm]
 erw["tuple",_,ahV.lookup,g.typeIs];rwa[HT.tF g i pl j ([hlen]▸m) ?_ ([hlen]▸f)];rw[hlen];rwa[⟨↑↥s,_,I.laid (t':=s.toks) (o:=.tup (gQ xs lo hi)) (λb u q=>agL _ q) (agQ _) ?_,2,q _ (I.aO.fresh (agQ _))⟩];rwa[ag3 (tW xs lo hi) f,_,(r.drop (HT.bX ⇑xs 0 lo)).take (HT.bX ⇑xs ⇑xs hi - HT.bX ⇑xs 0 lo),IsTup.new _ _]
inductive YN (K:Za1) (x:V) (y:V) (H:Hp) (Q:VK):Prop
 |mk (a b:Zs) (ns ms:Zg):x=↑a->y=↑b->bG K H a (ns.map V.int)->bG K H b (ms.map V.int)->Q (.bl (HT.lexLt ns ms)) H->YN K x y H Q
inductive Mg (K:Za1) (x:V) (y:V) (H:Hp) (Q:VK):Prop
 |mk (a b:Zs) (xs ys:Zb):x=↑a->y=↑b->bG K H a xs->bG K H b ys->xs≠[]->⇑xs+ ⇑ys<=sizeLine->(ys=[]->Q ↑a H)->(ys≠[]->∀p,H p=none->Q ↑p (upd H p (.tup (xs++ys))))->Mg K x y H Q
def Vals.sR (r:Vals L N):N=[]↔L=[]:=by
 cases r with
 |nil=>simp
 |cons _ _=>simp
def Og:gn X (binaryOp .Add) (Mg X.K):=by
 intro f s E H x y v u Q I t p h;let⟨a,b,k,ys,rfl,rfl,l,m,A,g,B,j⟩:=h;ext t;ext p;let⟨n,d,r,_⟩:=I.tuple l;let⟨i,c,p2,_⟩:=I.tuple m;rwa[HT.Od r p2 (λz=>A (d.sR.mp z)) (λz=>⟨↑a,H,I,2,B (c.sR.mp z)⟩) (λz=>?_) (by rw[<-⇑d,<-⇑c];rwa[g])];rwa[⟨↑↥s,_,I.laid (t':=s.toks) (o:=.tup (k++ys)) (λb C q=>agL _ q) (agQ _) ?_,2,j (λw=>z (c.sR.mpr w)) _ (I.aO.fresh (agQ _))⟩];rwa[[agN]▸g,_,d.append c,IsTup.new _ _]
end
noncomputable def vA (n:Nat)(i:Int):Zi:=if 0<=i then (if i<n then some i.toNat else none) else if -(n:Int)<=i then some (i+ n).toNat else none
def j4 {a:Type}(xs:List a)(i:Int):Option a:=(vA ⇑xs i).bind λj=>xs[j]?
def xC (h:vA n z\j):seqIndex? z n\j/\j<n/\-(n:Int)<=z/\z<n:=by
 unfold vA at h;by_cases b:0<=z
 ·rw[ahf b]at h;by_cases a:z<n
  ·rw[ahf a]at h;let e:z.toNat=j:=Za0 h;rwa[by rw[seqIndex_of b a,e],33,a]
  ·rw[ahc a]at h;ext h
 ·rw[ahc b]at h;by_cases a: -(n:Int)<=z
  ·rw[ahf a]at h;let e:(z+ n).toNat=j:=Za0 h;rwa[by rw[seqIndex_neg ∅ a,e],3,a,3]
  ·rw[ahc a]at h;ext h
def DK {a:Type}{xs:List a}{v:a}(h:j4 xs z\v):∃j,seqIndex? z ⇑xs\j/\xs[j]?\v/\j<⇑xs/\-(⇑xs:Int)<=z/\z<⇑xs:=by
 unfold j4 at h
 cases e:vA ⇑xs z with
 |none=>rw[e]at h;ext h
 |some j=>
  rw[e]at h;let⟨c,b,d,f⟩:=xC e;rwa[j,c,h,b,d,f]
def da {a:Type}{xs:List a}{v:a}(h:xs[j]?\v):j4 xs (j:Int)\v:=by
 let b:j<⇑xs:=(agM.mp h).1
 let e:vA ⇑xs (j:Int)\j:=by
  unfold vA;rw[ahf ∅,ahf ∅];simp
 unfold j4;rw[e];rwa[h]
def Oh (b:Expr):Prop:=∀o i,subscripted b false o i=operate [o,i] (getItem o i)
def GW (X:Cx)(r:R2):Prop:=
 ∀(value slice:Expr) (a:List (Zs×Obj)) (s:Zu) (b:St) (H:Hp) (x y:V) (v u:Zt) (Q:VK),Inv X a b H s->RelV x v->RelV y u->r x y H Q->
  subscripted slice false v u=operate [v,u] (getItem v u)->X⁻¹ X.A (subscriptTail value slice v u) (EP X a b Q) X.xe s
def QP (X:Cx)(id:String)(r:V->Zb->Hp->VK->Prop):Prop:=
 ∀(a:List (Zs×Obj)) (s:Zu) (b:St) (H:Hp) (x:V) (c:Zb) (v:Zt) (d:Zk) (Q:VK),Inv X a b H s->RelV x v->Vals c d->r x c H Q->
  X⁻¹ X.A (call (.builtin id) (v::d)) (EP X a b Q) X.xe s
section
variable {X:Cx}{a b:Expr}{ta tb:TE}{pos:Pos}
def bC {r:R2}(j:GW X r)(d:PE X a ta)(e:PE X b tb)(g:Oh b):PE X (.Subscript a b pos) (Mb r ta tb):=by
 intro c s n H Q I h;rwa[Subscript_ (JL d e I h λv u m x y l i k f q=>j a b c m n l x y v u Q i k f q (g _ _))]
inductive JW (K:Za1) (x:V) (y:V) (H:Hp) (Q:VK):Prop
 |mk (p:Zs) (xs:Zb) (i:Int) (v:V):x=↑p->y=.int i->aD K H p xs->j4 xs i\v->Q v H->JW K x y H Q
inductive JX (K:Za1) (x:V) (y:V) (H:Hp) (Q:VK):Prop
 |mk (p:Zs) (xs:Zb) (i:Int) (v:V):x=↑p->y=.int i->bG K H p xs->j4 xs i\v->Q v H->JX K x y H Q
inductive YP (x:V) (y:V) (H:Hp) (Q:VK):Prop
 |mk (z:Str) (i:Int) (c:Nat):x=.str z->y=.int i->⇑z<=sizeLine->j4 z.cps.toList i\c->Q (.str ⟨#[c]⟩) H->YP x y H Q
def bF:GW X (JW X.K):=by
 intro value slice c s n H x y v u Q I G B h l;let⟨p,L,i,z,rfl,rfl,C,E,q⟩:=h;ext G;let⟨t,rfl⟩:=B;let⟨e,r,pl,N⟩:=I.list C;let⟨j,d,D,O,A,o⟩:=DK E;let⟨w,m,g⟩:=r.get D;let J:=⇑r;let M:=qV;let fin:EP X c n Q w s:=⟨z,H,I,g,q⟩;by_cases k:0<=i
 ·let f:i.toNat=j:=by
   rw[seqIndex_of k o]at d;rwa[Za0 d]
  rwa[item_listR pl.isList k ∅ (by rw[f];simpa using m) fin l]
 ·let f:(i+ (e.toArray.size:Int)).toNat=j:=by
   rw[seqIndex_neg ∅ A]at d;rw[ag6,<-J];rwa[Za0 d]
  exact subscriptTail_builtinR (x:=w) pl.isList.typeIs slot_list_getitem.lookup
   (wpAny_getItem_list_neg (Q:=λr F=>r=w/\EP X c n Q r F) pl.isList ∅ (by rw[ag6] <;> omega) ∅ (by rw[f];simpa using m) ⟨2,fin⟩) l
def dJ:GW X (JX X.K):=by
 intro value slice c s e H x y v u Q I A g h l;let⟨p,C,i,z,rfl,rfl,k,n,q⟩:=h;ext A;let⟨t,rfl⟩:=g;let⟨f,r,pl,G⟩:=I.tuple k;let⟨j,J,m,M,E,D⟩:=DK n;let⟨w,B,d⟩:=r.get m;let L:=⇑r;let F:=qV;let fin:EP X c e Q w s:=⟨z,H,I,d,q⟩
 exact subscriptTail_builtinR (x:=w) pl.typeIs slot_tuple_getitem.lookup
  (getItem_tuple (j:=j) (Q:=λr o=>r=w/\EP X c e Q r o) pl ∅ ∅ (by cbv) (by simpa using B) ⟨2,fin⟩) l
def Fm (c:Zk)(n j:Nat)(u:Zt):Obj.mapSeq (·.setIfInBounds j u) ("list">>>.seq c.toArray n)=("list">>>.seq (c.set j u).toArray n):=by
 simp[Obj.mapSeq]
theorem Inv.lst {xs:Zb}(I:Inv X o D H s)(h:H c\.lst xs):
 ∃(d:Zk) (n:Nat),Vals xs d/\s.heap.get? c\("list">>>.seq d.toArray n)/\⇑xs<=sizeLine:=by
 let⟨z,d,n,r,e⟩:=I.aO c _ h;rwa[d,n,r,e,z]
theorem Inv.QQ {ys:Zb}{d:Zk}{f:Obj->Obj}(I:Inv X o D H s)(h:H c\.lst L)
 (j:s.heap.get? c\("list">>>.seq N.toArray n)) (g:f ("list">>>.seq N.toArray n)=("list">>>.seq d.toArray m)) (r:Vals ys d) (hz:⇑ys<=sizeLine) (t:Nat):
 Inv X o D (upd H c (.lst ys)) { s with heap:=s.heap.update c f,toks:=t }:=by
 let e:(s.heap.update c f).get? c\("list">>>.seq d.toArray m):=by
  rw[ahv f j (by rw[g] <;> rfl),g]
 rwa[I.write (x:=c) (e:=c) (by rw[h];trivial) (.inl rfl) (λb u i q=>(ahx^ah5 i).trans q) ⟨_,e⟩ ?_];rwa[hz,d,m,r,e]
inductive Mh (o:V) (i:V) (v:V) (H:Hp) (Q:(Hp->Prop)):Prop
 |mk (p:Zs) (xs:Zb) (k:Int) (j:Nat):o=↑p->i=.int k->H p\.lst xs->vA ⇑xs k\j->Q (upd H p (.lst (xs.set j v)))->Mh o i v H Q
def set_list:Qt X Mh:=by
 intro d s F H o i v M G u Q I A B E h;let⟨p,xs,k,j,rfl,rfl,w,C,q⟩:=h;ext A;let⟨t,rfl⟩:=B;let⟨c,n,r,f,D⟩:=I.lst w;let⟨e,L,z,x⟩:=xC C;let l:=⇑r;let J:=qV
 let y:Inv X d F (upd H p (.lst (xs.set j v))) { s with heap:=s.heap.update p (Obj.mapSeq (·.setIfInBounds j u)) }:=
  I.QQ w f (Fm c n j u) (r.set E j) ([ahj]▸D) s.toks
 by_cases m:0<=k
 ·let g:k.toNat=j:=by
   rw[seqIndex_of m x]at e;rwa[Za0 e]
  rwa[PySem.W.ki_setAt f m ∅ (by rw[ag6,<-l];rwa[x]) ([g]▸⟨_,y,q⟩)]
 ·let g:(k+ (c.toArray.size:Int)).toNat=j:=by
   rw[seqIndex_neg ∅ z]at e;rw[ag6,<-l];rwa[Za0 e]
  rwa[PySem.W.ki_setBack f ∅ (by rw[ag6,<-l];rwa[z]) ∅ ([g]▸⟨_,y,q⟩)]
def Af (lo c:Zj)(n:Nat):(sliceBounds lo c none n).1=((HT.bX n 0 lo:Nat):Int)/\(sliceBounds lo c none n).2.1=((HT.bX n n c:Nat):Int)/\(sliceBounds lo c none n).2.2=1:=by
 rwa[⟨552⟩]
 ·cases lo with
  |none=>simp[sliceBounds,HT.bX]
  |some i=>
   simp only[sliceBounds,HT.bX,Option.getD_none,show (1:Int) > 0 by decide,akp];by_cases h:i<0
   ·simp only[h,akp] <;> ext
   ·simp only[h,ajH] <;> ext
 ·cases c with
  |none=>simp[sliceBounds,HT.bX]
  |some i=>
   simp only[sliceBounds,HT.bX,Option.getD_none,show (1:Int) > 0 by decide,akp];by_cases h:i<0
   ·simp only[h,akp] <;> ext
   ·simp only[h,ajH] <;> ext
def zh (c:Zk)(lo d:Zj):slicePick c.toArray lo d none=((c.drop (HT.bX ⇑c 0 lo)).take (HT.bX ⇑c ⇑c d - HT.bX ⇑c 0 lo)).toArray:=by
 let⟨f,e,g⟩:=Af lo d c.toArray.size;unfold slicePick;rw[f,e,g];simp only[sliceRange_one,pick_run,ag6] <;> rfl
inductive QR (K:Za1) (x:V) (lo:Zj) (hi:Zj) (H:Hp) (Q:VK):Prop
 |mk (a:Zs) (xs:Zb):x=↑a->aD K H a xs->(∀p,H p=none->Q ↑p (upd H p (.lst (gQ xs lo hi))))->QR K x lo hi H Q
def DL:Mf X (QR X.K):=by
 intro d s w H x v p n lo c m Q I k g pl j h;let⟨a,xs,rfl,l,q⟩:=h;ext k;let⟨f,r,e,i⟩:=I.list l;let hlen:=⇑r;erw["list",_,slot_list_getitem.lookup,e.isList.typeIs];rwa[wpAny_getItem_list_slice e.isList g pl j .none (by simp) ?_ (by rw[ag6] <;> omega)];rw[zh,<-hlen];rwa[⟨↑↥s,_,I.laid (t':=s.toks) (o:=.lst (gQ xs lo c)) (λb t q=>agL _ q) (agQ _) ?_,2,q _ (I.aO.fresh (agQ _))⟩];rwa[ag3 (tW xs lo c) i,_,(0),(r.drop (HT.bX ⇑xs 0 lo)).take (HT.bX ⇑xs ⇑xs c - HT.bX ⇑xs 0 lo),agZ _ rfl]
noncomputable def Mi:V->Bool
 |.non=>true
 |.bl _=>true
 |.int _=>true
 |.str _=>true
 |_=>false
noncomputable def eqV:V->V->Bool
 |.non,.non=>true
 |.bl a,.bl b=>a==b
 |.bl a,.int b=>(if a then 1 else 0)==b
 |.int a,.bl b=>a==(if b then 1 else 0)
 |.int a,.int b=>a==b
 |.str a,.str b=>a==b
 |_,_=>false
def Wi (x:V)(xs:Zb):Bool:=xs.any λy=>eqV y x
inductive rIn (K:Za1) (neg:Bool) (x:V) (y:V) (H:Hp) (Q:VK):Prop
 |mk (p:Zs) (xs:Zb):y=↑p->(aD K H p xs\/bG K H p xs)->Mi x=true->xs.all Mi=true->Q (.bl (if neg then !Wi x xs else Wi x xs)) H->rIn K neg x y H Q
inductive Fo (K:Za1) (xs:Zb) (H:Hp) (Q:VK):Prop
 |mk (p:Zs) (ys:Zb):xs=[↑p]->(aD K H p ys\/bG K H p ys)->Q (.int ⇑ys) H->Fo K xs H Q
def bz:ie X (.builtin "len") (Fo X.K):=by
 intro f s j H k l Q I r h;let⟨p,ys,rfl,c,q⟩:=h;let⟨u,rfl,i⟩:=vals1 r;ext i;let m:=qV;rcases c with c|c
 ·let⟨d,e,pl,g⟩:=I.list c;let hlen:=⇑e;rwa[Calls.call_len_list pl.isList (by simp only[ag6] <;> omega) ⟨.int ⇑ys,H,I.tok _,⟨s.toks+ 1,by cbv⟩,q⟩]
 ·let⟨d,e,pl,g⟩:=I.tuple c;let hlen:=⇑e;rwa[len_tuple pl (by simp only[ag6] <;> omega) ⟨.int ⇑ys,H,I.tok _,⟨s.toks+ 1,by cbv⟩,q⟩]
def jN:ie X (.type "list") (λw H Q=>∃p ys,w=[↑p]/\(aD X.K H p ys\/bG X.K H p ys)/\∀l,H l=none->Q ↑l (upd H l (.lst ys))):=by
 intro j s z H w A Q I r h;let⟨p,ys,rfl,i,q⟩:=h;let⟨u,rfl,y⟩:=vals1 r;ext y
 let fin:∀(c:Zk),Vals ys c->⇑ys<=sizeLine->∀(d:Heap) (f:Nat),(∀b x,s.heap.get? b\x->d.get? b\x)->
  d.get? ↥s=some { cls:=.type "list",dict:=none,data:=.seq c.toArray f,slots:=#[] }->EP X j z Q ↑↥s (s<*d):=λc g k d f kp e=>
  ⟨↑↥s,_,I.laid (t':=s.toks) kp (agQ _) (show bV X.prog X.w _ d _ (.lst ys) from ⟨k,c,f,g,e⟩),2,q _ (I.aO.fresh (agQ _))⟩
 rcases i with i|i
 ·let⟨c,g,pl,k⟩:=I.list i;let hlen:=⇑g;let⟨o,m,t,n,v⟩:=pl.isList;rwa[call_list_seq p (.inl rfl) m t v (λd f kp e=>fin c g k d f kp e) (by simp only[ag6] <;> omega)]
 ·let⟨c,g,pl,k⟩:=I.tuple i;let hlen:=⇑g;let⟨o,m,t,n,v⟩:=pl;rwa[call_list_seq p (.inr rfl) m t v (λd f kp e=>fin c g k d f kp e) (by simp only[ag6] <;> omega)]
def qq:ie X (.type "tuple") (λj H Q=>∃p ys,j=[↑p]/\((aD X.K H p ys/\∀l,H l=none->Q ↑l (upd H l (.tup ys)))\/(bG X.K H p ys/\Q ↑p H))):=by
 intro c s n H j x Q I r h;let⟨p,ys,rfl,h⟩:=h;let⟨u,rfl,v⟩:=vals1 r;ext v;rcases h with ⟨g,q⟩|⟨g,q⟩
 ·let⟨d,i,pl,m⟩:=I.list g;let hlen:=⇑i;rwa[call_tuple_list pl.isList (λf kp=>?_) (by simp only[ag6] <;> omega)];let k:Inv X c n H (s<*f):=I.kept (t':=s.toks) kp
  let t:Inv X c n (upd H f.objs.size (.tup ys)) { s with heap:=f.push ("tuple">>>.seq d.toArray) }:=
   k.laid (t':=s.toks) (λb o e=>agL _ e) (agQ _) (show bV X.prog X.w _ _ _ (.tup ys) from ⟨m,d,i,IsTup.new _ _⟩)
  rwa[↑f.objs.size,_,t,2,q _ (k.aO.fresh (agQ _))]
 ·let⟨d,i,pl,m⟩:=I.tuple g;rwa[call_tuple_same pl ⟨↑p,H,I,2,q⟩]
def Mj (K:Za1)(T:String)(x:V)(H:Hp):Prop:=match x with
 |.str _=>T="str"
 |.int _=>T="int"
 |.ref p=>(T="list"/\∃d,aD K H p d)\/(T="tuple"/\∃o,K.lookup p\o/\o.cls=.type "tuple"/\o.dict=none)\/
  (T="dict"/\((∃c,H p\.dK c)\/∃c,H p\.dT c))\/(T="set"/\∃S n,H p\.set S n)
 |_=>False
theorem GX {T:String}{x:V}(I:Inv X o D H s)(r:RelV x v)(g:Mj X.K T x H):
 s.TypeIs v T/\∀a,v=↑a->∃l,s.heap.get? a\l/\l.dict=none:=by
 cases x with
 |str z=>
  let⟨t,rfl⟩:=r;cases (show T="str" from g);rwa[typeIs_str s z t,λ_ e=>nomatch e]
 |int i=>
  let⟨t,rfl⟩:=r;cases (show T="int" from g);rwa[typeIs_int s i t,λ_ e=>nomatch e]
 |ref p=>
  ext r;rcases g with ⟨rfl,w,q⟩|⟨rfl,d,f,u,k⟩|⟨rfl,f⟩|⟨rfl,S,n,f⟩
  ·let⟨m,_,pl,_⟩:=I.list q;rwa[⟨pl.isList.typeIs,λa e=>?_⟩];ext e;let⟨d,n,e,c,k,_⟩:=pl;rwa[d,e,k]
  ·rwa[⟨⟨d,I.dw p d f,u⟩,λa e=>?_⟩];ext e;rwa[d,I.dw _ d f,k]
  ·let z:∃d,s.heap.get? p\d/\d.ExactDict:=by
    rcases f with ⟨j,f⟩|⟨j,f⟩
    ·let⟨_,_,_,_,d,_,_,e,ex,_⟩:=I.aO p _ f;rwa[d,e,ex]
    ·let⟨_,_,_,_,d,_,_,e,ex,_⟩:=I.aO p _ f;rwa[d,e,ex]
   let⟨d,e,ex⟩:=z;rwa[⟨⟨d,e,ex.1⟩,λa h=>?_⟩];ext h;rwa[d,e,ex.2.1]
  ·let⟨d,_,_,_,e,ex,_⟩:=I.aO p _ f;rwa[⟨⟨d,e,ex.1⟩,λa h=>?_⟩];ext h;rwa[d,e,ex.2.1]
 |_=>exact False.elim g
def YQ (K:Za1)(T:String)(r:V->Zb->Hp->VK->Prop)(to:TE):TE:=λ d H Q=>to d H λx c=>Mj K T x c/\r x [] c Q
def tBM (K:Za1)(T:String)(r:V->Zb->Hp->VK->Prop)(to:TE)(t:TA):TE:=λ d H Q=>to d H λx c=>Mj K T x c/\t d c λe f=>r x e f Q
variable {o e:Expr}{es:Zr}{to:TE}{t:TA}{name:Str}{apos cG:Pos}{T id:String}{r:V->Zb->Hp->VK->Prop}
theorem GY (p:PlainAttrs T)(slot:Slot T name id)(f:typeOf (.builtin id)=pure (.type "method_descriptor"))(n:QP X id r)(q:PE X o to)
 (d:attributeBase o name X.env (eval o X.env)=eval o X.env:=by rfl) (hline:(apos.endLine==cG.line)=true:=by rfl):PE X (.Call (.Attribute o name apos) [] [] cG) (YQ X.K T r to):=by
 intro c s j H Q I h;rwa[wpAny_Call_method0_late d hline (a9 (q c s j H _ I h) λv l ζ=>?_)];let⟨x,m,g,i,k,y⟩:=ζ;let⟨w,u⟩:=GX g i k;rwa[T,id,p,slot,f,w,u,ahT rfl (PySem.evalArgs_none (n c l j m x [] v [] Q g i .nil y))]
theorem cO (z:PlainAttrs T)(slot:Slot T name id)(i:typeOf (.builtin id)=pure (.type "method_descriptor"))(y:QP X id r)(B:PE X o to)(u:PA X (e::es) t)
 (f:attributeBase o name X.env (eval o X.env)=eval o X.env:=by rfl)
 (g:((backTo cG (starEach (e::es) X.env)).all (λx=>!x.1) && (backToKw cG (keywordEach [] X.env)).all (λx=>x.1.isSome)
  && decide (⇑(e::es)+ ⇑([]:List Keyword)+ (if ([]:List Keyword).isEmpty then 0 else 1)<30))=true:=by rfl)
 (hline:(apos.endLine==cG.line)=true:=by rfl) (C:starEach (e::es) X.env=(false,eval e X.env)::starEach es X.env:=by rfl) (d:(backTo cG (starEach es X.env)).any (·.1)=false:=by rfl):
 PE X (.Call (.Attribute o name apos) (e::es) [] cG) (tBM X.K T r to t):=by
 intro c s j H Q I h;rwa[wpAny_Call_method_late f g hline rfl (a9 (B c s j H _ I h) λv n ζ=>?_)];let⟨x,w,k,m,p,N⟩:=ζ;let⟨F,D⟩:=GX k m p;erw[T,id,z,slot,i,F,D];let l:=u cG c n j w _ k N;rw[C]at l ⊢;rwa[ahT (by show (false || (backTo cG (starEach es X.env)).any (·.1))=false;rw[d] <;> rfl) (aiq ?_)];rwa[a9 l λG L ζ=>?_];let⟨M,J,E,A,q⟩:=ζ;rwa[y c L j J x M v G Q E m A q]
/- xs.append(e),list.index on a module's tuple .. are QP facts of 06m -/
end
def DM (X:Cx)(id:String)(r:V->Zb->Hp->VK->Prop):Prop:=
 ∀(a:List (Zs×Obj)) (s:Zu) (b:St) (H:Hp) (x:V) (c:Zb) (v:Zt) (d:Zk) (Q:VK),Inv X a b H s->RelV x v->Vals c d->r x c H Q->
  X⁻¹ X.A (call (.builtin id) (v::d)) (EP X a b Q) X.xe s
theorem Vals.one:∀{x:V} {a:Zk},Vals [x] a->∃u,a=[u]/\RelV x u
 |_,_,.cons r .nil=>⟨12,r⟩
theorem Vals.zero:∀{a:Zk},Vals [] a->a=[]
 |_,.nil=>rfl
def Vals.dropLast {xs:Zb}{us:Zk}(h:Vals xs us):Vals xs.dropLast us.dropLast:=by
 induction h with
 |nil=>exact .nil
 |cons r t a=>
  cases t with
  |nil=>exact .nil
  |cons q b=>exact .cons r a
theorem Vals.eraseIdx:∀{xs:Zb} {us:Zk} (i:Nat),Vals xs us->Vals (xs.eraseIdx i) (us.eraseIdx i)
 |_,_,_,.nil=>.nil
 |_,_,0,.cons _ t=>t
 |_,_,i+ 1,.cons r t=>.cons r (Vals.eraseIdx i t)
theorem Vals.rep (h:Vals L N):∀k:Nat,Vals (List.replicate k L).flatten (List.replicate k N).flatten
 |0=>.nil
 |k+ 1=>by
  rwa[Vals.append h (Vals.rep h k)]
theorem yy {a:Type}:∀(l:List a) (i:Nat),⇑(l.eraseIdx i)<=⇑l
 |[],_=>agQ _
 |_::_,0=>aiZ _
 |_::r,i+ 1=>Nat.succ_le_succ (yy r i)
theorem foldl_rep (a:Zk):∀(k:Nat) (acc:Zk),
 List.foldl (λb c=>b++c) acc.toArray (List.replicate k a.toArray)=(acc++(List.replicate k a).flatten).toArray
 |0,acc=>by simp
 |k+ 1,acc=>by
  let e:acc.toArray++a.toArray=(acc++a).toArray:=by simp
  let d:(acc++a)++(List.replicate k a).flatten=acc++(List.replicate (k+ 1) a).flatten:=by
   rw[aiO,ai9,ahJ]
  rw[<-d,<-foldl_rep a k (acc++a),<-e,aiO,List.foldl_cons]
section
variable {X:Cx}{pins:List (Zs×Obj)}{σ:St}{H:Hp}{s:Zu}{l:Zs}{xs ys:Zb}
theorem Inv.Ag {JY:Zk}{f:Zm->Zm}{t':Nat}(I:Inv X pins σ H s)(d:H l\.lst xs)
 (e:s.heap.get? l\("list">>>.seq N.toArray n)) (g:f N.toArray=JY.toArray) (h:Vals ys JY) (hz:⇑ys<=sizeLine):
 Inv X pins σ (upd H l (.lst ys)) { s with heap:=s.heap.update l (Obj.mapSeq f),toks:=t' }:=by
 let q:=PySem.IsL.update e f;rw[g]at q;rwa[I.write (x:=l) (e:=l) ([d]▸trivial) (.inl rfl) (λi u c a=>(ahx s.heap (Obj.mapSeq f) (ah5 c)).trans a) ⟨_,q⟩ ?_];rwa[hz,JY,_,h,q]
theorem Inv.YR {t':Nat}(I:Inv X pins σ H s)(a:Vals ys N)(hz:⇑ys<=sizeLine):
 Inv X pins σ (upd H ↥s (.lst ys)) { s with heap:=s.heap.push ("list">>>.seq N.toArray),toks:=t' }:=
 I.laid (λ_ _ q=>agL _ q) (agQ _) ⟨hz,N,(0),a,agZ _ rfl⟩
def Inv.fresh (I:Inv X pins σ H s):H ↥s=none:=I.aO.fresh (agQ _)
def Inv.pJ (I:Inv X pins σ H s)(c:H l\.lst xs):⇑xs<=sizeLine/\∃(a:Zk) (n:Nat),Vals xs a/\⇑xs=⇑a/\s.heap.get? l\("list">>>.seq a.toArray n):=by
 let⟨z,a,n,r,e⟩:=I.aO l _ c;rwa[z,a,n,r,⇑r,e]
def JZ (h:n<=sizeLine):Builtin.List.listTooLong n=false:=by
 rwa[ahA ∅]
end
section
variable {X:Cx}
inductive DN (x:V) (vs:Zb) (H:Hp) (Q:VK):Prop
 |mk (l:Zs) (xs:Zb) (y:V):x=↑l->vs=[y]->H l\.lst xs->⇑xs<sizeLine->Q .non (upd H l (.lst (xs++[y])))->DN x vs H Q
theorem bN:DM X "list.append" DN:=by
 intro d s t H x p v m Q I g f h;let⟨l,j,y,rfl,rfl,c,k,q⟩:=h;ext g;let⟨u,rfl,i⟩:=f.one;let⟨z,a,n,r,o,e⟩:=I.pJ c;rwa[ajX F.slot_list_append ⟨_,e,2⟩ F.entry_list_append (F.args_list_append_2 _ _) (PySem.list_append l a.toArray n u (by rw[ag6];omega)) ⟨e,5⟩];rwa[⟨.non,_,I.Ag (JY:=a++[u]) c e (by simp) (r.append (.cons i .nil)) ?_,2,q⟩];rw[agN,ahX];ext
inductive xD (x:V) (vs:Zb) (H:Hp) (Q:VK):Prop
 |mk (l b:Zs) (xs zs:Zb):x=↑l->vs=[↑b]->H l\.lst xs->H b\.lst zs->⇑xs+ ⇑zs<=sizeLine->Q .non (upd H l (.lst (xs++zs)))->xD x vs H Q
theorem yz:DM X "list.extend" xD:=by
 intro j s L H x J v E Q I w t h;let⟨l,b,B,C,rfl,rfl,i,A,D,q⟩:=h;ext w;let⟨u,rfl,y⟩:=t.one;ext y;let⟨z,c,n,r,G,e⟩:=I.pJ i;let⟨z2,a,m,o,p,k⟩:=I.pJ A;let f:c.toArray.size+ a.toArray.size<=sizeLine:=by rw[ag6,ag6];ext
 let d:¬(!c.toArray.isEmpty && Builtin.List.listTooLong (c.toArray.size+ a.toArray.size))=true:=by
  rw[JZ f,Bool.and_false];rwa[ahC]
 refine ajX F.slot_list_extend ⟨_,e,2⟩ F.entry_list_extend (F.args_list_extend_2 _ _)
  (AutoSeq1.list_extend_list_list_0 l c.toArray n b a.toArray m d ∅ ∅) ⟨e,k,5⟩
 rwa[⟨.non,_,I.Ag (JY:=c++a) i e (by simp) (r.append o) ?_,2,q⟩];rw[agN];ext
inductive QS (x:V) (vs:Zb) (H:Hp) (Q:VK):Prop
 |mk (l:Zs) (xs:Zb) (y:V):x=↑l->vs=[]->H l\.lst xs->xs[⇑xs - 1]?\y->Q y (upd H l (.lst xs.dropLast))->QS x vs H Q
theorem GZ:DM X "list.pop" QS:=by
 intro g s B H x A v w Q I j i h;let⟨l,t,y,rfl,rfl,f,m,q⟩:=h;ext j;let c:=i.zero;subst c;let⟨z,a,n,r,p,e⟩:=I.pJ f;let⟨u,o,k⟩:=r.get m
 let b:a.toArray[a.toArray.size - 1]?\u:=by
  show a.toArray[⇑a - 1]?\u
  rw[<-ajw,<-p];rwa[o]
 rwa[ajX F.slot_list_pop ⟨_,e,2⟩ F.entry_list_pop (F.args_list_pop_1 _) (MeetsSeq.list_pop_last l a.toArray n u b (by rw[ag6];omega)) ⟨e,5⟩];rwa[⟨y,_,I.Ag (JY:=a.dropLast) f e ?_ r.dropLast ?_,k,q⟩]
 ·cbv
 ·rw[List.length_dropLast];ext
inductive G0 (x:V) (vs:Zb) (H:Hp) (Q:VK):Prop
 |mk (l:Zs) (xs:Zb) (i:Int) (k:Nat) (y:V):x=↑l->vs=[.int i]->H l\.lst xs-> -(2 ^ 63)<=i->i<2 ^ 63->seqIndex? i ⇑xs\k->xs[k]?\y->Q y (upd H l (.lst (xs.eraseIdx k)))->G0 x vs H Q
theorem J0:DM X "list.pop" G0:=by
 intro f s L H x J v E Q I p m h;let⟨l,g,i,k,y,rfl,rfl,d,o,j,C,B,q⟩:=h;ext p;let⟨u,rfl,A⟩:=m.one;let⟨t,rfl⟩:=A;let⟨z,a,n,r,G,e⟩:=I.pJ d;let⟨w,D,b⟩:=r.get B
 refine ajX F.slot_list_pop ⟨_,e,2⟩ F.entry_list_pop (F.args_list_pop_2 _ _)
  (MeetsSeq.list_pop_at l a.toArray n i t k w (fitsIndex_both o j) (by cbv) (by cbv) (by rw[ag6];omega)) ⟨e,5⟩
 rwa[⟨y,_,I.Ag (JY:=a.eraseIdx k) d e ?_ (r.eraseIdx k) ?_,b,q⟩]
 ·cbv
 ·have:=yy g k;ext
inductive QT (x:V) (vs:Zb) (H:Hp) (Q:VK):Prop
 |mk (l:Zs) (xs:Zb):x=↑l->vs=[]->H l\.lst xs->Q .non (upd H l (.lst []))->QT x vs H Q
inductive QV (x:V) (y:V) (H:Hp) (Q:VK):Prop
 |mk (l b:Zs) (xs zs:Zb):x=↑l->y=↑b->H l\.lst xs->H b\.lst zs->⇑xs+ ⇑zs<=sizeLine->(∀p,H p=none->Q ↑p (upd H p (.lst (xs++zs))))->QV x y H Q
def Ah:gn X (binaryOp .Add) QV:=by
 intro d s E H x y v u Q I o i h;let⟨l,b,t,A,rfl,rfl,g,p,B,q⟩:=h;ext o;ext i;let⟨z,c,n,r,C,e⟩:=I.pJ g;let⟨z2,a,w,j,k,f⟩:=I.pJ p;rwa[PySem.P.add_list e f ?_ (by rw[ag6,ag6];omega)];let m:c.toArray++a.toArray=(c++a).toArray:=by simp
 rw[m];rwa[↑_,_,I.YR (t':=s.toks) (r.append j) (by rw[agN];omega),2,q _ I.fresh]
inductive YT (x:V) (y:V) (H:Hp) (Q:VK):Prop
 |mk (l:Zs) (k:Int) (xs:Zb):x=↑l->y=.int k->H l\.lst xs-> -(2 ^ 63)<=k->k<2 ^ 63->⇑xs* k.toNat<=sizeLine->(∀p,H p=none->Q ↑p (upd H p (.lst (List.replicate k.toNat xs).flatten)))->YT x y H Q
def len_rep {a:Type}(xs:List a)(k:Nat):(List.replicate k xs).flatten.length=k* ⇑xs:=by
 induction k with
 |zero=>simp
 |succ k b=>cbv
end
end L2
namespace Att
open PySem PySem.W PySem.Calls PyProof.Rows
def vB {P:Params}:∀(ns:Zg) (c:Zk),WellAll P h c (ns.map WData.int)->IntsAre c ns:=by
 intro ns
 induction ns with
 |nil=>
  intro c w;ext w;rwa[.nil]
 |cons n ns d=>
  intro c w
  cases w with
  |cons a b=>
   ext a;rwa[.cons _ _ (d _ b)]
theorem G3 {l:OpenLaw}(p:l.most\n){P:Params}{h:Heap}{b:List WData}{e:Zk}
 (c:l.row.toRowW.claim.pre b=true) (k:WellAll P h e b):
 ∃a m ns,e=[Value.ref a]/\b=[WData.list (ns.map WData.int)]/\h.get? a\("list">>>.seq m.toArray)/\IntsAre m ns/\⇑ns<=n:=by
 let j:WShape.hasAll [] b [.list .int]=true:=(pre_splitW c).1;let t:l.pre.holds [] { args:=b }=true:=(pre_splitW c).2;let⟨d,r,rfl,w,u⟩:=hasAllW_cons j;obtain rfl:=hasAllW_nil u;let⟨y,rfl,v⟩:=hasW_list w;let⟨ns,rfl⟩:=items_int v
 let hlen:⇑ns<=n:=by
  let g:(WTm.not (.lt (.lit (.int (n:Int))) (.len (.arg 0)))).holds [] { args:=[.list (ns.map .int)] }=true:=by
   let g:=(holds_andW t).1;rw[p]at g;rwa[g]
  let i:=condW_of g (w_not (w_lt w_lit (w_len_list (w_arg rfl))));rwa[Nat.le_of_not_lt λq=>?_]
  first
   |(rw[ahp z]at i;rwa[absurd i (by decide)])
   |(simp at i;omega)
 cases k with
 |cons x o=>
  ext o
  cases x with
  |list s f=>rwa[11,ns,22,s,vB ns _ f,hlen]
def G4 (l:OpenLaw)(a:List WData):l.row.toRowW.claim.post a (.bool true) a=true:=
 postW_of (r:=l.row.toRowW) (X:=(true==true))
  (show WShape.has [] (.bool true) .bool=true by first|rfl|decide|simp[WShape.has,WShape.arms,WShape.armsAll])
  (show (WTm.eq .res (.lit (.bool true))).value [] { args:=a,res:=some (.bool true),after:=a }=some (.bool (true==true)) from w_eq_bool (w_res rfl) w_lit) rfl
theorem C0 {l:OpenLaw}{loose:Zp}{XP:(Str->Zl)->Heap->Prop}{x:World->Heap->Prop}{d:DefRec}
 (D:l.most\n) (p:d.params.defaults=[])
 (call:∀(w:World) (c b:Zu) (k t:Str->Zl) (h:Zs) (o:Obj) (pm m doc:Zt) (a:Zs) (e:Zk) (ns:Zg),
  Ground P loose [] XP w c k t b.heap->x w b.heap->
  b.heap.get? h=some o->o.data=.func (docDef d.name d.params d.body d.scope pm m doc)->b.heap.CodeRec m d.name->k d.name\↑h->
  b.heap.get? a=some ("list">>>.seq e.toArray)->IntsAre e ns->⇑ns<=n->b.gens=#[]->
  codeAny (model l.prog w) callerA (.call ↑h ⟨[↑a],[]⟩) (λr j=>r=.ok (.ret (.bool true))/\OldK b.heap j.heap/\j.os=b.os/\AllBare j.gens) b):
 WalkO P loose XP x l.row.toRowW d [] (λf e=>PySem.call f e):=by
 intro w c b k t G Y h o pm m doc I kV F L s z q N v y as g hlay E u M;obtain rfl:I=.none:=Dflts.none z p;obtain rfl:kV=.none:=Dflts.noKw z;let⟨a,e,ns,rfl,rfl,i,hints,hlen⟩:=G3 D g u;rwa[enter_call (ajj (call w c b k t h o pm m doc a e ns G Y F (fd_plain L) s q i hints hlen N) λr j C=>?_)];let⟨rfl,H,J,B⟩:=C;rwa[.inl ⟨.bool true,.bool true,[],2,λ_=>rfl,.bool true,G4 l _,λ_=>⟨List.Pairwise.nil,λ_ A=>(nomatch A)⟩⟩,H,J,B]
end Att
namespace L2
open PySem PySem.Spec PyProof.Rows
theorem yA:∀{a:Zk} {ns:Zg},IntsAre a ns->Vals (ns.map V.int) a
 |_,_,.nil=>.nil
 |_,_,.cons n t h=>.cons ⟨t,2⟩ (yA h)
noncomputable def inClass (s:Stmt)(j:Nat):Stmt:=match s with
 |.ClassDef _ _ _ body _ _ _ _ _ _ _=>body.getD j (.Pass ⟨(0),(0),(0),(0)⟩)
 |_=>.Pass ⟨(0),(0),(0),(0)⟩
noncomputable def dE (s:Stmt):Arguments:=match s with
 |.FunctionDef _ a _ _ _ _ _ _ _ _=>a
 |_=>{ posonlyargs:=[],args:=[],vararg:=none,kwonlyargs:=[],kw_defaults:=[],kwarg:=none,defaults:=[] }
noncomputable def cE (s:Stmt):List Stmt:=match s with
 |.FunctionDef _ _ b _ _ _ _ _ _ _=>b
 |_=>[]
noncomputable def aB (s:Stmt):Scope:=match s with
 |.FunctionDef _ _ _ _ _ _ a _ _ _=>a
 |_=>{ kind:=.function,names:=[],isGenerator:=false,isCoroutine:=false }
abbrev Wj:lF:=λ_ _ _ _ _ _=>False
abbrev E0:XK:=λ_ _ _=>False
structure qW (K:Za1) (x qual:Str) (st:Stmt) (f:Zs) (fd:FuncData):Prop where
 ex:∃(oc:Zt) (od:Zo) (kV doc pm:Zt) (an:Zo) (cu ct:Zt) (Ai:Array Zl),
  fd=PySem.W.fnOf x qual (dE st) (cE st) (aB st) .none kV doc pm an cu ct/\K.lookup f\⟨oc,od,.func fd,Ai⟩/\PySem.W.codeIn K cu qual=true
 kp:PySem.W.keepIn K ↑f=true
section
variable {K:Za1}
theorem qW.binds {qual:Str}{st:Stmt}{fd:FuncData}{ps:Zp}(F:qW K x qual st a fd)
 (h:∀(kV doc pm:Zt) (c:Zo) (b ct:Zt) (us:Zk),⇑us=⇑ps->bindArgs (PySem.W.fnOf x qual (dE st) (cE st) (aB st) .none kV doc pm c b ct) ⟨us,[]⟩=pure (ps.zip us)):Binds K fd ps []:=by
 let⟨f,g,kV,doc,pm,c,b,ct,d,rfl,lk,e⟩:=F.ex;rwa[.all (h kV doc pm c b ct)]
theorem G5 {qual:Str}{st:Stmt}{f d:Zo}{b:Array Zl}{kV doc pm e:Zt}(l:K.lookup a\⟨v,f,.func (PySem.W.fnOf x qual (dE st) (cE st) (aB st) .none kV doc pm d u e),b⟩)
 (c:PySem.W.codeIn K u qual=true) (k:PySem.W.keepIn K ↑a=true):qW K x qual st a (PySem.W.fnOf x qual (dE st) (cE st) (aB st) .none kV doc pm d u e):=⟨⟨v,f,kV,doc,pm,d,u,e,b,2,l,c⟩,k⟩
end
def ig {k:Nat}(a:cy k A):A.units+ 1<cLine:=agU (Nat.add_le_add_left (by decide:1<=64) _) a.units
section
variable {X:Cx}
def pv (i:Nat){x:Str}{a:Pos}(c:X.N[i]?\x:=by rfl)(e:Qn X.env.scope x:=by trivial)(d:(x==("__debug__":Str))=false:=by decide)
 (b:(x==("__classdict__":Str))=false:=by decide):PE X (.Name x a) (ji i):=Qo c e d b
end
def dv {A B:Prop}(h:B):if false=true then A else B:=by
 cbv
def jj {A B:Prop}(h:A):if true=true then A else B:=by
 cbv
def bU {c A B:Prop} [Decidable c](b:c->A)(a:¬c->B):if c then A else B:=by
 cbv
def jO {c A B:Prop} [Decidable c](a:c)(h:B):if (!decide c)=true then A else B:=by
 cbv
def aq (H a:Hp):Prop:=∀b o,H b\o->a b\o
def aq.refl (H:Hp):aq H H:=λ_ _ h=>h
def aq.trans (a:aq H I)(b:aq I J):aq H J:=λc o h=>b c o (a c o h)
def aq.free (e:aq H I){l:Zs}(h:I l=Option.none):H l=Option.none:=by
 cases q:H l with
 |none=>rfl
 |some o=>
  rw[e l o q]at h;ext h
def aq.seq (e:aq H I)(h:aD K H a L):aD K I a L:=by
 rcases h with (h|⟨o,h⟩)|h
 ·rwa[.inl (.inl (e^h))]
 ·rwa[.inl (.inr ⟨o,e^h⟩)]
 ·rwa[.inr h]
end L2
namespace L2
open PySem PySem.Spec PyProof.Rows
section
variable {prog:Program}{w:World}{A:Around}{R:Result->Zu->Prop}{s:Zu}
theorem C1 {elt target iter:Expr}{scope:Scope}{it acc:Zt}{env:Env}(I:Nat->Zu->Prop)
 (turn:∀n s,I n s->(prog<|>w) A (pyNext it) (λr a=>match r with
  |none=>R (.ok .next) a
  |some v=>(prog<|>w) A (letOwnedTupleGo target it v) (λ_ f=>(prog<|>w) A (assign target env v) (λ_ c=>(prog<|>w) A (eval elt env) (λx d=>
   (prog<|>w) A (call (.builtin "list.append") [acc,x]) (λ_ e=>∃m,m<n/\I m e) (λ_ _=>False) d) (λ_ _=>False) c) (λ_ _=>False) f) (λ_ _=>False) a) (λ_ _=>False) s)
 (n:Nat) (h:I n s):codeAny (model prog w) A (.compLoop (.ListComp elt [⟨target,iter,[],(0)⟩] scope p) 0 it acc env) R s:=by
 rwa[codeAny_loop rfl I (λn s o=>?_) n h];rwa[wpAny_noted ?_];rw[compTurn_list1];rwa[agI (ajF (agI (ahN (turn n s o) (λr a g=>?_) λ_ _ b=>b.elim)))]
 cases r with
 |none=>exact agP g
 |some v=>
  rwa[agI (ahN g (λ_ f k=>?_) λ_ _ b=>b.elim)]
  exact agI (ahN k (λ_ c i=>agI (agI (ahN i (λx d j=>agI (ahN j
   (λ_ e l=>agP (agP ⟨2,l⟩)) λ_ _ b=>b.elim)) λ_ _ b=>b.elim))) λ_ _ b=>b.elim)
end
noncomputable def dy (X:Cx)(a:Zp)(scope:Scope)(cl:List (Str×Zs))(C:Zs)(s:Zu)(H:Hp)(ex:Zn):Cx where
 prog:=X.prog
 w:=X.w
 K:=X.K
 mg:=X.mg
 base:=X.base
 A:=X.A
 N:=a
 eB:=s
 ur:=H
 env:=compEnvC scope cl C X.env
 outer:=X.stack
 stack:=X.stack
 ex:=ex
 fn:=λ_=>false
 calm:=X.calm
 pn:=[]
 xe:=λ_ _=>False
def oz (f:TE)(d:St)(Q:VK)(J:It)(e:Hp):Prop:=∃W:Nat->Nat->Zb->Hp->Prop,(∃m,W 0 m [] e)/\∀i m ys a,W i m ys a->
 (J.stop i a/\⇑ys<=sizeLine/\∀D,a D=none->Q ↑D (upd a D (.lst ys)))\/
 (J.go i a/\⇑ys<sizeLine/\∀x b,J.mj i a x b->f (some x::d) b λy g=>∃c,c<m/\W (i+ 1) c (ys++[y]) g)
def Ml (b:TI)(c:St->St)(d:TE):TE:=λ a H Q=>b a H (oz d (c a) Q)
structure dW (X:Cx) (x:Str) (fns:Zp) (ixs:Zh) (scope:Scope) (cl:List (Str×Zs)):Prop where
 Aj:closureFor scope X.env=pure cl
 sub:∀y c,cl.lookup y\c->X.env.cells.lookup y\c
 cell:∀y∈scope.names,y.2≠.cell
 kind:scope.kind=.function
 names:∀y∈scope.names,y.2=.local->scope.names.lookup y.1=some .local
 own:scope.names.lookup x=some .local
 has:∀y,((relabel scope X.env).names.lookup y=some .cell\/(relabel scope X.env).names.lookup y=some .free)->∃c,cl.lookup y\c
 nd:(x::fns).Nodup
 len:⇑ixs=⇑fns
 at_:∀(j:Nat) (y:Str),fns[j]?\y->∃i:Nat,ixs[j]?\i/\X.N[i]?\y/\(X.env.kindOf y=some .cell\/X.env.kindOf y=some .free)/\∃c,cl.lookup y\c/\((relabel scope X.env).names.lookup y=some .cell\/(relabel scope X.env).names.lookup y=some .free)
noncomputable def iX (ixs:Zh):St->St:=λ a=>ixs.map λi=>(a[i]?).join
section
variable {X:Cx}{x:Str}{scope:Scope}
def tX (a:scope.names.lookup x=some .local):(relabel scope X.env).names.lookup x=some .local:=lookup_relabel_local a
end
theorem jP {scope:Scope}(a:∀y∈scope.names,y.2≠.free)(b:∀y∈scope.names,y.2≠.cell)(d:scope.kind=.function)
 (g:∀y∈scope.names,y.2=.local->scope.names.lookup y.1=some .local) (i:scope.names.lookup x=some .local):dW X x [] [] scope [] where
 Aj:=closureFor_none a
 sub:=λy c h=>nomatch h
 cell:=b
 kind:=d
 names:=g
 own:=i
 has:=λy h=>by
  let e:(relabel scope X.env).names=scope.names:=by
   rwa[map_eq_self λz f=>?_]
   let⟨n,k⟩:=z;have:(k==NameKind.free)=false:=by simpa using a _ f
   simp[this]
  rw[e]at h;rcases h with h|h
  ·rwa[absurd rfl (b _ (aih h))]
  ·rwa[absurd rfl (a _ (aih h))]
 nd:=by simp
 len:=rfl
 at_:=λj y h=>by simp at h
theorem kQ {J:It}{l:TE}{Q:VK}(xs:Zb)(g:V->V)(d:∀i:Nat,i<⇑xs->J.go i H)(q:∀(i:Nat) (x:V) (c:Hp),i<⇑xs->J.mj i H x c->c=H/\xs[i]?\x)
 (f:J.stop ⇑xs H) (j:⇑xs<=sizeLine) (p:∀(i:Nat) (x:V),xs[i]?\x->∀R:VK,R (g x) H->l (some x::D) H R) (r:∀a,H a=none->Q ↑a (upd H a (.lst (xs.map g)))):
 oz l D Q J H:=by
 erw[λi m ys n=>m=⇑xs - i/\i<=⇑xs/\ys=(xs.take i).map g/\n=H,⟨⇑xs,by simp,ahg _,by simp,2⟩];rintro i m ys n ⟨rfl,t,rfl,rfl⟩;by_cases b:i<⇑xs
 ·rwa[.inr ⟨d i b,by rw[agO,ahr];ext,λx c h=>?_⟩];let⟨o,k⟩:=q i x c b h;subst o;rwa[p i x k _ ⟨⇑xs - (i+ 1),32,b,52⟩];rw[aim,k];simp
 ·let e:i=⇑xs:=∅
  subst e;rwa[.inl ⟨f,by rw[agO,ahr];ext,λa s=>?_⟩];rw[aid];rwa[r a s]
def QW {xs:Zb}(h:bG K H a xs):∀i,i<⇑xs->(yq K a).go i H:=λi b=>⟨xs,xs[i],h,agJ b⟩
def Oi {xs:Zb}(h:bG K H a xs):∀i x b,i<⇑xs->(yq K a).mj i H x b->b=H/\xs[i]?\x:=λi x b _ y=>⟨y.1,y.2 xs h⟩
def J1 {xs:Zb}(h:bG K H a xs):(yq K a).stop ⇑xs H:=⟨xs,h,agQ _⟩
def jQ {xs:Zb}(h:aD K H a xs):∀i,i<⇑xs->(vp K a).go i H:=λi b=>⟨xs,xs[i],h,agJ b⟩
def iJ {xs:Zb}(h:aD K H a xs):∀i x b,i<⇑xs->(vp K a).mj i H x b->b=H/\xs[i]?\x:=λi x b _ y=>⟨y.1,y.2 xs h⟩
def gR {xs:Zb}(h:aD K H a xs):(vp K a).stop ⇑xs H:=⟨xs,h,agQ _⟩
inductive QX (t:TS) (D:Ends) (σ:St) (H:Hp):Prop
 |mk (G:St->Hp->Prop):t { D with nx:=G } σ H->(∀ gI H',G gI H'->D.nx gI H')->QX t D σ H
def bP {st:Stmt}{t:TS}(h:PS X st t):PS X st (QX t):=by
 intro b s j H D I ⟨G,e,d⟩;rwa[a9 (h b s j H { D with nx:=G } I e) λf k q=>?_]
 cases f with
 |next=>let⟨a,c,i,g⟩:=q;rwa[a,c,i,d a c g]
 |_=>exact q
def hU {scope:Scope}{env:Env}{k:NameKind}(h:(relabel scope env).names.lookup x\k)(g:k=.cell\/k=.free)(i:∀z∈scope.names,z.2≠.cell):(x,NameKind.free)∈scope.names:=by
 let f:=aih h;unfold relabel at f;let⟨⟨n,d⟩,b,e⟩:=ahO.mp f;dsimp only at e;by_cases hf:(d==NameKind.free && env.scope.kind==.function && env.kindOf n==some .cell)=true
 ·rw[ahf hf]at e;let a:n=x:=ahZ Prod.fst e;rw[aiD,aiD]at hf;let c:d=.free:=eq_of_beq hf.1.1;rw[<-a,<-c];rwa[b]
 ·rw[ahc hf]at e;let a:n=x:=ahZ Prod.fst e;let c:d=k:=ahZ Prod.snd e;subst a c;rcases g with rfl|rfl
  ·rwa[absurd rfl (i _ b)]
  ·rwa[b]
theorem cL {env:Env}(b:env.scope.kind=.function){y:Str}(a:env.kindOf y=some .cell):∀{names:List (Str×NameKind)},names.lookup y=some .free->
 (names.map λ(n,k)=>if (k==NameKind.free && env.scope.kind==.function && env.kindOf n==some .cell) then (n,NameKind.cell) else (n,k)).lookup y=some .cell
 |[],h=>by simp at h
 |(n,k)::r,h=>by
  let c:=@cL env b y a r
  cbv
theorem pK {scope:Scope}(b:closureFor scope X.env=pure [(f,c)])(s:X.env.cells.lookup f\c)(n:∀z∈scope.names,z.2≠.cell)(q:scope.kind=.function)
 (o:∀z∈scope.names,z.2=.local->scope.names.lookup z.1=some .local) (r:scope.names.lookup x=some .local) (a:∀z∈scope.names,z.2=.free->z.1=f) (m:x≠f) (p:X.N[i]?\f)
 (g:X.env.kindOf f=some .cell) (l:X.env.scope.kind=.function) (k:scope.names.lookup f=some .free):dW X x [f] [i] scope [(f,c)] where
 Aj:=b
 sub:=λz d h=>by
  cbv
 cell:=n
 kind:=q
 names:=o
 own:=r
 has:=λz h=>by
  let e:z=f:=by
   rcases h with h|h
   ·rwa[a _ (hU h (.inl rfl) n) rfl]
   ·rwa[a _ (hU h (.inr rfl) n) rfl]
  subst e;rwa[c,by simp[aiU]]
 nd:=by simp[m]
 len:=rfl
 at_:=λj z h=>by
  cases j with
  |zero=>
   let e:f=z:=by simpa using h
   subst e;rwa[i,2,p,.inl g,c,by simp[aiU],.inl (cL l g k)]
  |succ j=>simp at h
namespace Rv
def G6:Slot "reversed" "__init__" "object.__init__":=
 .of (owner:="object") (n:="__init__") (by rw[typeLookup_type,builtinLookup_eq_fast];kernel_rfl) ⋯ ⋯ ⋯
  (by first|rwa[.inl (by decide)]|rwa[.inr (by decide)]) (by rw[isSubtype_type];kernel_rfl)
def called:TypeCalled "reversed" "reversed.__new__" "object.__init__":=
 ⟨44,⟨11,PySem.F.mro_reversed⟩,PySem.F.made_reversed,4,by rw[isSubtype_type];kernel_rfl,G6⟩
def afo (h:Heap)(it t:Zs)(i:Int):Prop:=∃o,h.get? it\o/\o.cls=.type "reversed"/\o.data=.fields #[↑t,rawInt i]
end Rv
noncomputable def ao (ns:Zg):Zb:=ns.map V.int
def cC (h:l[i]?\z):(ao l)[i]?\(V.int z):=by
 unfold ao;rw[ag0,h];rfl
def aM (ns:Zg):⇑(ao ns)=⇑ns:=agO ..
def cw (h:(ao l)[i]?\q):∃z,q=V.int z/\l[i]?\z:=by
 unfold ao at h
 cbv
def ints_app (a b:Zg):ao (a++b)=ao a++ao b:=aho ..
def all_eq (ns ms:Zg):((List.range (min ⇑ns ⇑ms)).all (λj=>decide (ns[j]?=ms[j]?)) && ⇑ns==⇑ms)=decide (ns=ms):=by
 rw[ah6,aiD,List.all_eq_true,ahD,ajS];constructor
 ·rintro ⟨b,a⟩;rwa[aja λi=>?_]
  cbv
 cbv
section
variable {X:Cx}
inductive Vh (K:Za1) (x:V) (y:V) (H:Hp) (Q:VK):Prop
 |mk (a b:Zs) (ns ms:Zg):x=↑a->y=↑b->bG K H a (ao ns)->bG K H b (ao ms)->Q (.bl (decide (ns=ms))) H->Vh K x y H Q
inductive Mm (K:Za1) (x:V) (y:V) (H:Hp) (Q:VK):Prop
 |mk (a b:Zs) (ns ms:Zg):x=↑a->y=↑b->bG K H a (ao ns)->bG K H b (ao ms)->Q (.bl (!decide (ns=ms))) H->Mm K x y H Q
theorem xE {b:Zg}{a:Zk}(f:Vals (ao l) N)(c:Vals (ao b) a)(j:Nat)(p:j<N.toArray.size)(n:j<a.toArray.size):
 SeqAt.EqAt A s N.toArray[j] a.toArray[j] (decide (l[j]?=b[j]?)):=by
 let i:=⇑f;let q:=⇑c;rw[aM]at i q;let m:j<⇑N:=by simpa using p
 let k:j<⇑a:=by simpa using n
 let d:l[j]?=some l[j]:=agJ ∅
 let h:b[j]?=some b[j]:=agJ ∅
 let⟨u,w,t,rfl⟩:=f.get (cC d);let⟨v,r,g,rfl⟩:=c.get (cC h)
 let x:N.toArray[j]=Value.int l[j] t:=by
  rw[ai4];rwa[Za0 ((agJ m).symm.trans w)]
 let o:a.toArray[j]=Value.int b[j] g:=by
  rw[ai4];rwa[Za0 ((agJ k).symm.trans r)]
 rw[x,o,d,h];have:=SeqAt.EqAt.int_int (A:=A) (s:=s) l[j] t b[j] g
 let e:decide (some l[j]=some b[j])=(l[j]==b[j]):=by
  rw[ah6,ahD,ajS];rwa[Za0,ahZ some]
 rw[e];rwa[this]
def Oj (C:X.A.units<cLine):gn X (compareOp .NotEq) (Mm X.K):=by
 intro l s D H x y v u Q I B r h;let⟨a,b,d,g,rfl,rfl,o,p,q⟩:=h;ext B;ext r;let⟨f,n,t,_⟩:=I.tuple o;let⟨c,k,w,_⟩:=I.tuple p;rwa[SeqAt.RcNeAt.tuples (e:=λj=>decide (d[j]?=g[j]?)) (show s.heap.IsTuple a f.toArray from t) (show s.heap.IsTuple b c.toArray from w) C (λj A z=>xE n k j A z) X.prog X.w X.xe _ ⟨.bl (!decide (d=g)),H,I,5,q⟩];let i:=⇑n;let m:=⇑k;rw[aM]at i m;show _=Value.bool (!decide (d=g));rw[<-all_eq,ag6,ag6,<-i,<-m]
inductive QY (K:Za1) (xs:Zb) (H:Hp) (Q:VK):Prop
 |mk (x:V) (T:String) (t:Zt) (b:Bool):xs=[x,.ty T]->jL K H x t->PySem.W.kitOne K t (.type T)\b->Q (.bl b) H->QY K xs H Q
def eY:ie X (.builtin "isinstance") (QY X.K):=by
 intro a s l H i k Q I r h;let⟨x,T,t,b,rfl,c,e,q⟩:=h;let⟨u,j,rfl,f,d⟩:=vals2 r;ext d;rwa[GU I f c e λg=>⟨.bl b,H,I.tok g,2,q⟩]
def mq (K:Za1)(T:String):PySem.W.kitOne K (.type T) (.type T)\true:=by
 unfold PySem.W.kitOne
 cbv
def Ak (K:Za1):PySem.W.kitOne K (.type "int") (.type "bool")\false:=by
 first|rfl|kernel_rfl|decide
end
def aq.upd {o:HO}(h:H a=Option.none):aq H (upd H a o):=λb u e=>by
 rw[ak (ax e h)];rwa[e]
section
variable {X:Cx}
inductive G7 (x:V) (y:V) (H:Hp) (Q:VK):Prop
 |mk (a b:Zs) (xs ys:Zb):x=↑a->y=↑b->H a\.tup xs->H b\.tup ys->⇑xs+ ⇑ys<=sizeLine->(∀p H',aq H H'->H' p\.tup (xs++ys)->Q ↑p H')->G7 x y H Q
theorem J9 {ws:Zk}(r:IsTup s.heap a ([]:Zk).toArray)(o:IsTup s.heap b ws.toArray)
 (h:Q ↑b s):(P<|>w) A (binaryOp .Add ↑a ↑b) Q E s:=by
 let⟨⟨cls,q,data,p⟩,i,j,n,l⟩:=id r;let⟨⟨k,g,data2,f⟩,e,c,m,d⟩:=id o;simp only at j l c d;subst j l c d
 exact concat_meets ⟨_,i,2⟩ ⟨_,e,2⟩ noFill_tuple_add seq_tuple_add aka aj2 (ajW _ _)
  (tuple_addW0 a b ([]:Zk).toArray ws.toArray n m q g p f rfl) ⟨i,e,h⟩
def Al:gn X (binaryOp .Add) G7:=by
 intro c s z H x y v u Q I l j h;let⟨a,b,i,ys,rfl,rfl,d,f,t,q⟩:=h;by_cases m:i=[]
 ·subst m;ext l;ext j;let⟨g,w,o,_⟩:=I.tuple (bG.of d);let⟨k,A,r,_⟩:=I.tuple (bG.of f);let e:g=[]:=w.sR.mpr rfl;subst e;rwa[J9 o r ⟨↑b,H,I,2,q b H (aq.refl H) f⟩]
 ·rwa[Og c s z H ↑a ↑b v u Q I l j ⟨a,b,i,ys,22,bG.of d,bG.of f,m,t,λe=>?_,λ_ p n=>q p _ (aq.upd n) ah⟩];subst e;rwa[q a H (aq.refl H) ([ahl]▸d)]
inductive Mp (x:V) (lo:Zj) (hi:Zj) (H:Hp) (Q:VK):Prop
 |mk (a:Zs) (xs:Zb):x=↑a->H a\.tup xs->(∀p H',aq H H'->H' p\.tup (gQ xs lo hi)->Q ↑p H')->Mp x lo hi H Q
end
end L2
namespace HT
open PySem PyProof.Rows
section
variable {prog:Program}{w:World}{A:Around}{E:Zt->Zu->Prop}{s:Zu}
theorem qN {items:Zm}{lo j:Zj}(c:IsTup s.heap a items)(i:s.heap.IsSliceOf b v u .none)(pl:IsPart v lo)(l:IsPart u j)
 (hw:bX items.size 0 lo=0/\bX items.size items.size j=items.size) (h:Q ↑a s):(prog<|>w) A (getItem ↑a ↑b) Q E s:=by
 let⟨os,e,f,k⟩:=id i;let g:s.TypeIs ↑b "slice":=⟨os,e,f⟩;unfold getItem
 try with_reducible rwa[ahY ?_]
 first|rwa[agI (agP ?_)]|skip
 rwa[agI (wpAny_sequenceKey c.typeIs (by decide) ?_)]
 refine agI (ahQ (name:=Str.ofString "__getitem__") c.typeIs ahV
  (ahU ahV c.typeIs entry_tuple_getitem ?_ (args_tuple_getitem _ _)))
 show wpAny _ _ (Builtin.Tuple.tupleItemsOf ↑a >>=_) _ _ s;rwa[agI (tupleItemsOf_ c ?_)];rwa[agI (ajk g ?_)];rw[ahf ⋯];rwa[agI (mn i pl l ?_)];rw[hw.1,hw.2];let d:((((0:Nat):Int)==0 && (1:Int)==1 && (items.size - 0)==items.size)=true):=by simp
 show wpAny _ _ (if (((0:Nat):Int)==0 && (1:Int)==1 && (items.size - 0)==items.size)=true then _ else _) _ _ s;rw[ahf d];let⟨p,o,n,_⟩:=id c;rwa[agI (m:=Builtin.Tuple.tupleIsExact _) ?_];unfold Builtin.Tuple.tupleIsExact;rwa[agI (ajk c.typeIs (agP ?_))];show wpAny _ _ (if (Value.type "tuple"==Value.type "tuple")=true then _ else _) _ _ s;rw[ahf ⋯];rwa[agI (akf (agP ⟨12,agP h⟩))]
end
def uB:fillsNumberSlot (.type "tuple") "mul"=pure false:=
 PySem.fillsNumberSlot_seq (id:="tuple.__mul__") (r:=some (.builtin "tuple.__rmul__")) PySem.F.slot_tuple_mul.lookup ⋯ PySem.F.slot_tuple_rmul.lookup ⋯
def Am:seqRepeat? (.type "tuple")=pure (some (.builtin "tuple.__mul__")):=by
 unfold seqRepeat?;rw[PySem.seqSlot_of (T:="tuple") (name:="__mul__") (id:="tuple.__mul__") PySem.F.slot_tuple_mul.lookup ⋯,PySem.seqSlot_of (T:="tuple") (name:="__rmul__") (id:="tuple.__rmul__") PySem.F.slot_tuple_rmul.lookup ⋯];rfl
theorem xF (a:Int)(t:Tok)(l:Zs)(items:Zm)(n:Nat)(c:Zo)(e:Array Zl):
 Meets (Builtin.«int.__rmul__» ⟨[.int a t,↑l],[]⟩) (λ_ R s=>s.heap.get? l\{ cls:=.type "tuple",dict:=c,data:=.seq items n,slots:=e }/\R (.ok (.ret Value.notImplemented)) s):=
 .of_wp λb w A R s h=>by let⟨i,g,d,j,os⟩:=s;let⟨f,h⟩:=h;wp_walk;rwa[12,h]
theorem xG (l:Zs)(items:Zm)(n:Nat)(f:Zo)(e:Array Zl)(x:Int)(u:Tok)(b:¬(decide (x < -(2 ^ 63)) || decide (x>=2 ^ 63))=true)(m:(items.isEmpty || x==1)=true):
 Meets (Builtin.«tuple.__mul__» ⟨[↑l,.int x u],[]⟩) (λ_ R s=>s.heap.get? l\{ cls:=.type "tuple",dict:=f,data:=.seq items n,slots:=e }/\R (.ok (.ret ↑l)) s):=
 .of_wp λa w A R s h=>by
  let⟨c,g,d,i,os⟩:=s;let⟨j,h⟩:=h;let k:(⟨c,g,d,i,os⟩:Zu).TypeIs ↑l "tuple":=⟨_,j,2⟩
  wp_walk
  rwa[wpAny_ite_false (ahA b) ?_]
  wp_walk
  rwa[12,h]
theorem xH (l:Zs)(items:Zm)(n:Nat)(f:Zo)(e:Array Zl)(x:Int)(u:Tok)(b:¬(decide (x < -(2 ^ 63)) || decide (x>=2 ^ 63))=true)(m:¬(items.isEmpty || x==1)=true)(o:(decide (x<=0) || items.isEmpty)=true):
 Meets (Builtin.«tuple.__mul__» ⟨[↑l,.int x u],[]⟩) (λ_ R s=>s.heap.get? l\{ cls:=.type "tuple",dict:=f,data:=.seq items n,slots:=e }/\R (.ok (.ret ↑↥s)) { s with heap:=s.heap.push ("tuple">>>.seq #[]) }):=
 .of_wp λa w A R s h=>by
  let⟨c,g,d,i,os⟩:=s;let⟨j,h⟩:=h;let k:(⟨c,g,d,i,os⟩:Zu).TypeIs ↑l "tuple":=⟨_,j,2⟩
  wp_walk
  rwa[wpAny_ite_false (ahA b) ?_]
  wp_walk
  rwa[12,h]
theorem xI (l:Zs)(items:Zm)(n:Nat)(j:Zo)(i:Array Zl)(x:Int)(u:Tok)(e:¬(decide (x < -(2 ^ 63)) || decide (x>=2 ^ 63))=true)(q:¬(items.isEmpty || x==1)=true)(v:¬(decide (x<=0) || items.isEmpty)=true)
 (k:¬((items.size:Int)* x > (2 ^ 63 - 1) / 8)) (r:¬(Builtin.Tuple.tupleTooMany ((items.size:Int)* x))=true) (t:(List.foldl (λb a=>b++a) #[] (List.replicate x.toNat items)).size<=sizeLine):
 Meets (Builtin.«tuple.__mul__» ⟨[↑l,.int x u],[]⟩) (λ_ R s=>s.heap.get? l\{ cls:=.type "tuple",dict:=j,data:=.seq items n,slots:=i }/\R (.ok (.ret ↑↥s)) { s with heap:=s.heap.push ("tuple">>>.seq (List.foldl (λb a=>b++a) #[] (List.replicate x.toNat items))) }):=
 .of_wp λc w A R s h=>by
  let⟨f,g,d,m,os⟩:=s;let⟨o,h⟩:=h;let p:(⟨f,g,d,m,os⟩:Zu).TypeIs ↑l "tuple":=⟨_,o,2⟩
  wp_walk
  rwa[wpAny_ite_false (ahA e) ?_]
  wp_walk
  rwa[wpAny_ite_false (ahA k) ?_]
  wp_walk
  rwa[12,h]
end HT
namespace L2
open PySem PySem.Spec PyProof.Rows
section
variable {X:Cx}{e:Expr}{lo hi:Option Expr}
def An:Mf X Mp:=by
 intro b s o H x v n m lo hi l Q I i f pl g h;let⟨a,xs,rfl,d,q⟩:=h;by_cases hw:HT.bX ⇑xs 0 lo=0/\HT.bX ⇑xs ⇑xs hi=⇑xs
 ·ext i;let⟨c,r,j,t⟩:=I.tuple (bG.of d);let hlen:c.toArray.size=⇑xs:=by rw[ag6];rwa[r.length.symm]
  erw["tuple",_,ahV.lookup,j.typeIs];rwa[HT.qN j f pl g ([hlen]▸hw) ⟨↑a,H,I,2,q a H (aq.refl H) ?_⟩];unfold gQ;rw[hw.1,hw.2,List.drop_zero,Nat.sub_zero,aid];rwa[d]
 ·rwa[QO b s o H ↑a v n m lo hi l Q I i f pl g ⟨a,xs,2,bG.of d,hw,λp k=>q p _ (aq.upd k) ah⟩]
inductive Mq (x:V) (y:V) (H:Hp) (Q:VK):Prop
 |mk (a:Zs) (k:Int) (xs:Zb):x=↑a->y=.int k->H a\.tup xs-> -(2 ^ 63)<=k->k<2 ^ 63->⇑xs* k.toNat<=sizeLine->(∀p H',aq H H'->H' p\.tup (List.replicate k.toNat xs).flatten->Q ↑p H')->Mq x y H Q
theorem DP:gn X (binaryOp .Mult) Mq:=by
 intro d s M H x y v u Q I Y O h;let⟨l,k,xs,rfl,rfl,G,h1,h2,J,q⟩:=h;ext Y;let⟨t,rfl⟩:=O;let⟨a,r,P,W⟩:=I.tuple (bG.of G);let E:=⇑r;let⟨⟨cls,p,data,i⟩,j,hc,n,L⟩:=id P;simp only at hc L;subst hc L
 let A:¬(decide (k < -(2 ^ 63)) || decide (k>=2 ^ 63))=true:=by
  rw[aj3,ahD,ahD];ext
 let C:∀{S:PySem.Spec},Meets (Builtin.«tuple.__mul__» ⟨[↑l,.int k t],[]⟩) (λN R c=>c.heap.get? l\{ cls:=.type "tuple",dict:=p,data:=.seq a.toArray n,slots:=i }/\S N R c)->
  S X.A (wants (EP X d M Q) X.xe) s->X⁻¹ X.A (binaryOp .Mult ↑l (.int k t)) (EP X d M Q) X.xe s:=λ{S} m V=>
  wpAny_binaryOp_repeat_ref (T:="tuple") (U:="int") ⋯ ⟨_,j,2⟩ (λc=>typeIs_int c k t) HT.uB F.fills_int_mul F.slot_int_rmul HT.Am F.slot_int_index.lookup
   (ajX F.slot_int_rmul (typeIs_int s k t) F.entry_int_rmul (F.args_int_rmul_2 _ _) (HT.xF k t l a.toArray n p i)
    ⟨j,2,⟨_,j,2⟩,ajX F.slot_tuple_mul ⟨_,j,2⟩ F.entry_tuple_mul (F.args_tuple_mul_2 _ _) m ⟨j,V⟩⟩)
 by_cases hc:(a.toArray.isEmpty || k==1)=true
 ·rwa[C (S:=λ_ R c=>R (.ok (.ret ↑l)) c) (HT.xG l a.toArray n p i k t A hc) ⟨↑l,H,I,2,q l H (aq.refl H) ?_⟩]
  let e:(List.replicate k.toNat xs).flatten=xs:=by
   rw[aj3]at hc;rcases hc with hc|hc
   ·have:a=[]:=by simpa using hc
    have:xs=[]:=by
     let w:=E;rw[this]at w;rwa[aie w]
    subst this;simp
   ·have:k=1:=by simpa using hc
    subst this;simp
  rw[e];rwa[G]
 ·by_cases f:(decide (k<=0) || a.toArray.isEmpty)=true
  ·rwa[C (S:=λ_ R c=>R (.ok (.ret ↑↥c)) { c with heap:=c.heap.push ("tuple">>>.seq #[]) }) (HT.xH l a.toArray n p i k t A hc f) ?_];rwa[⟨↑↥s,_,I.laid (t':=s.toks) (o:=.tup []) (λb Z q=>agL _ q) (agQ _) ?_,2,q _ _ (aq.upd (I.aO.fresh (agQ _))) ?_⟩]
   ·rwa[ahg _,[],.nil,IsTup.new _ _]
   ·let e:k.toNat=0:=by
     rw[aj3,ahD]at f;rcases f with f|f
     ·ext
     ·rwa[absurd (by rw[aj3];rwa[.inl f]) hc]
    rw[e,ah];rfl
  ·let hk:0<k:=by
    rw[aj3,ahD]at f;ext
   let g:List.foldl (λD B=>D++B) #[] (List.replicate k.toNat a.toArray)=(List.replicate k.toNat a).flatten.toArray:=by
    have:=foldl_rep a k.toNat [];rw[ajx]at this;rwa[this]
   let hlen:(List.replicate k.toNat a).flatten.length<=sizeLine:=by rw[len_rep,Nat.mul_comm,<-E];rwa[J]
   let z:((a.toArray.size:Int)* k)=((⇑xs* k.toNat:Nat):Int):=by
    rw[ag6,<-E,Int.natCast_mul,Int.toNat_of_nonneg ∅]
   let hline:(sizeLine:Nat)<=(2 ^ 63 - 1) / 8:=⋯
   refine C (S:=λ_ R c=>R (.ok (.ret ↑↥c)) { c with heap:=c.heap.push ("tuple">>>.seq (List.foldl (λD B=>D++B) #[] (List.replicate k.toNat a.toArray))) })
    (HT.xI l a.toArray n p i k t A hc f (by rw[z];omega) (by unfold Builtin.Tuple.tupleTooMany;rw[ahD,z];omega) ([g,ag6]▸hlen)) ?_
   rw[g];rwa[⟨↑↥s,_,I.laid (t':=s.toks) (o:=.tup (List.replicate k.toNat xs).flatten) (λb Z q=>agL _ q) (agQ _) ?_,2,q _ _ (aq.upd (I.aO.fresh (agQ _))) ah⟩];rwa[[len_rep,Nat.mul_comm]▸J,_,r.rep k.toNat,IsTup.new _ _]
end
noncomputable def tx (l:Zh):Str:=⟨l.toArray⟩
def G8 (l:Zh):⇑(tx l)=⇑l:=by
 show l.toArray.size=⇑l;simp
def QZ {b:Zh}(h:tx B=tx b):B=b:=by
 have:=ahZ (λs:Str=>s.cps.toList) h;rwa[this]
def DQ (h:x.cps.toList=f.cps.toList):x=f:=by
 let⟨a⟩:=x;let⟨b⟩:=f;have:a=b:=Array.toList_inj.mp h;rw[this]
def Vi (x:Str):x=tx x.cps.toList:=DQ rfl
def G9 (a b:Zh):tx a++tx b=tx (a++b):=by
 rwa[DQ ?_];show ((tx a).cps++(tx b).cps).toList=(a++b);rw[Array.toList_append];rfl
section
variable {X:Cx}{pos:Pos}
def fD {l:Zh}{j}(h:x=tx l):PE X (.Constant (.str x) j pos) (tC (.str (tx l))):=by
 rw[<-h];rwa[Qp]
noncomputable def Ao (n:Int):Zh:=(toString n:Str).cps.toList
def Hc (h:n<10000000000):n.log2<1920:=by
 rcases Nat.eq_zero_or_pos n with e|e
 ·subst e;decide
 ·let b:HPow.hPow 2 n.log2<=n:=Nat.log2_self_le ∅;let a:(10000000000:Nat)<2 ^ 1920:=⋯
  rwa[(Nat.pow_lt_pow_iff_right (by decide:1<2)).mp (agU b (ajY h a))]
def Ka {n:Int}(a:0<=n)(h:n<10000000000):⇑(Ao n)<=10:=by
 have:=toString_length_le (v:=n) a (k:=10) ⋯ h;rwa[this]
end
structure Def (K:Za1) (mg:Str->Zl) (x:Str) (st:Stmt) (ps:Zp) (f:Zs) (fd:FuncData):Prop where
 F:qW K x x st f fd
 m:mg x\↑f
 b:Binds K fd ps []
inductive Vj (t:TE) (σ:St) (H:Hp) (Q:VK):Prop
 |mk (G:V->Hp->Prop):t σ H G->(∀v H',G v H'->Q v H')->Vj t σ H Q
def Ap (ns:Zg)(lo a:Zj):gQ (ao ns) lo a=ao ((ns.drop (HT.bX ⇑ns 0 lo)).take (HT.bX ⇑ns ⇑ns a - HT.bX ⇑ns 0 lo)):=by
 unfold gQ ao;rw[agO,List.map_take,List.map_drop]
def fO (r:Int){n:Nat}(h:0<n):∃j:Nat,r % (n:Int)=(j:Int)/\j<n:=by
 let b:=ain r (show (n:Int)≠0 by omega);let a:=ah9 r (show (0:Int)<(n:Int) by omega);rwa[(r % (n:Int)).toNat,33]
section
variable {κ:Type} [DecidableEq κ]
noncomputable def bD (a:List (κ×V))(k:κ):Zc:=(a.find? λb=>decide (b.1=k)).map (·.2)
noncomputable def putK (a:List (κ×V))(k:κ)(v:V):List (κ×V):=
 if (a.any λb=>decide (b.1=k))=true then a.map (λb=>if b.1=k then (b.1,v) else b) else a++[(k,v)]
noncomputable def fj (a:List (κ×V))(k:κ):List (κ×V):=a.filter λb=>decide (b.1≠k)
def cS {p:κ×V}{r:List (κ×V)}{k:κ}(e:p.1=k):bD (p::r) k\p.2:=by simp[bD,ajy,e]
def cM {p:κ×V}{r:List (κ×V)}{k:κ}(e:¬p.1=k):bD (p::r) k=bD r k:=by simp[bD,ajy,e]
theorem mv (k:κ):∀a:List (κ×V),(a.any λb=>decide (b.1=k))=(bD a k).isSome
 |[]=>rfl
 |p::r=>by
  rw[List.any_cons];by_cases e:p.1=k
  ·simp only[cS e,ahp e,Bool.true_or,Option.isSome_some]
  ·rw[cM e,ahA e,Bool.false_or];rwa[mv k r]
theorem Aq (k j:κ)(y:V):∀a:List (κ×V),bD (a.map λb=>if b.1=k then (b.1,y) else b) j=(bD a j).map λx=>if j=k then y else x
 |[]=>rfl
 |p::r=>by
  let c:=Aq k j y r;rw[ah3];by_cases h:p.1=k
  ·rw[ahf h];by_cases e:p.1=j
   ·rw[cS (p:=(p.1,y)) e,cS e,Option.map_some,ahf (e.symm.trans h)]
   ·rw[cM (p:=(p.1,y)) e,cM e,c]
  ·rw[ahc h];by_cases e:p.1=j
   ·rw[cS (p:=p) e,cS e,Option.map_some,ahc (λz=>h (e.trans z))]
   ·rw[cM (p:=p) e,cM e,c]
theorem yB (k j:κ)(y:V):∀a:List (κ×V),bD a k=none->bD (a++[(k,y)]) j=if j=k then some y else bD a j
 |[],_=>by
  by_cases e:k=j
  ·rw[ahf e.symm];rwa[cS (p:=(k,y)) e]
  ·rw[ahc (λz=>e z.symm)];rwa[cM (p:=(k,y)) e]
 |p::r,b=>by
  rw[ajp];let c:¬p.1=k:=λz=>by rw[cS z]at b;ext b
  rw[cM c]at b;let d:=yB k j y r b;by_cases e:p.1=j
  ·rw[cS e,cS e,ahc (λz=>c (e.trans z))]
  ·rw[cM e,cM e,d]
def pL (b:List (κ×V))(k j:κ)(y:V):bD (putK b k y) j=if j=k then some y else bD b j:=by
 unfold putK;by_cases a:(b.any λc=>decide (c.1=k))=true
 ·rw[ahf a,Aq];rw[mv]at a;by_cases e:j=k
  ·let⟨x,d⟩:=ajU.mp a
   cbv
  ·rw[ahc e]
   cases bD b j with
   |none=>rfl
   |some x=>cbv
 ·rw[ahc a];rwa[yB k j y b ?_];rw[mv]at a
  cases q:bD b k with
  |none=>rfl
  |some x=>rw[q]at a;rwa[(a rfl).elim]
def hV (a:List (κ×V))(k:κ)(v:V):⇑(putK a k v)<=⇑a+ 1:=by
 unfold putK;split
 ·rw[agO];ext
 ·rw[agN,ahi,aio];ext
def Ar {a:List (κ×V)}{k:κ}(v:V)(h:bD a k=none):putK a k v=a++[(k,v)]:=by
 unfold putK;rw[mv,h];rwa[ahc ⋯]
def eS.qX {o:Zc}{u:Zl}(r:eS o u):o.isSome=u.isSome:=by
 cases o with
 |none=>cases u with
  |none=>rfl
  |some _=>exact(show False from r).elim
 |some _=>cases u with
  |none=>exact(show False from r).elim
  |some _=>rfl
def eS.getD {o:Zc}{u:Zl}(r:eS o u)(rd:RelV q v):RelV (o.getD q) (u.getD v):=by
 cases o with
 |none=>cases u with
  |none=>exact rd
  |some _=>exact(show False from r).elim
 |some _=>cases u with
  |none=>exact(show False from r).elim
  |some _=>exact r
def KV.val {a:List (κ×V)}{g:List (κ×Zt)}(r:KV a g)(k:κ):eS (bD a k) (valueAt g k):=by
 induction r with
 |nil=>exact True.intro
 | @cons p q l d h t j=>
   let⟨f,i⟩:=h;by_cases e:p.1=k
   ·let c:q.1=k:=f.symm.trans e;let b:valueAt (q::d) k\q.2:=by simp[valueAt,ajy,c]
    rw[cS e,b];rwa[i]
   ·let c:¬q.1=k:=λz=>e (f.trans z)
    let b:valueAt (q::d) k=valueAt d k:=by simp[valueAt,ajy,c]
    rw[cM e,b];rwa[j]
def KV.any {a:List (κ×V)}{c:List (κ×Zt)}(r:KV a c)(k:κ):(a.any λb=>decide (b.1=k))=c.any λb=>decide (b.1=k):=by
 induction r with
 |nil=>rfl
 |cons h t d=>rw[List.any_cons,List.any_cons,d,h.1]
theorem KV.repl {b:List (κ×V)}{c:List (κ×Zt)}(r:KV b c)(k:κ){y:V}{u:Zt}(e:RelV y u):
 KV (b.map λa=>if a.1=k then (a.1,y) else a) (c.map λa=>if a.1=k then (a.1,u) else a):=by
 induction r with
 |nil=>exact .nil
 | @cons p q f g h t d=>
   rw[ah3,ah3];rwa[.cons ?_ d]
   cbv
def KV.put {a:List (κ×V)}{b:List (κ×Zt)}(r:KV a b)(k:κ){y:V}{u:Zt}(c:RelV y u):KV (putK a k y) (stored b k u):=by
 unfold putK stored;rw[r.any k];by_cases e:(b.any λd=>decide (d.1=k))=true
 ·rw[ahf e,ahf e];rwa[r.repl k c]
 ·rw[ahc e,ahc e];rwa[Paired.snoc r ⟨2,c⟩]
def KV.drop {c:List (κ×V)}{f:List (κ×Zt)}(r:KV c f)(k:κ):KV (fj c k) (without f k):=by
 unfold fj without
 induction r with
 |nil=>exact .nil
 | @cons p q l m h t j=>
   let⟨d,g⟩:=h;rw[List.filter_cons,List.filter_cons];by_cases e:p.1=k
   ·cbv
   ·let i:¬q.1=k:=λz=>e (d.trans z)
    let a:decide (p.1≠k)=true:=by simp[e]
    let b:decide (q.1≠k)=true:=by simp[i]
    rw[ahf a,ahf b];rwa[.cons ⟨d,g⟩ j]
def KV.length {a:List (κ×V)}{b:List (κ×Zt)}(r:KV a b):⇑a=⇑b:=Paired.length r
def Kb (a:List (κ×V))(k:κ):⇑(fj a k)<=⇑a:=aiV _ _
end
def jR {k:Key}(r:RelV (kV k) u):(bQ P w).is k u=true:=by
 cases k with
 |inl i=>let⟨t,e⟩:=(show ∃t,u=Value.int i t from r);subst e;rwa[CY P w i t]
 |inr x=>let⟨t,e⟩:=(show ∃t,u=Value.str x t from r);subst e;rwa[CZ P w x t]
theorem yC:∀{a:Zd} {b:Zk},Vals (a.map kV) b->ItemsAre (bQ P w) a b
 |[],_,r=>by ext r;rwa[.nil]
 |k::a,_,r=>by
  cases r with
  |cons h t=>exact .cons (jR h) (yC t)
abbrev KT (H:Hp):List (Zd×V)->List (Zd×Zs×Zt)->Prop:=Paired λp q=>p.1=q.1/\H q.2.1\.tup (p.1.map kV)/\RelV p.2 q.2.2
def KT.val {a:List (Zd×V)}{f:List (Zd×Zs×Zt)}(r:KT H a f)(k:Zd):eS (bD a k) ((atKey f k).map (·.2)):=by
 induction r with
 |nil=>exact True.intro
 | @cons p q l d h t j=>
   let⟨g,_,i⟩:=h;by_cases e:p.1=k
   ·let c:q.1=k:=g.symm.trans e;let b:atKey (q::d) k\q.2:=by simp[atKey,ajy,c]
    rw[cS e,b];rwa[i]
   ·let c:¬q.1=k:=λz=>e (g.trans z)
    let b:atKey (q::d) k=atKey d k:=by simp[atKey,ajy,c]
    rw[cM e,b];rwa[j]
theorem KT.repl {a:List (Zd×V)}{xs:List (Zd×Zs×Zt)}(r:KT H a xs)(k:Zd){y:V}{u:Zt}(e:RelV y u):
 KT H (a.map λb=>if b.1=k then (b.1,y) else b) (xs.map (putAt k u)):=by
 induction r with
 |nil=>exact .nil
 | @cons p q g j h t c=>
   rw[ah3,ah3];rwa[.cons ?_ c];let⟨i,d,f⟩:=h;unfold putAt
   cbv
theorem KT.put {a:List (Zd×V)}{c:List (Zd×Zs×Zt)}(r:KT H a c)(k:Zd){b:Zs}{y:V}{u:Zt}(g:H b\.tup (k.map kV))(d:RelV y u):
 KT H (putK a k y) (storedH c k b u):=by
 let e:(a.any λf=>decide (f.1=k))=(atKey c k).isSome:=by
  rw[mv,(r.val k).qX,Option.isSome_map]
 unfold putK storedH;rw[e];by_cases q:(atKey c k).isSome=true
 ·rw[ahf q,ahf q];rwa[r.repl k d]
 ·rw[ahc q,ahc q];rwa[Paired.snoc r ⟨2,g,d⟩]
def KT.keeps {a:List (Zd×V)}{c:List (Zd×Zs×Zt)}(r:KT H a c)(d:∀b ys,H b\.tup ys->I b\.tup ys):KT I a c:=
 Paired.JF r λ_ _ z=>⟨z.1,d^z.2.1,z.2.2⟩
section
variable {P:Program}{w:World}{H:Hp}{h:Heap}{a:Zs}
def Mr {u:HO}(ok:dH P w H h)(e:Rd H a u):bV P w H h a u:=e.ok ok
def pM {b:List (Key×V)}(ok:dH P w H h)(e:Rd H a (.dK b)):⇑b<=sizeLine/\(a==sysModules)=false/\∃c,KV b c/\h.DictOf (bQ P w) a c:=
 show bV P w H h a (.dK b) from Mr ok e
def sS {b:List (Key×V)}(ok:dH P w H h)(e:H a\.dK b):⇑b<=sizeLine/\(a==sysModules)=false/\∃c,KV b c/\h.DictOf (bQ P w) a c:=pM ok (.inl e)
def mw {c:Zd}(ok:dH P w H h)(e:H a\.tup (c.map kV)):(tupleKind (bQ P w)).is h c a:=by
 let⟨_,b,r,o,f,d,n,g⟩:=(show bV P w H h a (.tup (c.map kV)) from ok a _ e);rwa[o,b.toArray,n,f,d,g,by simpa using yC r]
theorem pN {b:List (Zd×V)}(ok:dH P w H h)(e:Rd H a (.dT b)):⇑b<=sizeLine/\(a==sysModules)=false/\
 ∃d,KT H b d/\h.DictOfH (tupleKind (bQ P w)) a d:=by
 let⟨z,y,d,r,o,j,s,n,k,u,i,g⟩:=(show bV P w H h a (.dT b) from Mr ok e);rwa[⟨z,y,d,r,o,j,s,n,k,u,i,λx c=>?_,g⟩]
 let all:∀{l:List (Zd×V)} {m:List (Zd×Zs×Zt)},KT H l m->∀x∈m,(tupleKind (bQ P w)).is h x.1 x.2.1:=by
  intro l m q
  induction q with
  |nil=>intro x c;rwa[nomatch c]
  | @cons p q A B f t v=>
    intro x c;rcases ag4.mp c with e|c
    ·subst e;rwa[mw ok (by rw[<-f.1];rwa[f.2.1])]
    ·rwa[v x c]
 rwa[all r x c]
theorem Ms {b:List (Zd×V)}(ok:dH P w H h)(e:H a\.dT b):⇑b<=sizeLine/\(a==sysModules)=false/\
 ∃c,KT H b c/\h.DictOfH (tupleKind (bQ P w)) a c:=pN ok (.inl e)
end
def gq (H:Hp)(a:Zs)(y:V)(r:Zc):Prop:=
 (∃c k,Rd H a (.dK c)/\y=kV k/\r=bD c k)\/∃c k b,Rd H a (.dT c)/\y=↑b/\H b\.tup (k.map kV)/\r=bD c k
def qY (H:Hp)(a:Zs)(y v:V)(d:Hp):Prop:=
 (∃c k,H a\.dK c/\y=kV k/\⇑c<sizeLine/\d=upd H a (.dK (putK c k v)))\/
 ∃c k b,H a\.dT c/\y=↑b/\H b\.tup (k.map kV)/\⇑c<sizeLine/\d=upd H a (.dT (putK c k v))
def gq.k {b:List (Key×V)}{k:Key}(e:H a\.dK b):gq H a (kV k) (bD b k):=.inl ⟨b,k,.inl e,22⟩
def qY.k {b:List (Key×V)}{k:Key}(e:H a\.dK b)(c:⇑b<sizeLine):qY H a (kV k) q (upd H a (.dK (putK b k q))):=.inl ⟨b,k,e,2,c,2⟩
section
variable {X:Cx}{pins:List (Zs×Obj)}{σ:St}{H:Hp}{s:Zu}{a:Zs}{y v:V}{u r:Zt}{o:Zc}{A:Around}{E:Zt->Zu->Prop}
def Inv.big (I:Inv X pins σ H s):sysModules<↥s:=by
 let h:mainGlobals<↥s:=(I.mod.glob.keeps I.bk).lt;rwa[ajY ⋯ h]
theorem Hd (D:A.units+ 1<cLine)(I:Inv X pins σ H s)(g:gq H a y (some v))(q:RelV y u)(h:∀d t,Inv X pins σ H t->RelV v d->Q d t):
 X⁻¹ A (getItem ↑a u) Q E s:=by
 rcases g with ⟨f,k,e,j,l⟩|⟨f,k,b,e,j,B,l⟩
 ·subst j;let⟨z,C,F,rel,i⟩:=pM I.aO e;let⟨d,m,c⟩:=eS.some_of (v:=v) (o:=valueAt F k) ([l]▸rel.val k);rwa[wpAny_getItem_of (jR q) i.mapOf m (h d _ (I.tok _) c)]
 ·subst j;cases (show u=Value.ref b from q);let⟨z,C,w,rel,i⟩:=pN I.aO e;let⟨d,m,c⟩:=eS.some_of (v:=v) (o:=(atKey w k).map (·.2)) ([l]▸rel.val k);let⟨p,x,n⟩:=ah1.mp m;rwa[wpAny_getItem_heap (aiW D) (mw I.aO B) i x ?_];rw[n];rwa[h d _ (I.tok _) c]
theorem Ol (p:A.units+ 1<cLine)(I:Inv X pins σ H s)(g:gq H a y o)(j:RelV y u)(h:∀m,Inv X pins σ H m->Q (.bool (!o.isSome)) m):
 X⁻¹ A (compareOp .NotIn u ↑a) Q E s:=by
 rcases g with ⟨c,k,e,f,l⟩|⟨c,k,b,e,f,n,l⟩
 ·subst f;let⟨z,i,w,rel,d⟩:=pM I.aO e;rwa[wpAny_notIn_of (jR j) i d.mapOf ?_];rw[<-(rel.val k).qX,<-l];rwa[h _ (I.tok _)]
 ·subst f;cases (show u=Value.ref b from j);let⟨z,i,t,rel,d⟩:=pN I.aO e;rwa[wpAny_notIn_heap (aiW p) (mw I.aO n) i d ?_];let q:=(rel.val k).qX;rw[Option.isSome_map]at q;rw[<-q,<-l];rwa[h _ (I.tok _)]
theorem kb {t':Nat}{c:HO}(I:Inv X pins σ H s)(mu:tS (H a))(g:Heap.SameBut a s.heap h)(d:∃q,h.get? a\q)(new:bV X.prog X.w (upd H a c) h a c):
 Inv X pins σ (upd H a c) { s with heap:=h,toks:=t' }:=
 I.write (x:=a) (e:=a) mu (.inl rfl) (λb q f z=>(g.2 b f).trans z) d new
theorem qZ {b:List (Key×V)}{c:List (Key×Zt)}(z:⇑b<=sizeLine)(d:(a==sysModules)=false)(rel:KV b c)(e:h.DictOf (bQ P w) a c):
 bV P w I h a (.dK b):=⟨z,d,c,rel,e⟩
theorem He (T:A.units+ 1<cLine)(d:Inv X pins σ H s)(g:qY H a y v I)(D:RelV y u)(L:RelV v r)(h:∀M,Inv X pins σ I M->U () M):
 X⁻¹ A (setItem ↑a u r) U E s:=by
 rcases g with ⟨f,k,e,w,l,t⟩|⟨f,k,b,e,w,G,l,t⟩
 ·subst w t;let⟨z,x,W,rel,p⟩:=sS d.aO e;let n:⇑W<=sizeLine:=by rw[<-⇑rel];rwa[z]
  let C:⇑(putK f k v)<=sizeLine:=by have:=hV f k v;ext
  rwa[wpAny_setItem_pairs (hsz:=n) (jR D) p λJ i m=>h _ ?_]
  let R:∃q,J.get? a\q:=let ⟨q,_,_,j,_⟩:=i;⟨q,j⟩
  rwa[kb d ([e]▸True.intro) m R (qZ C x (rel.put k L) i)]
 ·subst w t;cases (show u=Value.ref b from D);let⟨z,x,xs,rel,p⟩:=Ms d.aO e;let n:⇑xs<=sizeLine:=by rw[<-Paired.length rel];rwa[z]
  let C:⇑(putK f k v)<=sizeLine:=by have:=hV f k v;ext
  rwa[wpAny_setItem_heap (hsz:=n) (aiW T) (mw d.aO G) p λJ i m=>h _ ?_]
  let⟨q,Y,S,j,P,Q,O,_,N⟩:=i;rwa[kb d ([e]▸True.intro) m ⟨q,j⟩ ⟨C,x,_,(rel.put k G L).keeps λc ys F=>?_,q,Y,S,j,P,Q,O,N⟩];rw[ak (bW F e (λz=>nomatch z))];rwa[F]
end
section
variable {X:Cx}{pins:List (Zs×Obj)}{σ:St}{H:Hp}{s:Zu}{a:Zs}{kvs:List (Key×V)}{k:Key}{u:Zt}{A:Around}{E:Zt->Zu->Prop}
theorem Mt {more:Zk}(I:Inv X pins σ H s)(e:H a\.dK kvs)(f:RelV (kV k) u)(l:bD kvs k\q)(j:more=[]\/∃x,more=[x])
 (h:∀d n,Inv X pins σ (upd H a (.dK (fj kvs k))) n->RelV q d->Q d n):X⁻¹ A (call (.builtin "dict.pop") (↑a::u::more)) Q E s:=by
 let⟨z,D,p,rel,m⟩:=sS I.aO e;let⟨d,F,g⟩:=eS.some_of (v:=q) (o:=valueAt p k) (by rw[<-l];rwa[rel.val k])
 let v:(keyPart u).isSome=true:=by
  cases k with
  |inl i=>let⟨t,b⟩:=(show ∃t,u=Value.int i t from f);subst b;rfl
  |inr x=>let⟨t,b⟩:=(show ∃t,u=Value.str x t from f);subst b;rfl
 let r:argsOk "dict.pop" ⟨↑a::u::more,[]⟩:=by
  rcases j with b|⟨x,b⟩
  ·subst b;rwa[PySem.F.args_dict_pop_2 _ _]
  ·subst b;rwa[PySem.F.args_dict_pop_3^_]
 refine ajl ajz m.typeIs PySem.F.entry_dict_pop r (meets_dict_pop_there (bQ X.prog X.w) a (jR f) more j v)
  ⟨p,d,m,by rw[<-⇑rel];rwa[z],F,λB c y=>h d _ ?_ g⟩
 let C:∃b,B.get? a\b:=let ⟨b,_,_,w,_⟩:=c;⟨b,w⟩
 rwa[kb I ([e]▸True.intro) y C (qZ (ag3 (Kb kvs k) z) D (rel.drop k) c)]
theorem Q0 {r:Zt}(I:Inv X pins σ H s)(e:H a\.dK kvs)(b:RelV (kV k) u)(l:bD kvs k=none)(h:∀f,Inv X pins σ H f->Q r f):
 X⁻¹ A (call (.builtin "dict.pop") [↑a,u,r]) Q E s:=by
 let⟨z,m,c,rel,d⟩:=sS I.aO e;let g:valueAt c k=none:=eS.none_of (by rw[<-l];rwa[rel.val k])
 let j:(keyPart u).isSome=true:=by
  cases k with
  |inl i=>let⟨t,q⟩:=(show ∃t,u=Value.int i t from b);subst q;rfl
  |inr x=>let⟨t,q⟩:=(show ∃t,u=Value.str x t from b);subst q;rfl
 rwa[ajl ajz d.typeIs PySem.F.entry_dict_pop (PySem.F.args_dict_pop_3^_) (meets_dict_pop_default (bQ X.prog X.w) a (jR b) m j r) ⟨c,d,g,h _ (I.tok _)⟩]
end
def Q5 (i:Expr):Prop:=∀b a,subscripted i false b a=operate [b,a] (getItem b a)
theorem Om {env:Env}{value slice:Expr}{T id:String}
 (k:typeLookup (.type T) "__getitem__"=pure (some (.builtin id))) (j:Q5 slice)
 (h:(P<|>w) A (eval value env) (λo c=>(P<|>w) A (eval slice env) (λi a=>a.TypeIs o T/\(P<|>w) A (getItem o i) Q E a) E c) E s):
 (P<|>w) A (eval (.Subscript value slice p) env) Q E s:=by
 rwa[Subscript_ (ahN h (λo c f=>ahN f (λi a b=>?_) λ_ _ x=>x) λ_ _ x=>x)];let⟨g,b⟩:=b;rwa[agI ?_];rwa[agI (wpAny_specialOf g k ?_)]
 let fin:(P<|>w) A (subscripted slice false o i) (λr d=>(P<|>w) A (letTemporaryGo value o r >>=λ_=>pure r) Q E d) E a:=by
  rw[j o i];rwa[wpAny_operating (ahN b (λr d e=>agI (wpAny_letTemporaryGo (agP e))) λ_ _ x=>x)]
 first
  |rwa[agP (agI fin)]
  |rwa[agI (agP (agI fin))]
  |rwa[agI fin]
def C2 {c:Zc}(I:Inv X o D H s)(g:gq H a q c):s.TypeIs ↑a "dict":=by
 rcases g with ⟨f,k,e,_,_⟩|⟨f,k,b,e,_,_,_⟩
 ·let⟨_,_,i,_,d⟩:=pM I.aO e;rwa[d.typeIs]
 ·let⟨_,_,h,_,d⟩:=pN I.aO e;rwa[d.typeIs]
inductive Q6 (x y:V) (H:Hp) (Q:VK):Prop
 |mk (a:Zs) (v:V):x=↑a->gq H a y (some v)->Q v H->Q6 x y H Q
def Vk (td b:TE):TE:=λ a H Q=>td a H λx c=>b a c λy d=>Q6 x y d Q
def Oo (d td:TE):TE:=λ c H Q=>d c H λy e=>td c e λx b=>∃a o,x=↑a/\gq b a y o/\Q (.bl (!o.isSome)) b
inductive Q7 (x y v:V) (H:Hp) (N:Hp->Prop):Prop
 |mk (a:Zs) (H4:Hp):x=↑a->qY H a y v H4->N H4->Q7 x y v H N
def Vl (td b f:TE):TS:=λD a H=>f a H λv d=>td a d λx e=>b a e λy c=>Q7 x y v c (D.nx a)
section
variable {X:Cx}{o i value:Expr}{pos pos':Pos}{td ty tv:TE}
def DR (w:X.A.units+ 1<cLine)(p:PE X o td)(q:PE X i ty)(r:Q5 i):PE X (.Subscript o i pos) (Vk td ty):=by
 intro b s f H Q I h;rwa[Om PySem.F.slot_dict_getitem.lookup r (a9 (p b s f H _ I h) λu k ζ=>?_)];let⟨x,l,n,t,B⟩:=ζ;rwa[a9 (q b k f l _ n B) λC F ζ=>?_];let⟨y,z,d,m,a,v,ex,g,j⟩:=ζ;subst ex;obtain rfl:u=Value.ref a:=t;rwa[C2 d g,Hd w d g m λE D A c=>⟨v,z,A,c,j⟩]
def Hf (r:X.A.units+ 1<cLine)(n:PE X i ty)(m:PE X o td):PC X .NotIn i o (Oo ty td):=by
 intro b s c H Q I h;rwa[a9 (n b s c H _ I h) λA f ζ=>?_];let⟨y,j,l,k,z⟩:=ζ;rwa[a9 (m b f c j _ l z) λu C ζ=>?_];let⟨x,v,p,q,a,t,ex,g,d⟩:=ζ
 subst ex;obtain rfl:u=Value.ref a:=q;rwa[Ol r p g k λB w=>⟨.bl (!t.isSome),v,w,2,d⟩]
theorem sT (E:X.A.units+ 1<cLine)(p:PE X o td)(t:PE X i ty)(B:PE X value tv)(q:swapsWith value (some (.Subscript o i pos')) pos.line X.env=pure false):
 PS X (.Assign [.Subscript o i pos'] value pos) (Vl td ty tv):=by
 intro b s c H D I h;rwa[wpAny_Assign_Subscript (a9 (B b s c H _ I h) λr f ζ=>?_) q];let⟨v,j,n,z,L⟩:=ζ;rwa[a9 (p b f c j _ n L) λu G ζ=>?_];let⟨x,F,w,A,d⟩:=ζ;rwa[a9 (t b G c F _ w d) λM N ζ=>?_];let⟨y,P,J,m,a,k,ex,g,C⟩:=ζ;subst ex;obtain rfl:u=Value.ref a:=A;rwa[He E J g m z λO l=>⟨c,k,l,C⟩]
end
def As (h:Heap)(a:sysModules<h.objs.size):bV P w H (h.push ("dict">>>.dict #[])) h.objs.size (.dK []):=
 ⟨ahg _,ag9.mpr (ah5 (ahk a)),[],.nil,Heap.DictOf.new h⟩
def Kc (h:Heap)(a:sysModules<h.objs.size):bV P w H (h.push ("dict">>>.dict #[])) h.objs.size (.dT []):=
 ⟨ahg _,ag9.mpr (ah5 (ahk a)),[],.nil,_,#[],(0),agZ _ rfl,⟨222⟩,22,aix⟩
def Q8:TE:=λ_ H Q=>∀p,H p=none->Q ↑p (upd H p (.dK []))
def Q9:TE:=λ_ H Q=>∀p,H p=none->Q ↑p (upd H p (.dT []))
section
variable {X:Cx}{pos:Pos}
def fP:PE X (.Dict [] [] pos) Q8:=λb s c H Q I h=>
 wpAny_Dict_empty ⟨↑↥s,_,I.laid (a:=↥s) (o:=.dK []) (t':=s.toks) (λ_ _ q=>agL _ q) (agQ _) (As s.heap I.big),2,h _ (I.aO.fresh (agQ _))⟩
def Kd:PE X (.Dict [] [] pos) Q9:=λb s c H Q I h=>
 wpAny_Dict_empty ⟨↑↥s,_,I.laid (a:=↥s) (o:=.dT []) (t':=s.toks) (λ_ _ q=>agL _ q) (agQ _) (Kc s.heap I.big),2,h _ (I.aO.fresh (agQ _))⟩
end
def Au:List (TE×TE)->St->Hp->(List (V×V)->Hp->Prop)->Prop
 |[],_,H,Q=>Q [] H
 |(e,g)::r,a,H,Q=>e a H λx c=>g a c λy d=>Au r a d λf b=>Q ((x,y)::f) b
abbrev VV:List (V×V)->List (Zt×Zt)->Prop:=Paired λp q=>RelV p.1 q.1/\RelV p.2 q.2
def Mu (X:Cx)(c:Pos)(keys:List (Option Expr))(values:Zr)(d:List (TE×TE)):Prop:=
 ∀(a:List (Zs×Obj)) (s:Zu) (b:St) (H:Hp) (Q:List (V×V)->Hp->Prop),Inv X a b H s->Au d b H Q->
  X⁻¹ X.A (evalPairs (pairTrees keys values X.env c)) (λh g=>∃f e,Inv X a b e g/\VV f h/\Q f e) X.xe s
def Oq:Mu X p [] [] []:=λa s b H Q I h=>pairTrees_nil_walk ⟨[],H,I,.nil,h⟩
theorem Ke {k:Expr}{g:List (Option Expr)}{f d:TE}{b:List (TE×TE)}(t:PE X k f)(z:PE X e d)(r:Mu X p g C b):
 Mu X p (some k::g) (e::C) ((f,d)::b):=λa s c H Q I h=>
 pairTrees_cons_walk (a9 (t a s c H _ I h) λu j ⟨x,l,n,w,F⟩=>a9 (z a j c l _ n F) λJ D ⟨y,B,q,m,i⟩=>
  a9 (r a D c B _ q i) λL G ⟨o,v,E,rel,A⟩=>⟨(x,y)::o,v,E,.cons ⟨w,m⟩ rel,A⟩)
def iZ (a more:List (Key×V)):List (Key×V):=more.foldl (λacc b=>putK acc b.1 b.2) a
def KV.merge:∀{more:List (Key×V)} {rs:List (Key×Zt)} {a:List (Key×V)} {b:List (Key×Zt)},KV more rs->KV a b->KV (iZ a more) (merged b rs):=by
 intro more rs a b r
 induction r generalizing a b with
 |nil=>intro q;rwa[q]
 | @cons p q f g h t d=>
   intro c
   let e:KV (putK a p.1 p.2) (stored b q.1 q.2):=by
    have:=c.put p.1 h.2;rw[<-h.1];rwa[this]
   rwa[d e]
theorem lu:∀(more a:List (Key×V)),⇑(iZ a more)<=⇑a+ ⇑more
 |[],a=>by show ⇑a<=⇑a+ 0;ext
 |p::r,a=>by
  let c:=lu r (putK a p.1 p.2);let b:=hV a p.1 p.2;show ⇑(iZ (putK a p.1 p.2) r)<=_;rw[ahi];ext
theorem vC {P:Program}{w:World}:∀{d:List (Key×V)} {g:List (Zt×Zt)},VV (d.map λf=>(kV f.1,f.2)) g->∃e,Carries (bQ P w) g e/\KV d e
 |[],_,r=>by ext r;rwa[[],True.intro,.nil]
 |p::d,_,r=>by
  cases r with
  | @cons a b as bs h t=>
    let⟨e,c,q⟩:=vC (P:=P) (w:=w) t;let⟨j,i⟩:=b;rwa[(p.1,i)::e,⟨jR h.1,2,c⟩,.cons ⟨2,h.2⟩ q]
def Vm (b:List (TE×TE)):TE:=λ f H Q=>∀p,H p=none->Au b f (upd H p (.dK [])) λe c=>c p\.dK []/\∃a:List (Key×V),e=a.map (λd=>(kV d.1,d.2))/\⇑a<=15/\Q ↑p (upd c p (.dK (iZ [] a)))
theorem Ot {keys:List (Option Expr)}{values:Zr}{i:List (TE×TE)}(h:Mu X p keys values i)(d:keys.all (·.isSome)=true)(G:⇑keys=⇑values)(n:keys≠[])
 (j:⇑keys<=15):PE X (.Dict keys values p) (Vm i):=by
 intro g s J H Q I q;let v:=I.aO.fresh (agQ ↥s);let t:=I.laid (a:=↥s) (o:=.dK []) (h':=s.heap.push ("dict">>>.dict #[])) (t':=s.toks) (λ_ _ q=>agL _ q) (agQ _) (As s.heap I.big);rwa[wpAny_Dict_walk (knd:=bQ X.prog X.w) d G n j (a9 (h g _ J _ _ t (q _ v)) λO S ζ=>?_)];let⟨N,R,k,rel,e,f,D,lk,m⟩:=ζ;subst D;let⟨M,c,rk⟩:=vC (P:=X.prog) (w:=X.w) rel;let⟨z,E,L,F,A⟩:=sS k.aO e;ext F;rwa[⟨M,c,A,λl b x=>⟨↑↥s,152,m⟩⟩]
 let y:⇑(iZ [] f)<=sizeLine:=by
  let C:=lu f [];rw[aio]at C;rw[sizeLine_eq];ext
 let B:∃q,l.get? ↥s\q:=let ⟨q,_,_,r,_⟩:=b;⟨q,r⟩
 rwa[kb k ([e]▸True.intro) x B (qZ y E (rk.merge .nil) b)]
structure M1 (X:Cx) (o:Expr) (m:Str) (apos:Pos) (e:Expr) (cG:Pos):Prop where
 base:attributeBase o m X.env (eval o X.env)=eval o X.env
 few:((backTo cG (starEach [e] X.env)).all (λx=>!x.1) && (backToKw cG (keywordEach [] X.env)).all (λx=>x.1.isSome)
  && decide (⇑([e]:Zr)+ ⇑([]:List Keyword)+ (if ([]:List Keyword).isEmpty then 0 else 1)<30))=true
 line:(apos.endLine==cG.line)=true
 trees:backTo cG (starEach [e] X.env)=[(false,eval e X.env)]
structure M2 (X:Cx) (o:Expr) (m:Str) (apos:Pos) (e f:Expr) (cG:Pos):Prop where
 base:attributeBase o m X.env (eval o X.env)=eval o X.env
 few:((backTo cG (starEach [e,f] X.env)).all (λx=>!x.1) && (backToKw cG (keywordEach [] X.env)).all (λx=>x.1.isSome)
  && decide (⇑([e,f]:Zr)+ ⇑([]:List Keyword)+ (if ([]:List Keyword).isEmpty then 0 else 1)<30))=true
 line:(apos.endLine==cG.line)=true
 trees:backTo cG (starEach [e,f] X.env)=[(false,eval e X.env),(false,eval f X.env)]
def DS (H:Hp)(a:Zs):Prop:=(∃b,Rd H a (.dK b))\/∃b,Rd H a (.dT b)
theorem mx (I:Inv X o D H s)(d:DS H a):
 s.TypeIs ↑a "dict"/\(∀b,Value.ref a=↑b->∃c,s.heap.get? b\c/\c.dict=none)/\(a==sysModules)=false:=by
 rcases d with ⟨g,e⟩|⟨g,e⟩
 ·let⟨_,j,l,_,f⟩:=pM I.aO e;rwa[⟨f.typeIs,λb q=>?_,j⟩];ext q;let⟨c,_,_,i,h,_⟩:=f;rwa[c,i,h.2.1]
 ·let⟨_,j,k,_,f⟩:=pN I.aO e;rwa[⟨f.typeIs,λb q=>?_,j⟩];ext q;let⟨c,_,_,i,h,_⟩:=f;rwa[c,i,h.2.1]
section
variable {X:Cx}{pins:List (Zs×Obj)}{σ:St}{H:Hp}{s:Zu}{a:Zs}{y d:V}{u r:Zt}{o:Zc}{A:Around}{E:Zt->Zu->Prop}
theorem Rb (v:A.units+ 1<cLine)(I:Inv X pins σ H s)(g:gq H a y o)(m:RelV y u)(h:∀p n,Inv X pins σ H n->RelV (o.getD .non) p->Q p n):
 X⁻¹ A (call (.builtin "dict.get") [↑a,u]) Q E s:=by
 rcases g with ⟨f,k,e,i,l⟩|⟨f,k,b,e,i,t,l⟩
 ·subst i;let⟨z,j,w,rel,c⟩:=pM I.aO e;rwa[ajl aiz c.typeIs ajs (PySem.F.args_dict_get_2 _ _) (meets_dict_get (bQ X.prog X.w) a (jR m) j) ⟨_,c.mapOf,h _ _ (I.tok _) ?_⟩];rw[l];rwa[(rel.val k).getD rfl]
 ·subst i;cases (show u=Value.ref b from m);let⟨z,j,q,rel,c⟩:=pN I.aO e;rwa[ajl aiz c.typeIs ajs (PySem.F.args_dict_get_2 _ _) (meetsH_dict_get (tupleKind (bQ X.prog X.w)) a b j) ⟨aiW v,k,q,mw I.aO t,c,h _ _ (I.tok _) ?_⟩];rw[l];rwa[(rel.val k).getD rfl]
theorem Rc (v:A.units+ 1<cLine)(I:Inv X pins σ H s)(g:gq H a y o)(m:RelV y u)(rd:RelV d r)(h:∀p n,Inv X pins σ H n->RelV (o.getD d) p->Q p n):
 X⁻¹ A (call (.builtin "dict.get") [↑a,u,r]) Q E s:=by
 rcases g with ⟨f,k,e,i,l⟩|⟨f,k,b,e,i,t,l⟩
 ·subst i;let⟨z,j,w,rel,c⟩:=pM I.aO e;rwa[ajl aiz c.typeIs ajs (PySem.F.args_dict_get_3^_) (meets_dict_get_default (bQ X.prog X.w) a (jR m) j r) ⟨_,c.mapOf,h _ _ (I.tok _) ?_⟩];rw[l];rwa[(rel.val k).getD rd]
 ·subst i;cases (show u=Value.ref b from m);let⟨z,j,q,rel,c⟩:=pN I.aO e;rwa[ajl aiz c.typeIs ajs (PySem.F.args_dict_get_3^_) (meetsH_dict_get_default (tupleKind (bQ X.prog X.w)) a b j r) ⟨aiW v,k,q,mw I.aO t,c,h _ _ (I.tok _) ?_⟩];rw[l];rwa[(rel.val k).getD rd]
end
inductive DT (x:V) (H:Hp) (G:Zs->Prop):Prop
 |mk (a:Zs):x=↑a->DS H a->G a->DT x H G
def Rf (td e:TE):TE:=λ d H Q=>td d H λx b=>DT x b λa=>e d b λy c=>∃o,gq c a y o/\Q (o.getD .non) c
inductive Rg (ty tx:TE) (σ:St) (x:V) (H1:Hp) (Q:VK):Prop
 |mk (a:Zs):x=↑a->DS H1 a->(ty σ H1 λy H2=>tx σ H2 λz H3=>∃o,gq H3 a y o/\Q (o.getD z) H3)->Rg ty tx σ x H1 Q
def Rh (td b tx:TE):TE:=λ a H Q=>td a H λx c=>Rg b tx a x c Q
inductive Ri (a:Zs) (y:V) (H:Hp) (Q:VK):Prop
 |mk (kvs:List (Key×V)) (k:Key) (v:V):H a\.dK kvs->y=kV k->bD kvs k\v->Q v (upd H a (.dK (fj kvs k)))->Ri a y H Q
def Rj (td d:TE):TE:=λ c H Q=>td c H λx b=>DT x b λa=>d c b λy e=>Ri a y e Q
inductive Kf (a:Zs) (y z:V) (H:Hp) (Q:VK):Prop
 |mk (kvs:List (Key×V)) (k:Key):H a\.dK kvs->y=kV k->(∀v,bD kvs k\v->Q v (upd H a (.dK (fj kvs k))))->(bD kvs k=none->Q z H)->Kf a y z H Q
def Rk (td d tx:TE):TE:=λ b H Q=>td b H λx c=>DT x c λa=>d b c λy f=>tx b f λz e=>Kf a y z e Q
section
variable {X:Cx}{o e f:Expr}{apos cG:Pos}{td ty tx:TE}
def Kg (z:X.A.units+ 1<cLine)(r:PE X o td)(v:PE X e ty)(m:M1 X o "get" apos e cG):PE X (.Call (.Attribute o "get" apos) [e] [] cG) (Rf td ty):=by
 intro b s j H Q I h;rwa[ajb m.base m.few m.line ah7 aiz PySem.F.type_dict_get (a9 (r b s j H _ I h) λu l ζ=>?_)];let⟨x,n,i,w,a,ex,d,D⟩:=ζ;subst ex;obtain rfl:u=Value.ref a:=w;let⟨q,A,_⟩:=mx i d;erw[q,A];rw[m.trees];rwa[ahT rfl (aiq (ahL (a9 (v b l j n _ i D) λE L ζ=>?_)))];let⟨y,B,t,p,J,g,k⟩:=ζ;rwa[aij ?_];rwa[Rb z t g p λG F C c=>⟨_,B,C,c,k⟩]
def my (F:X.A.units+ 1<cLine)(w:PE X o td)(C:PE X e ty)(v:PE X f tx)(m:M2 X o "get" apos e f cG):PE X (.Call (.Attribute o "get" apos) [e,f] [] cG) (Rh td ty tx):=by
 intro b s i H Q I h;rwa[ajb m.base m.few m.line ah7 aiz PySem.F.type_dict_get (a9 (w b s i H _ I h) λu l ζ=>?_)];let⟨x,n,j,D,a,ex,d,N⟩:=ζ;subst ex;obtain rfl:u=Value.ref a:=D;let⟨t,G,_⟩:=mx j d;erw[t,G];rw[m.trees]
 refine ahT rfl (aiq (ahL (a9 (C b l i n _ j N) λO L ⟨y,J,A,r,k⟩=>
  ahL (a9 (v b L i J _ A k) λT P ⟨z,B,M,p,U,g,E⟩=>aij ?_))))
 rwa[Rc F M g r p λS R q c=>⟨_,B,q,c,E⟩]
def Kh (t:PE X o td)(A:PE X e ty)(m:M1 X o "pop" apos e cG):PE X (.Call (.Attribute o "pop" apos) [e] [] cG) (Rj td ty):=by
 intro b s i H Q I h;rwa[ajb m.base m.few m.line ah7 ajz PySem.F.type_dict_pop (a9 (t b s i H _ I h) λu n ζ=>?_)];let⟨x,p,g,D,a,ex,d,G⟩:=ζ;subst ex;obtain rfl:u=Value.ref a:=D;let⟨r,E,_⟩:=mx g d;erw[r,E];rw[m.trees];rwa[ahT rfl (aiq (ahL (a9 (A b n i p _ g G) λJ O ζ=>?_)))];let⟨y,N,z,q,w,k,v,C,B,l,j⟩:=ζ;rwa[aij ?_];subst B;rwa[Mt z C q l (.inl rfl) λM L F c=>⟨v,_,F,c,j⟩]
def uC (G:PE X o td)(M:PE X e ty)(F:PE X f tx)(m:M2 X o "pop" apos e f cG):PE X (.Call (.Attribute o "pop" apos) [e,f] [] cG) (Rk td ty tx):=by
 intro b s j H Q I h;rwa[ajb m.base m.few m.line ah7 ajz PySem.F.type_dict_pop (a9 (G b s j H _ I h) λu w ζ=>?_)];let⟨x,A,p,O,a,ex,d,V⟩:=ζ;subst ex;obtain rfl:u=Value.ref a:=O;let⟨E,S,_⟩:=mx p d;erw[E,S];rw[m.trees]
 refine ahT rfl (aiq (ahL (a9 (M b w j A _ p V) λW U ⟨y,T,J,n,t⟩=>
  ahL (a9 (F b U j T _ J t) λR Y ⟨z,L,r,B,g,k,q,N,P,C⟩=>aij ?_))))
 subst N
 cases l:bD g k with
 |some v=>exact Mt r q n l (.inr ⟨R,2⟩) λZ D c i=>⟨v,_,c,i,P v l⟩
 |none=>exact Q0 r q n l λD c=>⟨z,L,c,B,C l⟩
end
section
variable {X:Cx}{pins:List (Zs×Obj)}{σ:St}{H:Hp}{s:Zu}{h':Heap}
theorem Inv.uD {fp:Zn}{o:HO}{t':Nat}(I:Inv X pins σ H s)(k:∀b u,b∉fp->s.heap.get? b\u->h'.get? b\u)(f:∀b∈fp,pE X pins H b)
 (h:↥s<=a) (new:bV X.prog X.w (upd H a o) h' a o):Inv X pins σ (upd H a o) { s with heap:=h',toks:=t' }:=by
 let g:=I.aO.fresh h;let i:∀b u,H b\u->b∉fp:=λb u e z=>by rw[(f b z).1]at e;ext e
 refine I.step (g':=s.gens) (d':=s.drawn) (ch:=fp) (λb d=>⟨(f b d).2.2.2.1,(f b d).2.1,(f b d).2.2.2.2.1,(f b d).2.2.2.2.2⟩) (λb o _ _ hc e _=>k b o hc e) (λb o _ _ hc e _=>⟨o.slots,k b o hc e⟩)
  (λb o _ e n=>[ak (ahk (ahh (ag8 e) h))]▸n) (λb o hc e=>⟨o,k b o hc e⟩) (λb j e=>[ak (ax e g)]▸e)
  (λb o u e=>[ak (ax e g)]▸e) (λb A e=>⟨#[],by rw[ak (ax e g),e];simp⟩) (λm l=>?_) (λb u e=>?_) I.bare
 ·let⟨o,w,t,p,r⟩:=l;rwa[o,w,t,k _ o (λz=>(f _ z).2.1 rfl) p,r]
 ·by_cases d:b=a
  ·subst d;rw[ah]at e;ext e;rwa[new]
  ·rw[ak d]at e;refine(I.aO b u e).fy (λc v hc q=>k c v ?_ q) (λc q=>[ak (ax q g)]▸q) λc j q=>by rw[ak (ax q g)];rwa[q]
   rcases hc with z|z
   ·rw[z];rwa[i b u e]
   ·rwa[i c _ z]
def Inv.xJ {fp:Zn}{t':Nat}(I:Inv X pins σ H s)(k:∀b u,b∉fp->s.heap.get? b\u->h'.get? b\u)(a:∀b∈fp,pE X pins H b):Inv X pins σ H { s with heap:=h',toks:=t' }:=by
 let f:∀b u,H b\u->b∉fp:=λb u e z=>by rw[(a b z).1]at e;ext e
 refine I.step (g':=s.gens) (d':=s.drawn) (ch:=fp) (λb d=>⟨(a b d).2.2.2.1,(a b d).2.1,(a b d).2.2.2.2.1,(a b d).2.2.2.2.2⟩) (λb o _ _ hc e _=>k b o hc e) (λb o _ _ hc e _=>⟨o.slots,k b o hc e⟩)
  (λb o _ e n=>n) (λb o hc e=>⟨o,k b o hc e⟩) (λb g e=>e) (λb o u e=>e) (λb w e=>⟨#[],by rw[e];simp⟩) (λm h=>?_) (λb u e=>?_) I.bare
 ·let⟨o,l,j,i,r⟩:=h;rwa[o,l,j,k _ o (λz=>(a _ z).2.1 rfl) i,r]
 ·rwa[(I.aO b u e).fy (λc v hc q=>k c v ?_ q) (λc q=>q) λc g q=>q]
  rcases hc with z|z
  ·rw[z];rwa[f b u e]
  ·rwa[f c _ z]
end
namespace En
section
variable {prog:Program}{w:World}{A:Around}{E:Zt->Zu->Prop}{s:Zu}
theorem yD {it:Zs}{fp:Zn}{P:Nat->Zt->Prop}{St:Nat->Heap->Prop}{old:Zt}{Q:Zl->Zu->Prop}(D:Draws prog w A.in1 it fp n P St)
 (he:IsEnum s.heap a it z old) (hst:St i s.heap) (lG:i<n) (lH:a≠it) (Wk:a∉fp)
 (hQ:∀x h' H,P i x->IsEnumOut h' a it (z+ 1) x ↥s->St (i+ 1) h'->h'.get? ↥s\("tuple">>>.seq #[.int z H,x])->
  (∀b o,b≠a->b≠it->s.heap.get? b\o->h'.get? b\o)->Q (some ↑↥s) { s with heap:=h',toks:=H+ 1 }):
 (prog<|>w) A (pyNext ↑a) Q E s:=by
 let hT:s.TypeIs ↑a "enumerate":=⟨_,he,2⟩;unfold pyNext;rwa[agI (wpAny_attempt (ahQ (name:=Str.ofString "__next__") hT ajA (ahU ajA hT F.entry_enumerate_next ?_ (F.args_enumerate_next_1 _))))];let⟨T,g,d,afe,os⟩:=s;show wpAny _ _ (field ↑a 2 >>=_) _ _ _;rwa[agI (ahR he rfl (x:=↑it) rfl (agI (D.item i _ _ _ lG hst λx j H hPx M h=>?_)))];replace h:Heap.SameBut it T j:=h;let B:IsEnum j a it z old:=(h.2 a lH).trans he;show wpAny _ _ (field ↑a 3 >>=_) _ _ ⟨j,g,d,H,os⟩;rwa[agI (ahR B rfl (x:=rawInt z) rfl ?_)];show wpAny _ _ (field ↑a 4 >>=_) _ _ ⟨j,g,d,H,os⟩;rwa[agI (ahR B rfl (x:=.none) rfl ?_)];show wpAny _ _ (mkInt z >>=_) _ _ ⟨j,g,d,H,os⟩;rwa[agI (wpAny_mkInt ?_)];show wpAny _ _ (setField ↑a 3 (rawInt (z+ 1)) >>=_) _ _ ⟨j,g,d,H+ 1,os⟩;rwa[agI (ah4 B (by simp) λG r f=>?_)];replace f:Heap.SameBut a j G:=f;replace r:IsEnum G a it (z+ 1) old:=r;show wpAny _ _ (setField ↑a 4 .none >>=_) _ _ ⟨G,g,d,H+ 1,os⟩;rwa[agI (ah4 r (by simp) λp v e=>?_)];replace e:Heap.SameBut a G p:=e;replace v:IsEnum p a it (z+ 1) old:=v;show wpAny _ _ (newTuple [.int z H,x] >>=_) _ _ ⟨p,g,d,H+ 1,os⟩;rwa[agI (wpAny_newTuple ?_)];let u:IsEnum (p.push ("tuple">>>.seq #[.int z H,x])) a it (z+ 1) old:=agL _ v;generalize t:p.push ("tuple">>>.seq #[.int z H,x])=C at u;let Z:p.objs.size=T.objs.size:=by rw[e.1,f.1,h.1]
 let X:a<T.objs.size:=ag8 he;let W:C.get? T.objs.size\("tuple">>>.seq #[.int z H,x]):=by rw[<-t,<-Z];rwa[agZ _ rfl]
 let Y:∀b o,b≠a->b≠it->T.get? b\o->C.get? b\o:=λb o c U V=>by
  rw[<-t];rwa[agL _ (e.extBut b o c (f.extBut b o c (h.extBut b o U V)))]
 let S:St (i+ 1) C:=D.frame _ _ _ M λb V o y=>by
  let c:b≠a:=λq=>Wk (q ▸ V)
  rw[<-t];rwa[agL _ (e.extBut b o c (f.extBut b o c y))]
 show wpAny _ _ (Builtin.SmallTypes.ownedTupleIsFree ↑a >>=_) _ _ ⟨C,g,d,H+ 1,os⟩;rw[Z];clear t v e r f B h M Z p G j;rwa[agI ?_];unfold Builtin.SmallTypes.ownedTupleIsFree;rwa[agI (ahR u rfl (x:=.none) rfl (agP ?_))];simp only[akp];rwa[agI (akf (agI (ahR u rfl (x:=old) rfl (agI (ah4 u (by simp) λN I l=>?_)))))];replace l:Heap.SameBut a C N:=l;replace I:IsEnum N a it (z+ 1) x:=I;show wpAny _ _ (Builtin.SmallTypes.ownedTupleHandOut ↑a ↑T.objs.size >>=_) _ _ ⟨N,g,d,H+ 1,os⟩;rwa[agI ?_];unfold Builtin.SmallTypes.ownedTupleHandOut;rwa[agI (ah4 I (by simp) λR J k=>?_)];replace k:Heap.SameBut a N R:=k;replace J:IsEnumOut R a it (z+ 1) x T.objs.size:=J;rwa[ah4 J (by simp) λO L m=>?_]
 replace m:Heap.SameBut a R O:=m;replace L:IsEnumOut O a it (z+ 1) x T.objs.size:=L;rwa[agI (akg (agP ⟨12,agP (hQ x O H hPx L ?_ ?_ ?_)⟩))]
 ·exact D.frame _ _ _ S λb V o y=>by
   let c:b≠a:=λq=>Wk (q ▸ V)
   rwa[m.extBut b o c (k.extBut b o c (l.extBut b o c y))]
 ·rwa[m.extBut _ _ (ah0 X) (k.extBut _ _ (ah0 X) (l.extBut _ _ (ah0 X) W))]
 ·rwa[λb o c U V=>m.extBut b o c (k.extBut b o c (l.extBut b o c (Y b o c U V)))]
theorem Ou {T newId:String}{self a:Zt}{kw:List (Str×Zt)}(e:typeLookup (.type T) "__init__"=pure (some (.builtin "object.__init__")))(g:Bind.madeBy (.type T)=pure (some newId))(c:(some newId !=some "object.__new__")=true):
 Meets (Builtin.«object.__init__» ⟨[self,a],kw⟩) (λ_ R s=>s.TypeIs self T/\R (.ok (.ret .none)) s):=by
 rwa[Meets.of_wp λprog w A R s d=>?_]
 let⟨f,b⟩:=d
 repeat (any_goals (first|assumption|wp_step))
 rwa[12,b]
def Vn (a b:Zt):checkTypeCall "enumerate" ⟨[a],[("start",b)]⟩=pure ():=by kernel_rfl
def Vo (a b:Zt):checkBuiltinCall "enumerate.__new__" ⟨[.type "enumerate",a],[("start",b)]⟩=pure ():=by kernel_rfl
theorem Vp (a b c:Zt):argsOk "object.__init__" ⟨[a,b],[("start",c)]⟩:=by
 unfold argsOk;rw[signature?_of (id:="object.__init__") (n:=['_','_','t','i','n','i','_','_']) (o:=['t','c','e','j','b','o']) (by kernel_rfl) F.owner_object]
 kernel_rfl
end
end En
inductive Vq (t:TT) (σ:St) (H:Hp) (Q:(Bool->Hp->Prop)):Prop
 |mk (G:Bool->Hp->Prop):t σ H G->(∀c H',G c H'->Q c H')->Vq t σ H Q
def CXw (P:Program)(w:World):lF:=λa H s E e c=>∃(x C:Zs) (B:Heap) (d:Hp) (f:Zt),e=↑x/\c.os=s.os/\AllBare c.gens/\Heap.FlyingW B a x ↑C f c.heap/\
 Un (cH a) [] H d s.heap c.heap/\dH P w d B/\(∀b o,s.heap.get? b\o->H b=none->b∉cH a->B.get? b\o)/\(∀b o,s.heap.get? b\o->b∉cH a->∃g,B.get? b\g)/\E ↑C none d
section
variable {X:Cx}{pos:Pos}
abbrev TJ:=St->Hp->Zh->VK->Prop
def PJ (X:Cx)(c:Zr)(t:TJ):Prop:=
 ∀(a:List (Zs×Obj)) (s:Zu) (b:St) (H:Hp) (acc:Zh) (Q:VK),Inv X a b H s->t b H acc Q->X⁻¹ X.A (joinParts (tx acc) (evalEach c X.env)) (EP X a b Q) X.xe s
def Rl:PJ X [] (λ b H acc Q=>⇑acc<=1000000/\Q (.str (tx acc)) H):=λa s b H acc Q I h=>
 joinParts_nil ⟨.str (tx acc),H,I.tok _,⟨12⟩,h.2⟩ ([G8]▸ag3 h.1 ⋯)
def DU {d:TE}{t:TJ}(k:PE X e d)(j:PJ X C t)(i:evalEach (e::C) X.env=eval e X.env::evalEach C X.env:=by rfl):
 PJ X (e::C) (λ b H acc Q=>d b H λv c=>∃l,v=.str (tx l)/\⇑acc+ ⇑l<=1000000/\t b c (acc++l) Q):=by
 intro a s b H acc Q I h;rw[i];rwa[joinParts_cons (a9 (k a s b H _ I h) λv f ζ=>?_)];let⟨x,c,g,r,l,m,n,q⟩:=ζ;subst m;let⟨o,rfl⟩:=r;erw[5]
 ·rw[G9,G8,agN];rwa[ag3 n ⋯]
 ·rw[G9];rwa[j a f b c (acc++l) Q g q]
def Hg {b:Expr}{t:TJ}(h:PJ X (e::b::C) t)(d:evalEach (e::b::C) X.env=eval e X.env::eval b X.env::evalEach C X.env:=by rfl):PE X (.JoinedStr (e::b::C) pos) (λ c H Q=>t c H [] Q):=by
 intro a s c H Q I q;rwa[JoinedStr_many ?_];have:=h a s c H [] Q I q;rw[d]at this;rwa[this]
def Ov {d:TE}(g:PE X e d):PE X (.FormattedValue e (-1) none pos) (λ c H Q=>d c H λv b=>∃n:Int,v=.int n/\n.natAbs<10000000000/\Q (.str (tx (Ao n))) b):=by
 intro a s c H Q I h;rwa[FormattedValue_plain (a9 (g a s c H _ I h) λv k ζ=>?_)];let⟨x,b,f,r,n,i,j,q⟩:=ζ;subst i;let⟨l,rfl⟩:=r;rwa[formatField_int_small (Hc j) ?_];rwa[.str (tx (Ao n)),b,f.tok _,⟨_,by rw[Vi (toString n:Str)];rfl⟩,q]
abbrev Av:Zk:=[.type "ValueError",.type "Exception",.type "BaseException",.type "object"]
end
def bV.get {o:HO}(x:bV P w H h a o):∃u,h.get? a\u:=by
 cases o with
 |lst c=>let⟨_,_,_,_,e⟩:=x;rwa[_,e]
 |tup c=>let⟨_,_,_,d,e,_⟩:=x;rwa[_,e]
 |dK b=>let⟨_,_,_,_,o,_,_,e,_⟩:=x;rwa[_,e]
 |dT b=>let⟨_,_,_,_,o,_,_,e,_⟩:=x;rwa[_,e]
 |set S n=>let⟨o,_,_,_,e,_⟩:=x;rwa[_,e]
 |ins C dx fs=>let⟨_,_,_,e,_⟩:=x;rwa[_,e]
 |own y=>exact x
 |xd fs=>let⟨_,⟨_,_,_,e,_⟩,_⟩:=x;rwa[_,e]
 |eU lo j=>let⟨_,_,_,e⟩:=x;rwa[_,e]
 |cR d u=>let⟨e,_⟩:=x;rwa[_,e]
 |fE i=>rwa[_,show h.get? a=some _ from x]
 |met f y=>rwa[_,show h.get? a=some _ from x]
 |ext g=>let⟨_,e,_⟩:=x;rwa[e]
def Fq (x C:Zs)(h:Heap):Prop:=∃a b,h.get? x\a/\a.cls=↑C/\a.data=.fields b
noncomputable def ExO (x C:Zs):HO:=.ext (Fq x C)
def Thr (X:Cx)(a:List (Zs×Obj))(g:St)(d:Hp)(x C:Zs)(s:Zu):Prop:=
 ∃(B:Heap) (c:Hp) (s1:Zu) (e:Zt),Inv X a g c s1/\s.os=s1.os/\AllBare s.gens/\Heap.FlyingW B X.stack x ↑C e s.heap/\Un (cH X.stack) [] c d s1.heap s.heap/\dH X.prog X.w d B/\
  (∀b o,s1.heap.get? b\o->c b=none->b∉cH X.stack->B.get? b\o)/\(∀b o,s1.heap.get? b\o->b∉cH X.stack->∃f,B.get? b\f)
section
variable {X:Cx}{pins:List (Zs×Obj)}{σ:St}{x:Zs}{s:Zu}
def Inv.Mv {s1:Zu}(I:Inv X pins σ H s1){b:Zs}(a:b∈cH X.stack):∃o,s1.heap.get? b\o/\∀c,o.data≠.fields c:=by
 let⟨_,o,e,n⟩:=I.stack.mem a;rwa[o,e,n]
abbrev Cx.yE (X:Cx) (x:Zs):Cx:={ X with A:=X.A.mark (some ↑x),calm:=false,xe:=λ_ _=>False }
def Inv.yE (I:Inv X pins σ H s)(x:Zs):Inv (X.yE x) pins σ H s:=
 ⟨⟨I.ok.mod,I.ok.kind,I.ok.glob,I.ok.blt,I.ok.above,I.ok.inj,I.ok.has,I.ok.zW,(λz=>by ext z),I.ok.frames,I.ok.Dz,I.ok.L6,I.ok.bs,I.ok.qS,I.ok.uv,I.ok.xm,I.ok.jh,I.ok.tT⟩,I.os,I.bare,I.base,I.loc,I.cell,I.free,I.gO,I.pin,I.aO,I.len⟩
def Inv.zP (ok:X.Ok)(I:Inv (X.yE x) pins σ H s):Inv X pins σ H s:=⟨ok,I.os,I.bare,I.base,I.loc,I.cell,I.free,I.gO,I.pin,I.aO,I.len⟩
theorem sU {M:Model}(I:Inv X pins σ H s)(T:X.N.Nodup)(G:X.N[i]?\f)(l:X.env.scope.names.lookup f=some .local)
 (h:∀J,Inv X pins (σ.set i none) H J->U () J):wpAny M A (do bindName X.env f .none;unbindBehindTheSuite X.env f p) U E s:=by
 let⟨m,R,Y⟩:=id I.loc;let t:(X.env.scope.kind==.class || (X.env.scope.kind==.module && X.env.locals !=X.env.globals))=false:=by rw[I.ok.kind];rfl
 let u:i < ⇑σ:=by rw[I.len];rwa[(agM.mp G).1]
 rwa[wpAny_nameGoes_keeps l R t λh' v F g=>?_]
 let n:∀b o,X.eB.heap.get? b\o->b≠X.env.locals:=λb o e=>ahk (ahh (ag8 e) I.ok.above)
 rwa[h _ ⟨I.ok,I.os,I.bare,⟨λb o e k B l=>(g.2 b (n b o e)).trans (I.base.keep b o e k B l),λb o e k B l=>?_,I.base.free,λb o e l=>?_,I.base.iq,I.base.gN,I.base.iu⟩,⟨_,F,λj y P r w O=>?_⟩,λy c e=>?_,I.free,I.gO,λa Q=>?_,λb Z e=>?_,by simpa using I.len⟩]
 ·let⟨S,r⟩:=I.base.slot b o e k B l;rwa[S,(g.2 b (n b o e)).trans r]
 ·let⟨N,r⟩:=I.base.there b o e l;rwa[N,(g.2 b (n b o e)).trans r]
 ·by_cases D:j=i
  ·subst D;rw[ahH u]at w;ext w
  ·rw[ah8 (ah5 D)]at w;let⟨V,W,q⟩:=Y j y P r w O;erw[V,W];rcases q with ⟨k,e⟩|⟨k,c,e,z⟩
   ·rwa[.inl ⟨k,?_⟩];have:y≠f:=λe=>D (uw T r (e ▸ G))
    simp[this,e]
   ·rwa[.inr ⟨k,c,e,z.sameBut g (I.lE y c e)⟩]
 ·let⟨L,z⟩:=I.cell y c e;rwa[L,z.sameBut g (I.lE y c e)]
 ·let⟨e,k,ne,nf,d⟩:=I.pin a Q;rwa[(g.2 a.1 ne).trans e,k,ne,nf,d]
 ·rwa[(I.aO b Z e).fy (λc L hc q=>(g.2 c ?_).trans q) (λ_ q=>q) λ_ _ q=>q]
  rintro rfl;rcases hc with rfl|hc
  ·rw[I.free]at e;ext e
  ·rw[I.free]at hc;ext hc
end
abbrev XR:=Zs->St->Hp->Prop
def XP (X:Cx)(a:List (Zs×Obj))(R:XR)(e:Zt)(s:Zu):Prop:=∃x C b H,e=↑x/\Thr X a b H x C s/\R C b H
abbrev TH:=Ends->Zs->St->Hp->Prop
def Fq.Vr {M:Model}{x:Zs}(p:Fq x a h):PySem.W.Looks M h (typeOf ↑x) ↑a:=by
 let⟨o,_,c,b,_⟩:=p;rwa[b ▸ (PySem.W.Looks.ld c).andThen .now]
end L2
namespace L2
open PySem PySem.Spec PyProof.Rows PySem.Calls PySem.W Builtin Builtin.ObjectAttr Builtin.Getset_descriptor
structure afp (K:Za1) (C:Zs):Prop where
 ga:findIn K ↑C "__getattribute__"=some (some (.builtin "BaseException.__getattribute__"))
 gt:findIn K ↑C "__getattr__"=some none
 cl:isClsIn K C=true
 at_:findIn K ↑C "__class__"=some (some (.builtin "object.__class__"))
 gs:specialIn K (.builtin "object.__class__") "__get__"=some (some (.builtin "getset_descriptor.__get__"))
 tk:takesIn K (.builtin "object.__class__")\true
 mo:mroIn K C (.type "object")\true
 be:subIn K ↑C (.type "BaseException")\true
end L2
namespace L2
open PySem PySem.Spec PyProof.Rows
section
variable {P:Program}{w:World}{K:Za1}{mg:Str->Zl}{base:Heap}
theorem qW.okN {h:lF}{qual:Str}{st:Stmt}{fd:FuncData}{f:Zp}{k:Nat}{sp:Sp}(F:qW K x qual st a fd)(S:aS Z f (aB st))(len:∀d H Q E,sp d H Q E->⇑d=⇑f)
 (c:∀(b:Zt) (A:Around) (outer:Zq) (s:Zu) (H:Hp) (d:Zb) (Q:VK) (E:XK),cy k (A.deeper (envOfC qual (aB st) ↥s a b))->sp d H Q E->
  ∃t,iS (cz h P w K mg base Z qual (aB st) a b A outer s H E).tU (cE st) t/\t { nx:=λ_ l=>Q .non l,rt:=Q } (start Z d) H):du P w K mg base h (k+ 1) a fd f sp:=by
 let⟨o,p,kV,doc,pm,q,b,ct,n,rfl,lk,g⟩:=F.ex;rwa[zO lk g S len λA outer s H d Q E j e=>?_]
 let⟨t,m,i⟩:=c b A outer s H d Q E j e;rwa[t,m.tU,i]
end
section
variable {prog:Program}{w:World}{A:Around}{R:Result->Zu->Prop}{s:Zu}
theorem zi {elt target iter:Expr}{scope:Scope}{it acc:Zt}{env:Env}(I:Nat->Zu->Prop)
 (turn:∀n s,I n s->(prog<|>w) A (pyNext it) (λr d=>match r with
  |none=>R (.ok .next) d
  |some v=>(prog<|>w) A (letOwnedTupleGo target it v) (λ_ f=>(prog<|>w) A (assign target env v) (λ_ j=>(prog<|>w) A (isTrue e env (eval e env)) (λb a=>
   match b with
   |true=>(prog<|>w) A (eval elt env) (λx i=>(prog<|>w) A (call (.builtin "list.append") [acc,x]) (λ_ k=>∃m,m<n/\I m k) (λ_ _=>False) i) (λ_ _=>False) a
   |false=>∃m,m<n/\I m a) (λ_ _=>False) j) (λ_ _=>False) f) (λ_ _=>False) d) (λ_ _=>False) s)
 (n:Nat) (h:I n s):codeAny (model prog w) A (.compLoop (.ListComp elt [⟨target,iter,[e],(0)⟩] scope p) 0 it acc env) R s:=by
 rwa[codeAny_loop rfl I (λn s y=>?_) n h];rwa[wpAny_noted ?_];rwa[agI (ajF (agI (ahN (turn n s y) (λr d l=>?_) λ_ _ c=>c.elim)))]
 cases r with
 |none=>exact agP l
 |some v=>
  rwa[agI (ahN l (λ_ f q=>?_) λ_ _ c=>c.elim)];rwa[agI (ahN q (λ_ j t=>agI (wpAny_tests_one (ahN t (λok i g=>?_) λ_ _ c=>c.elim))) λ_ _ c=>c.elim)]
  cases ok with
  |false=>exact agP ⟨2,g⟩
  |true=>
   rwa[agI (agI (ahN g (λx k o=>agI (ahN o (λ_ a u=>agP (agP ⟨2,u⟩)) λ_ _ c=>c.elim)) λ_ _ c=>c.elim))]
end
def Ki (g:TT)(k:TE)(e:St)(Q:VK)(J:It)(h:Hp):Prop:=∃W:Nat->Nat->Zb->Hp->Prop,(∃m,W 0 m [] h)/\∀i m ys a,W i m ys a->
 (J.stop i a/\⇑ys<=sizeLine/\∀D,a D=none->Q ↑D (upd a D (.lst ys)))\/
 (J.go i a/\⇑ys<sizeLine/\∀x d,J.mj i a x d->g (some x::e) d λb f=>match b with
  |true=>k (some x::e) f λy j=>∃c,c<m/\W (i+ 1) c (ys++[y]) j
  |false=>∃c,c<m/\W (i+ 1) c ys f)
def oB (b:TI)(d:St->St)(c:TT)(e:TE):TE:=λ a H Q=>b a H (Ki c e (d a) Q)
end L2
namespace L2
open PySem PySem.Spec PyProof.Rows
def Kj {x:Int}(b:0<=x)(a:x<=100000):¬(!Builtin.List.listFitsIndex x)=true:=by
 have:Builtin.List.listFitsIndex x=true:=by
  unfold Builtin.List.listFitsIndex;simp;ext
 cbv
noncomputable def Rm (x:Int)(a:Zt):Zm->Zm:=λxs=>have k:=if x<0 then (x+ ((xs.size:Nat):Int)).toNat else min x.toNat xs.size;(xs.extract 0 k).push a++xs.extract k
theorem Hh (l:Zs)(a:Zk)(n:Nat)(x:Int)(t:Tok)(c:Zt)(d:0<=x)(e:x<=100000)(b:a.toArray.size<=sizeLine):
 Meets (Builtin.«list.insert» ⟨[↑l,.int x t,c],[]⟩) (λ_ R s=>s.heap.get? l\{ cls:=.type "list",dict:=none,data:=.seq a.toArray n,slots:=#[] }/\R (.ok (.ret Value.none)) { s with heap:=s.heap.update l (Obj.mapSeq (Rm x c)),toks:=s.toks }):=
 PySem.AutoListH.list_insert_list_int_val_1 l a.toArray n x t c (Kj d e) b
def Ow {w':Zt}(b:i<=⇑N):Rm (i:Int) w' N.toArray=(N.take i++[w']++N.drop i).toArray:=by
 let a:(if (i:Int)<0 then ((i:Int)+ ((N.toArray.size:Nat):Int)).toNat else min (i:Int).toNat N.toArray.size)=i:=by
  rw[ahc ∅,ag6,ahn];ext
 show (N.toArray.extract 0 (if (i:Int)<0 then ((i:Int)+ ((N.toArray.size:Nat):Int)).toNat else min (i:Int).toNat N.toArray.size)).push w'++N.toArray.extract (if (i:Int)<0 then ((i:Int)+ ((N.toArray.size:Nat):Int)).toNat else min (i:Int).toNat N.toArray.size)=_
 cbv
section
variable {X:Cx}
inductive DV (x:V) (vs:Zb) (H:Hp) (Q:VK):Prop
 |mk (l:Zs) (xs:Zb) (i:Nat) (y:V):x=↑l->vs=[.int i,y]->H l\.lst xs->⇑xs<sizeLine->i<=⇑xs->i<=100000->Q .non (upd H l (.lst (xs.take i++[y]++xs.drop i)))->DV x vs H Q
theorem xK:DM X "list.insert" DV:=by
 intro g s N H x L v D Q I w p h;let⟨l,xs,i,y,rfl,rfl,f,o,C,B,q⟩:=h;ext w;let⟨u,b,rfl,⟨t,rfl⟩,k⟩:=vals2 p;let⟨z,a,n,r,E,e⟩:=I.pJ f;let rl:=⇑r
 let c:a.toArray.size<=sizeLine:=by
  rw[ag6,<-rl];rwa[ajR o]
 let A:Vals (xs.take i++[y]++xs.drop i) (a.take i++[b]++a.drop i):=((r.take i).append (.cons k .nil)).append (r.drop i)
 let hlen:⇑(xs.take i++[y]++xs.drop i)<=sizeLine:=by
  simp only[agN,ahr,ahP,ahi,aio];ext
 let J:=I.Ag (t':=s.toks) f e (Ow (w':=b) (show i<=⇑a by omega)) A hlen;let d:(0:Int)<=(i:Int):=Int.natCast_nonneg i;let j:(i:Int)<=100000:=∅
 generalize (i:Int)=m at d j J ⊢;let M:=Hh l a n m t b d j c;rwa[ajX F.slot_list_insert ⟨_,e,2⟩ F.entry_list_insert (F.args_list_insert_3^_) M ⟨e,5⟩];rwa[.non,_,J,2,q]
end
end L2
namespace L2
open PySem PySem.Spec PyProof.Rows
def mz (h:n∈B):∃i:Nat,B[i]?\n/\∀j,j<i->B[j]?≠some n:=by
 induction B with
 |nil=>ext h
 |cons a B f=>
  by_cases e:a=n
  ·rwa[(0),by rw[e];rfl,λj c=>∅]
  ·let⟨i,d,b⟩:=f ((ag4.mp h).resolve_left (ah5 e));rwa[⟨i+ 1,d,λj c=>?_⟩]
   cases j with
   |zero=>exact λz=>e (Za0 z)
   |succ j=>exact b j ∅
inductive Vs (x:V) (y:V) (H:Hp) (Q:VK):Prop
 |mk (a b:Zs) (ns ms:Zg):x=↑a->y=↑b->H a\.lst (ao ns)->H b\.lst (ao ms)->Q (.bl (decide (ns=ms))) H->Vs x y H Q
noncomputable def eU (lo:Int)(n:Nat):Zg:=(List.range n).map λi:Nat=>lo+ (i:Int)
def oC (lo:Int)(n:Nat):⇑(eU lo n)=n:=by unfold eU;cbv
def Rn {lo:Int}(h:i<n):(eU lo n)[i]?\(lo+ (i:Int)):=by
 unfold eU;rw[ag0,aiP h];rfl
theorem Aw:∀(zs:Zg) (us:Zk),⇑us=⇑zs->(∀(i:Nat) (z:Int) (u:Zt),zs[i]?\z->us[i]?\u->∃t,u=.int z t)->Vals (ao zs) us
 |[],[],_,_=>.nil
 |z::zs,u::us,a,h=>.cons (h 0 z u rfl rfl) (Aw zs us (by simpa using a) λi z u c b=>h (i+ 1) z u c b)
 |[],_::_,a,_=>by simp at a
 |_::_,[],a,_=>by simp at a
def Ft {lo:Int}{acc:Zm}(h:ItemsOf (λi v=>∃t,v=Value.int (lo + (i:Int)* 1) t) acc n):Vals (ao (eU lo n)) acc.toList:=by
 rwa[Aw _ _ ?_ λi z u a c=>?_]
 ·rw[oC,aiu];rwa[h.1]
 ·let b:i<n:=by
   have:=(agM.mp a).1;rw[oC]at this;rwa[this]
  rw[Rn b]at a;let⟨t,e⟩:=h.2 i u (by cbv)
  cbv
section
variable {X:Cx}{a:Expr}{ta:TA}{p p2 pos Ax:Pos}
def YV (ta:TA):TE:=λ e H Q=>ta e H λd c=>∃j:Nat,d=[.int j]/\j<=10000/\∀l,c l=none->Q ↑l (upd c l (.lst (ao (eU 0 j))))
theorem list_range {Q:VK}{lo:Int}{t u v:Tok}(j:X.calm=true)(I:Inv X o D H s)(x:0<=lo)(r:lo<=10000)(B:0<=z)(m:z<=10000)
 (q:∀l,H l=none->Q ↑l (upd H l (.lst (ao (eU lo (z - lo).toNat))))):X⁻¹ X.A (call (.type "list") [↑↥s]) (EP X o D Q) X.xe { s with heap:=s.heap.push ("range">>>.fields #[.int lo t,.int z u,.int 1 v]),toks:=n }:=by
 let i:Inv X o D H { s with heap:=s.heap.push ("range">>>.fields #[.int lo t,.int z u,.int 1 v]),toks:=n }:=I.kept λb c e=>agL _ e
 let h:Builtin.Range.rangeSize lo z 1=(((z - lo).toNat:Nat):Int):=by rw[rangeSize_one];split <;> ext
 rwa[call_list_range (n:=(z - lo).toNat) (I.ok.hd j) (IsRange.new ..) (small_one ∅ ∅ ∅ ∅) h ∅ λw g f k kp y hit=>?_]
 rwa[⟨↑_,_,i.laid (t':=g) (o:=.lst (ao (eU lo (z - lo).toNat))) kp (agQ _) ⟨5,f.toList,k,Ft hit,5⟩,2,q _ (i.aO.fresh (agQ _))⟩]
 ·rw[aM,oC];rwa[ag3 (show (z - lo).toNat<=10000 by omega) ⋯]
 ext
theorem qu (m:X.calm=true)(g:Gl X "list")(f:X.mg "list"=none)(v:Gl X "range")(k:X.mg "range"=none)(i:PA X [a] ta)(n:starEach [a] X.env=[(false,eval a X.env)]:=by rfl)
 (c:starEach [.Call (.Name "range" p) [a] [] pos] X.env=[(false,eval (.Call (.Name "range" p) [a] [] pos) X.env)]:=by rfl):PE X (.Call (.Name "list" p2) [.Call (.Name "range" p) [a] [] pos] [] Ax) (YV ta):=by
 intro d s w H Q I h;rwa[ahW (gZ I g f boot_list ?_)];rwa[ahM ?_ c rfl];rw[c];show wpAny _ _ (spliced ((false,eval (.Call (.Name "range" p) [a] [] pos) X.env)::backTo Ax [])) _ _ s;rwa[ahL ?_];rwa[Call_ (gZ I v k boot_range (ahM (a9 (i pos d s w H _ I h) λB y ζ=>?_) n rfl))];let⟨C,z,l,u,x⟩:=ζ;let⟨j,e,A,q⟩:=x;subst e
 cases u with
 |cons r o=>
  ext o;let⟨t,rfl⟩:=r;rwa[call_range_1 (aij ?_)];rwa[list_range m l ∅ ∅ ∅ ∅ (by simpa using q)]
end
def dc (H:Hp)(rs:Zn)(rows:Za3):Prop:=⇑rs=⇑rows/\∀(i:Nat) (r:Zs) (a:Zg),rs[i]?\r->rows[i]?\a->H r\(.lst (ao a))
def TabAt (H:Hp)(a:Zs)(rows:Za3):Prop:=∃rs:Zn,H a\.lst (rs.map V.ref)/\dc H rs rows
def dc.same {rs:Zn}{rows:Za3}(h:dc H rs rows)(s:aq H I):dc I rs rows:=⟨h.1,λi r ns b a=>s^h.2 i r ns b a⟩
def TabAt.same {rows:Za3}(h:TabAt H a rows)(s:aq H I):TabAt I a rows:=by
 let⟨rs,c,b⟩:=h;rwa[rs,s^c,b.same s]
def q9 {rs:Zn}:∀{a:Zk},Vals (rs.map V.ref) a->a=rs.map Value.ref:=by
 induction rs with
 |nil=>intro a r;ext r;rfl
 |cons c rs e=>
  intro a r
  cases r with
  |cons b d=>ext b;rw[e d];rfl
def xM {a:Type} [DecidableEq a]{ns ms:List a}(h:⇑ns=⇑ms):(List.range ⇑ns).all (λj=>decide (ns[j]?=ms[j]?))=decide (ns=ms):=by
 rw[ah6,List.all_eq_true,ahD];constructor
 ·intro b;rwa[aja λi=>?_]
  cbv
 cbv
section
variable {X:Cx}{pins:List (Zs×Obj)}{σ:St}{H:Hp}{s:Zu}{A:Around}
def Ox (I:Inv X pins σ H s){r q:Zs}{ns ms:Zg}(n:H r\.lst (ao ns))(l:H q\.lst (ao ms))(g:A.units<cLine):SeqAt.RcAt A s ↑r ↑q (decide (ns=ms)):=by
 let⟨k,i,b,_⟩:=I.list (aD.of n);let⟨f,c,d,_⟩:=I.list (aD.of l);let a:=⇑i;let o:=⇑c;rw[aM]at a o;by_cases h:⇑ns=⇑ms
 ·have:=SeqAt.RcAt.lists (A:=A) (e:=λj=>decide (ns[j]?=ms[j]?)) b.isList d.isList (by cbv) g (λj p m=>xE i c j p m);rw[ag6,<-a,xM h]at this;ext
 ·let e:decide (ns=ms)=false:=ahA (λz=>h (by rw[z]));rw[e];rwa[SeqAt.RcAt.lists_lengths b.isList d.isList ?_ g]
  cbv
def Oy (I:Inv X pins σ H s){r q:Zs}{d f:Zg}(g:H r\.lst (ao d))(c:H q\.lst (ao f))(h:A.units<cLine):SeqAt.EqAt A s ↑r ↑q (decide (d=f)):=by
 by_cases e:r=q
 ·subst e
  have:d=f:=by
   rw[g]at c;injection c with c
   injection c with c
   unfold ao at c;rwa[(List.map_inj_right (λa b z=>V.int.inj z)).mp c]
  rw[ahp this];rwa[SeqAt.EqAt.same _]
 ·rwa[SeqAt.EqAt.of_refs e (Ox I g c h)]
theorem Fu (I:Inv X pins σ H s){rs a:Zn}{ns ms:Za3}(b:dc H rs ns)(c:dc H a ms)(i:A.units<cLine)(j:Nat)(o:j<(rs.map Value.ref).toArray.size)(h:j<(a.map Value.ref).toArray.size):
 SeqAt.EqAt A s (rs.map Value.ref).toArray[j] (a.map Value.ref).toArray[j] (decide (ns[j]?=ms[j]?)):=by
 let g:j<⇑rs:=by simpa using o
 let d:j<⇑a:=by simpa using h
 let f:j<⇑ns:=by rw[<-b.1];rwa[g]
 let e:j<⇑ms:=by rw[<-c.1];rwa[d]
 let k:(rs.map Value.ref).toArray[j]=↑rs[j]:=by simp
 let l:(a.map Value.ref).toArray[j]=↑a[j]:=by simp
 rw[k,l];let m:=b.2 j rs[j] ns[j] (agJ g) (agJ f);let n:=c.2 j a[j] ms[j] (agJ d) (agJ e);have:=Oy (A:=A) I m n i;rw[agJ f,agJ e]
 let p:decide (some ns[j]=some ms[j])=decide (ns[j]=ms[j]):=by
  rw[ah6,ahD,ahD];rwa[Za0,ahZ some]
 rw[p];rwa[this]
end
section
variable {X:Cx}
inductive Mw (x:V) (y:V) (H:Hp) (Q:VK):Prop
 |mk (a b:Zs) (ns ms:Za3):x=↑a->y=↑b->TabAt H a ns->TabAt H b ms->Q (.bl (decide (ns=ms))) H->Mw x y H Q
def xN (C:X.A.units+ 1<cLine):gn X (compareOp .Eq) Mw:=by
 intro i s G H x y v u Q I B r h;let⟨a,b,ns,ms,rfl,rfl,⟨J,n,c⟩,⟨F,o,d⟩,q⟩:=h;ext B;ext r;let⟨p,E,g,_⟩:=I.list (aD.of n);let⟨l,t,k,_⟩:=I.list (aD.of o);let D:=q9 E;let m:=q9 t;subst D m;by_cases f:⇑ns=⇑ms
 ·rwa[SeqAt.eq_listAt (e:=λj=>decide (ns[j]?=ms[j]?)) g.isList k.isList (by simp[c.1,d.1,f]) ∅ (λj A w=>Fu I c d C j A w) ⟨.bl (decide (ns=ms)),H,I,5,q⟩];show _=Value.bool (decide (ns=ms));rw[ag6,agO,c.1,xM f]
 ·let e:decide (ns=ms)=false:=ahA (λz=>f (by rw[z]));rw[e]at q;rwa[SeqAt.eq_list_lengthsAt g.isList k.isList ?_ ∅ ⟨.bl false,H,I,2,q⟩];simp[c.1,d.1,f]
inductive Vt (x:V) (y:V) (H:Hp) (Q:VK):Prop
 |mk (a b:Zs) (ns ms:Za3):x=↑a->y=↑b->TabAt H a ns->TabAt H b ms->Q (.bl (!decide (ns=ms))) H->Vt x y H Q
inductive Mx (x:V) (y:V) (H:Hp) (Q:VK):Prop
 |mk (a b:Zs) (ns ms:Zg):x=↑a->y=↑b->H a\.lst (ao ns)->H b\.lst (ao ms)->Q (.bl (!decide (ns=ms))) H->Mx x y H Q
def DW (l:X.A.units<cLine):gn X (compareOp .NotEq) Mx:=by
 intro g s D H x y v u Q I C t h;let⟨a,b,ns,ms,rfl,rfl,o,p,q⟩:=h;ext C;ext t;let⟨r,n,d,_⟩:=I.list (aD.of o);let⟨k,f,i,_⟩:=I.list (aD.of p);let c:=⇑n;let A:=⇑f;rw[aM]at c A;by_cases m:⇑ns=⇑ms
 ·rwa[SeqAt.RcNeAt.lists (e:=λj=>decide (ns[j]?=ms[j]?)) d.isList i.isList (by cbv) l (λj B w=>xE n f j B w) X.prog X.w X.xe _ ⟨.bl (!decide (ns=ms)),H,I,5,q⟩];show _=Value.bool (!decide (ns=ms));rw[ag6,<-c,xM m]
 ·let e:decide (ns=ms)=false:=ahA (λz=>m (by rw[z]));rw[e]at q;rwa[SeqAt.RcNeAt.lists_lengths d.isList i.isList ?_ l X.prog X.w X.xe _ ⟨.bl true,H,I,2,q⟩]
  cbv
inductive My (xs:Zb) (H:Hp) (Q:VK):Prop
 |mk (b:Bool):xs=[.bl b]->Q (.int (if b=true then 1 else 0)) H->My xs H Q
def rh:ie X (.type "int") My:=by
 intro a s d H e f Q I r h;let⟨b,rfl,q⟩:=h;let⟨u,rfl,c⟩:=vals1 r;ext c;rwa[call_int_bool ⟨.int _,H,I.tok _,⟨12⟩,q⟩]
def Ay (h:X.K=K):GW X (JW K):=by subst h;rwa[bF]
def Oz (h:X.K=K):GW X (JX K):=by subst h;rwa[dJ]
def zj (h:X.K=K):ie X (.type "list") (λa H Q=>∃p ys,a=[↑p]/\(aD K H p ys\/bG K H p ys)/\∀l,H l=none->Q ↑l (upd H l (.lst ys))):=by subst h;rwa[jN]
def zk (h:X.K=K):ie X (.builtin "len") (Fo K):=by subst h;rwa[bz]
theorem jS {z:Str}{scope:Scope}(g:closureFor scope X.env=pure [(f,c),(z,d)])(C:X.env.cells.lookup f\c)(B:X.env.cells.lookup z\d)(r:∀q∈scope.names,q.2≠.cell)(y:scope.kind=.function)
 (t:∀q∈scope.names,q.2=.local->scope.names.lookup q.1=some .local) (A:scope.names.lookup x=some .local) (a:∀q∈scope.names,q.2=.free->q.1=f\/q.1=z) (b:x≠f/\x≠z/\f≠z) (v:X.N[i]?\f) (u:X.N[j]?\z)
 (m:X.env.kindOf f=some .cell) (n:X.env.kindOf z=some .cell) (l:X.env.scope.kind=.function) (p:scope.names.lookup f=some .free) (o:scope.names.lookup z=some .free):dW X x [f,z] [i,j] scope [(f,c),(z,d)] where
 Aj:=g
 sub:=λw e h=>by
  cbv
 cell:=r
 kind:=y
 names:=t
 own:=A
 has:=λw h=>by
  let e:w=f\/w=z:=by
   rcases h with h|h
   ·rwa[a _ (hU h (.inl rfl) r) rfl]
   ·rwa[a _ (hU h (.inr rfl) r) rfl]
  cbv
 nd:=by simp[b.1,b.2.1,b.2.2]
 len:=rfl
 at_:=λk w h=>by
  match k,h with
  |0,h=>
   let e:f=w:=by simpa using h
   subst e;rwa[i,2,v,.inl m,c,by simp[aiU],.inl (cL l m p)]
  |1,h=>
   let e:z=w:=by simpa using h
   subst e;let s:(z==f)=false:=ag9.mpr (λq=>b.2.2 q.symm);rwa[j,2,u,.inl n,d,by simp[aiU,s],.inl (cL l n o)]
  |k+ 2,h=>simp at h
end
def bZ (H:Hp)(a:Zn)(ws:Za3):Prop:=⇑a=⇑ws/\∀(i:Nat) (p:Zs) (w:Zg),a[i]?\p->ws[i]?\w->H p\(.tup (ao w))
def bR (H:Hp)(a:Zs)(c:Za3):Prop:=∃b:Zn,H a\.lst (b.map V.ref)/\bZ H b c
def bZ.keep {ws:Za3}(h:bZ H F ws)(s:∀p a,H p\.tup a->I p\.tup a):bZ I F ws:=⟨h.1,λi p w c b=>s^h.2 i p w c b⟩
def bZ.same {ws:Za3}(h:bZ H F ws)(s:aq H I):bZ I F ws:=h.keep λp a e=>s^e
def bR.same {ws:Za3}(h:bR H a ws)(s:aq H I):bR I a ws:=by
 let⟨d,c,b⟩:=h;rwa[d,s^c,b.same s]
def bZ.snoc {ps:Zn}{ws:Za3}(h:bZ H ps ws)(e:H a\.tup (ao l)):bZ H (ps++[a]) (ws++[l]):=by
 rwa[⟨by rw[agN,agN,h.1];rfl,λi q u c b=>?_⟩];by_cases d:i<⇑ps
 ·rw[agV d]at c;rw[agV (by rw[<-h.1];rwa[d])]at b;rwa[h.2 i q u c b]
 ·rw[agW ∅]at c;rw[agW (by rw[<-h.1];omega)]at b;rw[agR.mp (agK c),agR.mp (agK b)];rwa[e]
inductive Vu (x:V) (y:V) (H:Hp) (Q:VK):Prop
 |mk (a b:Zs) (ns ms:Za3):x=↑a->y=↑b->bR H a ns->bR H b ms->Q (.bl (decide (ns=ms))) H->Vu x y H Q
section
variable {X:Cx}
inductive Vv (x:V) (y:V) (H:Hp) (Q:VK):Prop
 |mk (k:Int) (a:Zs) (ns:Zg):x=.int k->y=↑a->H a\.lst (ao ns)->Q (.bl (decide (k∈ns))) H->Vv x y H Q
inductive Kk (x:V) (y:V) (H:Hp) (Q:VK):Prop
 |mk (k:Int) (a:Zs) (ns:Zg):x=.int k->y=↑a->H a\.lst (ao ns)->Q (.bl (!decide (k∈ns))) H->Kk x y H Q
noncomputable def isInt (k:Int):Zt->Bool
 |.int z _=>z==k
 |_=>false
inductive DX (x:V) (vs:Zb) (H:Hp) (Q:VK):Prop
 |mk (a:Zs) (ns:Zg) (k:Int):x=↑a->vs=[.int k]->H a\.lst (ao ns)->k∈ns->(∀i:Nat,ns[i]?\k->(∀j,j<i->ns[j]?≠some k)->Q (.int i) H)->DX x vs H Q
def Hi (h:z∈l):∃i:Nat,l[i]?\z/\∀j,j<i->l[j]?≠some z:=by
 induction l with
 |nil=>ext h
 |cons a l g=>
  by_cases e:a=z
  ·rwa[(0),by rw[e];rfl,λj d=>∅]
  ·let⟨i,f,c⟩:=g ((ag4.mp h).resolve_left (ah5 e));rwa[⟨i+ 1,f,λj d=>?_⟩]
   cases j with
   |zero=>exact λb=>e (Za0 b)
   |succ j=>exact c j ∅
theorem zl:DM X "list.index" DX:=by
 intro A s S H x R v P Q I G D h;let⟨a,ns,k,rfl,rfl,C,c,q⟩:=h;ext G;let⟨u,rfl,J⟩:=D.one;let⟨t,rfl⟩:=J;let⟨z,b,n,r,N,e⟩:=I.pJ C;rw[aM]at z N;let⟨i,l,B⟩:=Hi c;let O:i<⇑ns:=(agM.mp l).1
 let at_:∀(m:Nat) (c:m<b.toArray.size),isInt k b.toArray[m]=decide (ns[m]?\k):=λm c=>by
  let d:m<⇑b:=by simpa using c
  let f:ns[m]?\(ns[m]'∅):=agJ ∅
  let⟨w,o,g,rfl⟩:=r.get (cC f)
  let p:b.toArray[m]=Value.int (ns[m]'∅) g:=by
   rw[ai4];rwa[Za0 ((agJ d).symm.trans o)]
  rw[p,f];show (ns[m]'∅==k)=_;rw[ah6,ajS,ahD];rwa[λz=>by rw[z],λz=>Za0 z]
 let M:(sizeLine:Nat)<2 ^ 62:=⋯
 refine ajX F.slot_list_index ⟨_,e,2⟩ F.entry_list_index (F.args_list_index_2 _ _)
  (SeqAt.list_indexAt a b.toArray n none #[] (.int k t) (isInt k) i (by rw[ag6];omega) ∅ ([at_]▸ahp l) (λm c j=>[at_]▸ahA (B m j))) ⟨e,λy L=>?_,5⟩
 ·let⟨m,c,E⟩:=aiG.mp (Array.mem_toList_iff.mpr L);let d:m<⇑b:=by simpa using c
  let f:ns[m]?\(ns[m]'∅):=agJ ∅
  let⟨w,o,g,rfl⟩:=r.get (cC f)
  let p:y=Value.int (ns[m]'∅) g:=by
   rw[<-E];rwa[Za0 ((agJ d).symm.trans o)]
  rw[p];rwa[SeqAt.EqAt.int_int _ g k t]
 ·rwa[.int i,H,I.tok _,⟨12⟩,q i l B]
end
def Az (K:Za1)(a:Zs):It:=
 ⟨λi H=>∃xs x,aD K H a xs/\xs[i]?\x,λi H x b=>∃p v,H p=none/\(∀ys,aD K H a ys->ys[i]?\v)/\x=↑p/\b=upd H p (.tup [.int (i:Int),v]),λi H=>∃xs,aD K H a xs/\⇑xs=i⟩
def oD {o u:Obj}(d:h.get? a\o)(e:h.get? b\u)(c:o.cls≠u.cls):a≠b:=λz=>by
 cbv
theorem Fv {elts:Zr}{x1:Nat}{tp:Pos}(e it a:Zs)(W:e≠it):
 Turn P w K (.Tuple elts x1 tp) (Az K a) [e,it] e (λi h=>(∃old,IsEnum h e it (i:Int) old)/\h.IsListIter it a i) where
 mem:=by simp
 obj:=λi h st b g=>by
  let⟨⟨old,j⟩,o,ho,G,hd⟩:=st
  cbv
 keep:=λi h h' st k=>by
  let⟨⟨old,j⟩,hl⟩:=st;rwa[⟨old,k e (by simp) _ j⟩,hl.at λo e=>k it (by simp) o e]
 item:=by
  intro X Z T R G i B s σ H E I L st hg;subst Z T R;let⟨⟨old,j⟩,d⟩:=st;let⟨xs,x,C,J⟩:=hg;let⟨c,V,p,hz⟩:=I.list C;let⟨u,hu,ru⟩:=V.get J;let hit:=p.isList;let⟨o1,l,O,Y⟩:=id hit;let⟨o2,m,yF,hd2⟩:=id d;let n:a≠it:=oD l m (by cbv);let hea:e≠a:=oD j l (by cbv);let D:=Draws.list (prog:=X.prog) (w:=X.w) (A:=X.A.in1) (I.ok.hd G) it a n c.toArray;let DY:e<↥s:=ag8 j;let Wm:i<⇑c:=(agM.mp hu).1;rwa[En.yD D j ⟨d,hit⟩ ∅ W (by cbv) λy h' tk N ho Ro t hk=>?_]
  let ey:u=y:=by
   let h2:c[i]?\y:=by simpa using N
   rwa[Za0 (hu.symm.trans h2)]
  subst ey;erw[12];rwa[wpAny_letOwnedTupleGo_enum ho λr he' f=>?_]
  let Hj:r.get? ↥s\("tuple">>>.seq #[.int (i:Int) tk,u]):=(f.2 _ (ah0 DY)).trans t
  let S:∀b M,b∉[e,it]->s.heap.get? b\M->r.get? b\M:=λb M g q=>by
   let h1:b≠e:=λz=>g (by simp[z])
   let h2:b≠it:=λz=>g (by simp[z])
   rwa[(f.2 b h1).trans (hk b M h1 h2 q)]
  let U:=I.aO.fresh (agQ ↥s);rwa[⟨↑↥s,_,I.uD (fp:=[e,it]) (a:=↥s) (o:=.tup [.int (i:Int),x]) (h':=r) (t':=tk+ 1) S L (agQ _) ?_,2,⟨_,x,U,λys hy=>[I.ux hy C]▸J,22⟩,⟨⟨u,5⟩,5⟩,λb g=>?_⟩]
  ·rwa[by show 2<=sizeLine;decide,[.int (i:Int) tk,u],.cons ⟨12⟩ (.cons ru .nil),_,Hj,212]
  ·cbv
  ·exact(D.frame _ _ _ Ro λb g o q=>(f.2 b (by
    cbv)).trans q).1
  ·rw[ak]
   ·rwa[(L b g).1]
   ·intro z;subst z;rcases ag4.mp g with z|g
    ·cbv
    ·rwa[absurd (ag8 m) (by rw[<-agR.mp g];rwa[ah2 _])]
 done:=by
  intro X Z T R G i B s σ H E I L st hg;subst Z T R;let⟨⟨old,j⟩,d⟩:=st;let⟨xs,C,J⟩:=hg;let⟨c,V,p,hz⟩:=I.list C;let hit:=p.isList;let⟨o1,l,O,Y⟩:=id hit;let⟨o2,m,yF,hd2⟩:=id d;let n:a≠it:=oD l m (by cbv);let D:=Draws.list (prog:=X.prog) (w:=X.w) (A:=X.A.in1) (I.ok.hd G) it a n c.toArray;let hsz:c.toArray.size=i:=by rw[ag6,<-⇑V];rwa[J]
  rwa[wpAny_pyNext_enum_endD D j ([hsz]▸⟨d,hit⟩) λh' eb=>⟨2,I.xJ (fp:=[e,it]) (t':=s.toks) (λb o g q=>eb b o (λz=>g (by simp[z])) q) L⟩]
 self:=λA i s Q E st h=>by
  let⟨⟨old,j⟩,_⟩:=st;let t:s.TypeIs ↑e "enumerate":=⟨_,j,2⟩;rwa[wpAny_pyIter_slot t ajB (ahU ajB t F.entry_enumerate_iter ?_ (F.args_enumerate_iter_1 _))];show wpAny _ _ (ret ↑e) _ _ s;rwa[agP ⟨12,"enumerate",_,t,ajA.lookup,h⟩]
section
variable {X:Cx}
def Rp (K:Za1)(c:TA):TI:=λ f H R=>c f H λe b=>∃a,e=[↑a]/\(∃d,aD K b a d)/\R (Az K a) b
def uE {r:TE}{elts:Zr}{d i:Pos}(E:Gl X "enumerate")(v:X.mg "enumerate"=none)(A:PE X e r)(m:starEach [e] X.env=[(false,eval e X.env)]:=by rfl):
 PI X (.Tuple elts n p) (.Call (.Name "enumerate" d) [e] [] i) (Rp X.K (jM r j8)):=by
 intro a s t H R I h;rwa[Call_ (gZ I E v boot_enumerate (ahM (a9 ((ae A ai m) i a s t H _ I h) λN s1 ζ=>?_) m rfl))];let⟨Q,k,f,D,G⟩:=ζ;let⟨l,rfl,⟨J,y⟩,q⟩:=G;let⟨u,rfl,B⟩:=vals1 D;ext B;let⟨x,M,pl,L⟩:=f.list y;rwa[call_enumerate_list pl.isList λo g hit C z=>?_]
 let F:Inv X a t k (s1<*o):=f.kept (t':=s1.toks) z;let T:=Fv (P:=X.prog) (w:=X.w) (K:=X.K) (elts:=elts) (x1:=n) (tp:=p) (↥s1+ 1) ↥s1 l (Nat.succ_ne_self _);rwa[T.self _ 0 (s1<*o) _ _ ⟨⟨_,g⟩,hit⟩ ⟨1111,k,2,F,T,⟨⟨_,g⟩,hit⟩,λb j=>?_,q⟩];rcases ag4.mp j with c|j
 ·subst c;rwa[f.pF (aiZ _) (f.aO.fresh (aiZ _))]
 ·rw[agR.mp j];rwa[f.pF (agQ _) (f.aO.fresh (agQ _))]
end
theorem ri {xs:Zb}{g:TG}{l:TS}(b:Nat->St->Hp->Prop)(n:b 0 D H)(B:∀i D H,i<=⇑xs->b i D H->aD K H a xs)
 (s:∀i v D H p,xs[i]?\v->H p=none->b i D H->g ↑p D (upd H p (.tup [.int (i:Int),v])) λ d j=>l { G with nx:=b (i+ 1),ct:=b (i+ 1),bk:=G.nx } d j) (z:∀ D H,b ⇑xs D H->G.nx D H):
 ∃W:Nat->Nat->St->Hp->Prop,(∃m,W 0 m D H)/\∀i m D H,W i m D H->
  ((Az K a).stop i H/\G.nx D H)\/((Az K a).go i H/\∃N:St->Hp->Prop,(∀ c f,N c f->∃k,k<m/\W (i+ 1) k c f)/\∀x f,(Az K a).mj i H x f->g x D f λ d j=>l { G with nx:=N,ct:=N,bk:=G.nx } d j):=by
 erw[λi m D H=>m=⇑xs - i/\i<=⇑xs/\b i D H,⟨⇑xs,by simp,ahg _,n⟩];rintro i m D H ⟨rfl,t,p⟩;let q:=B i D H t p;by_cases h:i<⇑xs
 ·rwa[.inr ⟨⟨xs,_,q,agJ h⟩,b (i+ 1),λ c f o=>⟨⇑xs - (i+ 1),32,h,o⟩,λx f y=>?_⟩];let⟨r,v,u,A,rfl,rfl⟩:=y;rwa[s i v D H r (A xs q) u p]
 ·let e:i=⇑xs:=∅
  subst e;rwa[.inl ⟨⟨xs,q,2⟩,z D H p⟩]
namespace En
open AutoSeq1 (wpAny_loadPart')
theorem Fw (l:Zs)(items:Zm)(n:Nat)(dct:Zo)(m:Array Zl)(k:Int)(u:Tok)(q:0<=k)(p:k<1000):
 Meets (Builtin.«enumerate.__new__» ⟨[.type "enumerate",↑l],[("start",.int k u)]⟩) (λ_ R s=>s.heap.get? l\{ cls:=.type "list",dict:=dct,data:=.seq items n,slots:=m }/\
  R (.ok (.ret (↑(s.heap.push ("list_iterator">>>.fields #[↑l,.int 0 0])).objs.size)))
    { s with heap:=(s.heap.push ("list_iterator">>>.fields #[↑l,.int 0 0])).push ("enumerate">>>.fields #[.none,.bool false,↑↥s,rawInt k,.none,.none]) }):=
 .of_wp λi w A R s h=>by
  let⟨j,g,d,o,os⟩:=s;let⟨a,h⟩:=h;let f:=sub_enumerate;let r:=AutoSeq1.idx_int;let b:Heap.IsList (Shared.heap ⟨j,g,d,o,os⟩) l items:=⟨_,a,2,n,2⟩
  let e:(!Builtin.SmallTypes.fitsIndex k)=false:=by
   unfold Builtin.SmallTypes.fitsIndex;simp;ext
  wp_walk using ajc a
  rwa[wpAny_stack_any λst=>agP ?_]
  split
  ·rename_i c _ _ _ _ _;cases (c==Value.type "enumerate")
   ·wp_walk using ajc a,ai8 b
    rwa[12,h]
   ·wp_walk using ajc a,ai8 b
    rwa[12,h]
  ·wp_walk using ajc a,ai8 b
   rwa[12,h]
section
variable {prog:Program}{w:World}{A:Around}{E:Zt->Zu->Prop}{s:Zu}
theorem C3 {items:Zm}{k:Int}{u:Tok}(U:s.heap.IsList a items)(S:0<=k)(z:k<1000)
 (h:∀p,IsEnum p (↥s+ 1) ↥s k .none->p.IsListIter ↥s a 0->(∀b o,s.heap.get? b\o->p.get? b\o)->Q ↑(↥s+ 1) (s<*p)):
 (prog<|>w) A (call (.type "enumerate") [↑a] [("start",.int k u)]) Q E s:=by
 let⟨⟨V,dct,W,O⟩,hl,l,n,B⟩:=U;replace l:V=.type "list":=l;replace B:W=.seq items n:=B;subst l B;let ft:=F.called_enumerate;let⟨c,tl,H⟩:=ft.mro;let C:=ft.made;let J:=ft.sub;let Z:=Vn ↑a (.int k u);let t:=Vo ↑a (.int k u);rwa[ajG (codeAny_of_tree ?_)];show wpAny _ _ (callAny (.type "enumerate") _) _ _ _;rwa[agP ⟨Code.quiet_builtin _ ⋯,aj4 F.entry_type_call ?_⟩];rw[Around.under_plain (weight_type_call_type "enumerate" [↑a] [("start",.int k u)]) (units_type_call_type "enumerate" [↑a] [("start",.int k u)])];let h1:=ft.notType;let h2:=ft.canCreate
 repeat (any_goals (first|assumption|wp_step))
 rwa[ajj (aiH ft.plain F.entry_enumerate_new (wpAny_of_eq t (Fw a items n dct O k u S z prog w A.in1 (wants (λobj f=>f.TypeIs obj "enumerate"/\Q obj f) E) s ⟨hl,5⟩))) λr f x=>?_]
 ·let L:(s.heap.push ("list_iterator">>>.fields #[↑a,.int 0 0])).objs.size=↥s+ 1:=aiw ..;show _/\_;rw[L]
  let M:IsEnum ((s.heap.push ("list_iterator">>>.fields #[↑a,.int 0 0])).push ("enumerate">>>.fields #[.none,.bool false,↑↥s,rawInt k,.none,.none])) (↥s+ 1) ↥s k .none:=by
   let q:=agZ (s.heap.push ("list_iterator">>>.fields #[↑a,.int 0 0])) (o:=("enumerate">>>.fields #[.none,.bool false,↑↥s,rawInt k,.none,.none])) rfl;rw[L]at q;rwa[q]
  rwa[⟨_,M,2⟩,h _ M ⟨_,agL _ (agZ _ rfl),22⟩ λb o y=>agL _ (agL _ y)]
 cases r with
 |error e=>exact x
 |ok P=>
  cases P with
  |ret obj=>
   let⟨G,I⟩:=x;let X:=ft.init.lookup;let N:=ft.init.bind obj;let D:=Vp obj ↑a (.int k u);let v:(λ(_:Around) (R:Result->Zu->Prop) (s:Zu)=>s.TypeIs obj "enumerate"/\R (.ok (.ret .none)) s) A.in1 (wants (λr i=>r=.none/\Q obj i) E) f:=⟨G,2,I⟩;let Y:=Ou (T:="enumerate") (self:=obj) (a:=↑a) (kw:=[("start",.int k u)]) ft.init.lookup ft.made ⋯
   repeat (any_goals (first|assumption|wp_step))
   rwa[ajj (aiH ft.init.plain F.entry_object_init (ft.init.check _ _ _ _ _ _ _ _ G D (Y prog w A.in1 _ f v))) λm i g=>?_]
   cases m with
   |error e=>exact g
   |ok j=>
    cases j with
    |ret r=>
     let⟨rfl,I⟩:=g
     repeat (any_goals (first|assumption|wp_step))
    |_=>exact g.elim
  |_=>exact x.elim
end
end En
def sV (K:Za1)(a:Zs)(n:Int):It:=
 ⟨λi H=>∃xs x,aD K H a xs/\xs[i]?\x,λi H x b=>∃p v,H p=none/\(∀ys,aD K H a ys->ys[i]?\v)/\x=↑p/\b=upd H p (.tup [.int (n+ (i:Int)),v]),λi H=>∃xs,aD K H a xs/\⇑xs=i⟩
theorem C4 {elts:Zr}{x1:Nat}{tp:Pos}(e it a:Zs)(n:Int)(Y:e≠it):
 Turn P w K (.Tuple elts x1 tp) (sV K a n) [e,it] e (λi h=>(∃old,IsEnum h e it (n+ (i:Int)) old)/\h.IsListIter it a i) where
 mem:=by simp
 obj:=λi h st b g=>by
  let⟨⟨old,j⟩,o,ho,J,hd⟩:=st
  cbv
 keep:=λi h h' st k=>by
  let⟨⟨old,j⟩,hl⟩:=st;rwa[⟨old,k e (by simp) _ j⟩,hl.at λo e=>k it (by simp) o e]
 item:=by
  intro X hP U S J i C s σ H E I M st hg;subst hP U S;let⟨⟨old,j⟩,d⟩:=st;let⟨xs,x,G,L⟩:=hg;let⟨c,W,p,hz⟩:=I.list G;let⟨u,hu,ru⟩:=W.get L;let hit:=p.isList;let⟨o1,l,R,Z⟩:=id hit;let⟨o2,m,yF,hd2⟩:=id d;let r:a≠it:=oD l m (by cbv);let hea:e≠a:=oD j l (by cbv);let D:=Draws.list (prog:=X.prog) (w:=X.w) (A:=X.A.in1) (I.ok.hd J) it a r c.toArray;let DY:e<↥s:=ag8 j;let Wm:i<⇑c:=(agM.mp hu).1;rwa[En.yD D j ⟨d,hit⟩ ∅ Y (by cbv) λy h' tk O ho Ro v hk=>?_]
  let ey:u=y:=by
   let h2:c[i]?\y:=by simpa using O
   rwa[Za0 (hu.symm.trans h2)]
  subst ey;erw[12];rwa[wpAny_letOwnedTupleGo_enum ho λt he' f=>?_]
  let Hj:t.get? ↥s\("tuple">>>.seq #[.int (n+ (i:Int)) tk,u]):=(f.2 _ (ah0 DY)).trans v
  let T:∀b N,b∉[e,it]->s.heap.get? b\N->t.get? b\N:=λb N g q=>by
   let h1:b≠e:=λz=>g (by simp[z])
   let h2:b≠it:=λz=>g (by simp[z])
   rwa[(f.2 b h1).trans (hk b N h1 h2 q)]
  let V:=I.aO.fresh (agQ ↥s);rwa[⟨↑↥s,_,I.uD (fp:=[e,it]) (a:=↥s) (o:=.tup [.int (n+ (i:Int)),x]) (h':=t) (t':=tk+ 1) T M (agQ _) ?_,2,⟨_,x,V,λys hy=>[I.ux hy G]▸L,22⟩,⟨⟨u,5⟩,5⟩,λb g=>?_⟩]
  ·rwa[by show 2<=sizeLine;decide,[.int (n+ (i:Int)) tk,u],.cons ⟨12⟩ (.cons ru .nil),_,Hj,212]
  ·cbv
  ·exact(D.frame _ _ _ Ro λb g o q=>(f.2 b (by
    cbv)).trans q).1
  ·rw[ak]
   ·rwa[(M b g).1]
   ·intro z;subst z;rcases ag4.mp g with z|g
    ·cbv
    ·rwa[absurd (ag8 m) (by rw[<-agR.mp g];rwa[ah2 _])]
 done:=by
  intro X hP U S J i C s σ H E I M st hg;subst hP U S;let⟨⟨old,j⟩,d⟩:=st;let⟨xs,G,L⟩:=hg;let⟨c,W,p,hz⟩:=I.list G;let hit:=p.isList;let⟨o1,l,R,Z⟩:=id hit;let⟨o2,m,yF,hd2⟩:=id d;let r:a≠it:=oD l m (by cbv);let D:=Draws.list (prog:=X.prog) (w:=X.w) (A:=X.A.in1) (I.ok.hd J) it a r c.toArray;let hsz:c.toArray.size=i:=by rw[ag6,<-⇑W];rwa[L]
  rwa[wpAny_pyNext_enum_endD D j ([hsz]▸⟨d,hit⟩) λh' eb=>⟨2,I.xJ (fp:=[e,it]) (t':=s.toks) (λb o g q=>eb b o (λz=>g (by simp[z])) q) M⟩]
 self:=λA i s Q E st h=>by
  let⟨⟨old,j⟩,_⟩:=st;let v:s.TypeIs ↑e "enumerate":=⟨_,j,2⟩;rwa[wpAny_pyIter_slot v ajB (ahU ajB v F.entry_enumerate_iter ?_ (F.args_enumerate_iter_1 _))];show wpAny _ _ (ret ↑e) _ _ s;rwa[agP ⟨12,"enumerate",_,v,ajA.lookup,h⟩]
theorem Fx {xs:Zb}{g:TG}{l:TS}(b:Nat->St->Hp->Prop)(n:b 0 D H)(C:∀i D H,i<=⇑xs->b i D H->aD K H a xs)
 (s:∀i v D H p,xs[i]?\v->H p=none->b i D H->g ↑p D (upd H p (.tup [.int (z+ (i:Int)),v])) λ d j=>l { G with nx:=b (i+ 1),ct:=b (i+ 1),bk:=G.nx } d j) (A:∀ D H,b ⇑xs D H->G.nx D H):
 ∃W:Nat->Nat->St->Hp->Prop,(∃m,W 0 m D H)/\∀i m D H,W i m D H->
  ((sV K a z).stop i H/\G.nx D H)\/((sV K a z).go i H/\∃N:St->Hp->Prop,(∀ c f,N c f->∃k,k<m/\W (i+ 1) k c f)/\∀x f,(sV K a z).mj i H x f->g x D f λ d j=>l { G with nx:=N,ct:=N,bk:=G.nx } d j):=by
 erw[λi m D H=>m=⇑xs - i/\i<=⇑xs/\b i D H,⟨⇑xs,by simp,ahg _,n⟩];rintro i m D H ⟨rfl,t,p⟩;let q:=C i D H t p;by_cases h:i<⇑xs
 ·rwa[.inr ⟨⟨xs,_,q,agJ h⟩,b (i+ 1),λ c f o=>⟨⇑xs - (i+ 1),32,h,o⟩,λx f y=>?_⟩];let⟨r,v,u,B,rfl,rfl⟩:=y;rwa[s i v D H r (B xs q) u p]
 ·let e:i=⇑xs:=∅
  subst e;rwa[.inl ⟨⟨xs,q,2⟩,A D H p⟩]
def all_true (n:Nat)(f:Nat->Bool)(h:∀j,f j=true):(List.range n).all f=true:=List.all_eq_true.mpr λj _=>h j
def eD (h:Heap)(d:Zs)(b:Array DictEntry)(a:Nat):Prop:=∃o,h.get? d\o/\o.ExactDict/\o.data=.dict b a
namespace Dk
section
variable {prog:Program}{w:World}{A:Around}{E:Zt->Zu->Prop}{s:Zu}{d:Zs}{es:Array DictEntry}{ep:Nat}
def typ (a:eD s.heap d es ep):s.TypeIs ↑d "dict":=let ⟨o,c,b,_⟩:=a;⟨o,c,b.1⟩
theorem iter (g:(d==sysModules)=false)(e:eD s.heap d es ep)
 (f:Q ↑↥s { s with heap:=s.heap.push ("dict_keyiterator">>>.fields #[↑d,.int 0 0,.int es.size 0,.int ep 0]) }):(prog<|>w) A (pyIter ↑d) Q E s:=by
 let b:=typ e;let⟨o,c,h,a⟩:=e;rwa[wpAny_pyIter_slot b F.slot_dict_iter (ahU F.slot_dict_iter b F.entry_dict_iter ?_ (F.args_dict_iter_1 _))];unfold Builtin.«dict.__iter__»;rwa[agI ?_];unfold Builtin.Dict.dictSlotNone;rwa[agI (ajC b ?_)];show wpAny _ _ (pure (Value.ref d)) _ _ s;rwa[agP ?_];show wpAny _ _ (Builtin.Dict.showsAll d >>=_) _ _ s;unfold Builtin.Dict.showsAll;rw[ahc (by cbv)];rwa[agI (agP (agI (aiN c a (agI (ajD c a ?_)))))];rwa[agI (ahI (agP ⟨12,"dict_keyiterator",_,⟨_,agZ _ rfl,2⟩,ail.lookup,by simpa [rawInt] using f⟩))]
theorem item {it:Zs}{en:DictEntry}{Q:Zl->Zu->Prop}(hit:s.heap.IsKeyIter it d i es.size ep)(j:eD s.heap d es ep)(l:es[i]?\en)
 (h:∀g1,g1.IsKeyIter it d (i+ 1) es.size ep->Heap.SameBut it s.heap g1->Q (some en.key) (s<*g1)):(prog<|>w) A (pyNext ↑it) Q E s:=by
 let⟨o,e,g,c⟩:=id hit;let⟨m,b,k,a⟩:=id j;unfold pyNext;rwa[agI (wpAny_attempt (ahQ (name:=Str.ofString "__next__") hit.typeIs ail (ahU ail hit.typeIs F.entry_dict_keyiterator_next ?_ (F.args_dict_keyiterator_next_1 _))))];rwa[agI (agP (agI (agI ?_)))]
 first|rwa[agI (aiE hit.typeIs (agP ?_))]|rwa[agI (ajd hit.typeIs (agP ?_))]
 rwa[agI (wpAny_fieldsOf e c ?_)];let own:Builtin.Dict_items.ownsTuple "dict_keyiterator"=false:=⋯
 simp only[own,ajv,ajH];show wpAny _ _ (if (Value.ref d==Value.none)=true then _ else _) _ _ s;rw[ahc (show ¬((Value.ref d==Value.none)=true) from ahC)];rwa[agI (agP (agI (aiN b a ?_)))];rw[ahc (by simp)];rwa[agI (agP (agI (ajD b a ?_)))];rw[ahc (by simp)];rwa[agP ?_];simp only[show ¬((i:Int)<0) from by ext,ajH,ahn,l];rwa[agI ?_]
 first|rwa[agI (aiE hit.typeIs (agP ?_))]|rwa[agI (ajd hit.typeIs (agP ?_))]
 rwa[agI (wpAny_isOneOf_keyiter hit.typeIs ?_)];show wpAny _ _ (setField ↑it 1 (rawInt ((i:Int)+ 1)) >>=_) _ _ s;rwa[agI (ai0 e c (by simp) ?_)]
 let f:(s.heap.update it (Obj.mapFields (·.setIfInBounds 1 (rawInt ((i:Int)+ 1))))).IsKeyIter it d (i+ 1) es.size ep:=
  ⟨_,ahv _ e (aiX (aip c _)),(Obj.cls_mapFields ..).trans g,by rw[aip c];simp[rawInt]⟩
 rwa[agI (ahY ?_)];rwa[agI (wpAny_isOneOf_keyiter (s:={ s with heap:=s.heap.update it (Obj.mapFields (·.setIfInBounds 1 (rawInt ((i:Int)+ 1)))) }) f.typeIs ?_)];show wpAny _ _ (pure en.key) _ _ _;rwa[agP (agP ⟨12,agP (h _ f (aii ..))⟩)]
theorem fin {it:Zs}{Q:Zl->Zu->Prop}(k:A.handled=none)(hit:s.heap.IsKeyIter it d i es.size ep)(j:eD s.heap d es ep)(n:es[i]?=none)
 (p:∀f,Heap.ExtBut it s.heap f->Q none (s<*f)):(prog<|>w) A (pyNext ↑it) Q E s:=by
 let⟨o,g,r,h⟩:=id hit;let⟨q,e,l,c⟩:=id j;unfold pyNext;rwa[agI (wpAny_attempt (ahQ (name:=Str.ofString "__next__") hit.typeIs ail (ahU ail hit.typeIs F.entry_dict_keyiterator_next ?_ (F.args_dict_keyiterator_next_1 _))))];rwa[agI (agP (agI (agI ?_)))]
 first|rwa[agI (aiE hit.typeIs (agP ?_))]|rwa[agI (ajd hit.typeIs (agP ?_))]
 rwa[agI (wpAny_fieldsOf g h ?_)];let own:Builtin.Dict_items.ownsTuple "dict_keyiterator"=false:=⋯
 simp only[own,ajv,ajH];show wpAny _ _ (if (Value.ref d==Value.none)=true then _ else _) _ _ s;rw[ahc (show ¬((Value.ref d==Value.none)=true) from ahC)];rwa[agI (agP (agI (aiN e c ?_)))];rw[ahc (by simp)];rwa[agI (agP (agI (ajD e c ?_)))];rw[ahc (by simp)];rwa[agP ?_];simp only[show ¬((i:Int)<0) from by ext,ajH,ahn,n];rwa[agI ?_]
 first|rwa[agI (aiE hit.typeIs (agP ?_))]|rwa[agI (ajd hit.typeIs (agP ?_))]
 show wpAny _ _ (setField ↑it 0 .none >>=_) _ _ s;rwa[agI (ai0 g h (by simp) ?_)];show wpAny _ _ (newExc (.type "StopIteration") [] >>=_) _ _ _;rwa[agI ?_];simp only[newExc,newTuple];rwa[agI (ahI ?_ (by size_fits))];rwa[agI (m:=firstArgMember _ _) (wpAny_of_eq (a:=Value.none) (by first|rfl|(simp only[firstArgMember];rfl)) ?_)];rwa[ahI ?_ (by size_fits)];simp only[raiseNew];rwa[agI (wpAny_handled ?_)];rw[show A.in1.handled=none from k];rwa[agI (agP (wpAny_throw ?_))];rwa[agI (wpAny_isInstance (T:="StopIteration") (b:=true) ⟨_,agZ _ rfl,2⟩ isSubtype_stop ?_)];rwa[agP (p _ (((aii ..).extBut.push _).push _))]
def eD.at (x:eD h d es ep)(e:∀o,h.get? d\o->g.get? d\o):eD g d es ep:=let ⟨o,a,r⟩:=x;⟨o,e _ a,r⟩
theorem walks (p:A.handled=none)(I:Zs)(j:d≠I):Walks prog w A I [I,d] [I] es.size (λi v=>∃k,es[i]?\k/\v=k.key) (λi h=>h.IsKeyIter I d i es.size ep/\eD h d es ep) where
 sub:=λb f=>by cbv
 frame:=λ_ _ _ st l=>⟨st.1.at λo e=>l I (by simp) o e,eD.at st.2 λo e=>l d (by simp) o e⟩
 item:=λi s Q E m st a=>by
  rwa[item (en:=es[i]) st.1 st.2 (by simp[m]) λg n c=>?_]
  rwa[a _ g s.toks ⟨_,by simp[m],2⟩ ⟨n,eD.at st.2 λo e=>c.extBut _ _ j e⟩ λb o f e=>c.extBut b o (λh=>f (by simp[h])) e]
 done:=λs Q E st a=>fin p st.1 st.2 (by simp) λg c=>a g s.toks λb o f e=>c b o (λh=>f (by simp[h])) e
 self:=λ_ _ _ _ st a=>wpAny_pyIter_keyiter st.1 a
theorem hint {Q:Bool->Zu->Prop}(e:eD s.heap d es ep)(h:Q false s):(prog<|>w) A (Builtin.List.listLengthHint ↑d) Q E s:=by
 unfold Builtin.List.listLengthHint;rwa[agI (wpAny_specialOf (typ e) F.slot_dict_len.lookup ?_)];generalize c:("dict.__len__":String)=f
 wp_delta
 rw[show splitId f=some ("dict","__len__") from by subst c;decide];subst c;rwa[agI (wpAny_isInstance (T:="dict") (b:=true) (typ e) (by rw[isSubtype_type];kernel_rfl) ?_)];rwa[aj5 (λa=>absurd a ⋯) (λ_=>?_)];rwa[aj5 (λ_=>?_) (λa=>absurd ⋯ a)];rwa[agI (ajk (T:="dict") (typ e) (agP h))]
theorem extend {R:Result->Zu->Prop}(P:A.handled=none)(X:(d==sysModules)=false)(q:eD s.heap d es ep)(hlen:es.size<=sizeLine)(S:Zs)(res:Zt)(u:Nat)(J:s.heap.get? S\("list">>>.seq #[] u))
 (O:∀g1 V c m,(∀b o,b≠S->s.heap.get? b\o->g1.get? b\o)->g1.get? S\{ cls:=.type "list",dict:=none,data:=.seq c m,slots:=#[] }->
  ItemsOf (λi v=>∃N,es[i]?\N/\v=N.key) c es.size->R (.ok (.ret res)) { s with heap:=g1,toks:=V }):
 (prog<|>w) A.in1 (Builtin.List.listExtendWith ↑S ↑d res)
  (λfin j=>match fin with|.done f=>R (.ok f) j|.again m=>m.quiet=true/\codeAny (model prog w) A m R j) (λe j=>R (.error e) j) s:=by
 let h:S≠d:=λe=>by
  let⟨o,L,hc,M⟩:=q
  cbv
 let B:d<↥s:=by let⟨o,L,_⟩:=q;rwa[ag8 L]
 let x:S≠↥s:=ahk (ag8 J);let H:d≠↥s:=ahk B;unfold Builtin.List.listExtendWith;rwa[agI (ajk (T:="dict") (typ q) ?_)];let U:Builtin.List.listSameRef ↑S ↑d=false:=by simp[Builtin.List.listSameRef,h]
 let Q:(Value.type "dict"==Value.type "list")=false:=⋯
 let Z:(Value.type "dict"==Value.type "tuple")=false:=⋯
 simp only[U,Q,Z,Bool.or_false,ajv,ajH];rwa[agI (iter X q ?_)];let l:eD (s.heap.push ("dict_keyiterator">>>.fields #[↑d,.int 0 0,.int es.size 0,.int ep 0])) d es ep:=eD.at q λo e=>agL _ e
 rwa[agI (ahY (hint (s:={ s with heap:=s.heap.push ("dict_keyiterator">>>.fields #[↑d,.int 0 0,.int es.size 0,.int ep 0]) }) l ?_))];let k:=agL ("dict_keyiterator">>>.fields #[↑d,.int 0 0,.int es.size 0,.int ep 0]) J;let y:(s.heap.push ("dict_keyiterator">>>.fields #[↑d,.int 0 0,.int es.size 0,.int ep 0])).IsKeyIter ↥s d 0 es.size ep:=⟨_,agZ _ rfl,22⟩;let kp:∀b o,s.heap.get? b\o->(s.heap.push ("dict_keyiterator">>>.fields #[↑d,.int 0 0,.int es.size 0,.int ep 0])).get? b\o:=λb o e=>agL _ e
 generalize s.heap.push ("dict_keyiterator">>>.fields #[↑d,.int 0 0,.int es.size 0,.int ep 0])=n at k y kp l ⊢;rwa[aj5 (λ_=>?_) (λC=>absurd ⋯ C)];rwa[agI (akf ?_)];rwa[agI ?_];show wpAny _ _ (updateSeq S (·.push .none) >>=λ_=>updateSeq S (·.pop)) _ _ _;rwa[agI (aje k rfl ?_)];let z:=ahv (Obj.mapSeq (·.push Value.none)) k rfl;rwa[aje (hz:=by seq_fits) z rfl ?_];let D:=ahv (Obj.mapSeq (·.pop)) z rfl;let g:∀b o,b≠S->n.get? b\o->((n.update S (Obj.mapSeq (·.push Value.none))).update S (Obj.mapSeq (·.pop))).get? b\o:=λb o r e=>(ahx^ah5 r).trans ((ahx^ah5 r).trans e)
 let W:=(walks (prog:=prog) (w:=w) (A:=A.in1) (d:=d) (es:=es) (ep:=ep) P ↥s H).toS
 let I:S∉[↥s,d]:=λa=>by
  rcases ag4.mp a with e|a
  ·rwa[x e]
  ·rwa[h (agR.mp a)]
 rwa[agP ⟨ajm F.plain_extend_loop _,?_⟩];rwa[codeAny_extend_loopS W hlen S I res es.size 0 _ #[] _ rfl (ahg _) ⟨y.at λo e=>g _ o (ah5 x) e,eD.at l λo e=>g _ o (ah5 h) e⟩ D (ItemsOf.nil _) λj c m t G p=>?_]
 rw[Moved.eq_with t];rwa[O j.heap j.toks c m (λb o r e=>t.heap b o (λa=>?_) (g b o r (kp b o e))) G p];rcases ag4.mp a with Y|a
 ·rwa[r Y]
 ·rwa[absurd (ag8 e) (by rw[agR.mp a];rwa[ah2 _])]
def init {R:Result->Zu->Prop}(y:A.handled=none)(B:(d==sysModules)=false)(r:eD s.heap d es ep)(hlen:es.size<=sizeLine)(S:Zs)(l:s.heap.get? S\("list">>>.seq #[]))
 (x:∀g1 p a c,(∀b o,b≠S->s.heap.get? b\o->g1.get? b\o)->g1.get? S\{ cls:=.type "list",dict:=none,data:=.seq a c,slots:=#[] }->
  ItemsOf (λi v=>∃u,es[i]?\u/\v=u.key) a es.size->R (.ok (.ret .none)) { s with heap:=g1,toks:=p }):
 (prog<|>w) A.in1 (Builtin.«list.__init__» ⟨[↑S,↑d],[]⟩)
  (λfin k=>match fin with|.done f=>R (.ok f) k|.again c=>c.quiet=true/\codeAny (model prog w) A c R k) (λe k=>R (.error e) k) s:=by
 let n:d≠S:=λe=>by
  let⟨o,C,D,t⟩:=r
  cbv
 show wpAny _ _ (do let old <-Builtin.List.listItems ↑S;Builtin.List.listUpdate ↑S (λ_=>#[]);letGo old.toList.reverse;Builtin.List.listExtendWith ↑S ↑d .none) _ _ s;rwa[agI ?_];unfold Builtin.List.listItems;rwa[agI (ajr l rfl (agP ?_))];show wpAny _ _ (updateSeq S (λ_=>#[]) >>=λ_=>letGo (#[]:Zm).toList.reverse >>=λ_=>Builtin.List.listExtendWith ↑S ↑d .none) _ _ s;rwa[agI (aje l rfl ?_)];let q:=ahv (Obj.mapSeq (λ_=>(#[]:Zm))) l rfl;let h:∀b o,b≠S->s.heap.get? b\o->(s.heap.update S (Obj.mapSeq (λ_=>(#[]:Zm)))).get? b\o:=λb o j e=>(ahx^ah5 j).trans e
 rwa[agI (akg ?_)];rwa[extend (s:={ s with heap:=s.heap.update S (Obj.mapSeq (λ_=>(#[]:Zm))) }) y B (eD.at r λo e=>h _ o n e) hlen S .none _ q λg1 p a c z m g=>?_]
 rwa[x g1 p a c (λb o j e=>z b o j (h b o j e)) m g]
theorem Hk (q:A.handled=none)(t:(d==sysModules)=false)(p:eD s.heap d es ep)(hlen:es.size<=sizeLine)
 (u:∀g1 k a j,(∀b o,s.heap.get? b\o->g1.get? b\o)->g1.get? ↥s\{ cls:=.type "list",dict:=none,data:=.seq a j,slots:=#[] }->ItemsOf (λi v=>∃n,es[i]?\n/\v=n.key) a es.size->Q ↑↥s { s with heap:=g1,toks:=k }):
 (prog<|>w) A (call (.type "list") [↑d]) Q E s:=by
 rwa[callType_codes (Q₁:=λobj c=>obj=↑↥s/\c={ s with heap:=s.heap.push ("list">>>.seq #[]) }) F.called_list (F.typeCall_list_1 _) F.entry_list_init (code_list_new _ ⟨22⟩) λobj c g=>?_]
 let⟨rfl,rfl⟩:=g;let l:(s.heap.push ("list">>>.seq #[])).get? ↥s\("list">>>.seq #[]):=agZ _ rfl;rwa[⟨⟨_,l,2⟩,F.args_list_init_2 _ _,init (A:=A.in1) (s:={ s with heap:=s.heap.push ("list">>>.seq #[]) }) q t (eD.at p λo e=>agL _ e) hlen _ l λg1 k a j r h f=>?_⟩];rwa[2,u g1 k a j (λb o e=>r b o (ahk (ag8 e)) (agL _ e)) h f]
end
end Dk
structure MDef (K:Za1) (C:Zs) (x q:Str) (st:Stmt) (ps:Zp) (f:Zs) (fd:FuncData):Prop where
 F:qW K x q st f fd
 m:Meth K C x f
 b:Binds K fd ps []
open PySem.W (KasT kas_rev kas_asc kas_desc kas_tail3 kas_descPart kas_count kas_place kas_bin kas_sort kas_ask kas_ask_eq kas_runs kas_st kas_range kas_item kas_item_eq)
namespace Srt
def Gd {b:Type}(P:Nat->Nat->Prop)(f:Nat->Nat->Bool):KasT b->(b->Prop)->Prop
 |.ret a,Q=>Q a
 |.ask i j k,Q=>P i j/\Gd P f (k (f i j)) Q
section
variable {n:Nat}{key:Nat->Int}
structure Pr (n:Nat) (p:Array Nat):Prop where
 sz:p.size=n
 lt:∀i,i<n->p.getD i 0<n
 inj:∀i j,i<n->j<n->p.getD i 0=p.getD j 0->i=j
def Up (key:Nat->Int)(p:Array Nat)(m:Nat):Prop:=∀i j,i<j->j<m->key (p.getD i 0)<key (p.getD j 0)
def Dn (key:Nat->Int)(p:Array Nat)(m:Nat):Prop:=∀i j,i<j->j<m->key (p.getD j 0)<key (p.getD i 0)
def Ok (n:Nat)(key:Nat->Int)(i j:Nat):Prop:=i<n/\j<n/\key i≠key j
def Inj (n:Nat)(key:Nat->Int):Prop:=∀i j,i<n->j<n->key i=key j->i=j
abbrev ask (key:Nat->Int) (i j:Nat):Bool:=decide (key i<key j)
end
end Srt
end L2
namespace L2
open PySem PySem.Spec PyProof.Rows
def Hl:typeLookup (.type "list") "keys"=pure none:=by rw[typeLookup_type,builtinLookup_eq_fast];kernel_rfl
theorem Kl {j:Zm}{k:Nat}{Q:Zl->Zu->Prop}
 (n:s.heap.get? a\("list">>>.seq j k)) (q:A.handled=none)
 (h:∀i m,(∀b o,s.heap.get? b\o->i.get? b\o)->Q none { s with heap:=i,toks:=m }):
 (P<|>w) A (getAttr? ↑a "keys") Q E s:=by
 let⟨p,g,d,m,os⟩:=s;let l:∀c,(⟨p,g,d,c,os⟩:Zu).TypeIs ↑a "list":=λ_=>⟨_,n,2⟩
 let y:=sub_AttributeError;let t:=F.slot_list_getattribute.lookup;let r:=F.slot_list_getattribute.bind ↑a;let x:=am_list_getattr_none;unfold getAttr? getAttrBy? getAttrBy
 repeat (any_goals (first|assumption|rwa[l _]|((with_reducible show wpAny _ _ (call (Value.builtin "list.__getattribute__") _ _) _ _ _);rwa[ajX F.slot_list_getattribute (l _) am_entry_list_getattribute (F.args_list_getattribute_2 _ _) (meets_getattribute_miss_list a j k #[] "keys" _ Hl (by decide) (by decide)) ⟨n,q,λi c e f=>?_⟩])|wp_step))
 let⟨z,v,u⟩:=f.there;show wpAny _ _ (getattributeRaised _ _ _ _ _ _ _) _ _ _;unfold getattributeRaised
 repeat (any_goals (first|assumption|wp_step))
 rwa[h^f.keeps]
def oE:entryFor table "dict.update.loop"=some Builtin.«dict.update.loop»:=entryFor_of_fast (by kernel_rfl)
def iK:plainId "dict.update.loop"=true:=⋯
section
variable {prog:Program} {w:World} {K:Type} [DecidableEq K] {knd:KeyKind prog w K} {A:Around} {E:Zt->Zu->Prop}
theorem Fy {R:Result->Zu->Prop}{it l:Zs}{its:Zk}{rs:List (K×Zt)}(hh:A.in1.handled=none)(lH:l≠it)(x:d≠it)(Z:d≠l)(hlen:⇑its=⇑rs)(hsz:⇑rs<=sizeLine):
 ∀(k i:Nat) (s:Zu),⇑its - i=k->i<=⇑its->s.heap.IsListIter it l i->s.heap.IsList l its.toArray->s.heap.DictOf knd d (merged [] (rs.take i))->
 (∀(j:Nat) (u:Zt) (h:K×Zt),its[j]?\u->rs[j]?\h->∃p a,u=↑p/\p≠d/\p≠it/\knd.is h.1 a=true/\IsTup s.heap p #[a,h.2])->
 (∀m J,m.DictOf knd d (merged [] rs)->(∀b o,b≠d->b≠it->s.heap.get? b\o->m.get? b\o)->R (.ok (.ret .none)) { s with heap:=m,toks:=J })->
 codeAny (model prog w) A (.builtin "dict.update.loop" ⟨[↑d,↑it,rawInt (i:Int),.none],[]⟩) R s:=by
 let W:=Walks.list (prog:=prog) (w:=w) (A:=A.in1) hh it l lH its.toArray;let c:∀b:Zs,b≠it->b∉[it]:=λb f z=>f (agR.mp z)
 intro k
 induction k with
 |zero=>
  intro i s hk I hit hl L U N;let ei:i=⇑its:=∅
  rwa[aj4 oE ?_];rw[ajK iK _];show wpAny _ A.in1 (pyNext ↑it >>=_) _ _ s;rwa[agI (W.done s _ _ ⟨by cbv,hl⟩ λm J kp=>?_)];show wpAny _ A.in1 (Builtin.Dict.addKeywords d [] >>=_) _ _ _;rwa[agI (agP (agP ?_))];rw[aiR ∅]at L;let⟨od,x1,O,G,t⟩:=id L;rwa[N m J ⟨od,x1,O,kp _ _ (c _ x) G,t⟩ λb o _ f e=>kp b o (c _ f) e]
 |succ k ih=>
  intro i s hk I hit hl L U N;let lG:i<⇑its:=∅
  rwa[aj4 oE ?_];rw[ajK iK _];show wpAny _ A.in1 (pyNext ↑it >>=_) _ _ s;rwa[agI (W.item i s _ _ ∅ ⟨hit,hl⟩ λv m J hP V kp=>?_)];let⟨y,Mz⟩:=V;let Y:its[i]?\v:=by simpa using hP
  let r:rs[i]?\(rs[i]'∅):=agJ ∅
  generalize rs[i]'∅=h at r;let⟨p,a,rfl,pd,pi,C,o,ho,hc,n,D⟩:=U i v h Y r;let F:=kp _ _ (c _ pi) ho;let AB:rs.take (i+ 1)=rs.take i++[h]:=by rw[aim,r];rfl
  let hd2:m.DictOf knd d (merged [] (rs.take i)):=by
   let⟨od,x1,O,G,t⟩:=id L;rwa[od,x1,O,kp _ _ (c _ x) G,t]
  let hml:=merged_length_le ([]:List (K×Zt)) (rs.take i)
  let B:⇑(merged [] (rs.take i))<=sizeLine:=by
   rw[ahr,aio]at hml;ext
  show wpAny _ A.in1 (holding [Value.ref p] _ >>=_) _ _ _;rwa[agI (ahY ?_)];rwa[agI (akk ?_)];show wpAny _ A.in1 (typeOf (Value.ref p) >>=_) _ _ _;rwa[agI (ajk (T:="tuple") ⟨o,F,hc⟩ ?_)];rw[ahf ⋯];rwa[agI (ajr F D ?_)];rwa[agP ?_];show wpAny _ A.in1 (holding [a,h.2] (dictSet d a h.2)) _ _ _;rwa[ahY (wpAny_dictSet_pairs C hd2 (λg P sb=>?_) B)];let H:∀b o,b≠d->m.get? b\o->g.get? b\o:=λb o f e=>(sb.2 b f).trans e
  rwa[agP ⟨ajm iK _,5⟩];let q:rawInt ((i:Int)+ 1)=rawInt (((i+ 1:Nat)):Int):=rfl;rw[q];rwa[ih (i+ 1) _ ∅ ∅ (y.at λo e=>H _ _ (ah5 x) e) (Mz.at λo e=>H _ _ (ah5 Z) e) ?_ ?_ ?_]
  ·rw[AB,merged,ajf];rwa[P]
  ·intro j u M G t;let⟨p,a,rfl,a1,a2,a3,o,b1,b2⟩:=U j u M G t;rwa[p,a,2,a1,a2,a3,o,H _ _ a1 (kp _ _ (c _ a2) b1),b2]
  ·intro t Q X S;rwa[N t Q X λb o f I e=>S b o f I (H _ _ f (kp _ _ (c _ I) e))]
theorem xO {rs:List (K×Zt)}(G:A.handled=none)(hlen:⇑N=⇑rs)(C:⇑rs<=sizeLine)
 (O:s.heap.get? a\("list">>>.seq N.toArray n))
 (U:∀(j:Nat) (u:Zt) (m:K×Zt),N[j]?\u->rs[j]?\m->∃p d,u=↑p/\knd.is m.1 d=true/\IsTup s.heap p #[d,m.2])
 (W:∀q L,q.DictOf knd ↥s (merged [] rs)->(∀b o,s.heap.get? b\o->q.get? b\o)->Q ↑↥s { s with heap:=q,toks:=L }):
 (prog<|>w) A (call (.type "dict") [↑a]) Q E s:=by
 rwa[callType_codes (Q₁:=λobj f=>obj=↑↥s/\f={ s with heap:=s.heap.push ("dict">>>.dict #[]) }) F.kt_called_dict (F.kt_typeCall_dict_1 _) F.entry_dict_init (kt_code_dict_new _ ⟨22⟩) ?_];rintro obj f ⟨rfl,rfl⟩;let c:(s.heap.push ("dict">>>.dict #[])).DictOf knd ↥s []:=Heap.DictOf.new s.heap;let k:(s.heap.push ("dict">>>.dict #[])).get? a\("list">>>.seq N.toArray n):=agL _ O;let x:=ag8 O;erw[c.typeIs,F.args_dict_init_2 _ _];unfold Builtin.«dict.__init__»;rwa[agI ?_];unfold Builtin.Dict.selfAndRest;rwa[agI (ajC c.typeIs ?_)];show wpAny _ _ (pure (↥s,[Value.ref a])) _ _ _;rwa[agP ?_];show wpAny _ _ (Builtin.Dict.updateFrom "dict.__init__" ↥s ↑a [] .none) _ _ _;unfold Builtin.Dict.updateFrom;rwa[agI (ajk (T:="list") ⟨_,k,2⟩ ?_)];rw[ahf ⋯];rwa[agI (Kl k G λg L kp=>?_)];rw[ahf ⋯];rwa[agI (akf ?_)];let i:=kp^k;rwa[agI (ai8 (items:=N.toArray) ⟨_,i,2,n,2⟩ ?_)]
 let h:↥s<g.objs.size:=by
  let⟨H,_,_,r,_⟩:=id c;rwa[ag8 (kp^r)]
 let y:=ag8 i;let M:∀b o,s.heap.get? b\o->(g.push ("list_iterator">>>.fields #[↑a,.int 0 0])).get? b\o:=λb o e=>agL _ (kp^agL _ e)
 rwa[agP ⟨ajm iK _,Fy (knd:=knd) (A:=A.in1) (rs:=rs) (its:=N) (l:=a) (it:=g.objs.size) G (ahk y) (ahk h) (ah0 x) hlen C ⇑N 0 _ rfl (ahg _) ?_ ⟨_,agL _ i,2,n,2⟩ ?_ ?_ ?_⟩]
 ·rwa[_,agZ _ rfl,22]
 ·let⟨H,V,R,r,B⟩:=id c;rwa[H,V,R,agL _ (kp^r),B]
 ·intro j u m r B;let⟨p,d,rfl,S,o,I,P⟩:=U j u m r B;let l:=ag8 I;rwa[p,d,2,ahk l,ahk (ajY l h),S,o,M^I,P]
 ·intro q v z t;rwa[⟨2,W q v z λb o e=>?_⟩];let D:=ag8 e;rwa[t b o (ahk D) (ahk (ajY D h)) (M^e)]
end
section
variable {X:Cx}
inductive Hm (xs:Zb) (H:Hp) (Q:VK):Prop
 |mk (l:Zs) (ps:Zn) (kvs:List (Key×V)):xs=[↑l]->H l\.lst (ps.map V.ref)->⇑ps=⇑kvs->(∀(i:Nat) (p:Zs) (kv:Key×V),ps[i]?\p->kvs[i]?\kv->H p\.tup [kV kv.1,kv.2])->(∀d,H d=none->Q ↑d (upd H d (.dK (iZ [] kvs))))->Hm xs H Q
theorem Km (ok:dH P w H h):∀(c:Zn) (a:List (Key×V)),⇑c=⇑a->(∀(i:Nat) (p:Zs) (b:Key×V),c[i]?\p->a[i]?\b->H p\.tup [kV b.1,b.2])->
 ∃l:List (Key×Zt),KV a l/\∀(j:Nat) (p:Zs) (b:Key×Zt),c[j]?\p->l[j]?\b->∃f,(bQ P w).is b.1 f=true/\IsTup h p #[f,b.2]:=by
 intro c
 induction c with
 |nil=>exact λa k _=>by cases a with|nil=>exact⟨[],.nil,λj p b d=>by simp at d⟩|cons=>ext k
 |cons p c z=>
  intro a k n
  cases a with
  |nil=>ext k
  |cons b a=>
   let⟨l,y,r⟩:=z a (by simpa using k) λi q b d g=>n (i+ 1) q b (by simpa using d) (by simpa using g)
   obtain⟨-,o,s,x⟩:=ok p _ (n 0 p b rfl rfl);let⟨u,v,rfl,t,m⟩:=vals2 s;rwa[⟨(b.1,v)::l,.cons ⟨2,m⟩ y,λj q e d g=>?_⟩]
   cases j with
   |zero=>
    obtain rfl:p=q:=by simpa using d
    obtain rfl:(b.1,v)=e:=by simpa using g
    rwa[u,jR t,x]
   |succ j=>exact r j q e (by simpa using d) (by simpa using g)
def vE (z:X.calm=true):ie X (.type "dict") Hm:=by
 intro k s R H N O Q I r h;let⟨l,i,a,rfl,J,hlen,t,q⟩:=h;let⟨u,rfl,E⟩:=vals1 r;ext E;let⟨B,v,c,D,L⟩:=I.aO l _ J;obtain rfl:=q9 D;let⟨rs,m,w⟩:=Km I.aO i a hlen t;let M:⇑a=⇑rs:=⇑m;rw[agO]at B;rwa[xO (knd:=bQ X.prog X.w) (rs:=rs) (I.ok.hd z) (by cbv) ∅ L (λj u y b A=>?_) λg F C kp=>?_]
 ·rw[ag0]at b
  cases f:i[j]? with
  |none=>rw[f]at b;ext b
  |some p=>
   rw[f]at b;let⟨d,n,G⟩:=w j p y f A;rwa[p,d,(Za0 b).symm,n,G]
 ·let o:KV (iZ [] a) (merged [] rs):=KV.merge m .nil;let e:=lu a [];rw[aio]at e;rwa[↑↥s,_,I.laid (t':=F) kp (agQ _) (qZ ∅ (ag9.mpr (ah5 (ahk I.big))) o C),2,q _ (I.aO.fresh (agQ _))]
end
section
variable {X:Cx}{pins:List (Zs×Obj)}{σ:St}{H:Hp}{s:Zu}{d:Zs}{u:HO}{o:Obj}
def Inv.freeze (I:Inv X pins σ H s)(e:H d\u)(mu:tS (some u))(g:s.heap.get? d\o):Inv X pins σ (upd H d (.cR o u)) s:=by
 let a:tS (H d):=by rw[e];rwa[mu]
 let b:∀c y,H c\.own y->c≠d:=λc y r z=>by subst z;rw[r]at a;rwa[a]
 let jg:∀c f,H c\.tup f->c≠d:=λc f r z=>by subst z;rw[r]at a;rwa[a]
 let new:bV X.prog X.w (upd H d (.cR o u)) s.heap d u:=(I.aO d u e).fy (λc v _ r=>r) (λc r=>[ak (b^r)]▸r) λc f r=>by rw[ak (jg^r)];rwa[r]
 rwa[kb (t':=s.toks) I a (Heap.SameBut.refl _ _) ⟨o,g⟩ ⟨g,new⟩]
def Inv.Fz (I:Inv X pins σ H s)(e:H d\.cR o u)(mu:tS (some u))(l:∀o u,X.ur d≠some (.cR o u)):Inv X pins σ (upd H d u) s:=by
 let j:∀b,H b=none->b≠d:=λb n z=>by cbv
 let h:∀c y,H c\.own y->c≠d:=λc y r z=>by cbv
 let jg:∀c g,H c\.tup g->c≠d:=λc g r z=>by cbv
 rwa[⟨I.ok,I.os,I.bare,⟨I.base.keep,I.base.slot,λb i q n A=>?_,I.base.there,λb g q=>?_,λb i v q=>?_,λb w q=>?_⟩,I.loc,I.cell,5,λx c q=>?_,λp t=>?_,λb v q=>?_,I.len⟩]
 ·let f:=I.base.free b i q n A;rw[ak (j b f)];rwa[f]
 ·let f:=I.base.iq b g q;rw[ak (jg^f)];rwa[f]
 ·let f:=I.base.gN b i v q;rw[ak (λz=>l i v (by rw[<-z];rwa[q]))];rwa[f]
 ·let⟨m,f⟩:=I.base.iu b w q;erw[m];rw[ak (λz=>by cbv)];rwa[f]
 ·rw[ak (j _ I.free)];rwa[I.free]
 ·let f:=I.gO x c q;rw[ak (j _ f)];rwa[f]
 ·let⟨a,b,c⟩:=I.pin p t;rwa[⟨a,5,c⟩];rw[ak (j _ b)];rwa[b]
 ·let st:∀b v,bV X.prog X.w H s.heap b v->bV X.prog X.w (upd H d u) s.heap b v:=λb v q=>q.fy (λc v _ r=>r) (λc r=>[ak (h^r)]▸r) λc g r=>by rw[ak (jg^r)];rwa[r]
  by_cases k:b=d
  ·subst k;rw[ah]at q;obtain rfl:=Za0 q;rwa[st^(I.aO^e).2]
  ·rw[ak k]at q;rwa[st^I.aO b v q]
def Inv.Kn (I:Inv X pins σ H s)(e:H d\u)(mu:tS (some u)):∀o u,X.ur d≠some (.cR o u):=λo v q=>by
 rw[I.base.gN d o v q]at e;ext e;rwa[mu]
def Vw (t:TS):TS:=λD σ H=>∃(d:Zs) (u:HO),H d\u/\tS (some u)/\
 t { nx:=λ b a=>∃o,a d\.cR o u/\D.nx b (upd a d u),rt:=λv a=>∃o,a d\.cR o u/\D.rt v (upd a d u),
     bk:=λ b a=>∃o,a d\.cR o u/\D.bk b (upd a d u),ct:=λ b a=>∃o,a d\.cR o u/\D.ct b (upd a d u) } σ H
def DZ {st:Stmt}{t:TS}(h:PS X st t):PS X st (Vw t):=by
 intro pins s σ H D I q;let⟨d,u,e,mu,q⟩:=q;let i:=I.Kn e mu;rwa[a9 (h pins s σ H _ I q) λf l p=>?_]
 cases f with
 |next=>let⟨a,j,c,o,b,g⟩:=p;rwa[a,_,c.Fz b mu i,g]
 |brk=>let⟨a,j,c,o,b,g⟩:=p;rwa[a,_,c.Fz b mu i,g]
 |cont=>let⟨a,j,c,o,b,g⟩:=p;rwa[a,_,c.Fz b mu i,g]
 |ret v=>let⟨k,a,j,c,r,o,b,g⟩:=p;rwa[k,a,_,c.Fz b mu i,r,g]
end
def AF (d:Zs)(o:Obj)(a:List (Key×V)):It:=
 ⟨λi H=>i<⇑a/\H d\.cR o (.dK a),λi H x c=>c=H/\∃b,a[i]?\b/\x=kV b.1,λi H=>⇑a<=i/\H d\.cR o (.dK a)⟩
def OB {k:Key}(h:(bQ P w).is k v=true):RelV (kV k) v:=by
 cases k with
 |inl i=>
  let a:Value.isInt i v=true:=h
  cases v with
  |int j t=>simp[Value.isInt]at a;subst a;rwa[12]
  |_=>simp[Value.isInt]at a
 |inr x=>
  let a:Value.isStrOf x v=true:=h
  cases v with
  |str j t=>simp[Value.isStrOf]at a;subst a;rwa[12]
  |_=>simp[Value.isStrOf]at a
inductive Dt where
 |i (n:Int)|s (l:Zh)|n|b (k:Bool)|t (xs:List Dt)|l (xs:List Dt)
inductive bK (H:Hp):Nat->V->Dt->Prop where
 |i {k:Nat} {n:Int}:bK H k (.int n) (.i n)
 |s {k:Nat} {l:Zh}:bK H k (.str (tx l)) (.s l)
 |n {k:Nat}:bK H k .non .n
 |b {k:Nat} {c:Bool}:bK H k (.bl c) (.b c)
 |t {k:Nat} {a:Zs} {vs:Zb} {ds:List Dt}:H a\.tup vs->⇑vs=⇑ds->(∀(j:Nat) (v:V) (d:Dt),vs[j]?\v->ds[j]?\d->bK H k v d)->bK H (k+ 1) ↑a (.t ds)
 |l {k:Nat} {a:Zs} {vs:Zb} {ds:List Dt}:H a\.lst vs->⇑vs=⇑ds->(∀(j:Nat) (v:V) (d:Dt),vs[j]?\v->ds[j]?\d->bK H k v d)->bK H (k+ 1) ↑a (.l ds)
def bK.keep (g:∀a e,H a\.tup e->I a\.tup e)(j:∀a e,H a\.lst e->I a\.lst e){k:Nat}{v:V}{d:Dt}(h:bK H k v d):bK I k v d:=by
 induction h with
 |i=>exact .i
 |s=>exact .s
 |n=>exact .n
 |b=>exact .b
 |t a b c f=>exact .t (g^a) b f
 |l a b c f=>exact .l (j^a) b f
def bK.same (s:aq H I){k:Nat}{v:V}{d:Dt}(h:bK H k v d):bK I k v d:=h.keep (λ_ _ e=>s^e) (λ_ _ e=>s^e)
def bK.up {k:Nat}{d:Dt}(h:bK H k q d):bK H (k+ 1) q d:=by
 induction h with
 |i=>exact .i
 |s=>exact .s
 |n=>exact .n
 |b=>exact .b
 |t a b c e=>exact .t a b e
 |l a b c e=>exact .l a b e
def bK.le {k:Nat}{d:Dt}(h:bK H k q d)(a:k<=m):bK H m q d:=by
 let⟨j,rfl⟩:=Nat.exists_eq_add_of_le a;clear a
 induction j with
 |zero=>exact h
 |succ j b=>exact b.up
section
variable {X:Cx}{pins:List (Zs×Obj)}{σ:St}{H:Hp}{s:Zu}
def tY (n:Int)(t a:Tok):SeqAt.EqAt A s (.int n t) (.int n a) true:=by
 have:=SeqAt.EqAt.int_int (A:=A) (s:=s) n t n a
 cbv
def tZ (x:Str)(t a:Tok):SeqAt.EqAt A s (.str x t) (.str x a) true:=by
 have:=SeqAt.EqAt.str_str (A:=A) (s:=s) x t x a
 cbv
theorem Vx (I:Inv X pins σ H s):∀(k:Nat) (A:Around) (v z:V) (u B:Zt) (d:Dt),A.units+ k<cLine->bK H k v d->bK H k z d->RelV v u->RelV z B->SeqAt.EqAt A s u B true:=by
 intro k
 induction k with
 |zero=>
  intro A v z u B d hu h g r m
  cases h with
  | @i n=>cases g with|i=>?_
          let⟨t,rfl⟩:=r;let⟨N,rfl⟩:=m;rwa[tY^_]
  | @s l=>cases g with|s=>?_
          let⟨t,rfl⟩:=r;let⟨N,rfl⟩:=m;rwa[tZ^_]
  |n=>cases g with|n=>?_
      ext r;ext m;rwa[SeqAt.EqAt.same _]
  | @b c=>cases g with|b=>?_
          ext r;ext m;rwa[SeqAt.EqAt.same _]
 |succ k ih=>
  intro A v z u B d hu h g r m
  cases h with
  | @i _ n=>cases g with|i=>?_
            let⟨t,rfl⟩:=r;let⟨N,rfl⟩:=m;rwa[tY^_]
  | @s _ l=>cases g with|s=>?_
            let⟨t,rfl⟩:=r;let⟨N,rfl⟩:=m;rwa[tZ^_]
  |n=>cases g with|n=>?_
      ext r;ext m;rwa[SeqAt.EqAt.same _]
  | @b _ c=>cases g with|b=>?_
            ext r;ext m;rwa[SeqAt.EqAt.same _]
  | @t _ a y q G T U=>
    cases g with
    | @t _ b o _ E S P=>
      ext r;ext m;by_cases e:a=b
      ·subst e;rwa[SeqAt.EqAt.same _]
      ·rwa[SeqAt.EqAt.of_refs e ?_];let⟨p,x,D,_⟩:=I.tuple (bG.of G);let⟨f,w,F,_⟩:=I.tuple (bG.of E);let O:=⇑x;let Y:=⇑w;have:=SeqAt.RcAt.tuples (A:=A) (e:=λ_=>true) (show s.heap.IsTuple a p.toArray from D) (show s.heap.IsTuple b f.toArray from F) ∅ (λj L C=>?_)
       ·cbv
       ·let Q:j<⇑p:=by simpa using L
        let k2:j<⇑f:=by simpa using C
        let M:y[j]?\(y[j]'∅):=agJ ∅
        let J:o[j]?\(o[j]'∅):=agJ ∅
        let W:q[j]?\(q[j]'∅):=agJ ∅
        let⟨Z,e1,z1⟩:=x.get M;let⟨R,e2,z2⟩:=w.get J
        cbv
  | @l _ a y q G T U=>
    cases g with
    | @l _ b o _ E S P=>
      ext r;ext m;by_cases e:a=b
      ·subst e;rwa[SeqAt.EqAt.same _]
      ·rwa[SeqAt.EqAt.of_refs e ?_];let⟨p,x,D,_⟩:=I.list (aD.of G);let⟨f,w,F,_⟩:=I.list (aD.of E);let O:=⇑x;let Y:=⇑w;have:=SeqAt.RcAt.lists (A:=A) (e:=λ_=>true) D.isList F.isList (by simp;omega) ∅ (λj L C=>?_)
       ·rw[all_true _ _ λ_=>rfl]at this;rwa[this]
       ·let Q:j<⇑p:=by simpa using L
        let k2:j<⇑f:=by simpa using C
        let M:y[j]?\(y[j]'∅):=agJ ∅
        let J:o[j]?\(o[j]'∅):=agJ ∅
        let W:q[j]?\(q[j]'∅):=agJ ∅
        let⟨Z,e1,z1⟩:=x.get M;let⟨R,e2,z2⟩:=w.get J
        cbv
end
section
variable {X:Cx}
theorem AG (I:Inv X o D H s){k:Nat}{A:Around}(x:A.units+ k<cLine){e c:Zb}{b a:Zk}{ds:List Dt}(l:Vals e b)(f:Vals c a)(G:⇑e=⇑ds)(F:⇑c=⇑ds)
 (B:∀(j:Nat) (v:V) (d:Dt),e[j]?\v->ds[j]?\d->bK H k v d) (p:∀(j:Nat) (v:V) (d:Dt),c[j]?\v->ds[j]?\d->bK H k v d) (j:Nat) (u:j<b.toArray.size) (m:j<a.toArray.size):SeqAt.EqAt A s b.toArray[j] a.toArray[j] true:=by
 let E:=⇑l;let J:=⇑f;let q:j<⇑b:=by simpa using u
 let z:j<⇑a:=by simpa using m
 let i:e[j]?\(e[j]'∅):=agJ ∅
 let h:c[j]?\(c[j]'∅):=agJ ∅
 let g:ds[j]?\(ds[j]'∅):=agJ ∅
 let⟨w,y,z1⟩:=l.get i;let⟨r,n,z2⟩:=f.get h;let C:b.toArray[j]=w:=by rw[ai4];rwa[Za0 ((agJ q).symm.trans y)]
 let t:a.toArray[j]=r:=by rw[ai4];rwa[Za0 ((agJ z).symm.trans n)]
 rw[C,t];rwa[Vx I k _ _ _ _ _ _ x (B j _ _ i g) (p j _ _ h g) z1 z2]
inductive Vy (x:V) (y:V) (H:Hp) (Q:VK):Prop
 |mk (d:Dt) (a b:Zs):x=↑a->y=↑b->bK H 8 x d->bK H 8 y d->Q (.bl true) H->Vy x y H Q
inductive MA (x:V) (y:V) (H:Hp) (Q:VK):Prop
 |mk (d:Dt) (a b:Zs):x=↑a->y=↑b->bK H 8 x d->bK H 8 y d->Q (.bl false) H->MA x y H Q
def OD (M:X.A.units+ 8<cLine):gn X (compareOp .NotEq) MA:=by
 intro D s N H x y v u Q I L G h;let⟨d,a,b,rfl,rfl,h,E,q⟩:=h;ext L;ext G
 cases h with
 |t A w B=>
  cases E with
  |t r p m=>
   let⟨n,g,o,_⟩:=I.tuple (bG.of A);let⟨f,c,z,_⟩:=I.tuple (bG.of r);let F:=⇑g;let J:=⇑c;rwa[SeqAt.RcNeAt.tuples (e:=λ_=>true) (show s.heap.IsTuple a _ from o) (show s.heap.IsTuple b _ from z) ∅ (λj C i=>AG I (k:=7) ∅ g c w p B m j C i) X.prog X.w X.xe _ ⟨.bl false,H,I,5,q⟩];show _=Value.bool false
   cbv
 |l A w B=>
  cases E with
  |l r p m=>
   let⟨n,g,o,_⟩:=I.list (aD.of A);let⟨f,c,z,_⟩:=I.list (aD.of r);let F:=⇑g;let J:=⇑c;rwa[SeqAt.RcNeAt.lists (e:=λ_=>true) o.isList z.isList (by simp;omega) ∅ (λj C i=>AG I (k:=7) ∅ g c w p B m j C i) X.prog X.w X.xe _ ⟨.bl false,H,I,5,q⟩];show _=Value.bool false;rw[all_true _ _ λ_=>rfl];rfl
end
noncomputable def nI (l:Zh):Zg:=l.map λn:Nat=>(n:Int)
def b6 (l:Zh):⇑(nI l)=⇑l:=agO ..
def jT (h:B[i]?\n):(nI B)[i]?\(n:Int):=by unfold nI;rw[ag0,h];rfl
def i3 (a b:Zh):nI (a++b)=nI a++nI b:=aho ..
def Rq (l:Zh)(i n:Nat):(nI l).set i (n:Int)=nI (l.set i n):=by unfold nI;rw[List.map_set]
structure RS where
 L:Nat
 made:Nat
 rows:List Dt
 ways:List (List (Int×Nat))
 gaps:Za3
 aU:Zh
 called:List Zh
 aZ:Zh
noncomputable def wK (l:List (Int×Nat)):List (Key×V):=l.map λp=>(Sum.inl p.1,V.int p.2)
noncomputable def gK (l:Zg):List (Key×V):=l.map λs=>(Sum.inl s,V.bl true)
noncomputable def fz (l:List (Int×Nat))(s:Int):Zi:=(l.find? λp=>decide (p.1=s)).map (·.2)
noncomputable def iY (l:List (Int×Nat))(s:Int)(r:Nat):List (Int×Nat):=if (l.any λp=>decide (p.1=s))=true then l.map λp=>if p.1=s then (p.1,r) else p else l++[(s,r)]
def AH (l:List (Int×Nat)):⇑(wK l)=⇑l:=agO ..
def Rt (l:Zg):⇑(gK l)=⇑l:=agO ..
def Ru (a b:Int):decide ((Sum.inl a:Key)=Sum.inl b)=decide (a=b):=by
 cbv
theorem kS (s:Int):∀l:List (Int×Nat),bD (wK l) (Sum.inl s)=(fz l s).map λr:Nat=>V.int (r:Int)
 |[]=>rfl
 |p::l=>by
  let b:=kS s l;by_cases h:p.1=s
  ·let e:bD (wK (p::l)) (Sum.inl s)\(V.int p.2):=cS (p:=(Sum.inl p.1,V.int p.2)) (by rw[h]);let a:fz (p::l) s\p.2:=by unfold fz;rw[List.find?_cons_of_pos (by cbv)];rfl
   rw[e,a];rfl
  ·let e:bD (wK (p::l)) (Sum.inl s)=bD (wK l) (Sum.inl s):=cM (p:=(Sum.inl p.1,V.int p.2)) (λz=>h (Sum.inl.inj z));let a:fz (p::l) s=fz l s:=by unfold fz;rw[ajt (by simpa using h)]
   rw[e,a,b]
def AI (l:List (Int×Nat))(s:Int)(r:Nat):putK (wK l) (Sum.inl s) (.int r)=wK (iY l s r):=by
 unfold putK iY
 let a:((wK l).any λb=>decide (b.1=Sum.inl s))=l.any λp=>decide (p.1=s):=by
  unfold wK;rw[List.any_map]
  congr 1
  funext p
  rwa[Ru _ _]
 rw[a];split
 ·unfold wK;rw[ahE,ahE];rwa[ahS λp _=>?_]
  cbv
 ·unfold wK;rw[aho];rfl
def Ko (l:List (Int×Nat))(s t:Int)(r:Nat):fz (iY l s r) t=if t=s then some r else fz l t:=by
 let c:=kS t (iY l s r);rw[<-AI,pL,kS]at c
 let inj:∀a b:Zi,(a.map λr:Nat=>V.int (r:Int))=(b.map λr:Nat=>V.int (r:Int))->a=b:=λa b h=>by
  cases a <;> cases b <;> simp at h ⊢
  ext
 apply inj;rw[<-c];by_cases e:t=s
 ·rw[ahf e,ahf (by rw[e])];rfl
 ·rw[ahc e,ahc (λz=>e (Sum.inl.inj z))]
def Kq (l:List (Int×Nat))(s:Int)(r:Nat):⇑(iY l s r)<=⇑l+ 1:=by
 unfold iY;split
 ·rw[agO];ext
 ·rw[agN];rwa[agQ _]
def OG (l:Zg)(s:Int):fj (gK l) (Sum.inl s)=gK (l.filter λx=>decide (x≠s)):=by
 unfold fj gK;rw[List.filter_map]
 congr 1
 rwa[akh λx _=>?_]
 cbv
theorem Hn (s:Int):∀l:Zg,bD (gK l) (Sum.inl s)=if s∈l then some (V.bl true) else none
 |[]=>rfl
 |x::l=>by
  by_cases h:x=s
  ·rw[ahf (by cbv)];rwa[cS (p:=(Sum.inl x,V.bl true)) (by rw[h])]
  ·let e:bD (gK (x::l)) (Sum.inl s)=bD (gK l) (Sum.inl s):=cM (p:=(Sum.inl x,V.bl true)) (λz=>h (Sum.inl.inj z));rw[e,Hn s l]
   cbv
theorem yG:∀(more acc:List (Key×V)),((acc++more).map (·.1)).Nodup->iZ acc more=acc++more
 |[],acc,_=>(ahl _).symm
 |p::more,acc,h=>by
  let b:bD acc p.1=none:=by
   unfold bD;rw[List.find?_eq_none.mpr ?_];rfl;intro q a;rw[ahD];intro e;rw[aho,ahK]at h;rwa[h.2.2 q.1 (ajn a) p.1 (ajn ag2) e]
  show iZ (putK acc p.1 p.2) more=_;rw[Ar _ b,yG more (acc++[(p.1,p.2)]) ([ahJ]▸h),ahJ];rfl
structure RA where
 dx:Zs
 aR:Zs
 aW:Zs
 aG:Zs
 aE:Zs
 aC:Zs
 aN:Zs
 rs:Zn
 ws:Zn
 gs:Zn
 cs:Zn
noncomputable def fA (L made:Int)(a:RA):List (Str×V):=[("letters",.int L),("made",.int made),("rows",↑a.aR),("ways",↑a.aW),("gaps",↑a.aG),("elders",↑a.aE),("called",↑a.aC),("went",↑a.aN)]
def Ho (L m n:Int)(a:RA):bL "made" (.int n) (fA L m a)=fA L n a:=by
 let h:¬(("letters":Str)="made"):=⋯
 unfold fA;simp only[bL,ahc h,akp]
def vF (L m:Int)(a:RA):(fA L m a).lookup ("letters":Str)\(.int L):=by kernel_rfl
def sW (L m:Int)(a:RA):(fA L m a).lookup ("made":Str)\(.int m):=by kernel_rfl
def sX (L m:Int)(a:RA):(fA L m a).lookup ("rows":Str)\↑a.aR:=by kernel_rfl
def iL (L m:Int)(a:RA):(fA L m a).lookup ("ways":Str)\↑a.aW:=by kernel_rfl
def sY (L m:Int)(a:RA):(fA L m a).lookup ("gaps":Str)\↑a.aG:=by kernel_rfl
def jt (L m:Int)(a:RA):(fA L m a).lookup ("elders":Str)\↑a.aE:=by kernel_rfl
def nh (L m:Int)(a:RA):(fA L m a).lookup ("called":Str)\↑a.aC:=by kernel_rfl
def sZ (L m:Int)(a:RA):(fA L m a).lookup ("went":Str)\↑a.aN:=by kernel_rfl
def cK (L m:Int)(a:RA){x:Str}(h:x∉(["letters","made","rows","ways","gaps","elders","called","went"]:Zp)):(fA L m a).lookup x=none:=by
 simp only[ag4,ahy,aiY,not_or]at h;let⟨e,b,g,i,c,d,f,j⟩:=h;unfold fA;simp only[List.lookup,ag9.mpr e,ag9.mpr b,ag9.mpr g,ag9.mpr i,ag9.mpr c,ag9.mpr d,ag9.mpr f,ag9.mpr j]
theorem dM:∀{fs:List (Str×V)},fs.lookup f=none->bL f q fs=fs++[(f,q)]
 |[],_=>rfl
 |(g,x)::r,h=>by
  by_cases e:g=f
  ·cbv
  ·let a:(f==g)=false:=ag9.mpr (ah5 e);simp only[List.lookup,a]at h;show (if g=f then _ else _)=_;rw[ahc e,dM h];rfl
inductive mB:Dt->Prop where
 |i {n:Int}:mB (.i n)
 |s {l:Zh}:mB (.s l)
 |t {ds:List Dt}:⇑ds<=100000->(∀d∈ds,mB d)->mB (.t ds)
def bK.fZ (o:∀a f,H a\.tup f->I a\.tup f){k:Nat}{v:V}{d:Dt}(h:bK H k v d)(g:mB d):bK I k v d:=by
 induction h with
 |i=>exact .i
 |s=>exact .s
 |n=>exact .n
 |b=>exact .b
 |t a b c m=>
  cases g with
  |t _ q=>exact .t (o^a) b λj v d p e=>m j v d p e (q d (agK e))
 |l a b c m=>ext g
def Each {a:Type}(R:Zs->a->Prop)(b:Zn)(xs:List a):Prop:=⇑b=⇑xs/\∀(i:Nat) (p:Zs) (x:a),b[i]?\p->xs[i]?\x->R p x
def Each.imp {d:Type}{R c:Zs->d->Prop}{a:List d}(h:Each R F a)(f:∀p x,p∈F->x∈a->R p x->c p x):Each c F a:=
 ⟨h.1,λi p x e b=>f p x (agK e) (agK b) (h.2 i p x e b)⟩
def Each.snoc {d:Type}{R:Zs->d->Prop}{ps:Zn}{xs:List d}{x:d}(h:Each R ps xs)(f:R a x):Each R (ps++[a]) (xs++[x]):=by
 rwa[⟨by rw[agN,agN,h.1];rfl,λi q y c b=>?_⟩];by_cases e:i<⇑ps
 ·rw[agV e]at c;rw[agV (by rw[<-h.1];rwa[e])]at b;rwa[h.2 i q y c b]
 ·rw[agW ∅]at c;rw[agW (by rw[<-h.1];omega)]at b;rw[agR.mp (agK c),agR.mp (agK b)];rwa[f]
theorem Each.at {a:Type}{R:Zs->a->Prop}{b:List a}(h:Each R F b){i:Nat}{x:a}(c:b[i]?\x):∃p,F[i]?\p/\R p x:=by
 let d:i<⇑F:=by rw[h.1];rwa[(agM.mp c).1]
 rwa[_,agJ d,h.2 i _ x (agJ d) c]
def Each.mem {b:Type}{R:Zs->b->Prop}{xs:List b}(h:Each R F xs){p:Zs}(d:p∈F):∃x,x∈xs/\R p x:=by
 let⟨i,c⟩:=ahF d;let a:i<⇑xs:=by rw[<-h.1];rwa[(agM.mp c).1]
 rwa[_,agK (agJ a),h.2 i p _ c (agJ a)]
def Each.set {c:Type}{R b:Zs->c->Prop}{xs:List c}{x:c}(h:Each R F xs)(k:F[i]?\a)(m:b a x)(l:F.Nodup)(f:∀q y,q∈F->q≠a->R q y->b q y):Each b F (xs.set i x):=by
 rwa[⟨[ahj]▸h.1,λj q y d g=>?_⟩];by_cases e:i=j
 ·cbv
 ·rw[ah8 e]at g;rwa[f q y (agK d) (λz=>?_) (h.2 j q y d g)];subst z;rwa[e ((aki (agM.mp k).1 l).mp (k.trans d.symm))]
noncomputable def RA.lists (a:RA):Zn:=a.aR::a.aW::a.aG::a.aE::a.aC::a.aN::a.cs
noncomputable def RA.eP (a:RA):Zn:=a.ws++a.gs
def RA.own (a:RA)(r b:Zs):Prop:=b=r\/b∈a.lists\/b∈a.eP
structure ay (C:Zs) (H:Hp) (r:Zs) (S:RS) (a:RA):Prop where
 ins:H r\(.ins C a.dx (fA S.L S.made a))
 hR:H a.aR\(.lst (a.rs.map V.ref))
 hW:H a.aW\(.lst (a.ws.map V.ref))
 hG:H a.aG\(.lst (a.gs.map V.ref))
 hE:H a.aE\(.lst (ao (nI S.aU)))
 hC:H a.aC\(.lst (a.cs.map V.ref))
 hN:H a.aN\(.lst (ao (nI S.aZ)))
 rR:Each (λp d=>bK H 4 ↑p d) a.rs S.rows
 rW:Each (λp l=>H p\.dK (wK l)) a.ws S.ways
 rG:Each (λp l=>H p\.dK (gK l)) a.gs S.gaps
 rC:Each (λp l=>H p\.lst (ao (nI l))) a.cs S.called
 flat:∀d∈S.rows,mB d
 iT:a.lists.Nodup
 mC:a.eP.Nodup
section
variable {C:Zs}{H H':Hp}{r:Zs}{S:RS}{a:RA}
def ay.keep (h:ay C H r S a)(k:∀b o,a.own r b->H b\o->H' b\o)(j:∀b g,H b\.tup g->H' b\.tup g):ay C H' r S a:=by
 let c:∀b o,b∈a.lists->H b\o->H' b\o:=λb o f=>k b o (.inr (.inl f))
 let i:∀b o,b∈a.eP->H b\o->H' b\o:=λb o f=>k b o (.inr (.inr f))
 rwa[k _ _ (.inl rfl) h.ins,c _ _ (by simp[RA.lists]) h.hR,c _ _ (by simp[RA.lists]) h.hW,c _ _ (by simp[RA.lists]) h.hG,c _ _ (by simp[RA.lists]) h.hE,c _ _ (by simp[RA.lists]) h.hC,c _ _ (by simp[RA.lists]) h.hN,h.rR.imp λp x _ l e=>e.fZ j (h.flat x l),h.rW.imp λp x d _ e=>i _ _ (ahd _ d) e,h.rG.imp λp x d _ e=>i _ _ (agS _ d) e,h.rC.imp λp x d _ e=>c _ _ (by simp[RA.lists,d]) e,h.flat,h.iT,h.mC]
def ay.same (h:ay C H r S a)(s:aq H H'):ay C H' r S a:=h.keep (λ_ _ _ e=>s^e) (λ_ _ e=>s^e)
def ay.there (h:ay C H r S a){b:Zs}(c:a.own r b):∃o,H b\o:=by
 rcases c with rfl|c|c
 ·rwa[⟨_,h.ins⟩]
 ·unfold RA.lists at c;simp only[ag4]at c;rcases c with rfl|rfl|rfl|rfl|rfl|rfl|c
  ·rwa[⟨_,h.hR⟩]
  ·rwa[⟨_,h.hW⟩]
  ·rwa[⟨_,h.hG⟩]
  ·rwa[⟨_,h.hE⟩]
  ·rwa[⟨_,h.hC⟩]
  ·rwa[⟨_,h.hN⟩]
  ·let⟨x,_,e⟩:=h.rC.mem c;rwa[_,e]
 ·rcases agX.mp c with c|c
  ·let⟨x,_,e⟩:=h.rW.mem c;rwa[_,e]
  ·let⟨x,_,e⟩:=h.rG.mem c;rwa[_,e]
def ay.tf (h:ay C H r S a){b:Zs}{f:Zb}(e:H b\.tup f):¬a.own r b:=λc=>by
 rcases c with rfl|c|c
 ·rw[h.ins]at e;ext e
 ·unfold RA.lists at c;simp only[ag4]at c;rcases c with rfl|rfl|rfl|rfl|rfl|rfl|c
  ·rw[h.hR]at e;ext e
  ·rw[h.hW]at e;ext e
  ·rw[h.hG]at e;ext e
  ·rw[h.hE]at e;ext e
  ·rw[h.hC]at e;ext e
  ·rw[h.hN]at e;ext e
  ·let⟨x,_,d⟩:=h.rC.mem c;cbv
 ·rcases agX.mp c with c|c
  ·let⟨x,_,d⟩:=h.rW.mem c;cbv
  ·let⟨x,_,d⟩:=h.rG.mem c;cbv
end
end L2
variable {S T:L2.RS}{O:L2.RA}
namespace L2
open PySem PySem.Spec PyProof.Rows
section
variable {C:Zs}{H:Hp}{r:Zs}{S:RS}{a:RA}
def gb:a.aR∈a.lists:=by simp[RA.lists]
def gf:a.aW∈a.lists:=by simp[RA.lists]
def jb:a.aG∈a.lists:=by simp[RA.lists]
def gS:a.aE∈a.lists:=by simp[RA.lists]
def iM:a.aC∈a.lists:=by simp[RA.lists]
def ik:a.aN∈a.lists:=by simp[RA.lists]
def gu (h:b∈a.cs):b∈a.lists:=by simp[RA.lists,h]
def dz (h:b∈a.ws):b∈a.eP:=ahd _ h
def gw (h:b∈a.gs):b∈a.eP:=agS _ h
def ay.MB (h:ay C H r S a){b:Zs}(c:b∈a.lists):∃d,H b\(.lst d):=by
 unfold RA.lists at c;simp only[ag4]at c;rcases c with rfl|rfl|rfl|rfl|rfl|rfl|c
 ·rwa[⟨_,h.hR⟩]
 ·rwa[⟨_,h.hW⟩]
 ·rwa[⟨_,h.hG⟩]
 ·rwa[⟨_,h.hE⟩]
 ·rwa[⟨_,h.hC⟩]
 ·rwa[⟨_,h.hN⟩]
 ·let⟨x,_,e⟩:=h.rC.mem c;rwa[_,e]
def ay.qv (h:ay C H r S a){b:Zs}(c:b∈a.eP):∃d,H b\(.dK d):=by
 rcases agX.mp c with c|c
 ·let⟨x,_,e⟩:=h.rW.mem c;rwa[_,e]
 ·let⟨x,_,e⟩:=h.rG.mem c;rwa[_,e]
def ay.rl (h:ay C H r S a){b:Zs}(c:b∈a.lists):r≠b:=by let⟨d,e⟩:=h.MB c;rwa[bW h.ins e (by cbv)]
def ay.rd (h:ay C H r S a){b:Zs}(c:b∈a.eP):r≠b:=by let⟨d,e⟩:=h.qv c;rwa[bW h.ins e (by cbv)]
def ay.ld (h:ay C H r S a){b c:Zs}(d:b∈a.lists)(hc:c∈a.eP):b≠c:=by
 let⟨g,e⟩:=h.MB d;let⟨ys,f⟩:=h.qv hc
 cbv
def ay.tl (h:ay C H r S a){b c:Zs}{d:Zb}(e:H b\.tup d)(hc:c∈a.lists):b≠c:=λz=>h.tf e (.inr (.inl ([z]▸hc)))
def ay.td (h:ay C H r S a){b c:Zs}{d:Zb}(e:H b\.tup d)(hc:c∈a.eP):b≠c:=λz=>h.tf e (.inr (.inr ([z]▸hc)))
def ay.tr (h:ay C H r S a){b:Zs}{c:Zb}(d:H b\.tup c):b≠r:=λz=>h.tf d (.inl z)
def ay.OI (h:ay C H r S a)(n:Nat):ay C (upd H r (.ins C a.dx (fA S.L n a))) r { S with made:=n } a:=by
 let c:∀b o,b∈a.lists->H b\o->upd H r (.ins C a.dx (fA S.L n a)) b\o:=λb o f e=>by rw[ak (h.rl f).symm];rwa[e]
 let i:∀b o,b∈a.eP->H b\o->upd H r (.ins C a.dx (fA S.L n a)) b\o:=λb o f e=>by rw[ak (h.rd f).symm];rwa[e]
 rwa[ah,c _ _ gb h.hR,c _ _ gf h.hW,c _ _ jb h.hG,c _ _ gS h.hE,c _ _ iM h.hC,c _ _ ik h.hN,h.rR.imp λp x _ j e=>e.fZ (λb k g=>[ak (h.tr g)]▸g) (h.flat x j),h.rW.imp λp x d _ e=>i _ _ (dz d) e,h.rG.imp λp x d _ e=>i _ _ (gw d) e,h.rC.imp λp x d _ e=>c _ _ (gu d) e,h.flat,h.iT,h.mC]
def ay.ju (h:ay C H r S a){q:Zs}{o:HO}(d:q∈a.lists):upd H q o r\.ins C a.dx (fA S.L S.made a)/\(∀b x,b∈a.lists->b≠q->H b\x->upd H q o b\x)/\(∀b x,b∈a.eP->H b\x->upd H q o b\x)/\∀b c,H b\.tup c->upd H q o b\(.tup c):=
 ⟨[ak (h.rl d)]▸h.ins,λb x _ n e=>[ak n]▸e,λb x f e=>[ak (h.ld d f).symm]▸e,λb c e=>[ak (h.tl e d)]▸e⟩
def vG (b:a.lists.Nodup):(a.aR≠a.aW/\a.aR≠a.aG/\a.aR≠a.aE/\a.aR≠a.aC/\a.aR≠a.aN)/\(a.aW≠a.aG/\a.aW≠a.aE/\a.aW≠a.aC/\a.aW≠a.aN)/\(a.aG≠a.aE/\a.aG≠a.aC/\a.aG≠a.aN)/\(a.aE≠a.aC/\a.aE≠a.aN)/\a.aC≠a.aN/\∀p∈a.cs,p≠a.aR/\p≠a.aW/\p≠a.aG/\p≠a.aE/\p≠a.aC/\p≠a.aN:=by
 unfold RA.lists at b
 cbv
def ay.AJ (h:ay C H r S a){p:Zs}{d:Dt}(n:bK H 4 ↑p d)(hd:mB d):ay C (upd H a.aR (.lst (a.rs.map V.ref++[↑p]))) r { S with rows:=S.rows++[d] } { a with rs:=a.rs++[p] }:=by
 let⟨k,b,g,i⟩:=h.ju (o:=.lst (a.rs.map V.ref++[↑p])) (gb (a:=a));obtain⟨⟨n1,n2,j,s,m⟩,-,-,-,-,l⟩:=vG h.iT
 rwa[⟨k,5,b _ _ gf n1.symm h.hW,b _ _ jb n2.symm h.hG,b _ _ gS j.symm h.hE,b _ _ iM s.symm h.hC,b _ _ ik m.symm h.hN,(h.rR.imp λq x _ f e=>e.fZ i (h.flat x f)).snoc (n.fZ i hd),h.rW.imp λq x c _ e=>g _ _ (dz c) e,h.rG.imp λq x c _ e=>g _ _ (gw c) e,h.rC.imp λq x c _ e=>b _ _ (gu c) (l q c).1 e,λx f=>?_,h.iT,h.mC⟩]
 ·rw[ah,aho];rfl
 ·rcases agX.mp f with f|f
  ·rwa[h.flat x f]
  cbv
def ay.Rw (h:ay C H r S a){p:Zs}{l:List (Int×Nat)}(f:H p\.dK (wK l))(n:p∉a.eP):ay C (upd H a.aW (.lst (a.ws.map V.ref++[↑p]))) r { S with ways:=S.ways++[l] } { a with ws:=a.ws++[p] }:=by
 let⟨j,c,g,t⟩:=h.ju (o:=.lst (a.ws.map V.ref++[↑p])) (gf (a:=a));obtain⟨⟨n1,-⟩,⟨n2,i,m,k⟩,-,-,-,u⟩:=vG h.iT;let d:upd H a.aW (.lst (a.ws.map V.ref++[↑p])) p\(.dK (wK l)):=by rw[ak (bW f h.hW (by cbv))];rwa[f]
 erw[j,c _ _ gb n1 h.hR,5,c _ _ jb n2.symm h.hG,c _ _ gS i.symm h.hE,c _ _ iM m.symm h.hC,c _ _ ik k.symm h.hN,h.rR.imp λq x _ s e=>e.fZ t (h.flat x s),(h.rW.imp λq x b _ e=>g _ _ (dz b) e).snoc d,h.rG.imp λq x b _ e=>g _ _ (gw b) e,h.rC.imp λq x b _ e=>c _ _ (gu b) (u q b).2.1 e,h.flat,h.iT]
 ·rw[ah,aho];rfl
 ·show (a.ws++[p]++a.gs).Nodup;rw[ahJ];rwa[(List.perm_middle.nodup_iff).mpr (ahs.mpr ⟨n,h.mC⟩)]
def ay.Rx (h:ay C H r S a){p:Zs}{l:Zg}(g:H p\.dK (gK l))(s:p∉a.eP):ay C (upd H a.aG (.lst (a.gs.map V.ref++[↑p]))) r { S with gaps:=S.gaps++[l] } { a with gs:=a.gs++[p] }:=by
 let⟨k,c,i,u⟩:=h.ju (o:=.lst (a.gs.map V.ref++[↑p])) (jb (a:=a));obtain⟨⟨-,n1,-⟩,⟨n2,-⟩,⟨j,n,m⟩,-,-,v⟩:=vG h.iT;let f:upd H a.aG (.lst (a.gs.map V.ref++[↑p])) p\(.dK (gK l)):=by rw[ak (bW g h.hG (by cbv))];rwa[g]
 erw[k,c _ _ gb n1 h.hR,c _ _ gf n2 h.hW,5,c _ _ gS j.symm h.hE,c _ _ iM n.symm h.hC,c _ _ ik m.symm h.hN,h.rR.imp λq x _ d e=>e.fZ u (h.flat x d),h.rW.imp λq x b _ e=>i _ _ (dz b) e,(h.rG.imp λq x b _ e=>i _ _ (gw b) e).snoc f,h.rC.imp λq x b _ e=>c _ _ (gu b) (v q b).2.2.1 e,h.flat,h.iT]
 ·rw[ah,aho];rfl
 ·show (a.ws++(a.gs++[p])).Nodup;rw[<-ahJ];rwa[ahK.mpr ⟨h.mC,by simp,λx d y t z=>?_⟩];rw[agR.mp t]at z;rwa[s (z ▸ d)]
def ay.yH (h:ay C H r S a)(d:Zh):ay C (upd H a.aE (.lst (ao (nI d)))) r { S with aU:=d } a:=by
 let⟨i,c,f,j⟩:=h.ju (o:=.lst (ao (nI d))) (gS (a:=a));obtain⟨⟨-,-,n1,-⟩,⟨-,n2,-⟩,⟨g,-⟩,⟨n,m⟩,-,k⟩:=vG h.iT
 rwa[i,c _ _ gb n1 h.hR,c _ _ gf n2 h.hW,c _ _ jb g h.hG,ah,c _ _ iM n.symm h.hC,c _ _ ik m.symm h.hN,h.rR.imp λq x _ l e=>e.fZ j (h.flat x l),h.rW.imp λq x b _ e=>f _ _ (dz b) e,h.rG.imp λq x b _ e=>f _ _ (gw b) e,h.rC.imp λq x b _ e=>c _ _ (gu b) (k q b).2.2.2.1 e,h.flat,h.iT,h.mC]
def ay.OJ (h:ay C H r S a)(d:Zh):ay C (upd H a.aN (.lst (ao (nI d)))) r { S with aZ:=d } a:=by
 let⟨i,c,f,j⟩:=h.ju (o:=.lst (ao (nI d))) (ik (a:=a));obtain⟨⟨-,-,-,-,n1⟩,⟨-,-,-,n2⟩,⟨-,-,g⟩,⟨-,n⟩,m,k⟩:=vG h.iT
 rwa[i,c _ _ gb n1 h.hR,c _ _ gf n2 h.hW,c _ _ jb g h.hG,c _ _ gS n h.hE,c _ _ iM m h.hC,ah,h.rR.imp λq x _ l e=>e.fZ j (h.flat x l),h.rW.imp λq x b _ e=>f _ _ (dz b) e,h.rG.imp λq x b _ e=>f _ _ (gw b) e,h.rC.imp λq x b _ e=>c _ _ (gu b) (k q b).2.2.2.2.2 e,h.flat,h.iT,h.mC]
def ay.Hq (h:ay C H r S a){p:Zs}{l:Zh}(n:H p\.lst (ao (nI l)))(t:p∉a.lists):ay C (upd H a.aC (.lst (a.cs.map V.ref++[↑p]))) r { S with called:=S.called++[l] } { a with cs:=a.cs++[p] }:=by
 let⟨k,c,g,u⟩:=h.ju (o:=.lst (a.cs.map V.ref++[↑p])) (iM (a:=a));obtain⟨⟨-,-,-,n1,-⟩,⟨-,-,n2,-⟩,⟨-,j,-⟩,⟨s,-⟩,m,v⟩:=vG h.iT;let d:p≠a.aC:=λz=>t ([z]▸iM)
 let f:upd H a.aC (.lst (a.cs.map V.ref++[↑p])) p\(.lst (ao (nI l))):=by rw[ak d];rwa[n]
 rwa[⟨k,c _ _ gb n1 h.hR,c _ _ gf n2 h.hW,c _ _ jb j h.hG,c _ _ gS s h.hE,5,c _ _ ik m.symm h.hN,h.rR.imp λq x _ i e=>e.fZ u (h.flat x i),h.rW.imp λq x b _ e=>g _ _ (dz b) e,h.rG.imp λq x b _ e=>g _ _ (gw b) e,(h.rC.imp λq x b _ e=>c _ _ (gu b) (v q b).2.2.2.2.1 e).snoc f,h.flat,5,h.mC⟩]
 ·rw[ah,aho];rfl
 ·rwa[ahK.mpr ⟨h.iT,by simp,λx i y w z=>?_⟩]
  cbv
def ay.Hr (h:ay C H r S a){i:Nat}{p:Zs}(g:a.cs[i]?\p)(l:Zh):ay C (upd H p (.lst (ao (nI l)))) r { S with called:=S.called.set i l } a:=by
 let f:=agK g;let⟨m,b,j,w⟩:=h.ju (o:=.lst (ao (nI l))) (gu f);obtain⟨-,-,-,-,-,z⟩:=vG h.iT;let⟨n1,n2,k,u,t,s⟩:=z p f
 let d:a.cs.Nodup:=by
  have:=h.iT;unfold RA.lists at this;simp only[ahs]at this;rwa[this.2.2.2.2.2.2]
 rwa[m,b _ _ gb n1.symm h.hR,b _ _ gf n2.symm h.hW,b _ _ jb k.symm h.hG,b _ _ gS u.symm h.hE,b _ _ iM t.symm h.hC,b _ _ ik s.symm h.hN,h.rR.imp λq x _ v e=>e.fZ w (h.flat x v),h.rW.imp λq x c _ e=>j _ _ (dz c) e,h.rG.imp λq x c _ e=>j _ _ (gw c) e,h.rC.set g ah d λq y c n e=>b _ _ (gu c) n e,h.flat,h.iT,h.mC]
def ay.D0 (h:ay C H r S a){q:Zs}{o:HO}(d:q∈a.eP):upd H q o r\.ins C a.dx (fA S.L S.made a)/\(∀b x,b∈a.eP->b≠q->H b\x->upd H q o b\x)/\(∀b x,b∈a.lists->H b\x->upd H q o b\x)/\∀b c,H b\.tup c->upd H q o b\(.tup c):=
 ⟨[ak (h.rd d)]▸h.ins,λb x _ n e=>[ak n]▸e,λb x f e=>[ak (h.ld f d)]▸e,λb c e=>[ak (h.td e d)]▸e⟩
def ay.AK (h:ay C H r S a){i:Nat}{p:Zs}(f:a.ws[i]?\p)(l:List (Int×Nat)):ay C (upd H p (.dK (wK l))) r { S with ways:=S.ways.set i l } a:=by
 let d:=agK f;let⟨j,g,b,m⟩:=h.D0 (o:=.dK (wK l)) (dz d);let nd:=ahK.mp h.mC
 rwa[j,b _ _ gb h.hR,b _ _ gf h.hW,b _ _ jb h.hG,b _ _ gS h.hE,b _ _ iM h.hC,b _ _ ik h.hN,h.rR.imp λq x _ k e=>e.fZ m (h.flat x k),h.rW.set f ah nd.1 λq y c n e=>g _ _ (dz c) n e,h.rG.imp λq x c _ e=>g _ _ (gw c) (λz=>nd.2.2 p d q c z.symm) e,h.rC.imp λq x c _ e=>b _ _ (gu c) e,h.flat,h.iT,h.mC]
def ay.Rz (h:ay C H r S a){i:Nat}{p:Zs}(f:a.gs[i]?\p)(l:Zg):ay C (upd H p (.dK (gK l))) r { S with gaps:=S.gaps.set i l } a:=by
 let d:=agK f;let⟨j,g,b,m⟩:=h.D0 (o:=.dK (gK l)) (gw d);let nd:=ahK.mp h.mC
 rwa[j,b _ _ gb h.hR,b _ _ gf h.hW,b _ _ jb h.hG,b _ _ gS h.hE,b _ _ iM h.hC,b _ _ ik h.hN,h.rR.imp λq x _ k e=>e.fZ m (h.flat x k),h.rW.imp λq x c _ e=>g _ _ (dz c) (λz=>nd.2.2 q c p d z) e,h.rG.set f ah nd.2.1 λq y c n e=>g _ _ (gw c) n e,h.rC.imp λq x c _ e=>b _ _ (gu c) e,h.flat,h.iT,h.mC]
end
noncomputable def RS.kc (S:RS)(i:Nat)(l:List (Int×Nat)):RS:={ S with ways:=S.ways.set i l }
noncomputable def RS.setG (S:RS)(i:Nat)(l:Zg):RS:={ S with gaps:=S.gaps.set i l }
noncomputable def RS.way (S:RS)(c:Nat):List (Int×Nat):=S.ways.getD c []
noncomputable def RS.gap (S:RS)(c:Nat):Zg:=S.gaps.getD c []
def RS.by (S:RS)(c:Nat)(z:Int):Zi:=fz (S.way c) z
def RS.b8 (S:RS)(c:Nat)(z:Int)(d:Nat):RS:=S.kc c (iY (S.way c) z d)
def RS.lM (S:RS)(c:Nat)(z:Int):RS:=S.setG c ((S.gap c).filter λx=>decide (x≠z))
def RS.keep (S:RS)(c:Nat)(z:Int)(d:Nat):RS:=(((S.b8 c z d).b8 d (-z) c).lM c z).lM d (-z)
noncomputable def rj (c:Nat)(z:Int)(n:Nat):Dt:=.t [.s [110,101,119],.i c,.i z,.i n]
def RS.grown (S:RS)(c:Nat)(z:Int)(gaps:Zg):RS:={ S with made:=S.made+ 1,rows:=S.rows++[rj c z S.made],ways:=S.ways++[[]],gaps:=S.gaps++[gaps],aU:=S.aU++[S.made],called:=S.called++[[S.made]] }
def RS.make (S:RS)(c:Nat)(z:Int)(gaps:Zg):RS:=(S.grown c z gaps).keep c z S.made
noncomputable def RS.new (L:Nat)(gaps:Zg):RS:=⟨L,(1),[],[[]],[gaps],[0],[[0]],[]⟩
structure RS.Wf (S:RS):Prop where
 w:⇑S.ways=S.made
 g:⇑S.gaps=S.made
 e:⇑S.aU=S.made
 c:⇑S.called=S.made
section
variable {X:Cx}{e:Expr}{f:Str}{ta:TE}{pos:Pos}
def OL (b:X.K=K)(a:PE X e ta)(c:attributeBase e f X.env (eval e X.env)=eval e X.env):PE X (.Attribute e f pos) (QH K ta f):=by
 subst b;rwa[aH a c]
end
theorem ni {J:It}{u:TE}{Q:VK}(n:Nat)(o:Nat->V)(R:Hp->V->Nat->Prop)(z:∀p b v i,aq p b->R p v i->R b v i)(s:n<=sizeLine)
 (g:∀(i:Nat) b,aq H b->i<n->J.go i b) (F:∀(i:Nat) (x:V) (b d:Hp),aq H b->i<n->J.mj i b x d->d=b/\x=o i) (k:∀b,aq H b->J.stop n b)
 (C:∀(i:Nat) (b:Hp) (q:VK),i<n->aq H b->(∀v d,aq b d->R d v i->q v d)->u (some (o i)::D) b q)
 (G:∀a b ys,aq H b->b a=none->⇑ys=n->(∀(i:Nat) (v:V),ys[i]?\v->R b v i)->Q ↑a (upd b a (.lst ys))):oz u D Q J H:=by
 erw[λi m ys b=>m=n - i/\i<=n/\⇑ys=i/\aq H b/\∀(j:Nat) (v:V),ys[j]?\v->R b v j,⟨n,by simp,ahg _,2,λ_ _ e=>e,λj v h=>by simp at h⟩];rintro i m ys b ⟨rfl,M,y,s2,t⟩;by_cases c:i<n
 ·rwa[.inr ⟨g i b s2 c,3,λx d l=>?_⟩];let⟨rfl,rfl⟩:=F i x b d s2 c l;rwa[C i _ _ c s2 λv L r E=>⟨n - (i+ 1),32,c,by rw[agN,y];rfl,s2.trans r,λj w f=>?_⟩]
  by_cases B:j<⇑ys
  ·rw[agV B]at f;rwa[z _ _ _ _ r (t j w f)]
  ·rw[agW ∅]at f
   let A:j - ⇑ys=0:=by
    have:=(agM.mp f).1;rw[ahX]at this;ext
   rw[A]at f;have:j=i:=∅
   subst this;rw[<-Za0 f];rwa[E]
 ·let e:i=n:=∅
  subst e;rwa[.inl ⟨k b s2,3,λa I=>G a b ys s2 I y t⟩]
theorem ti {P:Nat->Zs->Prop}:∀(ys:Zb) (k:Nat),(∀(i:Nat) (v:V),ys[i]?\v->∃p,v=↑p/\P (k+ i) p)->∃a:Zn,ys=a.map V.ref/\∀(i:Nat) (p:Zs),a[i]?\p->P (k+ i) p
 |[],_,_=>⟨[],2,λi p h=>by simp at h⟩
 |v::ys,k,h=>by
  let⟨p,rfl,f⟩:=h 0 v rfl
  let⟨a,rfl,d⟩:=ti (P:=P) ys (k+ 1) λi w b=>by
   let⟨q,e,c⟩:=h (i+ 1) w (by simpa using b)
   cbv
  rwa[⟨p::a,2,λi q c=>?_⟩]
  cases i with
  |zero=>cbv
  |succ i=>
   cbv
theorem jv {f:Str}{v:V}{n:Nat}:∀{fs:List (Str×V)},⇑fs<=n->⇑(bL f v fs)<=n+ 1
 |[],h=>by show 1<=n+ 1;ext
 |(g,x)::r,h=>by
  show ⇑(if g=f then (g,v)::r else (g,x)::bL f v r)<=n+ 1;rw[ahi]at h;split
  ·rw[ahi];ext
  ·have:=jv (f:=f) (v:=v) (n:=n - 1) (fs:=r) ∅;rw[ahi];ext
def qw (K:Za1):PySem.W.kitOne K (.type "int") (.type "tuple")\false:=by first|rfl|kernel_rfl
def rn (K:Za1):PySem.W.kitOne K (.type "int") (.type "list")\false:=by first|rfl|kernel_rfl
def ro (K:Za1):PySem.W.kitOne K (.type "int") (.type "dict")\false:=by first|rfl|kernel_rfl
def qx (K:Za1):PySem.W.kitOne K (.type "str") (.type "tuple")\false:=by first|rfl|kernel_rfl
def rq (K:Za1):PySem.W.kitOne K (.type "str") (.type "list")\false:=by first|rfl|kernel_rfl
def rA (K:Za1):PySem.W.kitOne K (.type "str") (.type "dict")\false:=by first|rfl|kernel_rfl
theorem rB:∀{d:List DictEntry} {f:List (Key×Zt)} {c:List (Key×V)},Pairs (bQ P w) d f->KV c f->Vals (c.map λi=>kV i.1) (d.map (·.key))
 |[],_,_,.nil,r=>by ext r;rwa[.nil]
 |e::d,_,_,.cons h j g,r=>by
  cases r with
  |cons a b=>
   rw[ah3,ah3];rwa[.cons ?_ (rB g b)];rw[a.1];rwa[OB h]
theorem pairs_len:∀{b:List DictEntry} {a:List (Key×Zt)},Pairs (bQ P w) b a->⇑b=⇑a
 |_,_,.nil=>rfl
 |_,_,.cons _ _ h=>by rw[ahi,ahi,pairs_len h]
section
variable {X:Cx}
inductive Hs (xs:Zb) (H:Hp) (Q:VK):Prop
 |mk (d:Zs) (kvs:List (Key×V)):xs=[↑d]->H d\.dK kvs->(∀l,H l=none->Q ↑l (upd H l (.lst (kvs.map λkv=>kV kv.1))))->Hs xs H Q
def jU (z:X.calm=true):ie X (.type "list") Hs:=by
 intro t s Y H P V Q I r h;let⟨d,c,rfl,L,q⟩:=h;let⟨u,rfl,F⟩:=vals1 r;ext F;let⟨C,k,O,rel,o,j,T,A,n,f,S,p,R⟩:=sS I.aO L;let hlen:⇑c=⇑O:=⇑rel;let m:=pairs_len p;let N:j.size=⇑c:=by rw[<-aiu,m,hlen]
 rwa[Dk.Hk (I.ok.hd z) k ⟨o,A,n,f⟩ ∅ λy G a J l e b=>?_]
 let E:a.toList=j.toList.map (·.key):=by
  rwa[aja λi=>?_]
  rw[ajw,ag0,ajw]
  cases g:a[i]? with
  |none=>
   let B:j.size<=i:=by
    let w:a.size<=i:=Array.getElem?_eq_none_iff.mp g;rw[b.1]at w;rwa[w]
   rw[akb B];rfl
  |some v=>
   let⟨U,M,rfl⟩:=b.2 i v g;rw[M];rfl
 let D:a=(j.toList.map (·.key)).toArray:=by rw[<-E]
 rw[D]at e;let g:=rB p rel;rwa[↑↥s,_,I.laid (t':=G) l (agQ _) (show bV X.prog X.w _ y _ (.lst (c.map λx=>kV x.1)) from ⟨[agO]▸C,_,J,g,e⟩),2,q _ (I.aO.fresh (agQ _))]
end
section
variable {C:Zs}{H:Hp}{r:Zs}{S:RS}{a:RA}
theorem ay.RB (h:ay C H r S a){i:Nat}(t:i<⇑a.ws){q:Zs}{l:List (Int×Nat)}(d:H q\.dK (wK l))(s:q∉a.eP):ay C (upd H a.aW (.lst ((a.ws.map V.ref).set i ↑q))) r { S with ways:=S.ways.set i l } { a with ws:=a.ws.set i q }:=by
 let⟨E,g,v,M⟩:=h.ju (o:=.lst ((a.ws.map V.ref).set i ↑q)) (gf (a:=a));obtain⟨⟨n1,-⟩,⟨n2,B,G,F⟩,-,-,-,N⟩:=vG h.iT;let k:upd H a.aW (.lst ((a.ws.map V.ref).set i ↑q)) q\(.dK (wK l)):=by rw[ak (bW d h.hW f!"")];rwa[d]
 let nd:=ahK.mp h.mC
 erw[E,g _ _ gb n1 h.hR,5,g _ _ jb n2.symm h.hG,g _ _ gS B.symm h.hE,g _ _ iM G.symm h.hC,g _ _ ik F.symm h.hN,h.rR.imp λq x _ f e=>e.fZ M (h.flat x f),5,h.rG.imp λq x d _ e=>v _ _ (gw d) e,h.rC.imp λq x d _ e=>g _ _ (gu d) (N q d).2.1 e,h.flat,h.iT]
 ·show upd H a.aW _ a.aW\.lst ((a.ws.set i q).map V.ref);rw[ah,List.map_set]
 ·rwa[⟨by show ⇑(a.ws.set i q)=⇑(S.ways.set i l);rw[ahj,ahj];rwa[h.rW.1],λj p x L P=>?_⟩];let b:(a.ws.set i q)[j]?\p:=L
  let c:(S.ways.set i l)[j]?\x:=P
  by_cases z:i=j
  ·subst z;rw[ahH t]at b;rw[ahH (by rw[<-h.rW.1];rwa[t])]at c;obtain rfl:=Za0 b;obtain rfl:=Za0 c;rwa[k]
  ·rw[ah8 z]at b c;rwa[v _ _ (dz (agK b)) (h.rW.2 j p x b c)]
 ·show (a.ws.set i q++a.gs).Nodup;let I:q∉a.ws:=λz=>s (ahd _ z)
  let m:q∉a.gs:=λz=>s (agS _ z)
  rwa[ahK.mpr ⟨5,nd.2.1,λx f y w z=>?_⟩]
  ·have:∀(l:Zn) (i:Nat),l.Nodup->q∉l->(l.set i q).Nodup:=by
    intro l
    induction l with
    |nil=>intro i _ _;simp
    |cons x l Q=>
     intro i J u;let⟨O,n⟩:=ahs.mp J;let D:q≠x:=λz=>u ([z]▸ag2)
     let A:q∉l:=λz=>u (ahm _ z)
     cases i with
     |zero=>exact ahs.mpr ⟨A,n⟩
     |succ i=>
      rwa[ahs.mpr ⟨λz=>?_,Q i n A⟩];rcases ai1 z with z|z
      ·rwa[O z]
      ·rwa[D z.symm]
   rwa[this a.ws i nd.1 I]
  ·rcases ai1 f with f|f
   ·rwa[nd.2.2 x f y w z]
   ·rw[<-f,z]at m;rwa[m w]
end
def OO (l:List (Int×Nat))(s:Int):fj (wK l) (Sum.inl s)=wK (l.filter λp=>decide (p.1≠s)):=by
 unfold fj wK;rw[List.filter_map]
 congr 1
 rwa[akh λx _=>?_]
 cbv
def Ht (l:List (Int×Nat))(s t:Int):fz (l.filter λp=>decide (p.1≠s)) t=if t=s then none else fz l t:=by
 induction l with
 |nil=>split <;> rfl
 |cons p l b=>
  let a:∀(q:Int×Nat) (m:List (Int×Nat)),fz (q::m) t=if q.1=t then some q.2 else fz m t:=λq m=>by
   unfold fz
   cbv
  cbv
abbrev Way:=Nat×Int×Nat
abbrev Ze:=List Way
noncomputable def RS.aw (S:RS)(c:Nat):Nat:=S.aU.getD c 0
noncomputable def RS.b9 (S:RS)(c:Nat):Zh:=S.called.getD c []
noncomputable def hX (c:Nat)(z:Int)(x y:Nat):Dt:=.t [.s [109,101,101,116],.i c,.i z,.i x,.i y]
def RS.joined (S:RS)(c:Nat)(z:Int)(x y:Nat):RS:=
 { S with rows:=S.rows++[hX c z x y],aZ:=S.aZ++[y],aU:=(S.b9 y).foldl (λa n=>a.set n x) S.aU,called:=S.called.set x (S.b9 x++S.b9 y) }
def RS.oF (S:RS)(c:Nat)(z:Int):RS:=S.kc c ((S.way c).filter λp=>decide (p.1≠z))
def jw (c:Nat)(st:RS×Ze)(p:Int×Nat):RS×Ze:=(if p.2≠c then st.1.oF p.2 (-p.1) else st.1,st.2++[(c,p.1,p.2)])
def RS.oH (S:RS)(c:Nat)(a:Ze):RS×Ze:=(S.way c).foldl (jw c) (S.kc c [],a)
def RS.meet (S:RS)(c:Nat)(z:Int)(x y:Nat)(a:Ze):RS×Ze:=(S.joined c z (min x y) (max x y)).oH (max x y) a
def RS.takeIn (S:RS)(a:Ze)(w:Way):RS×Ze:=
 if (S.by (S.aw w.1) w.2.1).getD (S.aw w.2.2)≠S.aw w.2.2 then S.meet (S.aw w.1) w.2.1 ((S.by (S.aw w.1) w.2.1).getD (S.aw w.2.2)) (S.aw w.2.2) a
 else if (S.by (S.aw w.2.2) (-w.2.1)).getD (S.aw w.1)≠S.aw w.1 then S.meet (S.aw w.2.2) (-w.2.1) ((S.by (S.aw w.2.2) (-w.2.1)).getD (S.aw w.1)) (S.aw w.1) a
 else (S.keep (S.aw w.1) w.2.1 (S.aw w.2.2),a)
structure FC (S:RS) (c:Nat):Prop where
 nd:((S.way c).map (·.1)).Nodup
 lt:∀q∈S.way c,q.2<S.made
 bk:∀q∈S.way c,q.2≠c->(S.by q.2 (-q.1)).isSome=true
def jk {l:List (Int×Nat)}(a:n<⇑S.ways):(S.kc n l).way m=if m=n then l else S.way m:=by
 unfold RS.kc RS.way
 cbv
def jx (a:n<⇑S.ways):(S.b8 n z i).by m y=if m=n/\y=z then some i else S.by m y:=by
 unfold RS.b8 RS.by;rw[jk a];by_cases h:m=n
 ·subst h;rw[ahf rfl,Ko]
  cbv
 cbv
def FD (a:n<⇑S.ways):(S.oF n z).by m y=if m=n/\y=z then none else S.by m y:=by
 unfold RS.oF RS.by;rw[jk a];by_cases h:m=n
 ·subst h;rw[ahf rfl,Ht]
  cbv
 ·rw[ahc h,ahc (λq=>h q.1)]
def OQ {l:List (Int×Nat)}(a:n<⇑S.ways):(S.kc n l).by m z=if m=n then fz l z else S.by m z:=by
 unfold RS.by;rw[jk a];split <;> rfl
def cU (c:Nat)(S:RS)(a:Ze)(b:List (Int×Nat)):RS×Ze:=b.foldl (jw c) (S.kc c [],a)
def iA (c:Nat)(S:RS)(a:Ze)(b:List (Int×Nat))(p:Int×Nat):cU c S a (b++[p])=jw c (cU c S a b) p:=by unfold cU;cbv
theorem snoc_ind {b:Type}{P:List b->Prop}(f:P [])(c:∀l x,P l->P (l++[x])):∀l,P l:=λl=>by
 have:∀n (l:List b),⇑l=n->P l:=by
  intro n
  induction n with
  |zero=>cbv
  |succ n d=>
   intro l e;let a:l≠[]:=λz=>by rw[z]at e;ext e
   rw[<-aiI a];rwa[c^(d _ (by rw[List.length_dropLast];omega))]
 rwa[this _ l rfl]
def yI (c:Nat)(S:RS)(a:Ze):∀b:List (Int×Nat),(cU c S a b).2=a++b.map λp=>(c,p.1,p.2):=by
 rwa[snoc_ind (by simp[cU]) λb p d=>?_]
 rw[iA];show (cU c S a b).2++_=_
 cbv
def gM (c:Nat)(S:RS)(a:Ze):∀b:List (Int×Nat),(cU c S a b).1.ways.length=⇑S.ways/\(cU c S a b).1={ S with ways:=(cU c S a b).1.ways }:=by
 rwa[snoc_ind ⟨by simp[cU,RS.kc],2⟩ λb p d=>?_]
 rw[iA];unfold jw;by_cases h:p.2≠c
 ·simp only[h,akp,ajg,ne_eq];erw[5]
  ·show ⇑(List.set^_)=_;rw[ahj];rwa[d.1]
  ·unfold RS.oF RS.kc;rw[d.2]
 ·simp only[h,ajH];rwa[d]
def xP {c:Ze}(l:n<⇑S.ways):∀f:List (Int×Nat),(∀q∈f,q.2<⇑S.ways)->∀d z,(cU n S c f).1.by d z=if d=n\/∃q∈f,q.2=d/\z= -q.1 then none else S.by d z:=by
 rwa[snoc_ind (λ_ d z=>?_) λf p m i d z=>?_]
 ·show (S.kc n []).by d z=_;rw[OQ l];by_cases h:d=n
  ·rw[ahf h,ahf (.inl h)];rfl
  cbv
 ·let g:=m (λq a=>i q (ahd _ a)) d z;let k:=i p (agS _ ag2);rw[iA];unfold jw;by_cases h:p.2≠n
  ·simp only[h,akp,ajg,ne_eq];rw[FD ([(gM n S c f).1]▸k),g];by_cases e:d=p.2/\z= -p.1
   ·rw[ahf e,ahf (.inr ⟨p,agS _ ag2,e.1.symm,e.2⟩)]
   ·rw[ahc e];by_cases b:d=n\/∃q∈f,q.2=d/\z= -q.1
    ·rw[ahf b,ahf (b.imp id λ⟨q,a,r⟩=>⟨q,ahd _ a,r⟩)]
    ·rw[ahc b,ahc];rintro (q|⟨q,a,r⟩)
     ·rwa[b (.inl q)]
     ·rcases agX.mp a with a|a
      ·rwa[b (.inr ⟨q,a,r⟩)]
      ·rw[agR.mp a]at r;rwa[e ⟨r.1.symm,r.2⟩]
  ·simp only[h,ajH];rw[g];let j:p.2=n:=ajI.mp h;by_cases b:d=n\/∃q∈f,q.2=d/\z= -q.1
   ·rw[ahf b,ahf (b.imp id λ⟨q,a,r⟩=>⟨q,ahd _ a,r⟩)]
   ·rw[ahc b,ahc];rintro (q|⟨q,a,r⟩)
    ·rwa[b (.inl q)]
    ·rcases agX.mp a with a|a
     ·rwa[b (.inr ⟨q,a,r⟩)]
     ·rw[agR.mp a]at r;rwa[b (.inl (r.1.symm.trans j))]
inductive Cg (R:Za2):Nat->Nat->Prop where
 |refl (a:Nat):Cg R a a
 |symm {a b:Nat}:Cg R a b->Cg R b a
 |trans {a b c:Nat}:Cg R a b->Cg R b c->Cg R a c
 |step {a a' b b':Nat} {z:Int}:R a z b->R a' z b'->Cg R a a'->Cg R b b'
def Cg.mono {e:Za2}(h:∀a z b,R a z b->e a z b){a b:Nat}(c:Cg R a b):Cg e a b:=by
 induction c with
 |refl=>exact .refl _
 |symm _ d=>exact .symm d
 |trans _ _ f g=>exact .trans f g
 |step r1 r2 _ d=>exact .step (h _ _ _ r1) (h _ _ _ r2) d
def Im (S:RS)(R:Za2)(c:Nat)(z:Int)(d:Nat):Prop:=∃b a,R b z a/\S.aw b=c/\S.aw a=d
def yJ (S:RS)(a:Ze)(c:Nat)(z:Int)(d:Nat):Prop:=S.by c z=some d\/∃w∈a,(S.aw w.1=c/\w.2.1=z/\S.aw w.2.2=d)\/(S.aw w.1=d/\w.2.1= -z/\S.aw w.2.2=c)
structure Good (S:RS) (pend:Ze) (R:Za2):Prop where
 wf:S.Wf
 el:∀c,c<S.made->S.aw c<=c/\S.aw (S.aw c)=S.aw c
 ca:∀e,e<S.made->S.aw e=e->∀c,c∈S.b9 e↔c<S.made/\S.aw c=e
 cb:∀e c,c∈S.b9 e->c<S.made
 cn:∀e,(S.b9 e).Nodup
 kn:∀c,((S.way c).map (·.1)).Nodup
 st:∀c z d,S.by c z=some d->c<S.made/\d<S.made/\S.aw c=c/\S.aw d=d
 sy:∀c z d,S.by c z=some d->S.by d (-z)=some c
 pl:∀w∈pend,w.1<S.made/\w.2.2<S.made
 rl:∀c z d,R c z d->c<S.made/\d<S.made/\R d (-z) c
 cv:∀c z d,R c z d->yJ S pend (S.aw c) z (S.aw d)
 so:∀c z d,S.by c z=some d->Im S R c z d
 sp:∀w∈pend,Im S R (S.aw w.1) w.2.1 (S.aw w.2.2)
 cg:∀c,c<S.made->Cg R c (S.aw c)
section
variable {S:RS}{pend:Ze}{R:Za2}
def Good.lt (h:Good S pend R){c:Nat}(hc:c<S.made):S.aw c<S.made:=agU (h.el c hc).1 hc
def Im.back (h:Good S pend R){c d:Nat}{z:Int}(i:Im S R c z d):Im S R d (-z) c:=by
 let⟨e,b,r,a,f⟩:=i;rwa[b,e,(h.rl _ _ _ r).2.2,f,a]
def Good.must (h:Good S pend R){c x y:Nat}{z:Int}(i:Im S R c z x)(j:Im S R c z y):Cg R x y:=by
 let⟨n,m,r1,d,l⟩:=i;let⟨p,o,r2,f1,e⟩:=j;let⟨f,l2,_⟩:=h.rl _ _ _ r1;let⟨g,k,_⟩:=h.rl _ _ _ r2;let a1:=h.cg _ f;let a2:=h.cg _ l2;let a:=h.cg _ g;let b:=h.cg _ k;rw[d]at a1;rw[l]at a2;rw[f1]at a;rw[e]at b;rwa[a2.symm.trans ((Cg.step r1 r2 (a1.trans a.symm)).trans b)]
theorem Good.keep (h:Good S pend R){c d:Nat}{z:Int}(hc:c<S.made)(hd:d<S.made)(C:S.aw c=c)(ed:S.aw d=d)(i:Im S R c z d)(L:S.by c z=none\/S.by c z=some d)(J:S.by d (-z)=none\/S.by d (-z)=some c){f:Ze}(v:∀w∈f,w∈pend)
 (y:∀w∈pend,w∉f->S.aw w.1=c/\w.2.1=z/\S.aw w.2.2=d):Good (S.keep c z d) f R:=by
 let o:c<⇑S.ways:=by rw[h.wf.w];rwa[hc]
 let u:d<⇑S.ways:=by rw[h.wf.w];rwa[hd]
 let k:∀a s,(S.keep c z d).by a s=if a=d/\s= -z then some c else if a=c/\s=z then some d else S.by a s:=λa s=>by
  show ((S.b8 c z d).b8 d (-z) c).by a s=_;rw[jx (by show d<⇑(S.ways.set c _);rw[ahj];rwa[u]),jx o]
 let old:∀a s b,S.by a s=some b->(S.keep c z d).by a s=some b:=λa s b e=>by
  rw[k];by_cases g:a=d/\s= -z
  ·rw[ahf g];let⟨rfl,rfl⟩:=g;rcases J with q|q <;> rw[q]at e <;> ext e
   rfl
  ·rw[ahc g];by_cases j:a=c/\s=z
   ·rw[ahf j];let⟨rfl,rfl⟩:=j;rcases L with q|q <;> rw[q]at e <;> ext e
    rfl
   ·rw[ahc j];rwa[e]
 let el:∀a,(S.keep c z d).aw a=S.aw a:=λa=>rfl
 let new:∀a s b,(S.keep c z d).by a s=some b->(a=d/\s= -z/\b=c)\/(a=c/\s=z/\b=d)\/S.by a s=some b:=λa s b e=>by
  rw[k]at e;by_cases g:a=d/\s= -z
  ·rw[ahf g]at e;rwa[.inl ⟨g.1,g.2,(Za0 e).symm⟩]
  ·rw[ahc g]at e;by_cases j:a=c/\s=z
   ·rw[ahf j]at e;rwa[.inr (.inl ⟨j.1,j.2,(Za0 e).symm⟩)]
   ·rw[ahc j]at e;rwa[.inr (.inr e)]
 let m:(S.keep c z d).by d (-z)=some c:=by rw[k,ahf ⟨22⟩]
 let put2:(S.keep c z d).by c z=some d:=by
  rw[k];by_cases g:c=d/\z= -z
  ·rw[ahf g,g.1]
  ·rw[ahc g,ahf ⟨22⟩]
 let n:∀(l:List (Int×Nat)) (s:Int) (r:Nat),(l.map (·.1)).Nodup->((iY l s r).map (·.1)).Nodup:=λl s r F=>by
  unfold iY;split
  ·rw[ahE]
   have:((λx:Int×Nat=>x.1) ∘ λp:Int×Nat=>if p.1=s then (p.1,r) else p)=λx=>x.1:=by
    funext p
    show (if p.1=s then (p.1,r) else p).1=p.1;split <;> rfl
   rw[this];rwa[F]
  ·rename_i q;rw[aho];rwa[ahK.mpr ⟨F,by simp,λa G b H e=>q ?_⟩];let⟨p,v,rfl⟩:=ahO.mp G;have:b=s:=by simpa using H
   rwa[List.any_eq_true.mpr ⟨p,v,ahp (e.trans this)⟩]
 rwa[⟨⟨55,h.wf.e,h.wf.c⟩,h.el,h.ca,h.cb,h.cn,λa=>?_,λa s b e=>?_,λa s b e=>?_,λw t=>h.pl w (v w t),h.rl,λa s b r=>?_,λa s b e=>?_,λw t=>h.sp w (v w t),h.cg⟩]
 ·show ⇑((List.set^_).set _ _)=S.made;rw[ahj,ahj];rwa[h.wf.w]
 ·show ⇑((List.set^_).set _ _)=S.made;rw[ahj,ahj];rwa[h.wf.g]
 ·show ((((S.b8 c z d).b8 d (-z) c).way a).map (·.1)).Nodup;unfold RS.b8;rw[jk (by show d<⇑(S.ways.set c _);rw[ahj];rwa[u])]
  let k1:∀a,(((S.kc c (iY (S.way c) z d)).way a).map (·.1)).Nodup:=λa=>by
   rw[jk o];split
   ·rwa[n _ _ _ (h.kn c)]
   ·rwa[h.kn a]
  split
  ·rwa[n _ _ _ (k1 d)]
  ·rwa[k1 a]
 ·rcases new a s b e with ⟨rfl,rfl,rfl⟩|⟨rfl,rfl,rfl⟩|e
  ·rwa[⟨hd,hc,ed,C⟩]
  ·rwa[⟨hc,hd,C,ed⟩]
  ·rwa[h.st a s b e]
 ·rcases new a s b e with ⟨rfl,rfl,rfl⟩|⟨rfl,rfl,rfl⟩|e
  ·rw[aiF];rwa[put2]
  ·rwa[m]
  ·rwa[old _ _ _ (h.sy _ _ _ e)]
 ·rcases h.cv a s b r with q|⟨w,t,q⟩
  ·rwa[.inl (old _ _ _ q)]
  ·by_cases B:w∈f
   ·rwa[.inr ⟨w,B,q⟩]
   ·let⟨f1,E,D⟩:=y w t B;rwa[.inl ?_];show (S.keep c z d).by (S.aw a) s=some (S.aw b);rcases q with ⟨g,j,A⟩|⟨g,j,A⟩
    ·rw[<-g,<-j,<-A,f1,E,D];rwa[put2]
    ·let I:s= -z:=by rw[<-E,j,aiF]
     rw[<-g,<-A,f1,D,I];rwa[m]
 ·rcases new a s b e with ⟨rfl,rfl,rfl⟩|⟨rfl,rfl,rfl⟩|e
  ·rwa[Im.back h i]
  ·rwa[i]
  ·rwa[h.so a s b e]
end
theorem AO (x:Nat):∀(l b:Zh) (a:Nat),(∀n∈l,n<⇑b)->(l.foldl (λb n=>b.set n x) b).getD a 0=if a∈l then x else b.getD a 0
 |[],b,a,_=>by simp
 |n::l,b,a,h=>by
  rw[List.foldl_cons,AO x l (b.set n x) a (λm c=>[ahj]▸h m (ahm _ c))]
  cbv
theorem yK (x:Nat):∀(l a:Zh),⇑(l.foldl (λa n=>a.set n x) a)=⇑a
 |[],_=>rfl
 |n::l,a=>by rw[List.foldl_cons,yK x l,ahj]
def rD {l:List (Int×Nat)}{r:Nat}(h:fz l z\r):(z,r)∈l:=by
 let⟨q,a,rfl⟩:=ah1.mp h
 cbv
def jy {l:List (Int×Nat)}(a:(l.map (·.1)).Nodup){q:Int×Nat}(h:q∈l):fz l q.1\q.2:=by
 induction l with
 |nil=>ext h
 |cons p l b=>
  unfold fz;rw[ah3,ahs]at a;by_cases e:p.1=q.1
  ·cbv
  ·rw[ajt (by simpa using e)];rcases ag4.mp h with rfl|h
   ·rwa[absurd rfl e]
   ·rwa[b a.2 h]
theorem lO:∀(n:Nat) (l:Zh),l.Nodup->(∀x∈l,x<n)->⇑l<=n
 |0,[],_,_=>agQ _
 |0,a::l,_,h=>absurd (h a (ag2 ..)) ∅
 |n+ 1,l,b,h=>by
  by_cases c:n∈l
  ·have:=lO n (l.erase n) (b.erase n) (λx d=>by
    cbv)
   rw[ajh c]at this;ext
  ·have:=lO n l b (λx d=>by
    cbv)
   ext
theorem rE:∀(k l:Zg),l.Nodup->(∀x∈l,x∈k)->⇑l<=⇑k
 |[],[],_,_=>agQ _
 |[],a::l,_,h=>by have:=h a ag2;cbv
 |y::k,l,b,h=>by
  by_cases c:y∈l
  ·have:=rE k (l.erase y) (b.erase y) (λx d=>by
    cbv)
   rw[ajh c]at this;rw[ahi];ext
  ·have:=rE k l b (λx d=>by
    cbv)
   rw[ahi];ext
def OS {pend:Ze}(g:n<⇑S.ways)(f:∀a,((S.way a).map (·.1)).Nodup):∀c:List (Int×Nat),(∀q∈c,q.2<⇑S.ways)->∀a,(((cU n S pend c).1.way a).map (·.1)).Nodup:=by
 rwa[snoc_ind (λ_ a=>?_) λc p i d a=>?_]
 ·show (((S.kc n []).way a).map (·.1)).Nodup;rw[jk g];split
  ·rwa[aix]
  ·rwa[f a]
 ·let b:=i (λq e=>d q (ahd _ e));rw[iA];unfold jw;by_cases h:p.2≠n
  ·simp only[h,akp,ajg,ne_eq];unfold RS.oF;rw[jk ([(gM n S pend c).1]▸d p (agS _ ag2))];split
   ·rwa[List.Nodup.sublist (List.Sublist.map _ aiQ) (b p.2)]
   ·rwa[b a]
  ·simp only[h,ajH];rwa[b a]
section
variable {S:RS}{pend:Ze}{R:Za2}
def yJ.back (h:Good S pend R){b:RS}{a:Ze}(sy:∀c z d,b.by c z=some d->b.by d (-z)=some c){c d:Nat}{z:Int}(i:yJ b a c z d):yJ b a d (-z) c:=by
 rcases i with q|⟨w,j,q⟩
 ·rwa[.inl (sy _ _ _ q)]
 ·rwa[.inr ⟨w,j,?_⟩];rcases q with ⟨f,e,g⟩|⟨f,e,g⟩
  ·rwa[.inr ⟨f,by rw[e,aiF],g⟩]
  ·rwa[.inl ⟨f,e,g⟩]
theorem Good.meet (h:Good S pend R){c x y:Nat}{z:Int}(hx:S.by c z=some x)(hy:y<S.made)(ey:S.aw y=y)(hxy:x≠y)(iy:Im S R c z y){d:Ze}(hp:∀w∈d,w∈pend)
 (hcv:∀w∈pend,w∉d->(S.aw w.1=c/\w.2.1=z/\S.aw w.2.2=y)\/(S.aw w.1=y/\w.2.1= -z/\S.aw w.2.2=c)):
 Good (S.meet c z x y d).1 (S.meet c z x y d).2 R/\(∀a,(S.meet c z x y d).1.aw a=if S.aw a=max x y then min x y else S.aw a)/\(S.meet c z x y d).2=d++(S.way (max x y)).map (λp=>(max x y,p.1,p.2)):=by
 let⟨hc,hxm,ec,ex⟩:=h.st _ _ _ hx;let A:Cg R x y:=h.must (h.so _ _ _ hx) iy;let P:min x y<S.made:=∅
 let F:max x y<S.made:=∅
 let L:min x y<max x y:=∅
 let U:S.aw (min x y)=min x y:=by rcases aiA x y with q|q;rw[aji ∅];rwa[ex];rw[ajO ∅];rwa[ey]
 let I:S.aw (max x y)=max x y:=by rcases aiA x y with q|q;rw[akn ∅];rwa[ey];rw[aj6 ∅];rwa[ex]
 let N:x=min x y\/x=max x y:=∅
 let M:y=min x y\/y=max x y:=∅
 let j:Cg R (max x y) (min x y):=by
  rcases aiA x y with q|q
  ·rw[akn (by omega),aji (by omega)];rwa[A.symm]
  ·rw[aj6 ∅,ajO ∅];rwa[A]
 unfold RS.meet;generalize max x y=v at F L I N M j ⊢;generalize min x y=u at P L U N M j ⊢;let O:v<⇑S.ways:=by rw[h.wf.w];rwa[F]
 let J:∀q∈S.way v,q.2<⇑S.ways:=λq D=>by
  rw[h.wf.w];rwa[(h.st v q.1 q.2 (jy (h.kn v) D)).2.1]
 let hP:((S.joined c z u v).oH v d)=cU v (S.joined c z u v) d (S.way v):=rfl;rw[hP];let rest:=gM v (S.joined c z u v) d (S.way v);let W:∀a s,(S.joined c z u v).by a s=S.by a s:=λa s=>rfl
 let Z:∀a s,(cU v (S.joined c z u v) d (S.way v)).1.by a s=if a=v\/S.by a s=some v then none else S.by a s:=λa s=>by
  rw[xP (S:=S.joined c z u v) O _ J,W]
  have:(a=v\/∃q∈S.way v,q.2=a/\s= -q.1)↔(a=v\/S.by a s=some v):=by
   rwa[or_congr Iff.rfl ⟨5,λe=>?_⟩]
   ·rintro ⟨q,D,rfl,rfl⟩;rwa[h.sy _ _ _ (jy (h.kn v) D)]
   ·have:=rD (h.sy _ _ _ e);rwa[_,this,2,(aiF s).symm]
  simp only[this]
 let o:(cU v (S.joined c z u v) d (S.way v)).2=d++(S.way v).map λp=>(v,p.1,p.2):=yI _ _ _ _
 let G:=OS (S:=S.joined c z u v) (pend:=d) O h.kn (S.way v) J
 let heq:∀a,(cU v (S.joined c z u v) d (S.way v)).1.aw a=if S.aw a=v then u else S.aw a:=λa=>by
  rw[rest.2];show ((S.b9 v).foldl (λE n=>E.set n u) S.aU).getD a 0=_;rw[AO u _ _ _ (λn hn=>[h.wf.e]▸h.cb v n hn)];by_cases i:a<S.made
  ·have:=h.ca v F I a;by_cases e:S.aw a=v
   ·cbv
   ·rw[ahc (λq=>e (this.mp q).2),ahc e];rfl
  ·let T:S.aw a=0:=by unfold RS.aw;rw[agT,ahz (by rw[h.wf.e];omega)];rfl
   rw[ahc (λq=>i (h.cb v a q)),ahc ∅];rfl
 let k:∀e,(cU v (S.joined c z u v) d (S.way v)).1.b9 e=if e=u then S.b9 u++S.b9 v else S.b9 e:=λe=>by
  rw[rest.2];show (S.called.set u (S.b9 u++S.b9 v)).getD e []=_;rw[agT];by_cases q:e=u
  ·subst q;rw[ahH ([h.wf.c]▸P),ahf rfl];rfl
  ·rw[ah8 (ah5 q),ahc q];unfold RS.b9;cbv
 let f:(cU v (S.joined c z u v) d (S.way v)).1.made=S.made:=by rw[rest.2];rfl
 let H:(cU v (S.joined c z u v) d (S.way v)).1.Wf:=by
  erw[[rest.1,f]▸h.wf.w,55]
  ·rw[rest.2];rwa[h.wf.g]
  ·rw[rest.2];show ⇑((S.b9 v).foldl (λE n=>E.set n u) S.aU)=S.made;rw[yK];rwa[h.wf.e]
  ·rw[rest.2];show ⇑(S.called.set u (S.b9 u++S.b9 v))=S.made;rw[ahj];rwa[h.wf.c]
 generalize (cU v (S.joined c z u v) d (S.way v)).2=P2 at o ⊢;generalize (cU v (S.joined c z u v) d (S.way v)).1=g at rest Z G heq k f H ⊢;rwa[⟨5,heq,o⟩]
 let bo:∀a s b,g.by a s=some b↔S.by a s=some b/\a≠v/\b≠v:=λa s b=>by
  cbv
 let nv2:∀a,g.aw (S.aw a)=g.aw a:=λa=>by
  rw[heq,heq];by_cases i:a<S.made
  ·rw[(h.el a i).2]
  ·let T:∀a,¬a<S.made->S.aw a=0:=λa i=>by unfold RS.aw;rw[agT,ahz (by rw[h.wf.e];omega)];rfl
   rw[T a i];have:S.aw 0=0:=by have:=(h.el 0 ∅).1;ext
   rw[this]
 let l:∀{a b},S.aw a=S.aw b->g.aw a=g.aw b:=λ{a b} e=>by cbv
 let C:∀a s b,g.by a s=some b->g.by b (-s)=some a:=λa s b e=>by
  rw[bo]at e ⊢;rwa[h.sy _ _ _ e.1,e.2.2,e.2.1]
 let std:∀{a},S.aw a=a->g.aw a=if a=v then u else a:=λ{a} e=>by rw[heq,e]
 let kept:∀p s q,S.by p s=some q->yJ g P2 (g.aw p) s (g.aw q):=λp s q e=>by
  let⟨lp,lq,ep,eq⟩:=h.st _ _ _ e;by_cases h1:p=v
  ·rwa[.inr ⟨(v,s,q),5,.inl ⟨by rw[h1],22⟩⟩];rw[o];rw[h1]at e;rwa[agS _ (ahO.mpr ⟨(s,q),rD e,2⟩)]
  ·by_cases h2:q=v
   ·rwa[.inr ⟨(v,-s,p),5,.inr ⟨by rw[h2],22⟩⟩];rw[o];let e':=h.sy _ _ _ e;rw[h2]at e';rwa[agS _ (ahO.mpr ⟨(-s,p),rD e',2⟩)]
   ·rwa[.inl ?_]
    cbv
 let eu2:g.aw u=u:=by rw[std U,ahc ∅]
 let ev2:g.aw v=u:=by rw[std I,ahf rfl]
 let exy:g.aw x=g.aw y:=by
  let t:g.aw x=u:=by cbv
  let m:g.aw y=u:=by cbv
  rw[t,m]
 let imq:∀{a b s},Im S R (S.aw a) s (S.aw b)->Im g R (g.aw a) s (g.aw b):=λ{a b s} ⟨a',b',r,e1,e2⟩=>⟨a',b',r,l e1,l e2⟩
 rwa[⟨H,λa i=>?_,λe he ee a=>?_,λe a i=>?_,λe=>?_,G,λa s b e=>?_,C,λw hw=>?_,λa s b r=>?_,λa s b r=>?_,λa s b e=>?_,λw hw=>?_,λa i=>?_⟩]
 ·rw[f]at i;let⟨Q,l2⟩:=h.el a i;rw[heq]
  cbv
 ·rw[f]at he ⊢;rw[k];let nev:e≠v:=λz=>by rw[z,ev2]at ee;ext
  by_cases q:e=u
  ·subst q;rw[ahf rfl,agX,h.ca _ P U,h.ca v F I,heq]
   cbv
  ·rw[ahc q]
   let T:S.aw e=e:=by
    rw[heq]at ee;by_cases B:S.aw e=v
    ·cbv
    ·cbv
   rw[h.ca e he T,heq]
   cbv
 ·rw[f];rw[k]at i;split at i
  ·rcases agX.mp i with i|i
   ·rwa[h.cb^i]
   ·rwa[h.cb^i]
  ·rwa[h.cb^i]
 ·rw[k];split
  ·rwa[ahK.mpr ⟨h.cn _,h.cn _,λa i b hb e=>?_⟩];let t:=((h.ca _ P U a).mp i).2;let m:=((h.ca v F I b).mp hb).2;rw[e,m]at t;ext
  ·rwa[h.cn _]
 ·rw[bo]at e;let⟨Q,l2,l3,Y⟩:=h.st _ _ _ e.1;rwa[[f]▸Q,[f]▸l2,by rw[std l3,ahc e.2.1],by rw[std Y,ahc e.2.2]]
 ·rw[f];rw[o]at hw;rcases agX.mp hw with hw|hw
  ·rwa[h.pl w (hp w hw)]
  ·let⟨q,D,rfl⟩:=ahO.mp hw;rwa[F,(h.st v q.1 q.2 (jy (h.kn v) D)).2.1]
 ·rw[f];rwa[h.rl a s b r]
 ·rcases h.cv a s b r with q|⟨w,hw,q⟩
  ·cbv
  ·by_cases hm:w∈d
   ·rwa[.inr ⟨w,by cbv,?_⟩];rcases q with ⟨t,m,B⟩|⟨t,m,B⟩
    ·rwa[.inl ⟨l t,m,l B⟩]
    ·rwa[.inr ⟨l t,m,l B⟩]
   ·let base:yJ g P2 (g.aw c) z (g.aw y):=by rw[<-exy];rwa[kept _ _ _ hx]
    let one:∀{p q:Nat},S.aw p=c->S.aw q=y->g.aw p=g.aw c/\g.aw q=g.aw y:=λ{p q} e1 e2=>⟨by cbv,by cbv⟩
    rcases hcv w hw hm with ⟨f1,f2,X⟩|⟨f1,f2,X⟩
    ·rcases q with ⟨t,m,B⟩|⟨t,m,B⟩
     ·cbv
     ·let⟨V,g2⟩:=one (t.symm.trans f1) (B.symm.trans X);let E:s= -z:=by rw[<-f2,m,aiF]
      rw[V,g2,E];rwa[yJ.back h C base]
    ·rcases q with ⟨t,m,B⟩|⟨t,m,B⟩
     ·let⟨V,g2⟩:=one (B.symm.trans X) (t.symm.trans f1);let E:s= -z:=by rw[<-m,f2]
      rw[V,g2,E];rwa[yJ.back h C base]
     cbv
 ·rw[bo]at e;let⟨Q,l2,l3,Y⟩:=h.st _ _ _ e.1;have:=h.so _ _ _ e.1
  cbv
 ·rw[o]at hw;rcases agX.mp hw with hw|hw
  ·rwa[imq (h.sp w (hp w hw))]
  ·let⟨q,D,rfl⟩:=ahO.mp hw;let e:=jy (h.kn v) D;let⟨Q,l2,l3,Y⟩:=h.st v q.1 q.2 e;have:=h.so _ _ _ e
   cbv
 ·rw[f]at i;rw[heq];split
  ·rename_i q;have:=h.cg a i;rw[q]at this;rwa[this.trans j]
  ·rwa[h.cg a i]
end
def RS.stand (S:RS):Nat:=(List.range S.made).countP λc=>decide (S.aw c=c)
theorem lP {p p':Nat->Bool}{v:Nat}(h:∀a,p' a=(p a && decide (a≠v)))(b:p v=true):∀n,(List.range n).countP p'+ (if v<n then 1 else 0)=(List.range n).countP p
 |0=>rfl
 |n+ 1=>by
  let c:=lP h b n;rw[aib,List.countP_append,List.countP_append,<-c];rw[List.countP_singleton,List.countP_singleton,h n];by_cases e:n=v
  ·subst e;rw[b,ahc (ah2 n),ahf (aic n)];simp
  ·have:decide (n≠v)=true:=ahp e;rw[this,Bool.and_true];let d:(v<n+ 1)=(v<n):=propext ⟨λ_=>∅,λ_=>∅⟩;simp only[d];ext
def mu (k:Nat)(S:RS)(pend:Ze):Nat:=S.stand* (k+ 1)+ ⇑pend
section
variable {S:RS}{pend:Ze}{R:Za2}{w:Way}{ks:Zg}
def Good.Hu (h:Good S pend R)(e:∀c z d,R c z d->z∈ks)(c:Nat):⇑(S.way c)<=⇑ks:=by
 have:=rE ks ((S.way c).map (·.1)) (h.kn c) (λx g=>by
  let⟨q,f,rfl⟩:=ahO.mp g;let⟨a,b,r,_⟩:=h.so c q.1 q.2 (jy (h.kn c) f);rwa[e _ _ _ r])
 rw[agO]at this;rwa[this]
def Good.RC (h:Good S pend R)(c:Nat):⇑(S.b9 c)<=S.made:=lO _ _ (h.cn c) λx a=>h.cb c x a
theorem Good.take (h:Good S (pend++[w]) R)(Q:∀c z d,R c z d->z∈ks):Good (S.takeIn pend w).1 (S.takeIn pend w).2 R/\mu ⇑ks (S.takeIn pend w).1 (S.takeIn pend w).2<mu ⇑ks S (pend++[w])/\(S.takeIn pend w).1.made=S.made/\(S.takeIn pend w).1.L=S.L/\
 ((S.takeIn pend w).1.stand=S.stand/\(S.takeIn pend w).1.rows=S.rows/\(S.takeIn pend w).1.aZ=S.aZ\/(S.takeIn pend w).1.stand+ 1=S.stand/\∃c z x y,S.by c z=some x/\Im S R c z y/\y<S.made/\S.aw y=y/\x≠y/\(S.takeIn pend w).1.rows=S.rows++[hX c z (min x y) (max x y)]/\(S.takeIn pend w).1.aZ=S.aZ++[max x y]/\∀a,(S.takeIn pend w).1.aw a=if S.aw a=max x y then min x y else S.aw a):=by
 let hw:=h.pl w (agS _ ag2);let l:=h.sp w (agS _ ag2);let hc:=h.lt hw.1;let hd:=h.lt hw.2;let k:=(h.el _ hw.1).2;let ed:=(h.el _ hw.2).2;let G:∀x∈pend,x∈pend++[w]:=λx i=>ahd _ i
 let last:∀x∈pend++[w],x∉pend->x=w:=λx i nx=>by
  cbv
 let met:∀{c x y:Nat} {z:Int},S.by c z=some x->y<S.made->S.aw y=y->x≠y->Im S R c z y->((S.aw w.1=c/\w.2.1=z/\S.aw w.2.2=y)\/(S.aw w.1=y/\w.2.1= -z/\S.aw w.2.2=c))->
  Good (S.meet c z x y pend).1 (S.meet c z x y pend).2 R/\mu ⇑ks (S.meet c z x y pend).1 (S.meet c z x y pend).2<mu ⇑ks S (pend++[w])/\(S.meet c z x y pend).1.made=S.made/\(S.meet c z x y pend).1.L=S.L/\(S.meet c z x y pend).1.stand+ 1=S.stand/\(S.meet c z x y pend).1.rows=S.rows++[hX c z (min x y) (max x y)]/\(S.meet c z x y pend).1.aZ=S.aZ++[max x y]/\∀a,(S.meet c z x y pend).1.aw a=if S.aw a=max x y then min x y else S.aw a:=by
  intro c x y z i U B s M u;let⟨g,H,L⟩:=h.meet i U B s M G (λx i nx=>[last x i nx]▸u);let⟨hc,O,k,ex⟩:=h.st _ _ _ i;let rest:=(gM (max x y) (S.joined c z (min x y) (max x y)) pend ((S.joined c z (min x y) (max x y)).way (max x y))).2
  let F:(S.meet c z x y pend).1.made=S.made:=by
   show (cU (max x y) (S.joined c z (min x y) (max x y)) pend ((S.joined c z (min x y) (max x y)).way (max x y))).1.made=_;rw[rest];rfl
  let T:(S.meet c z x y pend).1.L=S.L:=by
   show (cU (max x y) (S.joined c z (min x y) (max x y)) pend ((S.joined c z (min x y) (max x y)).way (max x y))).1.L=_;rw[rest];rfl
  let P:(S.meet c z x y pend).1.rows=S.rows++[hX c z (min x y) (max x y)]:=by
   show (cU (max x y) (S.joined c z (min x y) (max x y)) pend ((S.joined c z (min x y) (max x y)).way (max x y))).1.rows=_;rw[rest];rfl
  let N:(S.meet c z x y pend).1.aZ=S.aZ++[max x y]:=by
   show (cU (max x y) (S.joined c z (min x y) (max x y)) pend ((S.joined c z (min x y) (max x y)).way (max x y))).1.aZ=_;rw[rest];rfl
  let E:S.aw (max x y)=max x y:=by rcases aiA x y with q|q;rw[akn ∅];rwa[B];rw[aj6 ∅];rwa[ex]
  let I:(S.meet c z x y pend).1.stand+ 1=S.stand:=by
   unfold RS.stand;rw[F]
   have:=lP (p:=λc=>decide (S.aw c=c)) (p':=λa=>decide ((S.meet c z x y pend).1.aw a=a)) (v:=max x y) (λa=>by
    rw[H,ah6,aiD,ahD,ahD,ahD];by_cases q:S.aw a=max x y
    ·rw[ahf q];constructor
     ·intro e;let j:S.aw (min x y)=min x y:=by rcases aiA x y with q|q;rw[aji ∅];rwa[ex];rw[ajO ∅];rwa[B]
      rw[e]at j;ext
     ·rintro ⟨V,j⟩;rwa[absurd (V.symm.trans q) j]
    ·rw[ahc q];rwa[λe=>⟨e,λj=>q ([j]▸E)⟩,λe=>e.1]) (ahp E) S.made
   rw[ahf ∅]at this;rwa[this]
  let X:=h.Hu Q (max x y);rwa[⟨g,5,F,T,I,P,N,H⟩];unfold mu;rw[L,<-I,agN,agN,agO,ajo,Nat.one_mul];ext
 unfold RS.takeIn;by_cases f:(S.by (S.aw w.1) w.2.1).getD (S.aw w.2.2)≠S.aw w.2.2
 ·rw[ahf f]
  cases e:S.by (S.aw w.1) w.2.1 with
  |none=>rw[e]at f;rwa[absurd rfl f]
  |some x=>
   rw[e]at f;let⟨A,D,m,n,o,C,r,t⟩:=met e hd ed f l (.inl ⟨222⟩);rwa[A,D,m,n,.inr ⟨o,11,x,_,e,l,hd,ed,f,C,r,t⟩]
 ·rw[ahc f];by_cases b:(S.by (S.aw w.2.2) (-w.2.1)).getD (S.aw w.1)≠S.aw w.1
  ·rw[ahf b]
   cases e:S.by (S.aw w.2.2) (-w.2.1) with
   |none=>rw[e]at b;rwa[absurd rfl b]
   |some x=>
    rw[e]at b;let J:=Im.back h l;let⟨A,D,m,n,o,C,r,t⟩:=met e hc k b J (.inr ⟨2,(aiF _).symm,2⟩);rwa[A,D,m,n,.inr ⟨o,11,x,_,e,J,hc,k,b,C,r,t⟩]
  ·rw[ahc b]
   let k1:S.by (S.aw w.1) w.2.1=none\/S.by (S.aw w.1) w.2.1=some (S.aw w.2.2):=by
    cases e:S.by (S.aw w.1) w.2.1 with
    |none=>exact .inl rfl
    |some x=>rw[e]at f;rwa[.inr (ahZ some (ajI.mp f))]
   let k2:S.by (S.aw w.2.2) (-w.2.1)=none\/S.by (S.aw w.2.2) (-w.2.1)=some (S.aw w.1):=by
    cases e:S.by (S.aw w.2.2) (-w.2.1) with
    |none=>exact .inl rfl
    |some x=>rw[e]at b;rwa[.inr (ahZ some (ajI.mp b))]
   rwa[⟨h.keep hc hd k ed l k1 k2 G (λx i nx=>[last x i nx]▸⟨222⟩),522,.inl ⟨222⟩⟩];show S.stand* _+ ⇑pend<S.stand* _+ ⇑(pend++[w]);rw[agN];have:⇑([w]:Ze)=1:=rfl;ext
def Good.fin (h:Good S [] R){a b:Nat}(i:a<S.made)(k:b<S.made):S.aw a=S.aw b↔Cg R a b:=by
 let det:∀{a d b f:Nat} {z:Int},R a z b->R d z f->S.aw a=S.aw d->S.aw b=S.aw f:=λ{a d b f z} r1 r2 e=>by
  rcases h.cv _ _ _ r1 with q|⟨w,m,_⟩
  ·rcases h.cv _ _ _ r2 with p|⟨w,m,_⟩
   ·cbv
   cbv
  cbv
 constructor
 ·intro e;let j:=h.cg a i;let l:=h.cg b k;rw[e]at j;rwa[j.trans l.symm]
 ·intro c;clear i k
  induction c with
  |refl=>rfl
  |symm _ g=>exact g.symm
  |trans _ _ n o=>exact n.trans o
  |step r1 r2 _ g=>exact det r1 r2 g
def Good.rF (h:Good S [] R){c d:Nat}{z:Int}:S.by c z=some d↔Im S R c z d:=by
 constructor
 ·rwa[h.so c z d]
 ·rintro ⟨e,b,r,rfl,rfl⟩;rcases h.cv _ _ _ r with q|⟨w,a,_⟩
  ·rwa[q]
  cbv
end
def fQ (R:Za2)(c:Nat)(z:Int)(d:Nat):Za2:=λa s b=>R a s b\/(a=c/\s=z/\b=d)\/(a=d/\s= -z/\b=c)
def iB:∀a s b,R a s b->fQ R n z m a s b:=λ_ _ _ r=>.inl r
def kg:fQ R n z m n z m:=.inr (.inl ⟨222⟩)
theorem uF (L:Nat)(g:Zg):Good (RS.new L g) [] (λ_ _ _=>False) where
 wf:=⟨2222⟩
 el:=λc a=>by
  have:c=0:=by have:c<1:=a;ext
  subst this;rwa[agQ _,2]
 ca:=λe f _ c=>by
  have:e=0:=by have:e<1:=f;ext
  subst this;show c∈[0]↔c<1/\(RS.new L g).aw c=0
  cbv
 cb:=λe c a=>by
  have:(RS.new L g).b9 e=[0]\/(RS.new L g).b9 e=[]:=by
   rcases e with _|e
   ·rwa[.inl rfl]
   ·rwa[.inr rfl]
  show c<1
  cbv
 cn:=λe=>by
  rcases e with _|e
  ·show [0].Nodup;simp
  ·rwa[aix]
 kn:=λc=>by
  rcases c with _|c <;> rwa[aix]
 st:=λc z d h=>by
  have:(RS.new L g).by c z=none:=by rcases c with _|c <;> rfl
  cbv
 sy:=λc z d h=>by
  have:(RS.new L g).by c z=none:=by rcases c with _|c <;> rfl
  cbv
 pl:=λw b=>by ext b
 rl:=λ_ _ _ h=>h.elim
 cv:=λ_ _ _ h=>h.elim
 so:=λc z d h=>by
  have:(RS.new L g).by c z=none:=by rcases c with _|c <;> rfl
  cbv
 sp:=λw b=>by ext b
 cg:=λc a=>by
  have:c=0:=by have:c<1:=a;ext
  subst this;rwa[.refl _]
section
variable {S:RS}{R:Za2}
def Good.lay (h:Good S [] R){c d:Nat}(z:Int)(hc:c<S.made)(hd:d<S.made)(rows:List Dt):Good { S with rows:=rows } [(c,z,d)] (fQ R c z d) where
 wf:=⟨h.wf.w,h.wf.g,h.wf.e,h.wf.c⟩
 el:=h.el
 ca:=h.ca
 cb:=h.cb
 cn:=h.cn
 kn:=h.kn
 st:=h.st
 sy:=h.sy
 pl:=λw f=>by rw[agR.mp f];rwa[hc,hd]
 rl:=by
  rintro a s b (r|⟨rfl,rfl,rfl⟩|⟨rfl,rfl,rfl⟩)
  ·let⟨o,g,l⟩:=h.rl _ _ _ r;rwa[o,g,.inl l]
  ·rwa[hc,hd,.inr (.inr ⟨222⟩)]
  ·rwa[hd,hc,.inr (.inl ⟨2,aiF _,2⟩)]
 cv:=by
  rintro a s b (r|⟨rfl,rfl,rfl⟩|⟨rfl,rfl,rfl⟩)
  ·rcases h.cv _ _ _ r with q|⟨w,f,_⟩
   ·rwa[.inl q]
   ·ext f
  ·rwa[.inr ⟨_,ag2,.inl ⟨rfl,rfl,rfl⟩⟩]
  ·rwa[.inr ⟨_,ag2,.inr ⟨rfl,(aiF _).symm,rfl⟩⟩]
 so:=λa s b e=>by
  let⟨k,j,r,m,n⟩:=h.so a s b e;rwa[k,j,.inl r,m,n]
 sp:=λw f=>by
  rw[agR.mp f];rwa[c,d,kg,22]
 cg:=λa i=>(h.cg a i).mono iB
def fF (hw:S.Wf)(c:Nat)(z:Int)(g:Zg)(a:Nat):(S.grown c z g).aw a=if a=S.made then S.made else S.aw a:=by
 unfold RS.aw;show (S.aU++[S.made]).getD a 0=_;rw[agT];by_cases e:a=S.made
 ·rw[ahf e,e,agW ([hw.e]▸agQ _),hw.e,aiL];rfl
 ·rw[ahc e,agT];by_cases q:a<S.made
  ·rw[agV ([hw.e]▸q)]
  ·rw[ahz (by rw[agN,hw.e];show S.made+ 1<=a;omega),ahz (by rw[hw.e];omega)]
def rH (hw:S.Wf)(c:Nat)(z:Int)(g:Zg)(a:Nat):(S.grown c z g).b9 a=if a=S.made then [S.made] else S.b9 a:=by
 unfold RS.b9;show (S.called++[[S.made]]).getD a []=_;rw[agT];by_cases e:a=S.made
 ·rw[ahf e,e,agW ([hw.c]▸agQ _),hw.c,aiL];rfl
 ·rw[ahc e,agT];by_cases q:a<S.made
  ·rw[agV ([hw.c]▸q)]
  ·rw[ahz (by rw[agN,hw.c];show S.made+ 1<=a;omega),ahz (by rw[hw.c];omega)]
def nj (d:S.Wf)(c:Nat)(z:Int)(g:Zg)(a:Nat):(S.grown c z g).way a=S.way a:=by
 unfold RS.way;show (S.ways++[[]]).getD a []=_;rw[agT,agT];by_cases q:a<⇑S.ways
 ·rw[agV q]
 ·rw[agW ∅,ahz (l:=S.ways) ∅];by_cases b:a - ⇑S.ways=0
  ·rw[b];rfl
  ·cbv
def Good.make (h:Good S [] R){c:Nat}{z:Int}(hc:c<S.made)(y:S.aw c=c)(A:S.by c z=none)(g:Zg):Good (S.make c z g) [] (fQ R c z S.made):=by
 let hw:=h.wf;let d:∀a,a<S.made->(S.grown c z g).aw a=S.aw a:=λa m=>by rw[fF hw,ahc ∅]
 let j:(S.grown c z g).aw S.made=S.made:=by rw[fF hw,ahf rfl]
 let f:∀a s,(S.grown c z g).by a s=S.by a s:=λa s=>by unfold RS.by;rw[nj hw]
 let G:Good (S.grown c z g) [(c,z,S.made)] (fQ R c z S.made):=by
  rwa[⟨⟨5555⟩,λa m=>?_,λe C ee a=>?_,λe a m=>?_,λe=>?_,λa=>?_,λa s b e=>?_,λa s b e=>?_,λw hw=>?_,55,λa s b e=>?_,λw hw=>?_,λa m=>?_⟩]
  ·show ⇑(S.ways++[[]])=S.made+ 1;rw[agN,hw.w];rfl
  ·show ⇑(S.gaps++[_])=S.made+ 1;rw[agN,hw.g];rfl
  ·show ⇑(S.aU++[_])=S.made+ 1;rw[agN,hw.e];rfl
  ·show ⇑(S.called++[_])=S.made+ 1;rw[agN,hw.c];rfl
  ·let t:a<S.made+ 1:=m;by_cases e:a=S.made
   ·rw[e,j];rwa[agQ _,j]
   ·let p:a<S.made:=∅
    rw[d a p];let⟨l,k⟩:=h.el a p;rwa[l,[d _ ∅]▸k]
  ·let B:e<S.made+ 1:=C;show _↔a<S.made+ 1/\_;rw[rH hw,fF hw];by_cases q:e=S.made
   ·subst q;rw[ahf rfl,agR];constructor
    ·rintro rfl;rwa[3,by cbv]
    ·rintro ⟨l,k⟩;by_cases n:a=S.made
     ·rwa[n]
     ·rw[ahc n]at k;have:=(h.el a ∅).1;ext
   ·let p:e<S.made:=∅
    rw[d e p]at ee;rw[ahc q,h.ca e p ee a]
    cbv
  ·show a<S.made+ 1;rw[rH hw]at m;split at m
   ·rw[agR.mp m];ext
   ·rwa[aik (h.cb e a m)]
  ·rw[rH hw];split
   ·simp
   ·rwa[h.cn e]
  ·rw[nj hw];rwa[h.kn a]
  ·rw[f]at e;let⟨l,k,n,x⟩:=h.st a s b e;rwa[aik l,aik k,[d a l]▸n,[d b k]▸x]
  ·rw[f]at e ⊢;rwa[h.sy a s b e]
  ·rw[agR.mp hw];rwa[aik hc,aic _]
  ·rintro a s b (r|⟨rfl,rfl,rfl⟩|⟨rfl,rfl,rfl⟩)
   ·let⟨l,k,n⟩:=h.rl _ _ _ r;rwa[aik l,aik k,.inl n]
   ·rwa[aik hc,aic _,.inr (.inr ⟨222⟩)]
   ·rwa[aic _,aik hc,.inr (.inl ⟨2,aiF _,2⟩)]
  ·rintro a s b (r|⟨rfl,rfl,rfl⟩|⟨rfl,rfl,rfl⟩)
   ·let⟨l,k,_⟩:=h.rl _ _ _ r;rcases h.cv _ _ _ r with q|⟨w,hw,_⟩
    ·rwa[.inl (by rw[d a l,d b k,f];rwa[q])]
    ·ext hw
   ·rwa[.inr ⟨_,ag2,.inl ⟨rfl,rfl,rfl⟩⟩]
   ·rwa[.inr ⟨_,ag2,.inr ⟨rfl,(aiF _).symm,rfl⟩⟩]
  ·rw[f]at e;let⟨v,u,r,o,D⟩:=h.so a s b e;let⟨l,k,_⟩:=h.rl _ _ _ r;rwa[v,u,.inl r,[d v l]▸o,[d u k]▸D]
  ·rw[agR.mp hw];rwa[c,S.made,kg,22]
  ·let t:a<S.made+ 1:=m;by_cases e:a=S.made
   ·rw[e,j];rwa[.refl _]
   ·rw[d a ∅];rwa[(h.cg a ∅).mono iB]
 let o:(S.grown c z g).aw c=c:=by rw[d c hc];rwa[y]
 let i:=G.sp _ ag2;rw[show (c,z,S.made).1=c from rfl,show (c,z,S.made).2.2=S.made from rfl,o,j]at i;rwa[G.keep (aik hc) (aic _) o j i (.inl ([f]▸A)) (.inl ?_) (λw hw=>by ext hw) (λw hw _=>[agR.mp hw]▸⟨o,2,j⟩)];rw[f]
 cases e:S.by S.made (-z) with
 |none=>rfl
 |some b=>have:=(h.st _ _ _ e).1;ext
end
def YW (n:Nat)(s:Int):Za2:=λa z b=>(z=s/\b=a+ 1/\b<n)\/(z= -s/\a=b+ 1/\a<n)
inductive Vz (x:V) (y:V) (H:Hp) (Q:VK):Prop
 |mk (a b:Zs) (xs:Zb) (t:Str):x=↑a->y=↑b->H a\.tup xs->H b\.tup [.str t]->(xs=[]\/(∃n,xs=[.int n])\/∃t',xs=[.str t'])->Q (.bl (decide (xs=[V.str t]))) H->Vz x y H Q
section
variable {X:Cx}
theorem FE {z v:Str}{scope:Scope}(l:closureFor scope X.env=pure [(f,c),(z,d),(v,a)])(L:X.env.cells.lookup f\c)(I:X.env.cells.lookup z\d)(J:X.env.cells.lookup v\a)(y:∀q∈scope.names,q.2≠.cell)(F:scope.kind=.function)
 (C:∀q∈scope.names,q.2=.local->scope.names.lookup q.1=some .local) (G:scope.names.lookup x=some .local) (e:∀q∈scope.names,q.2=.free->q.1=f\/q.1=z\/q.1=v) (b:(x≠f/\x≠z/\x≠v)/\f≠z/\f≠v/\z≠v) (E:X.N[i]?\f) (D:X.N[j]?\z) (H:X.N[n]?\v)
 (o:X.env.kindOf f=some .cell) (p:X.env.kindOf z=some .cell) (m:X.env.kindOf v=some .cell) (g:X.env.scope.kind=.function) (u:scope.names.lookup f=some .free) (r:scope.names.lookup z=some .free) (s:scope.names.lookup v=some .free):dW X x [f,z,v] [i,j,n] scope [(f,c),(z,d),(v,a)] where
 Aj:=l
 sub:=λw q h=>by
  cbv
 cell:=y
 kind:=F
 names:=C
 own:=G
 has:=λw h=>by
  let B:w=f\/w=z\/w=v:=by
   rcases h with h|h
   ·rwa[e _ (hU h (.inl rfl) y) rfl]
   ·rwa[e _ (hU h (.inr rfl) y) rfl]
  cbv
 nd:=by simp[b.1.1,b.1.2.1,b.1.2.2,b.2.1,b.2.2.1,b.2.2.2]
 len:=rfl
 at_:=λk w h=>by
  match k,h with
  |0,h=>
   let a:f=w:=by simpa using h
   subst a;rwa[i,2,E,.inl o,c,by simp[aiU],.inl (cL g o u)]
  |1,h=>
   let a:z=w:=by simpa using h
   subst a;let t:(z==f)=false:=ag9.mpr (λq=>b.2.1 q.symm);rwa[j,2,D,.inl p,d,by simp[aiU,t],.inl (cL g p r)]
  |2,h=>
   let B:v=w:=by simpa using h
   subst B;let t:(v==f)=false:=ag9.mpr (λq=>b.2.2.1 q.symm);let A:(v==z)=false:=ag9.mpr (λq=>b.2.2.2 q.symm);rwa[n,2,H,.inl m,a,by simp[aiU,t,A],.inl (cL g m s)]
  |k+ 3,h=>simp at h
end
end L2
namespace L2
def iC {a z:TS}(h:let b:TS:=z;aP a b G D H):(aP a z) G D H:=h
def fS {a b z:TS}(h:let c:TS:=z;let d:TS:=aP b c;aP a d G D H):(aP a (aP b z)) G D H:=h
def gT {a c b z:TS}(h:let d:TS:=z;let e:TS:=aP b d;let f:TS:=aP c e;aP a f G D H):(aP a (aP c (aP b z))) G D H:=h
def uG {a d b c z:TS}(h:let i:TS:=z;let e:TS:=aP c i;let f:TS:=aP b e;let g:TS:=aP d f;aP a g G D H):(aP a (aP d (aP b (aP c z)))) G D H:=h
def mD {a e b c d z:TS}(h:let j:TS:=z;let k:TS:=aP d j;let f:TS:=aP c k;let g:TS:=aP b f;let i:TS:=aP e g;aP a i G D H):(aP a (aP e (aP b (aP c (aP d z))))) G D H:=h
def pO {a f b c e d z:TS}(h:let m:TS:=z;let k:TS:=aP d m;let l:TS:=aP e k;let g:TS:=aP c l;let i:TS:=aP b g;let j:TS:=aP f i;aP a j G D H):(aP a (aP f (aP b (aP c (aP e (aP d z)))))) G D H:=h
def AQ {e g a b c f d z:TS}(h:let i:TS:=z;let m:TS:=aP d i;let k:TS:=aP f m;let l:TS:=aP c k;let j:TS:=aP b l;let n:TS:=aP a j;let o:TS:=aP g n;aP e o G D H):(aP e (aP g (aP a (aP b (aP c (aP f (aP d z))))))) G D H:=h
def Kr {f i a b c g d e z:TS}(h:let m:TS:=z;let j:TS:=aP e m;let o:TS:=aP d j;let l:TS:=aP g o;let n:TS:=aP c l;let k:TS:=aP b n;let p:TS:=aP a k;let q:TS:=aP i p;aP f q G D H):(aP f (aP i (aP a (aP b (aP c (aP g (aP d (aP e z)))))))) G D H:=h
def Hv {m o g i j n k l p c b a z:TS}(h:let e:TS:=z;let d:TS:=aP a e;let f:TS:=aP b d;let r:TS:=aP c f;let u:TS:=aP p r;let q:TS:=aP l u;let w:TS:=aP k q;let t:TS:=aP n w;let v:TS:=aP j t;let s:TS:=aP i v;let x:TS:=aP g s;let y:TS:=aP o x;aP m y G D H):(aP m (aP o (aP g (aP i (aP j (aP n (aP k (aP l (aP p (aP c (aP b (aP a z)))))))))))) G D H:=h
def Hw {o q j k l p m n r c b a d z:TS}(h:let e:TS:=z;let g:TS:=aP d e;let f:TS:=aP a g;let i:TS:=aP b f;let t:TS:=aP c i;let w:TS:=aP r t;let s:TS:=aP n w;let y:TS:=aP m s;let v:TS:=aP p y;let x:TS:=aP l v;let u:TS:=aP k x;let A:TS:=aP j u;let B:TS:=aP q A;aP o B G D H):(aP o (aP q (aP j (aP k (aP l (aP p (aP m (aP n (aP r (aP c (aP b (aP a (aP d z))))))))))))) G D H:=h
theorem args_is1 {b:Type}:∀{us:List b},⇑us=1->∃a,us=[a]
 |[a],_=>⟨a,2⟩
theorem args_is2 {c:Type}:∀{us:List c},⇑us=2->∃b a,us=[b,a]
 |[b,a],_=>⟨b,a,2⟩
theorem args_is3 {d:Type}:∀{us:List d},⇑us=3->∃c b a,us=[c,b,a]
 |[c,b,a],_=>⟨c,b,a,2⟩
theorem args_is4 {e:Type}:∀{us:List e},⇑us=4->∃d a b c,us=[d,a,b,c]
 |[d,a,b,c],_=>⟨d,a,b,c,2⟩
theorem args_is5 {f:Type}:∀{us:List f},⇑us=5->∃e a c d b,us=[e,a,c,d,b]
 |[e,a,c,d,b],_=>⟨e,a,c,d,b,2⟩
theorem args_is6 {g:Type}:∀{us:List g},⇑us=6->∃f a d e c b,us=[f,a,d,e,c,b]
 |[f,a,d,e,c,b],_=>⟨f,a,d,e,c,b,2⟩
structure eQ (S:RS) (R:Za2) (ks:Zg):Prop where
 sub:∀c,c<S.made->(S.gap c).Sublist ks
 im:∀c,c<S.made->S.aw c=c->∀z∈ks,z∉S.gap c->∃d,Im S R c z d
 by_:∀c z d,S.by c z=some d->z∉S.gap c
section
variable {S:RS}{pend:Ze}{R:Za2}{ks:Zg}
def jz {x:Nat}(a:n<⇑S.gaps):(S.lM n z).gap x=if x=n then (S.gap n).filter (λy=>decide (y≠z)) else S.gap x:=by
 unfold RS.lM RS.setG RS.gap
 cbv
def yL:(S.lM n z).gaps.length=⇑S.gaps:=by
 rwa[ahj ..]
def pS {x:Nat}(b:n<⇑S.gaps)(c:m<⇑S.gaps):y∈(S.keep n z m).gap x↔y∈S.gap x/\¬(x=n/\y=z)/\¬(x=m/\y= -z):=by
 unfold RS.keep;let a:∀x,((S.b8 n z m).b8 m (-z) n).gap x=S.gap x:=λx=>rfl
 rw[jz ([yL]▸c),jz (by rwa[b]),jz (by rwa[b]),a,a,a]
 cbv
def rJ {x:Nat}(d:n<⇑S.gaps)(e:m<⇑S.gaps):((S.keep n z m).gap x).Sublist (S.gap x):=by
 unfold RS.keep;let b:∀x,((S.b8 n z m).b8 m (-z) n).gap x=S.gap x:=λx=>rfl
 rw[jz ([yL]▸e),jz (by rwa[d]),jz (by rwa[d]),b,b,b];by_cases c:x=m
 ·subst c;rw[ahf rfl];by_cases a:x=n
  ·subst a;rw[ahf rfl];rwa[List.Sublist.trans aiQ aiQ]
  ·rw[ahc a];rwa[aiQ]
 ·rw[ahc c];by_cases a:x=n
  ·subst a;rw[ahf rfl];rwa[aiQ]
  cbv
def Ea {x:Nat}(b:n<⇑S.ways)(a:m<⇑S.ways):(S.keep n z m).by x y=if x=m/\y= -z then some n else if x=n/\y=z then some m else S.by x y:=by
 show (((S.b8 n z m).b8 m (-z) n)).by x y=_;rw[jx (by unfold RS.b8 RS.kc;rw[ahj];rwa[a]),jx b]
def eQ.keep (h:eQ S R ks)(g:Good S pend R){c d:Nat}{z:Int}(hc:c<S.made)(hd:d<S.made)(i:Im S R c z d):eQ (S.keep c z d) R ks:=by
 let b:c<⇑S.gaps:=by rw[g.wf.g];rwa[hc]
 let a:d<⇑S.gaps:=by rw[g.wf.g];rwa[hd]
 rwa[⟨λx l=>(rJ b a).trans (h.sub x l),λx l ex y o m=>?_,λx y e j=>?_⟩]
 ·rw[pS b a]at m;by_cases k:x=c/\y=z
  ·rw[k.1,k.2];rwa[d,i]
  ·by_cases f:x=d/\y= -z
   ·rw[f.1,f.2];rwa[c,i.back g]
   ·rwa[h.im x l ex y o λq=>m ⟨q,k,f⟩]
 ·rw[Ea ([g.wf.w]▸hc) ([g.wf.w]▸hd)]at j;rw[pS b a];rintro ⟨q,p,n⟩;rw[ahc n,ahc p]at j;rwa[h.by_ x y e j q]
def Ks {x:Nat}:(S.meet n z x m pend).1.gaps=S.gaps:=by
 have:=(gM (max x m) (S.joined n z (min x m) (max x m)) pend ((S.joined n z (min x m) (max x m)).way (max x m))).2;have:=ahZ RS.gaps this;rwa[this]
theorem eQ.meet (h:eQ S R ks)(g:Good S pend R){c x y:Nat}{z:Int}(C:S.by c z=some x)(G:y<S.made)(F:S.aw y=y)(p:x≠y){d:Ze}
 (made:(S.meet c z x y d).1.made=S.made) (aw:∀a,(S.meet c z x y d).1.aw a=if S.aw a=max x y then min x y else S.aw a):eQ (S.meet c z x y d).1 R ks:=by
 let l:∀a,(S.meet c z x y d).1.gap a=S.gap a:=λa=>by unfold RS.gap;rw[Ks]
 let⟨_,v,_,ex⟩:=g.st _ _ _ C;let j:max x y<S.made:=by rcases ajZ x y with q|q <;> ext
 let fy:∀a,a<S.made->(S.meet c z x y d).1.aw a=a->S.aw a=a/\a≠max x y:=λa i e=>by
  rw[aw]at e;let u:=(g.el a i).1;by_cases q:S.aw a=max x y
  ·rw[ahf q]at e;ext
  ·cbv
 rwa[⟨λa i=>[l]▸h.sub a (by rw[<-made];rwa[i]),λa i A s w m=>?_,λa s b o=>?_⟩]
 ·rw[l]at m;let⟨D,H⟩:=fy a (by rw[<-made];rwa[i]) A;let⟨b,B,n,r,I,E⟩:=h.im a (by rw[<-made];rwa[i]) D s w m;rwa[_,B,n,r,by cbv,2]
 ·rw[l]
  let k:∀q∈(S.joined c z (min x y) (max x y)).way (max x y),q.2<(S.joined c z (min x y) (max x y)).ways.length:=λq t=>by
   show q.2<⇑S.ways;rw[g.wf.w];rwa[(g.st _ _ _ (jy (g.kn (max x y)) t)).2.1]
  let f:(cU (max x y) (S.joined c z (min x y) (max x y)) d ((S.joined c z (min x y) (max x y)).way (max x y))).1.by a s=some b:=o;rw[xP (by show max x y<⇑S.ways;rw[g.wf.w];rwa[j]) _ k]at f;split at f
  ·ext f
  ·rwa[h.by_ a s b f]
def yM {x:Nat}:(S.meet n z x m pend).1.made=S.made:=by
 have:=(gM (max x m) (S.joined n z (min x m) (max x m)) pend ((S.joined n z (min x m) (max x m)).way (max x m))).2;have:=ahZ RS.made this;rwa[this]
def eQ.take {w:Way}(hG:eQ S R ks)(h:Good S (pend++[w]) R):eQ (S.takeIn pend w).1 R ks:=by
 let hw:=h.pl w (agS _ ag2);let f:=h.sp w (agS _ ag2);let hc:=h.lt hw.1;let hd:=h.lt hw.2;let g:=(h.el _ hw.1).2;let ed:=(h.el _ hw.2).2;let i:∀x∈pend,x∈pend++[w]:=λx b=>ahd _ b
 let last:∀x∈pend++[w],x∉pend->x=w:=λx b nx=>by
  cbv
 unfold RS.takeIn;by_cases c:(S.by (S.aw w.1) w.2.1).getD (S.aw w.2.2)≠S.aw w.2.2
 ·rw[ahf c]
  cases e:S.by (S.aw w.1) w.2.1 with
  |none=>cbv
  |some x=>
   rw[e]at c;let⟨_,d,_⟩:=h.meet e hd ed c f i (λx b nx=>[last x b nx]▸.inl ⟨222⟩);rwa[hG.meet h e hd ed c yM d]
 ·rw[ahc c];by_cases a:(S.by (S.aw w.2.2) (-w.2.1)).getD (S.aw w.1)≠S.aw w.1
  ·rw[ahf a]
   cases e:S.by (S.aw w.2.2) (-w.2.1) with
   |none=>rw[e]at a;rwa[absurd rfl a]
   |some x=>
    rw[e]at a;let⟨_,d,_⟩:=h.meet e hc g a (f.back h) i (λx b nx=>[last x b nx]▸.inr ⟨2,(aiF _).symm,2⟩);rwa[hG.meet h e hc g a yM d]
  ·rw[ahc a];rwa[hG.keep h hc hd f]
def eQ.more {e:Za2}(h:eQ S R ks)(g:∀a z b,R a z b->e a z b):eQ S e ks:=⟨h.sub,λc hc i z hz j=>by
 let⟨d,l,k,r,f,m⟩:=h.im c hc i z hz j;rwa[d,l,k,g _ _ _ r,f,m],h.by_⟩
def eQ.rows (h:eQ S R ks)(rows:List Dt):eQ { S with rows:=rows } R ks:=⟨h.sub,h.im,h.by_⟩
def OU (L:Nat)(g:Zg):eQ (RS.new L g) (λ_ _ _=>False) g:=by
 rwa[⟨λc a=>?_,λc a _ z f b=>?_,λc z d e=>?_⟩]
 ·let a:c<1:=a;rw[show c=0 by ext];rwa[List.Sublist.refl _]
 ·let a:c<1:=a;rw[show c=0 by ext]at b;rwa[absurd f b]
 ·have:(RS.new L g).by c z=none:=by rcases c with _|c <;> rfl
  cbv
def eQ.make (h:eQ S R ks)(g:Good S [] R){c:Nat}{z:Int}(hc:c<S.made)(C:S.aw c=c)(J:S.by c z=none):eQ (S.make c z ks) (fQ R c z S.made) ks:=by
 let p:∀x,(S.grown c z ks).gap x=if x=S.made then ks else S.gap x:=λx=>by
  unfold RS.gap;show (S.gaps++[ks]).getD x []=_;rw[agT,agT];by_cases i:x=S.made
  ·subst i;rw[ahf rfl,agW ([g.wf.g]▸agQ _),g.wf.g,aiL];rfl
  ·rw[ahc i];by_cases G:x<⇑S.gaps
   ·rw[agV G]
   ·have:=g.wf.g;rw[agW ∅,ahz (by rw[ahX];omega),ahz ∅]
 let D:∀x y,(S.grown c z ks).by x y=S.by x y:=λx y=>by unfold RS.by;rw[nj g.wf]
 let l:c<(S.grown c z ks).gaps.length:=by show c<⇑(S.gaps++[ks]);rw[agN,g.wf.g];ext
 let j:S.made<(S.grown c z ks).gaps.length:=by show S.made<⇑(S.gaps++[ks]);rw[agN,g.wf.g,ahX];ext
 let v:c<(S.grown c z ks).ways.length:=by show c<⇑(S.ways++[[]]);rw[agN,g.wf.w];ext
 let t:S.made<(S.grown c z ks).ways.length:=by show S.made<⇑(S.ways++[[]]);rw[agN,g.wf.w,ahX];ext
 let ee:∀x,(S.make c z ks).aw x=if x=S.made then S.made else S.aw x:=λx=>fF g.wf c z ks x
 let m:∀a s b,S.by a s=some b->a≠S.made:=λa s b e q=>by have:=(g.st _ _ _ e).1;ext
 rwa[⟨λx i=>?_,λx i ex y w f=>?_,λx y e n=>?_⟩]
 ·rwa[(rJ l j).trans ?_];rw[p];by_cases q:x=S.made
  ·cbv
  ·rw[ahc q];let i:x<S.made+ 1:=i;rwa[h.sub x ∅]
 ·let f:y∉((S.grown c z ks).keep c z S.made).gap x:=f;rw[pS l j,p]at f;by_cases u:x=c/\y=z
  ·erw[S.made,c,S.made,[u.2]▸kg,5]
   ·cbv
   cbv
  ·by_cases o:x=S.made/\y= -z
   ·erw[c,S.made,c,[o.2]▸.inr (.inr ⟨222⟩),5]
    ·rw[ee,ahf rfl,o.1]
    ·rw[ee,ahc ∅];rwa[C]
   ·by_cases q:x=S.made
    ·rw[ahf q]at f;rwa[absurd ⟨w,u,o⟩ f]
    ·rw[ahc q]at f;let i:x<S.made+ 1:=i;rw[ee,ahc q]at ex;let⟨d,E,B,r,F,H⟩:=h.im x ∅ ex y w λk=>f ⟨k,u,o⟩
     let L:=g.rl _ _ _ r;rwa[d,E,B,.inl r,[ee,ahc ∅]▸F,[ee,ahc ∅]▸H]
 ·let n:((S.grown c z ks).keep c z S.made).by x y=some e:=n;rw[Ea v t,D]at n;show y∉((S.grown c z ks).keep c z S.made).gap x;rw[pS l j,p];rintro ⟨q,I,A⟩;rw[ahc A,ahc I]at n;rw[ahc (m _ _ _ n)]at q;rwa[h.by_ x y e n q]
def eQ.fin (h:eQ S R ks)(g:Good S [] R)(nd:ks.Nodup){c:Nat}(hc:c<S.made)(f:S.aw c=c):S.gap c=ks.filter λz=>(S.by c z).isNone:=by
 let sl:∀{l k:Zg},l.Sublist k->k.Nodup->l=k.filter λz=>decide (z∈l):=λ{l k} s=>by
  induction s with
  |slnil=>intro _;rfl
  |cons a s b=>
   cbv
  |cons_cons a s b=>
   intro j;let m:=ahs.mp j;rw[aj7 (by simp)]
   congr 1
   conv=>lhs;rw[b m.2]
   rwa[akh λz hz=>?_]
   cbv
 rw[sl (h.sub c hc) nd];rwa[akh λz hz=>?_]
 cases e:S.by c z with
 |some d=>
  have:=h.by_ c z d e;simp[this]
 |none=>
  by_cases q:z∈S.gap c
  ·simp[q]
  ·let⟨d,i⟩:=h.im c hc f z hz q;have:=g.rF.mpr i
   cbv
end
end L2
namespace L2
open PySem PySem.Spec PyProof.Rows
structure Fly (B:Heap) (l:Zq) (x:Zs) (cls a0:Zt) (h:Heap):Prop where
 stays:B.StaysIn h
 new:B.get? x=none
 afq:h.FunFrames B l
 tr:∃fl,h.TracedAtW B x cls a0 fl
theorem OV {tg:Expr}(d it:Zs)(o:Obj)(p:Array DictEntry)(ep:Nat)(a:List (Key×V))(A:o.data=.dict p ep):Turn P w K tg (AF d o a) [it] it (λi h=>h.IsKeyIter it d i p.size ep) where
 mem:=by simp
 obj:=λi h st b j=>by
  let e:b=it:=by simpa using j
  subst e;let⟨o,e,c,d⟩:=st
  cbv
 keep:=λi h C st k=>st.at λo e=>k it (by simp) o e
 item:=by
  intro X F U L hc i g s σ H E I z st hg;subst F U L;let⟨B,T⟩:=hg;obtain⟨f,-,J,vs,rel,o2,G,Q,v,R,u,h4,y,h6⟩:=I.aO d _ T;rw[f]at v;obtain rfl:=Za0 v;rw[A]at u;injection u with W D
  subst W D;let hv:=rB y rel;let l:=pairs_len y;let n:⇑a=⇑vs:=KV.length rel;let Z:p.size=⇑a:=by rw[<-aiu,l,n]
  let m:p[i]?\(p[i]'∅):=Array.getElem?_eq_getElem ∅
  generalize p[i]'∅=en at m;let t:a[i]?\(a[i]'B):=agJ B
  generalize a[i]'B=O at t;let⟨u0,q,rk⟩:=hv.get (i:=i) (x:=kV O.1) (by cbv);rw[ag0,ajw,m]at q;obtain rfl:en.key=u0:=Za0 q;let⟨M,f1,f2,S,N,Y⟩:=z it (by simp);rwa[Dk.item st ⟨_,f,R,A⟩ m λC r sb=>?_]
  let I1:Inv X g σ H (s<*C):=I.turned (t':=s.toks) (λb o j e=>(sb.2 b j).trans e) M f1 S N Y;let⟨oi,e,c,dd⟩:=id r;rwa[12,zN (s:=(s<*C)) e c dd ⋯ ⟨kV O.1,H,I1,rk,⟨2,O,t,2⟩,r,λb j=>(z b j).1⟩]
 done:=by
  intro X F U L hc i g s σ H E I z st hg;subst F U L;let⟨B,T⟩:=hg;obtain⟨f,-,J,vs,rel,o2,G,Q,v,R,u,h4,y,h6⟩:=I.aO d _ T;rw[f]at v;obtain rfl:=Za0 v;rw[A]at u;injection u with W D
  subst W D;let l:=pairs_len y;let n:⇑a=⇑vs:=KV.length rel;let Z:p.size=⇑a:=by rw[<-aiu,l,n]
  let⟨M,f1,f2,S,N,Y⟩:=z it (by simp);rwa[Dk.fin (I.ok.hd hc) st ⟨_,f,R,A⟩ (akb ∅) λC eb=>⟨2,I.turned (t':=s.toks) (λb o j e=>eb b o j e) M f1 S N Y⟩]
 self:=λ_ _ _ _ _ st h=>wpAny_pyIter_keyiter st h
section
variable {X:Cx}{tg:Expr}
def iDK (tl:TE):TI:=λ c H R=>tl c H λx b=>∃d a,x=↑d/\b d\.dK a/\∀o,R (AF d o a) (upd b d (.cR o (.dK a)))
def VA {tl:TE}(A:PE X e tl):PI X tg e (iDK tl):=by
 intro c s B H R I h;rwa[a9 (A c s B H _ I h) λu s1 ζ=>?_];let⟨x,D,f,y,d,j,ex,n,q⟩:=ζ
 subst ex;ext y;obtain⟨-,g,L,rel,o,p,m,l,t,k,E,C,G⟩:=f.aO d _ n;rwa[Dk.iter g ⟨o,l,t,k⟩ ?_];let v:=(f.freeze n True.intro l).kept (h':=s1.heap.push ("dict_keyiterator">>>.fields #[↑d,.int 0 0,.int p.size 0,.int m 0])) (t':=s1.toks) λb o a=>agL _ a
 let T:=OV (P:=X.prog) (w:=X.w) (K:=X.K) (tg:=tg) d ↥s1 o p m j k;rwa[⟨111112,v,T,⟨_,agZ _ rfl,22⟩,λb r=>?_,q o⟩];rw[agR.mp r];let i:=f.aO.fresh (agQ ↥s1);rwa[f.pF (agQ _) ([ak (λz=>by cbv)]▸i)]
end
theorem RD {o:Obj}{kvs:List (Key×V)}{g:TG}{n:TS}(a:Nat->St->Hp->Prop)(r:a 0 D H)(A:∀i D H,i<=⇑kvs->a i D H->H d\.cR o (.dK kvs))
 (t:∀i j D H,kvs[i]?\j->a i D H->g (kV j.1) D H λ c k=>n { G with nx:=a (i+ 1),ct:=a (i+ 1),bk:=G.nx } c k) (z:∀ D H,a ⇑kvs D H->G.nx D H):
 ∃W:Nat->Nat->St->Hp->Prop,(∃m,W 0 m D H)/\∀i m D H,W i m D H->
  ((AF d o kvs).stop i H/\G.nx D H)\/((AF d o kvs).go i H/\∃N:St->Hp->Prop,(∀ b f,N b f->∃l,l<m/\W (i+ 1) l b f)/\∀x f,(AF d o kvs).mj i H x f->g x D f λ c k=>n { G with nx:=N,ct:=N,bk:=G.nx } c k):=by
 erw[λi m D H=>m=⇑kvs - i/\i<=⇑kvs/\a i D H,⟨⇑kvs,by simp,ahg _,r⟩];rintro i m D H ⟨rfl,u,p⟩;let q:=A i D H u p;by_cases h:i<⇑kvs
 ·rwa[.inr ⟨⟨h,q⟩,a (i+ 1),λ b f s=>⟨⇑kvs - (i+ 1),32,h,s⟩,λx f y=>?_⟩];let⟨rfl,j,w,rfl⟩:=y;rwa[t i j D _ w p]
 ·let e:i=⇑kvs:=∅
  subst e;rwa[.inl ⟨⟨agQ _,q⟩,z D H p⟩]
inductive Wn (a:Zs) (y z:V) (H:Hp) (Q:VK):Prop
 |mk (kvs:List (Key×V)) (k:Key):H a\.dK kvs->y=kV k->⇑kvs<sizeLine->(∀v,bD kvs k\v->Q v H)->(bD kvs k=none->Q z (upd H a (.dK (putK kvs k z))))->Wn a y z H Q
def VB (td d tx:TE):TE:=λ b H Q=>td b H λx c=>DT x c λa=>d b c λy f=>tx b f λz e=>Wn a y z e Q
section
variable {X:Cx}{o e f:Expr}{apos cG:Pos}{td ty tx:TE}
def nk (U:PE X o td)(p:PE X e ty)(T:PE X f tx)(m:M2 X o "setdefault" apos e f cG):PE X (.Call (.Attribute o "setdefault" apos) [e,f] [] cG) (VB td ty tx):=by
 intro c s t H Q I h;rwa[ajb m.base m.few m.line ah7 aiJ PySem.F.type_dict_setdefault (a9 (U c s t H _ I h) λu G ζ=>?_)];let⟨x,L,A,rx,a,ex,d,q1⟩:=ζ;subst ex;obtain rfl:u=Value.ref a:=rx;let⟨S,t2,_⟩:=mx A d;erw[S,t2];rw[m.trees]
 refine ahT rfl (aiq (ahL (a9 (p c G t L _ A q1) λiv s2 ⟨y,H2,V,N,F⟩=>
  ahL (a9 (T c s2 t H2 _ V F) λfv s3 ⟨z,Y,r,w,g,k,C,Z,O,q3,M⟩=>aij ?_))))
 subst Z;let⟨W,D,E,rel,B⟩:=sS r.aO C;let b:=rel.val k;let j:⇑E<=sizeLine:=by rw[<-⇑rel];rwa[W]
 rwa[ajl aiJ B.typeIs PySem.F.entry_dict_setdefault (PySem.F.args_dict_setdefault_3^_) (kt_meets_setdefault (bQ X.prog X.w) a (jR N) D fv) ⟨E,B,j,λv hv=>?_,λR g1 i J=>?_⟩]
 ·rw[hv]at b
  cases l:bD g k with
  |none=>rw[l]at b;rwa[b.elim]
  |some n=>
   rw[l]at b;rwa[n,Y,r.tok _,b,q3 n l]
 ·rw[R]at b
  cases l:bD g k with
  |some n=>rw[l]at b;rwa[b.elim]
  |none=>
   let hl:⇑(putK g k z)<=sizeLine:=by have:=hV g k z;ext
   let p:∃q,g1.get? a\q:=let ⟨q,_,_,P,_⟩:=i;⟨q,P⟩
   rwa[z,_,kb r ([C]▸True.intro) J p (qZ hl D (rel.put k w) i),w,M l]
end
namespace Di
section
variable {prog:Program}{w:World}{A:Around}{E:Zt->Zu->Prop}{s:Zu}{d:Zs}{es:Array DictEntry}{ep:Nat}
def meets (d:Zs)(b:(d==sysModules)=false):MeetsIn prog w (Builtin.«dict.items» ⟨[↑d],[]⟩) (λ_ R s=>(∃es ep,eD s.heap d es ep)/\R (.ok (.ret ↑↥s)) { s with heap:=s.heap.push ("dict_items">>>.fields #[↑d]) }):=
 .of_wp λA R s ⟨⟨es,ep,a⟩,h⟩=>by
  rwa[agI ?_];rwa[agI (ajC (Dk.typ a) ?_)];rwa[agP ?_];unfold Builtin.Dict.showsAll;rw[ahc (by rw[b];decide)];rwa[agI (agP (agI (ahI (agP ⟨12,h⟩))))]
theorem iter (f:s.heap.IsItemsView a d)(j:eD s.heap d es ep)
 (h:Q ↑↥s { s with heap:=s.heap.push ("dict_itemiterator">>>.fields #[.none,.bool false,↑d,.int 0 0,.int es.size 0,.int ep 0,.none,.none]) }):(prog<|>w) A (pyIter ↑a) Q E s:=by
 let⟨k,c,i,e⟩:=id f;let⟨o,g,l,b⟩:=id j;rwa[wpAny_pyIter_slot f.typeIs F.slot_dict_items_iter (ahU F.slot_dict_items_iter f.typeIs F.entry_dict_items_iter ?_ (F.args_dict_items_iter_1 _))];rwa[agI (agP (agI ?_))];rwa[agI (ahR c e (x:=↑d) rfl (agP (agI ?_)))];rwa[agI (aiN g b (agI (ajD g b ?_)))];let own:Builtin.Dict_items.ownsTuple "dict_itemiterator"=true:=⋯
 simp only[own,akp];rwa[ahI (agP ⟨12,"dict_itemiterator",_,⟨_,agZ _ rfl,2⟩,aif.lookup,5⟩) (by simp only[sizeOk,Builtin.Dict_items.ownedTupleFields,ag6,agN,ahi,aio,sizeLine_eq];omega)];simpa [rawInt,Builtin.Dict_items.ownedTupleFields] using h
theorem item {it:Zs}{en:DictEntry}{ok:Zt}{Q:Zl->Zu->Prop}(hit:IsItemIter s.heap it d i es.size ep ok v)(B:eD s.heap d es ep)(J:es[i]?\en)
 (M:∀g,IsItemIterOut g it d (i+ 1) es.size ep en.key en.val ↥s->g.get? ↥s\("tuple">>>.seq #[en.key,en.val])->
  (∀b o,b≠it->s.heap.get? b\o->g.get? b\o)->Q (some ↑↥s) (s<*g)):(prog<|>w) A (pyNext ↑it) Q E s:=by
 let⟨f,n,q,p,os⟩:=s;let⟨R,l,I,j⟩:=id B;let c:Shared.TypeIs ⟨f,n,q,p,os⟩ ↑it "dict_itemiterator":=⟨_,hit,2⟩;rwa[agI (wpAny_attempt (ahQ (name:=Str.ofString "__next__") c aif (ahU aif c F.entry_dict_itemiterator_next ?_ (F.args_dict_itemiterator_next_1 _))))];rwa[agI (agP (agI (agI ?_)))]
 first|(rwa[agI (aiB c (agP ?_))];skip)|(rwa[agI (ai2 c (agP ?_))];skip)
 rwa[agI (wpAny_fieldsOf hit rfl ?_)];let own:Builtin.Dict_items.ownsTuple "dict_itemiterator"=true:=⋯
 show wpAny _ _ (if (Value.ref d==Value.none)=true then _ else _) _ _ _;rw[ahc (show ¬((Value.ref d==Value.none)=true) by cbv)];rwa[agI (agP (agI (aiN l j ?_)))];rw[ahc (by simp)];rwa[agI (agP (agI (ajD l j ?_)))];rw[ahc (by simp)];rwa[agP ?_];simp only[show ¬((i:Int)<0) by ext,ajH,ahn,J];rwa[agI ?_]
 first|(rwa[agI (aiB c (agP ?_))];skip)|(rwa[agI (ai2 c (agP ?_))];skip)
 rwa[agI (wpAny_isOneOf_itemiter c ?_)];show wpAny _ _ (setField ↑it 3 (rawInt ((i:Int)+ 1)) >>=_) _ _ ⟨f,n,q,p,os⟩
 rwa[agI (ah4 hit (by simp) λg1 t s1=>?_)];let h:Shared.TypeIs ⟨g1,n,q,p,os⟩ ↑it "dict_itemiterator":=⟨_,t,2⟩;rwa[agI (ahY (agI (wpAny_isOneOf_itemiter h (agI (wpAny_isOneOf_itemiter h ?_)))))];rwa[agI (wpAny_newTuple ?_)];let m:IsItemIter (g1.push ("tuple">>>.seq #[en.key,en.val])) it d (i+ 1) es.size ep ok v:=agL _ t;generalize k:g1.push ("tuple">>>.seq #[en.key,en.val])=g2 at m;let z1:g1.objs.size=f.objs.size:=s1.1;let H:it<f.objs.size:=ag8 hit;let N:g2.get? f.objs.size\("tuple">>>.seq #[en.key,en.val]):=by rw[<-k,<-z1];rwa[agZ _ rfl]
 let L:∀b o,b≠it->f.get? b\o->g2.get? b\o:=λb o a e=>by rw[<-k];rwa[agL _ (s1.extBut b o a e)]
 show wpAny _ _ (Builtin.Dict_items.ownedTupleIsFree ↑it >>=_) _ _ ⟨g2,n,q,p,os⟩;rw[z1];rwa[agI ?_];rwa[agI (ahR m rfl (x:=.none) rfl (agP ?_))];rwa[agI (ahR m rfl (x:=ok) rfl (agI (ahR m rfl (x:=v) rfl ?_)))];rwa[agI (ah4 m (by simp) λO z s3=>?_)];rwa[agI (ah4 z (by simp) λS C s4=>?_)];rwa[agI (ah4 C (by simp) λP D s5=>?_)];rwa[agI (ah4 D (by simp) λu y G=>?_)];let r:∀b o,b≠it->g2.get? b\o->u.get? b\o:=λb o a e=>G.extBut b o a (s5.extBut b o a (s4.extBut b o a (s3.extBut b o a e)))
 rwa[agI (akg (agP (agP ⟨12,agP (M u y (r _ _ (ah0 H) N) λb o a e=>r b o a (L b o a e))⟩)))]
theorem fin {it:Zs}{ok:Zt}{Q:Zl->Zu->Prop}(k:A.handled=none)(hit:IsItemIter s.heap it d i es.size ep ok v)(j:eD s.heap d es ep)(n:es[i]?=none)
 (h:∀g,Heap.ExtBut it s.heap g->Q none (s<*g)):(prog<|>w) A (pyNext ↑it) Q E s:=by
 let⟨o,f,l,e⟩:=id j;let c:s.TypeIs ↑it "dict_itemiterator":=⟨_,hit,2⟩;rwa[agI (wpAny_attempt (ahQ (name:=Str.ofString "__next__") c aif (ahU aif c F.entry_dict_itemiterator_next ?_ (F.args_dict_itemiterator_next_1 _))))];rwa[agI (agP (agI (agI ?_)))]
 first|(rwa[agI (aiB c (agP ?_))];skip)|(rwa[agI (ai2 c (agP ?_))];skip)
 rwa[agI (wpAny_fieldsOf hit rfl ?_)];let own:Builtin.Dict_items.ownsTuple "dict_itemiterator"=true:=⋯
 show wpAny _ _ (if (Value.ref d==Value.none)=true then _ else _) _ _ s;rw[ahc (show ¬((Value.ref d==Value.none)=true) by cbv)];rwa[agI (agP (agI (aiN f e ?_)))];rw[ahc (by simp)];rwa[agI (agP (agI (ajD f e ?_)))];rw[ahc (by simp)];rwa[agP ?_];simp only[show ¬((i:Int)<0) by ext,ajH,ahn,n];rwa[agI ?_]
 first|(rwa[agI (aiB c (agP ?_))];skip)|(rwa[agI (ai2 c (agP ?_))];skip)
 show wpAny _ _ (setField ↑it 2 .none >>=_) _ _ s;rwa[agI (ai0 hit rfl (by simp) ?_)];rwa[agI ?_];rwa[agI (m:=firstArgMember _ _) (wpAny_of_eq (a:=Value.none) (by first|rfl|(simp only[firstArgMember];rfl)) ?_)];rwa[ahI ?_ (by size_fits)];rwa[agI (wpAny_handled ?_)];rw[show A.in1.handled=none from k];rwa[agI (agP (wpAny_throw ?_))];rwa[agI (wpAny_isInstance (T:="StopIteration") (b:=true) ⟨_,agZ _ rfl,2⟩ isSubtype_stop ?_)];rwa[agP (h _ (((aii ..).extBut.push _).push _))]
end
end Di
theorem yN {c b:Type}{R:c->b->Prop}:∀{e:List c} {ys:List b},Paired R e ys->∀{i:Nat} {x:c} {y:b},e[i]?\x->ys[i]?\y->R x y
 |[],_,h,i,x,y,a,_=>by simp at a
 |k::j,_,h,i,x,y,a,d=>by
  cases h with
  |cons g f=>
   cases i with
   |zero=>rw[<-Za0 a,<-Za0 d];rwa[g]
   |succ i=>exact yN f a d
def AU (d:Zs)(o:Obj)(a:List (Zd×V)):It:=
 ⟨λi H=>i<⇑a/\H d\.cR o (.dT a),λi H x c=>∃p kp b,a[i]?\b/\H p=none/\H kp\.tup (b.1.map kV)/\x=↑p/\c=upd H p (.tup [↑kp,b.2]),λi H=>⇑a<=i/\H d\.cR o (.dT a)⟩
theorem OW {elts:Zr}{x1:Nat}{tp:Pos}(d it:Zs)(o:Obj)(D:Array DictEntry)(ep:Nat)(c:List (Zd×V))(x:o.data=.dict D ep):
 Turn P w K (.Tuple elts x1 tp) (AU d o c) [it] it (λi h=>∃ok n,IsItemIter h it d i D.size ep ok n) where
 mem:=by simp
 obj:=λi h st b m=>by
  cbv
 keep:=λi h h' ⟨ok,n,e⟩ k=>⟨ok,n,k it (by simp) _ e⟩
 item:=by
  intro X hP hw hK hc i t s σ H E I v st hg;let⟨ok,n,hit⟩:=st;let⟨B,Y⟩:=hg;obtain⟨f,-,J,ys,C,o2,G,R,j,S,u,M,h5⟩:=I.aO d _ Y;rw[f]at j;obtain rfl:=Za0 j;rw[x]at u;injection u with e1 F
  subst e1 F;let T:⇑c=⇑ys:=Paired.length C;let hy:ys[i]?\(ys[i]'∅):=agJ ∅
  generalize ys[i]'∅=y at hy;let U:D[i]?\(entryOfKey (tupleKind (bQ X.prog X.w)) y):=by rw[entry_at M,hy];rfl
  let l:c[i]?\(c[i]'B):=agJ B
  generalize c[i]'B=r at l;let hk:r.1=y.1/\H y.2.1\.tup (r.1.map kV)/\RelV r.2 y.2.2:=yN C l hy;let il:it<↥s:=ag8 hit;rwa[Di.item hit ⟨_,f,S,x⟩ U λg ho' hT W=>⟨12,wpAny_letOwnedTupleGo_items ho' λg2 O sb=>?_⟩]
  let L:g2.get? ↥s\("tuple">>>.seq #[↑y.2.1,y.2.2]):=(sb.2 _ (ah0 il)).trans hT
  let Z:∀b p,b∉[it]->s.heap.get? b\p->g2.get? b\p:=λb p m q=>by
   let j:b≠it:=λz=>m (by simp[z])
   rwa[(sb.2 b j).trans (W b p j q)]
  let N:=I.aO.fresh (agQ ↥s);rwa[⟨↑↥s,_,I.uD (fp:=[it]) (a:=↥s) (o:=.tup [↑y.2.1,r.2]) (h':=g2) (t':=s.toks) Z v (agQ _) ?_,2,⟨_,y.2.1,r,l,N,hk.2.1,22⟩,⟨11,O⟩,λb m=>?_⟩]
  ·rwa[by show 2<=sizeLine;decide,[↑y.2.1,y.2.2],.cons rfl (.cons hk.2.2 .nil),_,L,212]
  ·rw[agR.mp m,ak (ahk il)];rwa[(v it (by simp)).1]
 done:=by
  intro X hP hw hK hc i t s σ H E I v st hg;let⟨ok,n,hit⟩:=st;let⟨B,Y⟩:=hg;obtain⟨f,-,J,ys,C,o2,G,R,j,S,u,M,h5⟩:=I.aO d _ Y;rw[f]at j;obtain rfl:=Za0 j;rw[x]at u;injection u with e1 F
  subst e1 F;let T:⇑c=⇑ys:=Paired.length C;let hsz:D.size=⇑ys:=size_of_entries M;rwa[Di.fin (I.ok.hd hc) hit ⟨_,f,S,x⟩ (akb ∅) λg eb=>⟨2,I.xJ (fp:=[it]) (t':=s.toks) (λb p m q=>eb b p (λz=>m (by simp[z])) q) v⟩]
 self:=λA i s Q E ⟨ok,n,hit⟩ h=>PySem.W.kcp_self hit h
section
variable {X:Cx}
def iDI (tl:TE):TI:=λ c H R=>tl c H λx b=>∃d a,x=↑d/\b d\.dT a/\∀o,R (AU d o a) (upd b d (.cR o (.dT a)))
def VC {tl:TE}{elts:Zr}{apos c:Pos}(O:PE X e tl)(f:attributeBase e "items" X.env (eval e X.env)=eval e X.env:=by rfl)(hline:(apos.endLine==c.line)=true:=by rfl):
 PI X (.Tuple elts n p) (.Call (.Attribute e "items" apos) [] [] c) (iDI tl):=by
 intro l s S H R I h;rwa[wpAny_Call_method0_late f hline (a9 (O l s S H _ I h) λu s1 ζ=>?_)];let⟨x,G,j,M,d,m,ex,B,q⟩:=ζ;subst ex;ext M;obtain⟨-,v,ys,Y,o,t,r,A,F,D,V,U⟩:=j.aO d _ B;let k:eD s1.heap d t r:=⟨o,A,F,D⟩;let C:DS G d:=.inr ⟨m,.inl B⟩;let⟨E,Q,_⟩:=mx j C;rwa[⟨"dict","dict.items",ah7,PySem.F.slot_dict_items,PySem.F.type_dict_items,E,Q,ahT rfl (PySem.evalArgs_none ?_)⟩];rwa[ajl PySem.F.slot_dict_items E PySem.F.entry_dict_items (PySem.F.args_dict_items_1 _) (Di.meets d v) ⟨⟨t,r,k⟩,5⟩];let N:(s1.heap.push ("dict_items">>>.fields #[↑d])).IsItemsView ↥s1 d:=⟨_,agZ _ rfl,22⟩;let g:eD (s1.heap.push ("dict_items">>>.fields #[↑d])) d t r:=⟨o,agL _ A,F,D⟩;rwa[Di.iter (s:={ s1 with heap:=s1.heap.push ("dict_items">>>.fields #[↑d]) }) N g ?_];let L:=(j.freeze B True.intro A).kept (h':=(s1.heap.push ("dict_items">>>.fields #[↑d])).push ("dict_itemiterator">>>.fields #[.none,.bool false,↑d,.int 0 0,.int t.size 0,.int r 0,.none,.none])) (t':=s1.toks) λb o a=>agL _ (agL _ a)
 let i:↥s1<=(s1.heap.push ("dict_items">>>.fields #[↑d])).objs.size:=by rw[aiw];ext
 let T:=OW (P:=X.prog) (w:=X.w) (K:=X.K) (elts:=elts) (x1:=n) (tp:=p) d (s1.heap.push ("dict_items">>>.fields #[↑d])).objs.size o t r m D;rwa[⟨111112,L,T,⟨11,agZ _ rfl⟩,λb J=>?_,q o⟩];rw[agR.mp J];let y:=j.aO.fresh i;rwa[j.pF i ([ak (λz=>by cbv)]▸y)]
end
theorem RG {o:Obj}{kvs:List (Zd×V)}{g:TG}{n:TS}(a:Nat->St->Hp->Prop)(r:a 0 D H)(C:∀i D H,i<=⇑kvs->a i D H->H d\.cR o (.dT kvs))
 (t:∀i j D H p kp,kvs[i]?\j->H p=none->H kp\.tup (j.1.map kV)->a i D H->g ↑p D (upd H p (.tup [↑kp,j.2])) λ c k=>n { G with nx:=a (i+ 1),ct:=a (i+ 1),bk:=G.nx } c k) (B:∀ D H,a ⇑kvs D H->G.nx D H):
 ∃W:Nat->Nat->St->Hp->Prop,(∃m,W 0 m D H)/\∀i m D H,W i m D H->
  ((AU d o kvs).stop i H/\G.nx D H)\/((AU d o kvs).go i H/\∃N:St->Hp->Prop,(∀ b f,N b f->∃l,l<m/\W (i+ 1) l b f)/\∀x f,(AU d o kvs).mj i H x f->g x D f λ c k=>n { G with nx:=N,ct:=N,bk:=G.nx } c k):=by
 erw[λi m D H=>m=⇑kvs - i/\i<=⇑kvs/\a i D H,⟨⇑kvs,by simp,ahg _,r⟩];rintro i m D H ⟨rfl,u,p⟩;let q:=C i D H u p;by_cases h:i<⇑kvs
 ·rwa[.inr ⟨⟨h,q⟩,a (i+ 1),λ b f s=>⟨⇑kvs - (i+ 1),32,h,s⟩,λx f y=>?_⟩];let⟨v,kp,j,A,w,E,rfl,rfl⟩:=y;rwa[t i j D _ v kp A w E p]
 ·let e:i=⇑kvs:=∅
  subst e;rwa[.inl ⟨⟨agQ _,q⟩,B D H p⟩]
theorem uH:∀(n:Nat) (l:Zg) (lo:Int),l.Nodup->(∀x∈l,lo<=x/\x<lo+ n)->⇑l<=n
 |0,[],_,_,_=>agQ _
 |0,x::l,lo,_,h=>by have:=h x (ag2 ..);ext
 |n+ 1,l,lo,b,h=>by
  by_cases d:lo+ n∈l
  ·let c:=uH n (l.erase (lo+ n)) lo (b.erase _) λx a=>by
    let e:=(b.mem_erase_iff.mp a);let f:=h x e.2;ext
   rw[ajh d]at c;ext
  ·let c:=uH n l lo b λx a=>by
    let f:=h x a;let g:x≠lo+ n:=λz=>d (by rw[<-z];rwa[a])
    ext
   ext
section
variable {κ:Type} [DecidableEq κ]
def Hx (b:List (κ×V))(k j:κ):bD (fj b k) j=if j=k then none else bD b j:=by
 unfold fj
 induction b with
 |nil=>split <;> rfl
 |cons p r e=>
  by_cases c:p.1=k
  ·rw[List.filter_cons_of_neg (by simp[c]),e];by_cases a:j=k
   ·cbv
   ·rw[ahc a,ahc a,cM (λz=>a (z.symm.trans c))]
  ·rw[aj7 (by simp[c])];by_cases a:p.1=j
   ·rw[cS a,ahc (λz=>c (a.trans z)),cS a]
   ·rw[cM a,e];by_cases d:j=k
    ·cbv
    ·rw[ahc d,ahc d,cM a]
def AV (a:List (κ×V))(k:κ)(v:V):(putK a k v).map (·.1)=if k∈a.map (·.1) then a.map (·.1) else a.map (·.1)++[k]:=by
 unfold putK;by_cases h:(a.any λb=>decide (b.1=k))=true
 ·let e:k∈a.map (·.1):=by
   let⟨b,d,c⟩:=List.any_eq_true.mp h;rwa[ahO.mpr ⟨b,d,ahq c⟩]
  rw[ahf h,ahf e,ahE];rwa[ahS λb _=>?_]
  cbv
 cbv
def RH {a:List (κ×V)}(k:κ)(v:V)(h:(a.map (·.1)).Nodup):((putK a k v).map (·.1)).Nodup:=by
 rw[AV]
 cbv
def OX {a:List (κ×V)}(k:κ)(h:(a.map (·.1)).Nodup):((fj a k).map (·.1)).Nodup:=by
 rwa[List.Nodup.sublist ((aiQ).map _) h]
def AW {a:List (κ×V)}(h:(a.map (·.1)).Nodup){b:κ×V}(hm:b∈a):bD a b.1\b.2:=by
 induction a with
 |nil=>ext hm
 |cons p r c=>
  rw[ah3,ahs]at h;rcases ag4.mp hm with e|hm
  ·rw[e];rwa[cS rfl]
  ·rw[cM (λz=>h.1 ([z]▸ajn hm))];rwa[c h.2 hm]
def Kt {a:List (κ×V)}{k:κ}(h:bD a k\q):(k,q)∈a:=by
 unfold bD at h
 cases e:a.find? λb=>decide (b.1=k) with
 |none=>rw[e]at h;ext h
 |some b=>
  cbv
end
def DI (H:Hp)(d:Zs)(f:Int->Zc):Prop:=∃a:List (Key×V),H d\.dK a/\(a.map (·.1)).Nodup/\(∀b∈a,∃i:Int,b.1=Sum.inl i)/\∀i:Int,bD a (Sum.inl i)=f i
def DI.at {f:Int->Zc}(h:DI H d f)(k:∀o,H d\o->I d\o):DI I d f:=by
 let⟨a,c,b⟩:=h;rwa[a,k _ c,b]
def DI.congr {f g:Int->Zc}(h:DI H d f)(e:∀i,f i=g i):DI H d g:=by
 let⟨a,c,b,j,k⟩:=h;rwa[a,c,b,j,λi=>(k i).trans (e i)]
def AX {a:List (Key×V)}{f:Int->Zc}(e:(a.map (·.1)).Nodup)(g:∀b∈a,∃i:Int,b.1=Sum.inl i)(h:∀i:Int,bD a (Sum.inl i)=f i)(i:Int)(v:V):DI (upd H d (.dK (putK a (Sum.inl i) v))) d (λj=>if j=i then some v else f j):=by
 rwa[⟨_,ah,RH^e,λb c=>?_,λj=>?_⟩]
 ·have:b.1∈(putK a (Sum.inl i) v).map (·.1):=ajn c;rw[AV]at this
  cbv
 ·rw[pL]
  cbv
def OY {a:List (Key×V)}{f:Int->Zc}(e:(a.map (·.1)).Nodup)(g:∀b∈a,∃i:Int,b.1=Sum.inl i)(h:∀i:Int,bD a (Sum.inl i)=f i)(i:Int):DI (upd H d (.dK (fj a (Sum.inl i)))) d (λj=>if j=i then none else f j):=by
 rwa[⟨_,ah,OX _ e,λb c=>g b ((aiy.mp c).1),λj=>?_⟩];rw[Hx]
 cbv
def vH {c:List (Key×V)}{f:Int->Zc}(k:(c.map (·.1)).Nodup)(m:∀d∈c,∃i:Int,d.1=Sum.inl i)(p:∀i:Int,bD c (Sum.inl i)=f i){n:Nat}{lo:Int}(o:∀i v,f i\v->lo<=i/\i<lo+ n):⇑c<=n:=by
 let h:=uH n (c.map λd=>match d.1 with|Sum.inl i=>i|Sum.inr _=>0) lo ?_ λx r=>?_
 ·rw[agO]at h;rwa[h]
 ·let e:c.map (·.1)=(c.map λd=>match d.1 with|Sum.inl i=>i|Sum.inr _=>(0:Int)).map Sum.inl:=by
   rw[ahE];rwa[ahS λd g=>?_]
   let⟨i,j⟩:=m d g;show d.1=Sum.inl (match d.1 with|Sum.inl i=>i|Sum.inr _=>(0:Int));rw[j]
  rw[e]at k;rwa[List.Pairwise.imp (λ{a b} q z=>q (ahZ Sum.inl z)) (aiv.mp k)]
 ·let⟨d,g,rfl⟩:=ahO.mp r;let⟨i,j⟩:=m d g;let l:=AW k g;rw[j,p]at l;rw[j];rwa[o i _ l]
abbrev bI:=Int->Int->Int->Bool
structure dS (H:Hp) (k:Zs) (D:Int->Zo) (E:Int->Int->Zo) (S:bI):Prop where
 top:DI H k λc=>(D c).map V.ref
 row:∀c d,D c\d->DI H d λs=>(E c s).map V.ref
 yO:∀c s e,E c s\e->DI H e λo=>if S c s o=true then some (.bl true) else none
 ed:∀c s e,E c s\e->∃d,D c\d
 se:∀c s o,S c s o=true->∃e,E c s\e
 nd:∀c d,D c\d->d≠k
 ne:∀c s e,E c s\e->e≠k
 dd:∀c c' d,D c\d->D c'\d->c=c'
 de:∀c c' s d,D c\d->E c' s\d->False
 ee:∀c s c' s' e,E c s\e->E c' s'\e->c=c'/\s=s'
def uI (k:Zs)(D:Int->Zo)(E:Int->Int->Zo)(b:Zs):Prop:=b=k\/(∃c,D c\b)\/∃c s,E c s\b
section
variable {H H':Hp}{k:Zs}{D:Int->Zo}{E:Int->Int->Zo}{S:bI}
def dS.keep (h:dS H k D E S)(f:∀b o,uI k D E b->H b\o->H' b\o):dS H' k D E S:=
 ⟨h.top.at λo e=>f _ _ (.inl rfl) e,λc d e=>(h.row c d e).at λo q=>f _ _ (.inr (.inl ⟨c,e⟩)) q,λc s e q=>(h.yO c s e q).at λo r=>f _ _ (.inr (.inr ⟨c,s,q⟩)) r,h.ed,h.se,h.nd,h.ne,h.dd,h.de,h.ee⟩
def dS.same (h:dS H k D E S)(s:aq H H'):dS H' k D E S:=h.keep λb o _ e=>s b o e
def dS.there (h:dS H k D E S){b:Zs}(d:uI k D E b):∃a,H b\(.dK a):=by
 rcases d with rfl|⟨c,e⟩|⟨c,s,e⟩
 ·let⟨a,q,_⟩:=h.top;rwa[a,q]
 ·let⟨a,q,_⟩:=h.row c b e;rwa[a,q]
 ·let⟨a,q,_⟩:=h.yO c s b e;rwa[a,q]
def dS.congr (h:dS H k D E S){a:Int->Zo}{d:Int->Int->Zo}{b:bI}(e:∀c,D c=a c)(g:∀c s,E c s=d c s)(f:∀c s o,S c s o=b c s o):dS H k a d b:=by
 obtain rfl:D=a:=funext e;obtain rfl:E=d:=funext λc=>funext (g c)
 obtain rfl:S=b:=funext λc=>funext λs=>funext (f c s)
 rwa[h]
def dS.RJ (h:dS H k D E S):∃a:List (Key×V),H k\.dK a/\(a.map (·.1)).Nodup/\(∀b∈a,∃i:Int,b.1=Sum.inl i)/\∀i:Int,bD a (Sum.inl i)=(D i).map V.ref:=h.top
def dS.Ku (h:dS H k D E S){c:Int}{d:Zs}(hd:D c\d):∃a:List (Key×V),H d\.dK a/\(a.map (·.1)).Nodup/\(∀b∈a,∃i:Int,b.1=Sum.inl i)/\∀i:Int,bD a (Sum.inl i)=(E c i).map V.ref:=h.row c d hd
def dS.RK (h:dS H k D E S){c s:Int}{e:Zs}(b:E c s\e):∃a:List (Key×V),H e\.dK a/\(a.map (·.1)).Nodup/\(∀d∈a,∃i:Int,d.1=Sum.inl i)/\∀i:Int,bD a (Sum.inl i)=if S c s i=true then some (.bl true) else none:=h.yO c s e b
theorem dS.OZ (h:dS H k D E S){c s:Int}{d e:Zs}(hd:D c\d)(N:E c s=none){j:List (Key×V)}(I:H d\.dK j)(F:H e\.dK [])(nw:¬uI k D E e):
 dS (upd H d (.dK (putK j (Sum.inl s) ↑e))) k D (λb f=>if b=c/\f=s then some e else E b f) S:=by
 let y:e≠d:=λz=>nw (.inr (.inl ⟨c,[z]▸hd⟩))
 let⟨p,L,B,J,C⟩:=h.row c d hd;rw[I]at L;obtain rfl:j=p:=by cbv
 rwa[⟨h.top.at λo q=>?_,λb u i=>?_,λb f m a=>?_,λb f m a=>?_,λb f o G=>?_,h.nd,λb f m a=>?_,h.dd,λb r f u i a=>?_,λb f r A m t l=>?_⟩]
 ·rw[ak (h.nd c d hd).symm];rwa[q]
 ·by_cases g:b=c
  ·subst g;have:u=d:=by rw[hd]at i;rwa[(Za0 i).symm]
   subst this;rwa[(AX B J C s ↑e).congr λf=>?_]
   cbv
  ·let w:u≠d:=λz=>g (h.dd _ _ _ i ([z]▸hd))
   rwa[((h.row b u i).at λo q=>[ak w]▸q).congr λf=>?_]
   cbv
 ·by_cases g:b=c/\f=s
  ·rw[ahf g]at a;obtain rfl:=Za0 a;let⟨rfl,rfl⟩:=g;rwa[⟨[],[ak y]▸F,by simp,(λM x=>by ext x),λo=>?_⟩]
   cases q:S b f o with
   |true=>let⟨m,z⟩:=h.se _ _ _ q;cbv
   |false=>dsimp only;rw[q];rfl
  ·rw[ahc g]at a;exact(h.yO b f m a).at λo q=>by rw[ak (λz=>h.de c b f d hd (by cbv))];rwa[q]
 ·by_cases g:b=c/\f=s
  ·cbv
  ·rw[ahc g]at a;rwa[h.ed _ _ _ a]
 ·by_cases g:b=c/\f=s
  ·rwa[e,ahf g]
  ·let⟨m,z⟩:=h.se _ _ _ G;cbv
 ·by_cases g:b=c/\f=s
  ·rw[ahf g]at a;obtain rfl:=Za0 a;rwa[λz=>nw (.inl z)]
  ·rw[ahc g]at a;rwa[h.ne _ _ _ a]
 ·by_cases g:r=c/\f=s
  ·rw[ahf g]at a;obtain rfl:=Za0 a;rwa[nw (.inr (.inl ⟨b,i⟩))]
  ·rw[ahc g]at a;rwa[h.de _ _ _ _ i a]
 ·by_cases v:b=c/\f=s
  ·rw[ahf v]at t;obtain rfl:=Za0 t;by_cases n:r=c/\A=s
   ·rwa[v.1.trans n.1.symm,v.2.trans n.2.symm]
   ·rw[ahc n]at l;rwa[(nw (.inr (.inr ⟨r,A,l⟩))).elim]
  ·rw[ahc v]at t;by_cases n:r=c/\A=s
   ·rw[ahf n]at l;obtain rfl:=Za0 l;rwa[(nw (.inr (.inr ⟨b,f,t⟩))).elim]
   ·rw[ahc n]at l;rwa[h.ee _ _ _ _ _ t l]
theorem dS.setCell (h:dS H k D E S){c s:Int}{e:Zs}(j:E c s\e){u:HO}{g:Int->Bool}(p:DI (upd H e u) e λo=>if g o=true then some (.bl true) else none):
 dS (upd H e u) k D E (λa b o=>if a=c/\b=s then g o else S a b o):=by
 rwa[⟨h.top.at λo q=>?_,λa n f=>(h.row a n f).at λo q=>?_,λa b m d=>?_,h.ed,λa b o l=>?_,h.nd,h.ne,h.dd,h.de,h.ee⟩]
 ·rw[ak (h.ne _ _ _ j).symm];rwa[q]
 ·rw[ak (λz=>h.de _ _ _ _ f ([z]▸j))];rwa[q]
 ·by_cases i:a=c/\b=s
  ·cbv
  ·refine((h.yO a b m d).at λo q=>?_).congr λo=>by rw[ahc i]
   rw[ak (λz=>i (h.ee _ _ _ _ _ d ([z]▸j)))];rwa[q]
 ·by_cases i:a=c/\b=s
  ·cbv
  ·rw[ahc i]at l;rwa[h.se _ _ _ l]
theorem dS.RL (h:dS H k D E S){c s:Int}{e:Zs}(j:E c s\e){b:List (Key×V)}(m:H e\.dK b)(o:Int):
 dS (upd H e (.dK (putK b (Sum.inl o) (.bl true)))) k D E (λi f a=>S i f a || (decide (i=c) && decide (f=s) && decide (a=o))):=by
 let⟨d,p,l,q,n⟩:=h.yO c s e j;rw[m]at p;obtain rfl:b=d:=by cbv
 rwa[(h.setCell (g:=λa=>S c s a || decide (a=o)) j ((AX l q n o (.bl true)).congr λa=>?_)).congr (λ_=>rfl) (λ_ _=>rfl) λi f a=>?_]
 ·cbv
 cbv
theorem dS.O6 (h:dS H k D E S){n:Int}{d:Zs}(hd:D n=none){g:List (Key×V)}(y:H k\.dK g)(x:H d\.dK [])(nw:¬uI k D E d):
 dS (upd H k (.dK (putK g (Sum.inl n) ↑d))) k (λc=>if c=n then some d else D c) E S:=by
 let⟨l,B,v,A,w⟩:=h.top;rw[y]at B;obtain rfl:g=l:=by cbv
 let r:d≠k:=λz=>nw (.inl z)
 let en:∀s,E n s=none:=λs=>by
  cases q:E n s with
  |none=>rfl
  |some e=>let⟨i,z⟩:=h.ed _ _ _ q;cbv
 rwa[⟨(AX v A w n ↑d).congr λc=>?_,λc i a=>?_,λc s e p=>(h.yO c s e p).at λo q=>?_,λc s e p=>?_,h.se,λc i a=>?_,h.ne,λc u i b f=>?_,λc u s i b f=>?_,h.ee⟩]
 ·cbv
 ·by_cases e:c=n
  ·rw[ahf e]at a;obtain rfl:=Za0 a;subst e;rwa[⟨[],[ak r]▸x,by simp,(λC t=>by ext t),λs=>?_⟩];dsimp only;rw[en s];rfl
  ·rw[ahc e]at a;exact(h.row c i a).at λo q=>by rw[ak (h.nd^a)];rwa[q]
 ·rw[ak (h.ne _ _ _ p)];rwa[q]
 ·let⟨i,z⟩:=h.ed _ _ _ p
  cbv
 ·by_cases e:c=n
  ·cbv
  ·rw[ahc e]at a;rwa[h.nd^a]
 ·by_cases j:c=n
  ·rw[ahf j]at b;obtain rfl:=Za0 b;by_cases m:u=n
   ·rw[j,m]
   ·rw[ahc m]at f;rwa[(nw (.inr (.inl ⟨_,f⟩))).elim]
  ·rw[ahc j]at b;by_cases m:u=n
   ·rw[ahf m]at f;obtain rfl:=Za0 f;rwa[(nw (.inr (.inl ⟨_,b⟩))).elim]
   ·rw[ahc m]at f;rwa[h.dd _ _ _ b f]
 ·by_cases j:c=n
  ·rw[ahf j]at b;obtain rfl:=Za0 b;rwa[nw (.inr (.inr ⟨11,f⟩))]
  ·rw[ahc j]at b;rwa[h.de _ _ _ _ b f]
end
namespace Et
section
variable {prog:Program}{w:World}{A:Around}{E:Zt->Zu->Prop}{s:Zu}
theorem item {it:Zs}{items:Zm}{x:Zt}(hit:s.heap.IsTupleIter it a i)(f:s.heap.IsTuple a items)(k:items[i]?\x)
 (j:∀g,g.IsTupleIter it a (i+ 1)->Heap.SameBut it s.heap g->Q x (s<*g)):(prog<|>w) A (Builtin.SmallTypes.nextOf ↑it) Q E s:=by
 let⟨o,c,h,b⟩:=id hit;let⟨l,e,_,m,d⟩:=f;rwa[agI (ahQ (name:=Str.ofString "__next__") hit.typeIs aiS (ahU aiS hit.typeIs F.entry_tuple_iterator_next ?_ (F.args_tuple_iterator_next_1 _)))];show wpAny _ _ (field ↑it 0 >>=_) _ _ s;rwa[agI (ahR c b (x:=↑a) rfl ?_)];rw[ahc (show ¬((Value.ref a==Value.none)=true) by cbv)];rwa[agI (ahR c b (x:=.int i 0) rfl ?_)];rwa[agI (ajr e d ?_)];simp only[ahn,k];rwa[agI (ai0 c b (by simp) (agP ⟨x,2,agP (j _ ⟨_,ahv _ c (aiX (aip b _)),(Obj.cls_mapFields ..).trans h,by rw[aip b];simp[rawInt]⟩ (aii ..))⟩))]
theorem fin {it:Zs}{items:Zm}(j:A.handled=none)(hit:s.heap.IsTupleIter it a i)(l:s.heap.IsTuple a items)(k:items[i]?=none)
 (n:∀g e,Heap.ExtBut it s.heap g->(∃o,g.get? e\o/\o.cls=.type "StopIteration")->E ↑e (s<*g)):(prog<|>w) A (Builtin.SmallTypes.nextOf ↑it) Q E s:=by
 let⟨o,d,p,f⟩:=id hit;let⟨r,h,_,q,c⟩:=l;rwa[agI (ahQ (name:=Str.ofString "__next__") hit.typeIs aiS (ahU aiS hit.typeIs F.entry_tuple_iterator_next ?_ (F.args_tuple_iterator_next_1 _)))];show wpAny _ _ (field ↑it 0 >>=_) _ _ s;rwa[agI (ahR d f (x:=↑a) rfl ?_)];rw[ahc (show ¬((Value.ref a==Value.none)=true) by cbv)];rwa[agI (ahR d f (x:=.int i 0) rfl ?_)];rwa[agI (ajr h c ?_)];simp only[ahn,k];rwa[agI (akf (agI (ai0 d f (by simp) ?_)))];rwa[agI ?_];rwa[agI (m:=firstArgMember _ _) (wpAny_of_eq (a:=Value.none) (by first|rfl|(simp only[firstArgMember];rfl)) ?_)];rwa[ahI ?_ (by size_fits)];rwa[agI (wpAny_handled ?_)];first|rw[show A.in1.handled=none from j]|rw[j]
 rwa[agI (agP (wpAny_throw ?_))];rwa[n _ _ (((aii ..).extBut.push _).push _) ⟨_,agZ _ rfl,2⟩]
end
theorem meets (l:Zs)(items:Zm)(n:Nat)(dct:Zo)(k:Array Zl):
 Meets (Builtin.«enumerate.__new__» ⟨[.type "enumerate",↑l],[]⟩) (λ_ R s=>s.heap.get? l\{ cls:=.type "tuple",dict:=dct,data:=.seq items n,slots:=k }/\
  R (.ok (.ret (↑(s.heap.push ("tuple_iterator">>>.fields #[↑l,.int 0 0])).objs.size)))
    { s with heap:=(s.heap.push ("tuple_iterator">>>.fields #[↑l,.int 0 0])).push ("enumerate">>>.fields #[.none,.bool false,↑↥s,rawInt 0,.none,.none]) }):=
 .of_wp λf w A R s h=>by
  let⟨i,g,d,j,os⟩:=s;let⟨a,h⟩:=h;let b:=sub_enumerate;let e:Heap.IsTuple (Shared.heap ⟨i,g,d,j,os⟩) l items:=⟨_,a,2,n,2⟩
  wp_walk using ajc a;rwa[wpAny_stack_any λst=>agP ?_]
  split
  ·rename_i c _ _ _ _ _;cases (c==Value.type "enumerate") <;> (wp_walk using ajc a,wpAny_pyIter_tuple e;rwa[12,h])
  ·wp_walk using ajc a,wpAny_pyIter_tuple e;rwa[12,h]
theorem call {items:Zm}(k:s.heap.IsTuple a items)
 (h:∀g,IsEnum g (↥s+ 1) ↥s 0 .none->g.IsTupleIter ↥s a 0->g.objs.size=↥s+ 2->(∀b o,s.heap.get? b\o->g.get? b\o)->Q ↑(↥s+ 1) (s<*g)):
 (P<|>w) A (call (.type "enumerate") [↑a]) Q E s:=by
 let⟨⟨c,dct,l,j⟩,m,d,n,f⟩:=k;replace d:c=.type "tuple":=d;replace f:l=.seq items n:=f;subst d f;rwa[callType_new F.called_enumerate ⋯ (F.typeCall_enumerate_1 _) (F.newCall_enumerate_1 _) (λobj=>F.args_object_init_2 obj _) F.entry_enumerate_new (meets a items n dct j) ⟨m,5⟩];let e:(s.heap.push ("tuple_iterator">>>.fields #[↑a,.int 0 0])).objs.size=↥s+ 1:=aiw ..;show _/\_;rw[e]
 let i:IsEnum ((s.heap.push ("tuple_iterator">>>.fields #[↑a,.int 0 0])).push ("enumerate">>>.fields #[.none,.bool false,↑↥s,rawInt 0,.none,.none])) (↥s+ 1) ↥s 0 .none:=by
  have:=agZ (s.heap.push ("tuple_iterator">>>.fields #[↑a,.int 0 0])) (o:=("enumerate">>>.fields #[.none,.bool false,↑↥s,rawInt 0,.none,.none])) rfl;rw[e]at this;rwa[this]
 rwa[⟨_,i,2⟩,h _ i ⟨_,agL _ (agZ _ rfl),22⟩ (by rw[aiw,e]) λb o x=>agL _ (agL _ x)]
end Et
section
variable {K:Za1}{mg:Str->Zl}{h:Heap}{C f:Zs}{x q:Str}{st:Stmt}{ps:Zp}{oc kV doc pm cu ct:Zt}{od an:Zo}{Ai:Array Zl}
theorem Def.of (X:K.In h)(G:h.Ns mainGlobals mg)(a:PySem.W.nsIn K mainGlobals x\some ↑f)(l:K.lookup f\⟨oc,od,.func (PySem.W.fnOf x x (dE st) (cE st) (aB st) .none kV doc pm an cu ct),Ai⟩)(c:PySem.W.codeIn K cu x=true)(k:PySem.W.keepIn K ↑f=true)
 (b:∀(kV doc pm:Zt) (an:Zo) (cu ct:Zt) (us:Zk),⇑us=⇑ps->bindArgs (PySem.W.fnOf x x (dE st) (cE st) (aB st) .none kV doc pm an cu ct) ⟨us,[]⟩=pure (ps.zip us)):Def K mg x st ps f (PySem.W.fnOf x x (dE st) (cE st) (aB st) .none kV doc pm an cu ct):=
 let F:=G5 (st:=st) l c k
 ⟨F,PySem.W.mg_of X G a,F.binds (ps:=ps) b⟩
theorem MDef.of (a:PySem.W.findIn K ↑C x\some ↑f)(i:PySem.W.isFn K ↑f=true)(l:K.lookup f\⟨oc,od,.func (PySem.W.fnOf x q (dE st) (cE st) (aB st) .none kV doc pm an cu ct),Ai⟩)(c:PySem.W.codeIn K cu q=true)(k:PySem.W.keepIn K ↑f=true)
 (b:∀(kV doc pm:Zt) (an:Zo) (cu ct:Zt) (us:Zk),⇑us=⇑ps->bindArgs (PySem.W.fnOf x q (dE st) (cE st) (aB st) .none kV doc pm an cu ct) ⟨us,[]⟩=pure (ps.zip us)):MDef K C x q st ps f (PySem.W.fnOf x q (dE st) (cE st) (aB st) .none kV doc pm an cu ct):=
 let F:=G5 (st:=st) l c k
 ⟨F,⟨a,i,k⟩,F.binds (ps:=ps) b⟩
def Def.fd {fd:FuncData}(D:Def K mg x st ps f fd):∃(kV doc pm:Zt) (an:Zo) (cu ct:Zt),fd=PySem.W.fnOf x x (dE st) (cE st) (aB st) .none kV doc pm an cu ct:=by
 let⟨oc,od,kV,doc,pm,an,cu,ct,Ai,e,_⟩:=D.F.ex;rwa[kV,doc,pm,an,cu,ct,e]
end
end L2
namespace L2
noncomputable def wk (b:Nat->Int->Zi):Nat->Zg->Zi
 |c,[]=>some c
 |c,z::w=>match b c z with
  |none=>none
  |some d=>wk b d w
section
variable {b:Nat->Int->Zi}
def hY (h:b n z\m):wk b n (z::l)=wk b m l:=by
 show (match b n z with|none=>none|some m=>wk b m l)=_;rw[h]
def g9 (h:wk b n (z::l)\m):∃d,b n z\d/\wk b d l\m:=by
 cases q:b n z with
 |none=>
  let a:(match b n z with|none=>none|some d=>wk b d l)\m:=h;rw[q]at a;ext a
 |some d=>rw[hY q]at h;rwa[d,2,h]
theorem oJ:∀{u v:Zg} {c d:Nat},wk b c u\d->wk b c (u++v)=wk b d v
 |[],v,c,d,h=>by rw[Za0 h];rfl
 |z::u,v,c,d,h=>by
  let⟨e,f,a⟩:=g9 h;rw[ajp,hY f];rwa[oJ a]
theorem AY:∀{u v:Zg} {c e:Nat},wk b c (u++v)\e->∃d,wk b c u\d/\wk b d v\e
 |[],v,c,e,h=>⟨c,2,h⟩
 |z::u,v,c,e,h=>by
  let⟨d,i,a⟩:=g9 h;let⟨f,g,j⟩:=AY a;rwa[f,[hY i]▸g,j]
def RM (h:b n z\m):wk b n [z]\m:=by rw[hY h];rfl
def take_snoc (h:l[i]?\z):l.take (i+ 1)=l.take i++[z]:=by rw[aim,h];rfl
def drop_cons (h:l[i]?\z):l.drop i=z::l.drop (i+ 1):=by
 let a:=(agM.mp h).1;rw[ajL a,(agM.mp h).2]
end
structure Later (S S':RS):Prop where
 el:∀c,c<S.made->S'.aw (S.aw c)=S'.aw c
 by_:∀c z d,S.by c z=some d->S'.by (S'.aw c) z=some (S'.aw d)
def Later.of {i:Za2}(h:Good S [] R)(k:Good T [] i)(j:∀a z b,R a z b->i a z b)(g:S.made<=T.made):Later S T:=by
 let el:∀c,c<S.made->T.aw (S.aw c)=T.aw c:=λc hc=>(k.fin (ahh (h.lt hc) g) (ahh hc g)).mpr ((h.cg c hc).mono j).symm
 rwa[⟨el,λc z d e=>?_⟩];let⟨l,f,r,n,o⟩:=h.so _ _ _ e;let⟨m,l2,_⟩:=h.rl _ _ _ r;rw[<-n,<-o,el l m,el f l2];rwa[k.rF.mpr ⟨l,f,j _ _ _ r,22⟩]
theorem Later.wk (h:Later S T):∀{w:Zg} {c d:Nat},wk S.by c w=some d->wk T.by (T.aw c) w=some (T.aw d)
 |[],c,d,e=>by rw[Za0 e];rfl
 |z::w,c,d,e=>by
  let⟨f,b,a⟩:=g9 e;rw[hY (h.by_ _ _ _ b)];rwa[Later.wk h a]
structure Gg where
 which:Nat
 word:Zg
 start:Nat
 front:Nat
 first:Nat
 bu:Nat
 last:Nat
abbrev Zf:=List (Option Gg)
noncomputable def Gg.z1 (g:Gg):Int:=g.word.getD g.first 0
noncomputable def Gg.z2 (g:Gg):Int:=-(g.word.getD g.last 0)
structure GI (S:RS) (g:Gg):Prop where
 fl:g.first<=g.last
 ll:g.last<⇑g.word
 s:g.start<S.made
 f:g.front<S.made
 r:g.bu<S.made
 wf:wk S.by (S.aw g.start) (g.word.take g.first)=some (S.aw g.front)
 wr:wk S.by (S.aw g.bu) (g.word.drop (g.last+ 1))=some (S.aw g.start)
def GI.later {g:Gg}(h:GI S g)(l:Later S T)(a:S.made<=T.made):GI T g:=by
 let c:=l.wk h.wf;let b:=l.wk h.wr;rw[l.el _ h.s,l.el _ h.f]at c;rw[l.el _ h.r,l.el _ h.s]at b;rwa[h.fl,h.ll,ahh h.s a,ahh h.f a,ahh h.r a,c,b]
def Gg.qy {g:Gg}(h:g.first<⇑g.word):g.word[g.first]?\g.z1:=by
 unfold Gg.z1
 cbv
def Gg.at2 {g:Gg}(h:g.last<⇑g.word):g.word[g.last]?\(-g.z2):=by
 unfold Gg.z2
 cbv
structure Wo (S:RS) (g g':Gg):Prop where
 wh:g'.which=g.which
 wo:g'.word=g.word
 st:g'.start=g.start
 gi:GI S g'
 ef:S.aw g'.front=g'.front
 er:S.aw g'.bu=g'.bu
 n1:g'.first<g'.last->S.by g'.front g'.z1=none
 n2:g'.first<g'.last->S.by g'.bu g'.z2=none
 k1:S.aw g.front=g.front->S.by g.front g.z1=none->g'.front=g.front/\g'.first=g.first
 k2:S.aw g.bu=g.bu->S.by g.bu g.z2=none->g'.bu=g.bu/\g'.last=g.last
def GI.whole {g:Gg}(h:GI S g)(e:g.first=g.last)(c:S.aw g.start=g.start)(ef:S.aw g.front=g.front)(er:S.aw g.bu=g.bu)(d:S.by g.front g.z1=some g.bu):wk S.by g.start g.word=some g.start:=by
 let b:=h.wf;let a:=h.wr;rw[c,ef]at b;rw[c,er,<-e]at a;let hz:=Gg.qy (g:=g) ([e]▸h.ll);have:g.word=g.word.take g.first++(g.z1::g.word.drop (g.first+ 1)):=by rw[<-drop_cons hz,aiC]
 rw[this,oJ b,hY d];rwa[a]
noncomputable def eN (m:Nat)(W:bI)(n:Int):Nat:=(List.range (m* 2001)).countP λc=>W ((c / 2001:Nat):Int) (((c % 2001:Nat):Int) - 1000) n
def vI (m G:Nat)(W:bI):Nat:=((List.range G).map λn:Nat=>eN m W n).sum
noncomputable def gx (W:bI)(r s:Int):bI:=λa b n=>W a b n && !(decide (a=r) && decide (b=s))
def RN {r:Nat}(a:r<m)(b: -1000<=z/\z<=1000):r* 2001+ (z+ 1000).toNat<m* 2001:=by
 have:(r+ 1)* 2001<=m* 2001:=air _ a;ext
def Hy {c r:Nat}(f: -1000<=z/\z<=1000):(((c / 2001:Nat):Int)=(r:Int)/\((c % 2001:Nat):Int) - 1000=z)↔c=r* 2001+ (z+ 1000).toNat:=by
 constructor
 ·rintro ⟨e,d⟩;have:=Nat.div_add_mod c 2001;ext
 ·intro h;subst h
  let a:(r* 2001+ (z+ 1000).toNat) / 2001=r:=by
   rw[Nat.mul_comm,Nat.mul_add_div ⋯,Nat.div_eq_of_lt ∅];ext
  let b:(r* 2001+ (z+ 1000).toNat) % 2001=(z+ 1000).toNat:=by
   rw[Nat.mul_comm,Nat.mul_add_mod,Nat.mod_eq_of_lt ∅]
  rw[a,b];ext
def RP {r:Nat}{W:bI}(n:Int)(d:r<m)(b: -1000<=z/\z<=1000):eN m (gx W r z) n+ (if W r z n=true then 1 else 0)=eN m W n:=by
 let f:=RN d b
 let dec:∀c:Nat,(decide (((c / 2001:Nat):Int)=(r:Int)) && decide (((c % 2001:Nat):Int) - 1000=z))=decide (c=r* 2001+ (z+ 1000).toNat):=λc=>by
  rw[<-Bool.decide_and,decide_eq_decide];rwa[Hy b]
 let at_:=(Hy (c:=r* 2001+ (z+ 1000).toNat) (r:=r) b).mpr rfl;unfold eN gx;by_cases a:W r z n=true
 ·rw[ahf a]
  have:=lP (p:=λc:Nat=>W ((c / 2001:Nat):Int) (((c % 2001:Nat):Int) - 1000) n) (p':=λc:Nat=>W ((c / 2001:Nat):Int) (((c % 2001:Nat):Int) - 1000) n && !(decide (((c / 2001:Nat):Int)=(r:Int)) && decide (((c % 2001:Nat):Int) - 1000=z))) (v:=r* 2001+ (z+ 1000).toNat) (λc=>by
   rw[dec c,<-decide_not]) ([at_.1,at_.2]▸a) (m* 2001)
  rw[ahf f]at this;rwa[this]
 ·rw[ahc a,Nat.add_zero];rwa[List.countP_congr λc _=>?_]
  rw[aiD];rwa[⟨λh=>h.1,λh=>⟨h,5⟩⟩];rw[dec c]
  cases e:decide (c=r* 2001+ (z+ 1000).toNat) with
  |false=>rfl
  |true=>
   rw[ahq e,at_.1,at_.2]at h;rwa[absurd h a]
theorem yP:∀(l:Zh) (f g h:Nat->Nat),(∀n∈l,f n+ g n=h n)->(l.map f).sum+ (l.map g).sum=(l.map h).sum
 |[],_,_,_,_=>rfl
 |a::l,f,g,h,e=>by
  let c:=yP l f g h λn b=>e n (ahm _ b)
  have:=e a (ag2 ..);simp only[ah3,List.sum_cons];ext
theorem Eb (p:Nat->Bool):∀l:Zh,(l.map λn=>if p n=true then 1 else 0).sum=l.countP p
 |[]=>rfl
 |a::l=>by
  rw[ah3,List.sum_cons,Eb p l,List.countP_cons];ext
def O8 {G r:Nat}{W:bI}(a:r<m)(b: -1000<=z/\z<=1000):vI m G (gx W r z)+ (List.range G).countP (λn:Nat=>W r z n)=vI m G W:=by
 unfold vI;rw[<-Eb (λn:Nat=>W r z n)];rwa[yP _ _ _ _ λn _=>RP n a b]
theorem O9:∀{l:Zh} {a b:Nat},l.Nodup->(∀x∈l,x=a\/x=b)->⇑l<=2
 |[],_,_,_,_=>⋯
 |[_],_,_,_,_=>aiZ 1
 |[_,_],_,_,_,_=>agQ 2
 |x::y::z::r,a,b,e,h=>by
  let f:=h x (by simp);let c:=h y (by simp);let d:=h z (by simp)
  cbv
def RT {W:bI}{p q:Int×Int}(h:∀r s,W r s z=true->(r,s)=p\/(r,s)=q):eN m W z<=2:=by
 unfold eN;rw[List.countP_eq_length_filter];rwa[O9 (a:=(p.1* 2001+ (p.2+ 1000)).toNat) (b:=(q.1* 2001+ (q.2+ 1000)).toNat) (ako.filter _) λc d=>?_]
 let f:=Nat.div_add_mod c 2001;rcases h _ _ (aiy.mp d).2 with e|e
 ·left;rw[<-e];dsimp only;ext
 ·right;rw[<-e];dsimp only;ext
theorem Hz:∀(l:Zh) (f:Nat->Nat) (k:Nat),(∀n∈l,f n<=k)->(l.map f).sum<=⇑l* k
 |[],_,_,_=>by simp
 |a::l,f,k,h=>by
  let c:=Hz l f k λn b=>h n (ahm _ b)
  have:=h a (ag2 ..);rw[ah3,List.sum_cons,ahi,ajo];ext
def Pa {W:bI}(h:∀a:Nat,∃p q:Int×Int,∀r s,W r s a=true->(r,s)=p\/(r,s)=q):vI m n W<=2* n:=by
 have:=Hz (List.range n) (λa:Nat=>eN m W a) 2 λa _=>by
  let⟨p,q,e⟩:=h a;rwa[RT e]
 rw[ahw]at this;unfold vI;ext
structure CI (S:RS) (bs:List (Nat×Zg×Nat)) (gs:Zf) (ag:Zh) (W:bI) (Ex:Nat->Int->Prop) (x:Zi):Prop where
 len:⇑gs=⇑bs
 al:∀(n:Nat) (g:Gg),gs[n]?\some g->bs[n]?\(g.which,g.word,g.start)/\GI S g/\(n∈ag\/some n=x\/(g.first<g.last/\W g.front g.z1 n=true/\W g.bu g.z2 n=true))
 de:∀(n:Nat) (b:Nat×Zg×Nat),gs[n]?\none->some n≠x->bs[n]?\b->S.aw b.2.2≠b.2.2\/wk S.by b.2.2 b.2.1=some b.2.2
 ab:∀n∈ag,n<⇑gs
 en:∀r s n,W r s n=true->∃r' n':Nat,r=r'/\n=n'/\r'<S.made/\n'<⇑gs/\(-1000<=s/\s<=1000)/\(S.aw r'=r'/\S.by r' s=none\/Ex r' s)
 sl:∀n:Nat,∃p q:Int×Int,(∀r s,W r s n=true->(r,s)=p\/(r,s)=q)/\∀g,gs[n]?\some g->p=((g.front:Int),g.z1)/\q=((g.bu:Int),g.z2)
 bd:∀b∈bs,∀z∈b.2.1,-1000<=z/\z<=1000
def fT:Nat->Int->Prop:=λ_ _=>False
section
variable {S:RS}{bs:List (Nat×Zg×Nat)}{gs:Zf}{ag:Zh}{W:bI}{Ex:Nat->Int->Prop}{x:Zi}{n:Nat}
def CI.pop (h:CI S bs gs (ag++[n]) W Ex none):CI S bs gs ag W Ex (some n):=by
 rwa[⟨h.len,λk g e=>?_,λk b e _=>h.de k b e (λz=>by ext z),λk a=>h.ab k (ahd _ a),h.en,h.sl,h.bd⟩];let⟨d,c,f⟩:=h.al k g e
 cbv
def CI.done (h:CI S bs gs ag W Ex (some n))(e:gs[n]?\none)(k:∀b,bs[n]?\b->S.aw b.2.2≠b.2.2\/wk S.by b.2.2 b.2.1=some b.2.2):CI S bs gs ag W Ex none:=by
 rwa[⟨h.len,λm g c=>?_,λm b c _ d=>?_,h.ab,h.en,h.sl,h.bd⟩]
 ·let⟨i,f,a⟩:=h.al m g c;erw[i,f];rcases a with a|a|a
  ·rwa[.inl a]
  ·cbv
  ·rwa[.inr (.inr a)]
 ·by_cases q:m=n
  ·rw[q]at d;rwa[k b d]
  ·rwa[h.de m b c (λz=>q (Za0 z)) d]
def fG {c:Type}{l:List c}{a b:c}(h:(l.set i a)[j]?\b):(j=i/\b=a)\/(j≠i/\l[j]?\b):=by
 cbv
def CI.kill (h:CI S bs gs ag W Ex (some n)):CI S bs (gs.set n none) ag W Ex (some n):=by
 rwa[⟨[ahj]▸h.len,λm g e=>?_,λm b e q c=>?_,λk d=>[ahj]▸h.ab k d,λr s k e=>?_,λm=>?_,h.bd⟩]
 ·rcases fG e with ⟨_,z⟩|⟨z,e⟩
  ·ext z
  ·rwa[h.al m g e]
 ·rcases fG e with ⟨z,_⟩|⟨z,e⟩
  ·cbv
  ·rwa[h.de m b e q c]
 ·rw[ahj];rwa[h.en r s k e]
 ·let⟨p,q,f,a⟩:=h.sl m;rwa[⟨p,q,f,λg e=>?_⟩];rcases fG e with ⟨_,z⟩|⟨_,e⟩
  ·ext z
  ·rwa[a g e]
noncomputable def addW (W:bI)(r s n:Int):bI:=λb c a=>W b c a || (decide (b=r) && decide (c=s) && decide (a=n))
def dA {W:bI}{r n b a:Int}:addW W r z n y b a=true↔W y b a=true\/(y=r/\b=z/\a=n):=by
 unfold addW
 cbv
def dk {W:bI}{r a b:Int}:gx W r z y a b=true↔W y a b=true/\¬(y=r/\a=z):=by
 unfold gx
 cbv
def CI.waits (h:CI S bs gs ag W fT (some n)){g c:Gg}(e:gs[n]?\some g)(a:Wo S g c)(d:c.first<c.last):CI S bs (gs.set n (some c)) ag (addW (addW W c.front c.z1 n) c.bu c.z2 n) fT none:=by
 let⟨o,O,_⟩:=h.al n g e;let t:=(agM.mp e).1;let gi:=a.gi;let A:∀z∈c.word,-1000<=z/\z<=1000:=λz hz=>h.bd _ (agK o) z (by rw[<-a.wo];rwa[hz])
 let H:=A _ (agK (Gg.qy (g:=c) (by have:=gi.ll;omega)));let M:=A _ (agK (Gg.at2 (g:=c) gi.ll));rwa[⟨[ahj]▸h.len,λm u q=>?_,λm b q _ I=>?_,λk J=>[ahj]▸h.ab k J,λr s k q=>?_,λm=>?_,h.bd⟩]
 ·rcases fG q with ⟨rfl,z⟩|⟨z,q⟩
  ·ext z;rwa[⟨by rw[o,a.wh,a.wo,a.st],gi,.inr (.inr ⟨d,dA.mpr (.inl (dA.mpr (.inr ⟨222⟩))),dA.mpr (.inr ⟨222⟩)⟩)⟩]
  ·let⟨i,l,f⟩:=h.al m u q;erw[i,l];rcases f with f|f|⟨f,E,D⟩
   ·rwa[.inl f]
   ·cbv
   ·rwa[.inr (.inr ⟨f,dA.mpr (.inl (dA.mpr (.inl E))),dA.mpr (.inl (dA.mpr (.inl D)))⟩)]
 ·rcases fG q with ⟨_,z⟩|⟨z,q⟩
  ·ext z
  ·rwa[h.de m b q (λy=>z (Za0 y)) I]
 ·rw[ahj];rcases dA.mp q with q|⟨rfl,rfl,rfl⟩
  ·rcases dA.mp q with q|⟨rfl,rfl,rfl⟩
   ·rwa[h.en r s k q]
   ·rwa[⟨_,n,rfl,rfl,gi.f,t,H,.inl ⟨a.ef,a.n1 d⟩⟩]
  ·rwa[⟨_,n,rfl,rfl,gi.r,t,by ext,.inl ⟨a.er,a.n2 d⟩⟩]
 ·let⟨p,q,i,l⟩:=h.sl m;by_cases F:m=n
  ·subst F;let⟨L,eq⟩:=l g e;rwa[⟨((c.front:Int),c.z1),((c.bu:Int),c.z2),λr s w=>?_,λu C=>?_⟩]
   ·rcases dA.mp w with w|⟨rfl,rfl,_⟩
    ·rcases dA.mp w with w|⟨rfl,rfl,_⟩
     ·let⟨B,N,er,_,_,_,_,j⟩:=h.en r s m w;rcases j with ⟨v,G⟩|j
      ·rcases i r s w with z|z
       ·rw[L]at z;injection z with z1 z2
        have:B=g.front:=∅
        subst this;let⟨k1,k2⟩:=a.k1 v (by cbv)
        left
        rw[Prod.mk.injEq];erw[[k1]▸er];rw[z2];unfold Gg.z1;rw[a.wo,k2]
       ·rw[eq]at z;injection z with z1 z2
        have:B=g.bu:=∅
        subst this;let⟨k1,k2⟩:=a.k2 v (by cbv)
        right
        rw[Prod.mk.injEq];erw[[k1]▸er];rw[z2];unfold Gg.z2;rw[a.wo,k2]
      ·rwa[j.elim]
     ·rwa[.inl rfl]
    ·rwa[.inr rfl]
   ·rcases fG C with ⟨_,z⟩|⟨z,_⟩
    ·cbv
    ·rwa[absurd rfl z]
  ·rwa[⟨p,q,λr s w=>?_,λu C=>?_⟩]
   ·rcases dA.mp w with w|⟨_,_,z⟩
    ·rcases dA.mp w with w|⟨_,_,z⟩
     ·rwa[i r s w]
     ·ext
    ·ext
   cbv
def CI.wake (h:CI S bs gs ag W Ex x){r s:Int}{ns:Zh}(b:∀k:Nat,k∈ns↔W r s k=true):CI S bs gs (ag++ns) (gx W r s) Ex x:=by
 rwa[⟨h.len,λm g e=>?_,h.de,λk o=>?_,λu t k q=>h.en _ _ _ (dk.mp q).1,λm=>?_,h.bd⟩]
 ·let⟨d,c,a⟩:=h.al m g e;erw[d,c];rcases a with a|a|⟨a,l,j⟩
  ·rwa[.inl (ahd _ a)]
  ·rwa[.inr (.inl a)]
  ·by_cases f:(g.front:Int)=r/\g.z1=s
   ·rwa[.inl (agS _ ((b m).mpr (by rw[<-f.1,<-f.2];rwa[l])))]
   ·by_cases i:(g.bu:Int)=r/\g.z2=s
    ·rwa[.inl (agS _ ((b m).mpr (by rw[<-i.1,<-i.2];rwa[j])))]
    ·rwa[.inr (.inr ⟨a,dk.mpr ⟨l,f⟩,dk.mpr ⟨j,i⟩⟩)]
 ·rcases agX.mp o with q|q
  ·rwa[h.ab k q]
  ·let⟨_,v,_,en,_,y,_⟩:=h.en _ _ _ ((b k).mp q);ext
 ·let⟨p,q,d,c⟩:=h.sl m;rwa[p,q,λu t w=>d^(dk.mp w).1,c]
def CI.ex {e:Nat->Int->Prop}(h:CI S bs gs ag W Ex x)(k:∀(r:Nat) s n,W r s n=true->r<S.made->Ex r s->(S.aw r=r/\S.by r s=none)\/e r s):CI S bs gs ag W e x:=by
 rwa[⟨h.len,h.al,h.de,h.ab,λr s n q=>?_,h.sl,h.bd⟩];let⟨g,f,rfl,rfl,a,b,c,d⟩:=h.en r s n q;rwa[g,f,22,a,b,c,d.elim .inl (k g s f q a)]
end
structure fH (S:RS):Prop where
 a:∀c,c<S.made->S.aw c≠c->c∈S.aZ
 b:∀c∈S.aZ,S.aw c≠c
 c:∀c∈S.aZ,c<S.made
section
variable {S S':RS}{pend:Ze}{w:Way}{R:Za2}{ks:Zg}
def HB {x:Nat}:(S.meet n z x m pend).1.aZ=S.aZ++[max x m]:=by
 have:=(gM (max x m) (S.joined n z (min x m) (max x m)) pend ((S.joined n z (min x m) (max x m)).way (max x m))).2;have:=ahZ RS.aZ this;rwa[this]
def t9 (h:(S.takeIn pend w).1.aZ=S.aZ):(S.takeIn pend w).1.aU=S.aU:=by
 let no:∀{c x y:Nat} {z:Int},(S.meet c z x y pend).1.aZ=S.aZ->False:=λ{c x y z} e=>by
  rw[HB]at e;have:=ahZ List.length e
  cbv
 unfold RS.takeIn at h ⊢;split
 ·rename_i q;rw[ahf q]at h;rwa[(no h).elim]
 ·rename_i q;rw[ahc q]at h;split
  ·rename_i a;rw[ahf a]at h;rwa[(no h).elim]
  ·rfl
def fH.take (f:fH S)(h:Good S (pend++[w]) R)(m:∀c z d,R c z d->z∈ks):fH (S.takeIn pend w).1/\∃l,(S.takeIn pend w).1.aZ=S.aZ++l:=by
 let⟨_,_,g,_,q⟩:=h.take m;rcases q with ⟨_,_,e⟩|⟨_,c,z,x,y,n,_,r,p,j,_,e,el⟩
 ·let ee:=t9 e;let el:∀a,(S.takeIn pend w).1.aw a=S.aw a:=λa=>by unfold RS.aw;rw[ee]
  rwa[⟨⟨λc hc=>?_,λc hc=>?_,λc hc=>by rw[g];rw[e]at hc;rwa[f.c c hc]⟩,[],by rw[e,ahl]⟩]
  ·rw[g]at hc;rw[el,e];rwa[f.a c hc]
  ·rw[e]at hc;rw[el];rwa[f.b c hc]
 ·let⟨_,k,_,ex⟩:=h.st _ _ _ n;rwa[⟨⟨λa b=>?_,λa b=>?_,λa b=>?_⟩,[max x y],e⟩]
  ·rw[g]at b;rw[el,e];intro i;by_cases q:S.aw a=a
   ·cbv
   ·rwa[ahd _ (f.a a b q)]
  ·rw[el];rw[e]at b;rcases agX.mp b with q|q
   ·let i:=f.b a q
    cbv
   cbv
  ·rw[g];rw[e]at b;rcases agX.mp b with q|q
   ·rwa[f.c a q]
   ·rw[agR.mp q];rcases ajZ x y with o|o <;> ext
inductive kh:RS->Ze->RS->Prop where
 |nil (S:RS):kh S [] S
 |take {S S':RS} {pend:Ze} {w:Way}:kh (S.takeIn pend w).1 (S.takeIn pend w).2 S'->kh S (pend++[w]) S'
def kh.all (l:kh S pend S'):Good S pend R->(∀c z d,R c z d->z∈ks)->fH S->Good S' [] R/\fH S'/\S'.made=S.made/\S'.L=S.L/\∃l,S'.aZ=S.aZ++l:=by
 induction l with
 |nil S=>exact λg _ w=>⟨g,w,22,[],(ahl _).symm⟩
 |take _ i=>
  intro g e w;let⟨f,_,k,m,_⟩:=g.take e;let⟨h,l2,j⟩:=w.take g e;let⟨a,b,c,d,n,o⟩:=i f e h
  cbv
end
section
variable {S S':RS}{R:Za2}{bs:List (Nat×Zg×Nat)}{gs:Zf}{ag:Zh}{W:bI}{n c d:Nat}{z:Int}
theorem CI.lay (h:CI S bs gs ag W fT (some n))(e:gs[n]?\none)(g:Good S [] R)(v:Good S' [] (fQ R c z d))(hm:S'.made=S.made)(J:fH S)(B:fH S'){l:Zh}(T:S'.aZ=S.aZ++l)(hc:c<S.made)(M:S.aw c=c)(hd:d<S.made)(ed:S.aw d=d)
 (k:∀b,bs[n]?\b->S'.aw b.2.2≠b.2.2\/wk S'.by b.2.2 b.2.1=some b.2.2):CI S' bs gs ag W (λr s=>(r=c/\s=z)\/(r=d/\s= -z)\/∃m∈l,r=m\/r=S'.aw m) none:=by
 let lt:=Later.of g v iB (ajT hm.symm)
 let p:∀e,e<S.made->S.aw e=e->S'.aw e≠e->e∈l:=λe j i D=>by
  have:=B.a e ([hm]▸j) D;rw[T]at this;rcases agX.mp this with q|q
  ·rwa[absurd i (J.b e q)]
  ext
 let h0:CI S' bs gs ag W (λr s=>(r=c/\s=z)\/(r=d/\s= -z)\/∃m∈l,r=m\/r=S'.aw m) (some n):=by
  rwa[⟨h.len,λm u q=>?_,λm b E F P=>?_,h.ab,λr s m q=>?_,h.sl,h.bd⟩]
  ·let⟨j,i,D⟩:=h.al m u q;rwa[j,i.later lt (ajT hm.symm),D]
  ·by_cases t:S'.aw b.2.2=b.2.2
   ·right
    rcases h.de m b E F P with q|q
    ·by_cases A:b.2.2<S.made
     ·let j:=(g.el _ A).1;let i:=(v.el _ ([hm]▸g.lt A)).1;rw[lt.el _ A,t]at i;rwa[absurd (Nat.le_antisymm j i) q]
     ·exfalso
      let G:⇑S.aU=S.made:=g.wf.e;let Q:⇑S'.aU=S'.made:=v.wf.e;let O:S.aw b.2.2=0:=by unfold RS.aw;rw[agT,ahz ∅];rfl
      let C:S'.aw b.2.2=0:=by unfold RS.aw;rw[agT,ahz ∅];rfl
      rwa[q (by rw[O,<-C,t])]
    ·have:=lt.wk q;rw[t]at this;rwa[this]
   ·rwa[.inl t]
  ·let⟨f,I,t,U,H,N,G,q⟩:=h.en r s m q;erw[f,I,t,U,[hm]▸H,N,G];rcases q with ⟨E,F⟩|q
   ·by_cases j:S'.aw f=f
    ·cases i:S'.by f s with
     |none=>exact .inl ⟨j,2⟩
     |some o=>
      right
      let⟨x,L,w,f1,Y⟩:=v.so _ _ _ i
      let stand:∀e,e<S.made->S.aw e=e->S'.aw e=f->e=f\/∃m∈l,f=m\/f=S'.aw m:=λe X Z V=>by
       cbv
      rcases w with w|⟨rfl,rfl,rfl⟩|⟨rfl,rfl,rfl⟩
      ·let⟨y,l2,_⟩:=g.rl _ _ _ w;rcases stand (S.aw x) (g.lt y) (g.el _ y).2 ([lt.el _ y]▸f1) with a|a
       ·have:=g.rF.mpr ⟨x,L,w,a,rfl⟩
        cbv
       ·rwa[.inr (.inr a)]
      ·rcases stand x hc M f1 with a|a
       ·rwa[.inl ⟨a.symm,rfl⟩]
       ·rwa[.inr (.inr a)]
      ·rcases stand x hd ed f1 with a|a
       ·rwa[.inr (.inl ⟨a.symm,rfl⟩)]
       ·rwa[.inr (.inr a)]
    ·rwa[.inr (.inr (.inr ⟨f,p f H E j,.inl rfl⟩))]
   ·rwa[q.elim]
 rwa[h0.done e k]
end
noncomputable def cj (a:Nat->Int->Zi):Nat->Zg->Zh
 |_,[]=>[]
 |r,z::c=>match a r z with
  |none=>[]
  |some b=>b::cj a b c
def yQ {a:Nat->Int->Zi}{r:Nat}(h:a r z=none):cj a r (z::l)=[]:=by
 show (match a r z with|none=>[]|some b=>b::cj a b l)=[];rw[h]
def ny {a:Nat->Int->Zi}{r:Nat}(h:a r z\n):cj a r (z::l)=n::cj a n l:=by
 show (match a r z with|none=>[]|some n=>n::cj a n l)=_;rw[h]
noncomputable def lZ (w:Nat)(p:Zh)(k:Nat):Dt:=.t [.s [114,117,108,101],.i w,.t (p.map λc:Nat=>Dt.i (c:Int)),.i k]
structure AZ (ws:Za3) (nr:Nat) (S:RS) (which:Nat) (word:Zg) (start m c d:Nat) (z:Int):Prop where
 w:ws[which]?\word
 n:which<nr\/start=0
 s:start<S.made/\S.aw start=start
 hz:word[m]?\z
 f:wk S.by start (word.take m)=some c
 r:wk S.by d (word.drop (m+ 1))=some start
 hc:c<S.made/\S.aw c=c
 hd:d<S.made/\S.aw d=d
 o:S.by c z≠some d
def pT (S:RS)(a:Nat)(word:Zg)(start m d:Nat):RS:={ S with rows:=S.rows++[lZ a ((start::cj S.by start (word.take m))++(d::cj S.by d (word.drop (m+ 1)))) m] }
inductive Tr (ws:Za3) (nr:Nat):RS->RS->Prop where
 |refl (S:RS):Tr ws nr S S
 |step {S S1 S2:RS} {which:Nat} {word:Zg} {start m c d:Nat} {z:Int}:Tr ws nr S S1->AZ ws nr S1 which word start m c d z->kh (pT S1 which word start m d) [(c,z,d)] S2->Tr ws nr S S2
def HC (S:RS)(c:Nat)(word:Zg):Prop:=wk S.by c word=some c\/∃(i j f r:Nat) (y z:Int),i<j/\word[i]?\y/\word[j]?\z/\wk S.by c (word.take i)=some f/\S.by f y=none/\wk S.by r (word.drop (j+ 1))=some c/\S.by r (-z)=none
structure uJ (rs ps:Za3) (S:RS):Prop where
 r:∀w∈rs,∀c,c<S.made->S.aw c=c->HC S c w
 p:∀w∈ps,HC S 0 w
def UW (U:Za2):Nat->Zg->Nat->Prop
 |p,[],q=>p=q
 |p,z::w,q=>∃r,U p z r/\UW U r w q
structure Wq (ws:Za3) (nr M:Nat) (φ:Nat->Nat) (U:Za2):Prop where
 sy:∀p z q,U p z q->U q (-z) p
 fn:∀p z q q',U p z q->U p z q'->q=q'
 cl:∀(which:Nat) (word:Zg) (start m c d:Nat) (z:Int),ws[which]?\word->which<nr\/start=0->start<M->word[m]?\z->UW U (φ start) (word.take m) (φ c)->UW U (φ d) (word.drop (m+ 1)) (φ start)->U (φ c) z (φ d)
section
variable {S S':RS}{R:Za2}{φ:Nat->Nat}{U:Za2}{ks:Zg}
def A0 (k:∀p z q e,U p z q->U p z e->q=e)(d:∀a z b,R a z b->U (φ a) z (φ b)){a b:Nat}(h:Cg R a b):φ a=φ b:=by
 induction h with
 |refl=>rfl
 |symm _ c=>exact c.symm
 |trans _ _ f g=>exact f.trans g
 |step j i _ c=>exact k _ _ _ _ (d _ _ _ j) ([c]▸d _ _ _ i)
def HD (g:Good S [] R)(i:∀p z q f,U p z q->U p z f->q=f)(e:∀a z b,R a z b->U (φ a) z (φ b)){c d:Nat}{z:Int}(h:S.by c z=some d):U (φ c) z (φ d):=by
 let⟨s,n,r,m,t⟩:=g.so _ _ _ h;let⟨j,k,_⟩:=g.rl _ _ _ r;let o:=A0 i e (g.cg _ j);let l:=A0 i e (g.cg _ k)
 cbv
theorem A1 (h:∀c z d,S.by c z=some d->U (φ c) z (φ d)):∀{w:Zg} {c d:Nat},wk S.by c w=some d->UW U (φ c) w (φ d)
 |[],c,d,e=>by rw[Za0 e];rfl
 |z::w,c,d,e=>by
  let⟨f,b,a⟩:=g9 e;rwa[_,h _ _ _ b,A1 h a]
theorem Tr.sound {ws:Za3}(t:Tr ws n S S')(l:Wq ws n m φ U)(H:∀w∈ws,∀z∈w,z∈ks/\-z∈ks):Good S [] R->fH S->S.made<=m->(∀a z b,R a z b->z∈ks)->(∀a z b,R a z b->U (φ a) z (φ b))->
 ∃j,Good S' [] j/\fH S'/\S'.made=S.made/\S'.L=S.L/\(∀a z b,R a z b->j a z b)/\(∀a z b,j a z b->z∈ks)/\∀a z b,j a z b->U (φ a) z (φ b):=by
 induction t with
 |refl=>exact λg w _ k h=>⟨R,g,w,22,λ_ _ _ r=>r,k,h⟩
 |step _ ra G I=>
  rename_i J L which word start f c d z _;intro g v F k h;let⟨B,g1,o,x,A,s,k1,q⟩:=I g v F k h;let p:=λc z d=>HD (c:=c) (d:=d) (z:=z) g1 l.fn q
  let u:=l.cl which word start f c d z ra.w ra.n (by have:=ra.s.1;omega) ra.hz (A1 p ra.f) (A1 p ra.r);let hz:=H word (agK ra.w) z (agK ra.hz)
  let i:∀a y b,fQ B c z d a y b->y∈ks:=by
   rintro a y b (r|⟨_,e,_⟩|⟨_,e,_⟩)
   ·rwa[k1 _ _ _ r]
   ·rw[e];rwa[hz.1]
   ·rw[e];rwa[hz.2]
  let⟨D,C,E,l2,_⟩:=G.all (g1.lay z ra.hc.1 ra.hd.1 _) i ⟨o.a,o.b,o.c⟩;erw[_,D,C,E.trans x,l2.trans A,λa y b r=>.inl (s _ _ _ r),i];rintro a y b (r|⟨rfl,rfl,rfl⟩|⟨rfl,rfl,rfl⟩)
  ·rwa[q _ _ _ r]
  ·rwa[u]
  ·rwa[l.sy _ _ _ u]
end
end L2
namespace L2
open PySem PySem.Spec PyProof.Rows
section
variable {X:Cx}
def Pb (K:Za1)(d:TA)(f:TE):TI:=λ c H R=>d c H λh g=>f c g λz b=>∃a n,h=[↑a]/\z=.int n/\0<=n/\n<1000/\(∃e,aD K b a e)/\R (sV K a n) b
def RV (Q:V->Hp->Prop):Zb->Hp->Prop
 |[z],H=>Q z H
 |_,_=>False
theorem Pg {Q:V->Hp->Prop}:∀{a:Zb} {H:Hp},RV Q a H->∃z,a=[z]/\Q z H
 |[z],_,h=>⟨z,2,h⟩
 |[],_,h=>h.elim
 |_::_::_,_,h=>h.elim
theorem HF {b:Expr}{F E:TE}{elts:Zr}{f g kp:Pos}(hg:Gl X "enumerate")(N:X.mg "enumerate"=none)(W:PE X e F)(j:PE X b E)
 (D:starEach [e] X.env=(false,eval e X.env)::starEach [] X.env:=by rfl)
 (t:((backTo g (starEach [e] X.env)).any (·.1) || (backToKw g (keywordEach [⟨some "start",b,kp⟩] X.env)).any (·.1.isNone))=false:=by rfl):
 PI X (.Tuple elts n p) (.Call (.Name "enumerate" f) [e] [⟨some "start",b,kp⟩] g) (Pb X.K (jM F j8) E):=by
 intro a s B H R I h;rwa[ahW (gZ I hg N boot_enumerate ?_)];rwa[PySem.W.callWith_of (P:=λ_=>True) t (λ_ _=>⟨.machine,.inr (.inl rfl),λ_ _ _ _ _ q=>agP q⟩) (evalArgs_kw2 rfl (a9 ((ae W ai D) g a s B H _ I h) λus G ζ=>?_) D)];let⟨Z,L,Q,r,q⟩:=ζ;rwa[a9 ((DH j GV:PK X [⟨some "start",b,kp⟩] _) g a G B L (RV λz m=>∃e d,Z=[↑e]/\z=.int d/\0<=d/\d<1000/\(∃C,aD X.K m e C)/\R (sV X.K e d) m) Q q) λws s2 ζ=>?_];let⟨zs,m,i,M,U⟩:=ζ;rwa[⟨True.intro,5⟩]
 let⟨z,rfl,l,d,J,rfl,x,A,v,S⟩:=Pg U;subst J;let⟨C,v⟩:=v;let⟨u,rfl,Y⟩:=vals1 r;ext Y;let⟨u2,rfl,t2,rfl⟩:=vals1 M;let⟨O,rv,pl,hz⟩:=i.list v;show wpAny _ _ (call (.type "enumerate") [↑l] [("start",.int d t2)]) _ _ s2;rwa[En.C3 pl.isList x A λo y hit V=>?_]
 let I3:Inv X a B m (s2<*o):=i.kept (t':=s2.toks) V;let k:(∃old,IsEnum o (↥s2+ 1) ↥s2 (d+ ((0:Nat):Int)) old)/\o.IsListIter ↥s2 l 0:=⟨⟨_,[show d+ ((0:Nat):Int)=d by ext]▸y⟩,hit⟩;let T:=C4 (P:=X.prog) (w:=X.w) (K:=X.K) (elts:=elts) (x1:=n) (tp:=p) (↥s2+ 1) ↥s2 l d (Nat.succ_ne_self _);rwa[T.self _ 0 (s2<*o) _ _ k ⟨1111,m,2,I3,T,k,λb j=>?_,S⟩];rcases ag4.mp j with c|j
 ·subst c;rwa[i.pF (aiZ _) (i.aO.fresh (aiZ _))]
 ·rw[agR.mp j];rwa[i.pF (agQ _) (i.aO.fresh (agQ _))]
end
section
variable {prog:Program} {w:World} {K:Type} [DecidableEq K] {knd:HeapKind prog w K} {A:Around} {E:Zt->Zu->Prop} {s:Zu} {d a:Zs} {k:K} {xs:List (K×Zs×Zt)}
theorem C5 {dflt:Zt}(n:knd.room A)(b:knd.is s.heap k a)(t:s.heap.DictOfH knd d xs)
 (B:∀v,(atKey xs k).map (·.2)\v->Q v { s with toks:=s.toks+ knd.draws k })
 (x:atKey xs k=none->∀i,i.DictOfH knd d (storedH xs k a dflt)->Heap.SameBut d s.heap i->Q dflt { s with heap:=i,toks:=s.toks+ knd.draws k })
 (F:⇑xs<=sizeLine):(prog<|>w) A (dictSetDefault d ↑a dflt) Q E s:=by
 let⟨I,C,u,f,g2,c,h,l,o⟩:=t;unfold dictSetDefault
 first|(with_reducible rwa[ahY ?_])|skip
 rwa[agI (knd.pyHash n b (agI (wpAny_dictFind_heap (s:={ s with toks:=s.toks+ knd.draws k }) n b f c h l o (λno=>?_) (λj p m=>?_))))]
 ·let G:k∉xs.map (·.1):=not_mem_keys_of_get no;let g:=atKey_none_of_get no;rwa[agI (akf (agI (wpAny_updateDictKeys (hz:=by let e:=size_of_entries h;omega) (s:={ s with toks:=s.toks+ knd.draws k }) f c (agP (x g _ ?_ (aii ..))))))];erw[11,u+ 1,ahv _ f (Obj.isFreed_of_dict (Obj.data_mapDictKeys c _)),g2.mapDictKeys _,Obj.data_mapDictKeys c _,55]
  ·rw[storedH_new g];simp[h,entryOfKey]
  ·rw[storedH_new g];intro y D;rcases agX.mp D with q|q
   ·rwa[knd.keeps (l y q) f c (aii ..)]
   ·rw[agR.mp q];rwa[knd.keeps b f c (aii ..)]
  ·rw[storedH_new g,aho,ahK]
   cbv
 ·let r:=atKey_of_get o m;rwa[agI (aiN (s:={ s with toks:=s.toks+ knd.draws k }) f c ?_)]
  let z:C[j]?\(entryOfKey knd (k,p)):=by
   rw[entry_at h j,m];rfl
  rw[z];rwa[agI (akf (agP (B _ (by rw[r];rfl))))]
theorem zo (knd:HeapKind prog w K)(d a:Zs)(m:(d==sysModules)=false)(dflt:Zt):MeetsIn prog w (Builtin.«dict.setdefault» ⟨[↑d,↑a,dflt],[]⟩) (λA R s=>knd.room A.in1/\∃k xs,knd.is s.heap k a/\s.heap.DictOfH knd d xs/\⇑xs<=sizeLine/\
 (∀v,(atKey xs k).map (·.2)\v->R (.ok (.ret v)) { s with toks:=s.toks+ knd.draws k })/\(atKey xs k=none->∀b,b.DictOfH knd d (storedH xs k a dflt)->Heap.SameBut d s.heap b->R (.ok (.ret dflt)) { s with heap:=b,toks:=s.toks+ knd.draws k })):=
 .of_wp λA R s ⟨f,k,xs,c,hm,g,j,e⟩=>by
  unfold Builtin.«dict.setdefault» Builtin.Dict.keyAndDefault;rwa[agI (agI (ajC hm.typeIs ?_))];show wpAny _ _ (pure (d,Value.ref a,some dflt)) _ _ s;rwa[agP ?_];show wpAny _ _ (if (d==sysModules)=true then _ else (dictSetDefault d ↑a dflt >>=_)) _ _ s;rw[m];rwa[agI (C5 f c hm (λv n=>agP ⟨v,2,j v n⟩) (λh b l i=>agP ⟨dflt,2,e h b l i⟩) g)]
end
inductive RW (a:Zs) (y z:V) (H:Hp) (Q:VK):Prop
 |mk (kvs:List (Zd×V)) (k:Zd) (b:Zs):H a\.dT kvs->y=↑b->H b\.tup (k.map kV)->⇑kvs<sizeLine->(∀v,bD kvs k\v->Q v H)->(bD kvs k=none->Q z (upd H a (.dT (putK kvs k z))))->RW a y z H Q
def RX (td d tx:TE):TE:=λ b H Q=>td b H λx c=>DT x c λa=>d b c λy f=>tx b f λz e=>RW a y z e Q
section
variable {X:Cx}{o e f:Expr}{apos cG:Pos}{td ty tx:TE}
def Kv (hu:X.A.units+ 1<cLine)(ho:PE X o td)(he:PE X e ty)(hf:PE X f tx)(m:M2 X o "setdefault" apos e f cG):PE X (.Call (.Attribute o "setdefault" apos) [e,f] [] cG) (RX td ty tx):=by
 intro i s A H Q I h;rwa[ajb m.base m.few m.line ah7 aiJ PySem.F.type_dict_setdefault (a9 (ho i s A H _ I h) λu O ζ=>?_)];let⟨x,S,E,rx,a,ex,d,q1⟩:=ζ;subst ex;obtain rfl:u=Value.ref a:=rx;let⟨t1,t2,_⟩:=mx E d;erw[t1,t2];rw[m.trees]
 refine ahT rfl (aiq (ahL (a9 (he i O A S _ E q1) λM s2 ⟨y,H2,I2,V,N⟩=>
  ahL (a9 (hf i s2 A H2 _ I2 N) λfv s3 ⟨z,G,n,B,j,k,b,w,ey,F,W,q3,T⟩=>aij ?_))))
 subst ey;cases (show M=Value.ref b from V);let⟨hz,L,xs,rel,J⟩:=Ms n.aO w;let g:=rel.val k;let r:⇑xs<=sizeLine:=by rw[<-Paired.length rel];rwa[hz]
 rwa[ajl aiJ J.typeIs PySem.F.entry_dict_setdefault (PySem.F.args_dict_setdefault_3^_) (zo _ a b L fv) ⟨aiW hu,k,xs,mw n.aO F,J,r,λv hv=>?_,λY g1 p P=>?_⟩]
 ·rw[hv]at g
  cases l:bD j k with
  |none=>rw[l]at g;rwa[g.elim]
  |some t=>
   rw[l]at g;rwa[t,G,n.tok _,g,q3 t l]
 ·rw[Y]at g
  cases l:bD j k with
  |some t=>rw[l]at g;rwa[g.elim]
  |none=>
   let hl:⇑(putK j k z)<=sizeLine:=by have:=hV j k z;ext
   let⟨q,Z,ep,D,h2,h3,U,_,R⟩:=p;rwa[⟨z,upd G a (.dT (putK j k z)),kb n ([w]▸True.intro) P ⟨q,D⟩ ⟨hl,L,_,(rel.put k F B).keeps λc ys C=>?_,q,Z,ep,D,h2,h3,U,R⟩,B,T l⟩];rw[ak (bW C w (λz=>nomatch z))];rwa[C]
end
section
variable {H:Hp}{k:Zs}{D:Int->Zo}{E:Int->Int->Zo}{S:bI}
theorem dS.Kw (h:dS H k D E S){c s:Int}{d:Zs}(hd:D c\d){l:List (Key×V)}(A:H d\.dK l):
 dS (upd H d (.dK (fj l (Sum.inl s)))) k D (λf g=>if f=c/\g=s then none else E f g) (gx S c s):=by
 let⟨m,F,u,C,v⟩:=h.row c d hd;rw[A]at F;obtain rfl:l=m:=by cbv
 let un:∀{f g:Int} {z:Zs},(if f=c/\g=s then none else E f g)\z->¬(f=c/\g=s)/\E f g\z:=λ{f g z} q=>by
  cbv
 rwa[⟨h.top.at λo q=>?_,λf p j=>?_,λf g n i=>?_,λf g n i=>h.ed _ _ _ (un i).2,λf g o x=>?_,h.nd,λf g n i=>h.ne _ _ _ (un i).2,h.dd,λf w g p j i=>h.de _ _ _ _ j (un i).2,λf g w G n B y=>h.ee _ _ _ _ _ (un B).2 (un y).2⟩]
 ·rw[ak (h.nd c d hd).symm];rwa[q]
 ·by_cases t:f=c
  ·subst t;obtain rfl:p=d:=by cbv
   rwa[(OY u C v s).congr λg=>?_]
   cbv
  ·rwa[((h.row f p j).at λo q=>by rw[ak λz=>t (h.dd _ _ _ j ([z]▸hd))];rwa[q]).congr λg=>?_]
   cbv
 ·let⟨ne,r⟩:=un i;rwa[((h.yO f g n r).at λo q=>[ak (λz=>h.de c f g d hd (by rw[<-z];rwa[r]))]▸q).congr λo=>?_]
  have:gx S c s f g o=S f g o:=by
   rw[ah6,dk];rwa[λz=>z.1,λz=>⟨z,ne⟩]
  rw[this]
 ·let⟨a,b⟩:=dk.mp x;let⟨e,r⟩:=h.se _ _ _ a
  cbv
end
structure RZ (k:Zs) (D:Int->Zo) (E:Int->Int->Zo) (W:bI) (O:Zs->Prop):Prop where
 o:∀b,uI k D E b->O b
 d:∀c x,D c\x->0<=c/\c<100000
 e:∀c s x,E c s\x-> -1000<=s/\s<=1000
 w:∀c s n,W c s n=true->0<=n/\n<100000
def oK (H:Hp)(k:Zs)(W:bI)(O:Zs->Prop):Prop:=∃D E,dS H k D E W/\RZ k D E W O
def fI (H:Hp)(k:Zs)(W:bI)(O:Zs->Prop)(c:Int)(d:Zs):Prop:=∃D E,dS H k D E W/\RZ k D E W O/\D c\d
def pU (H:Hp)(k:Zs)(W:bI)(O:Zs->Prop)(c s:Int)(e:Zs):Prop:=∃D E,dS H k D E W/\RZ k D E W O/\E c s\e
def HG (O:Zs->Prop)(p:Zs):Zs->Prop:=λb=>O b\/b=p
section
variable {H H':Hp}{k:Zs}{W:bI}{O:Zs->Prop}{c s:Int}{d e p:Zs}
def oK.keep (h:oK H k W O)(f:∀b o,O b->H b\o->H' b\o):oK H' k W O:=by
 let⟨D,E,g,a⟩:=h;rwa[D,E,g.keep λb o i q=>f b o (a.o b i) q,a]
def oK.qv (h:oK H k W O):DS H k:=by
 let⟨D,E,a,_⟩:=h;let⟨b,q,_⟩:=a.top;rwa[.inl ⟨b,.inl q⟩]
theorem oK.room (h:oK H k W O)(y:H p=none)(hc:0<=c/\c<100000):∃a,upd H p (.dK []) k\.dK a/\⇑a<sizeLine/\(∀v,bD a (Sum.inl c)\v->∃d,v=↑d/\fI (upd H p (.dK [])) k W O c d)/\
 (bD a (Sum.inl c)=none->fI (upd (upd H p (.dK [])) k (.dK (putK a (Sum.inl c) ↑p))) k W (HG O p) c p):=by
 let⟨D,E,m,f⟩:=h;let u:=aq.upd (o:=.dK []) y;let k1:=m.same u;let⟨a,r,t,A,l⟩:=k1.RJ;let nw:¬uI k D E p:=λz=>by let⟨B,q⟩:=m.there z;cbv
 rwa[⟨a,r,5,λv g=>?_,λg=>?_⟩]
 ·rwa[agU (vH (n:=100000) (lo:=0) t A l λi v g=>?_) ⋯]
  cases e:D i with
  |none=>rw[e]at g;ext g
  |some x=>have:=f.d i x e;ext
 ·rw[l]at g;let⟨d,hd,rfl⟩:=ah1.mp g;rwa[d,2,D,E,k1,f,hd]
 ·rw[l]at g;let hd:D c=none:=akc.mp g;rwa[⟨_,E,k1.O6 hd r ah nw,⟨λb w=>?_,λj x q=>?_,f.e,f.w⟩,ahf rfl⟩]
  ·rcases w with z|⟨j,z⟩|z
   ·rwa[.inl (f.o b (.inl z))]
   ·dsimp only at z;by_cases e:j=c
    ·rw[ahf e]at z;rwa[.inr (Za0 z).symm]
    ·rw[ahc e]at z;rwa[.inl (f.o b (.inr (.inl ⟨j,z⟩)))]
   ·rwa[.inl (f.o b (.inr (.inr z)))]
  ·by_cases e:j=c
   ·rw[e];rwa[hc]
   ·rw[ahc e]at q;rwa[f.d j x q]
def fI.qv (h:fI H k W O c d):DS H d:=by
 let⟨D,E,a,g,f⟩:=h;let⟨b,q,_⟩:=a.row c d f;rwa[.inl ⟨b,.inl q⟩]
def fI.own (h:fI H k W O c d):O d:=by
 let⟨D,E,f,a,b⟩:=h;rwa[a.o d (.inr (.inl ⟨c,b⟩))]
def fI.same (h:fI H k W O c d)(s:aq H H'):fI H' k W O c d:=by
 let⟨D,E,b,a,f⟩:=h;rwa[D,E,b.same s,a,f]
theorem fI.cell (h:fI H k W O c d)(B:H p=none)(C: -1000<=s/\s<=1000):∃a,upd H p (.dK []) d\.dK a/\⇑a<sizeLine/\(∀v,bD a (Sum.inl s)\v->∃e,v=↑e/\pU (upd H p (.dK [])) k W O c s e)/\
 (bD a (Sum.inl s)=none->pU (upd (upd H p (.dK [])) d (.dK (putK a (Sum.inl s) ↑p))) k W (HG O p) c s p):=by
 let⟨D,E,t,f,hd⟩:=h;let y:=aq.upd (o:=.dK []) B;let k1:=t.same y;let⟨a,u,w,F,m⟩:=k1.Ku hd;let nw:¬uI k D E p:=λz=>by let⟨G,q⟩:=t.there z;cbv
 rwa[⟨a,u,5,λv g=>?_,λg=>?_⟩]
 ·rwa[agU (vH (n:=2001) (lo:=-1000) w F m λi v g=>?_) ⋯]
  cases e:E c i with
  |none=>rw[e]at g;ext g
  |some x=>have:=f.e c i x e;ext
 ·rw[m]at g;let⟨e,r,rfl⟩:=ah1.mp g;rwa[e,2,D,E,k1,f,r]
 ·rw[m]at g;let r:E c s=none:=akc.mp g;rwa[⟨D,_,k1.OZ hd r u ah nw,⟨λb A=>?_,f.d,λl j x q=>?_,f.w⟩,ahf ⟨22⟩⟩]
  ·rcases A with z|z|⟨l,j,z⟩
   ·rwa[.inl (f.o b (.inl z))]
   ·rwa[.inl (f.o b (.inr (.inl z)))]
   ·dsimp only at z;by_cases e:l=c/\j=s
    ·rw[ahf e]at z;rwa[.inr (Za0 z).symm]
    ·rw[ahc e]at z;rwa[.inl (f.o b (.inr (.inr ⟨l,j,z⟩)))]
  ·by_cases e:l=c/\j=s
   ·rw[e.2];rwa[C]
   ·rw[ahc e]at q;rwa[f.e l j x q]
def pU.own (h:pU H k W O c s e):O e:=by
 let⟨D,E,f,a,b⟩:=h;rwa[a.o e (.inr (.inr ⟨c,s,b⟩))]
def pU.put (h:pU H k W O c s e){n:Int}(o:0<=n/\n<100000):∃a,H e\.dK a/\⇑a<sizeLine/\oK (upd H e (.dK (putK a (Sum.inl n) (.bl true)))) k (addW W c s n) O:=by
 let⟨D,E,g,b,f⟩:=h;let⟨a,j,l,r,m⟩:=g.RK f;rwa[⟨a,j,5,D,E,g.RL f j n,b.o,b.d,b.e,λx u t q=>?_⟩]
 ·rwa[agU (vH (n:=100000) (lo:=0) l r m λi v y=>?_) ⋯];by_cases w:W c s i=true
  ·have:=b.w _ _ _ w;ext
  cbv
 ·rcases dA.mp q with q|⟨_,_,q⟩
  ·rwa[b.w _ _ _ q]
  ·rw[q];rwa[o]
def oK.get (h:oK H k W O):∃o,gq H k (.int c) o/\((o=none/\∀s n,W c s n=false)\/∃d,o\↑d/\fI H k W O c d):=by
 let⟨D,E,a,b⟩:=h;let⟨j,i,m,r,f⟩:=a.RJ;let g:=gq.k (k:=Sum.inl c) i;rw[f]at g;erw[_,g]
 cases e:D c with
 |none=>
  rwa[.inl ⟨2,λs n=>?_⟩]
  cases w:W c s n with
  |false=>rfl
  |true=>
   let⟨x,l⟩:=a.se _ _ _ w;let⟨y,q⟩:=a.ed _ _ _ l
   cbv
 |some d=>exact .inr ⟨d,2,D,E,a,b,e⟩
theorem A2:∀{a:List (Key×V)},(a.map (·.1)).Nodup->(∀b∈a,∃n:Nat,b.1=Sum.inl (n:Int))->∃ns:Zh,a.map (λb=>kV b.1)=ao (nI ns)/\ns.Nodup/\∀n:Nat,n∈ns↔Sum.inl (n:Int)∈a.map (·.1)
 |[],_,_=>⟨[],2,aix,λn=>⟨(λz=>by ext z),(λz=>by ext z)⟩⟩
 |b::r,f,h=>by
  rw[ah3,ahs]at f;let⟨ns,i,l,j⟩:=A2 f.2 λx o=>h x (ahm _ o)
  let⟨m,g⟩:=h b (ag2 ..);rwa[⟨m::ns,5,ahs.mpr ⟨λz=>f.1 ([g]▸(j m).mp z),l⟩,λn=>?_⟩]
  ·rw[ah3,i,g];rfl
  cbv
def Ec {a:List (Key×V)}{v:V}(h:bD a (Sum.inl z)\v):Sum.inl z∈a.map (·.1):=ahO.mpr ⟨_,Kt h,2⟩
theorem fI.pop (h:fI H k W O c d)(s:Int):∃a,H d\.dK a/\(bD a (Sum.inl s)=none->∀n,W c s n=false)/\
 ∀v,bD a (Sum.inl s)\v->∃(e:Zs) (f:List (Key×V)) (ns:Zh),v=↑e/\e≠d/\H e\.dK f/\f.map (λt=>kV t.1)=ao (nI ns)/\ns.Nodup/\(∀n:Nat,n∈ns↔W c s n=true)/\oK (upd H d (.dK (fj a (Sum.inl s)))) k (gx W c s) O:=by
 let⟨D,E,m,j,hd⟩:=h;let⟨a,F,Q,S,y⟩:=m.Ku hd;rwa[⟨a,F,λu n=>?_,λv u=>?_⟩]
 ·rw[y]at u
  cases w:W c s n with
  |false=>rfl
  |true=>
   let⟨x,R⟩:=m.se _ _ _ w
   cbv
 ·rw[y]at u;let⟨e,C,rfl⟩:=ah1.mp u;let⟨f,J,B,L,M⟩:=m.RK C
  let r:∀i:Int,Sum.inl i∈f.map (·.1)↔W c s i=true:=λi=>by
   constructor
   ·intro z;let⟨t,g,e⟩:=ahO.mp z;have:=AW B g
    cbv
   ·intro w;rwa[Ec (v:=.bl true) (by rw[M,ahf w])]
  let⟨ns,N,P,G⟩:=A2 B λt g=>by
   let⟨i,A⟩:=L t g;have:=j.w _ _ _ ((r i).mp (by rw[<-A];rwa[ajn g]));rwa[i.toNat,by rw[A];congr 1;ext]
  rwa[⟨e,f,ns,2,λz=>m.de _ _ _ _ hd (by rw[<-z];rwa[C]),J,N,P,λn=>(G n).trans (r n),11,m.Kw hd F,⟨λb I=>j.o b ?_,j.d,λo l x q=>?_,λo l n q=>j.w _ _ _ (dk.mp q).1⟩⟩]
  ·rcases I with z|z|⟨o,l,z⟩
   ·rwa[.inl z]
   ·rwa[.inr (.inl z)]
   ·dsimp only at z;by_cases e:o=c/\l=s
    ·cbv
    ·rw[ahc e]at z;rwa[.inr (.inr ⟨o,l,z⟩)]
  ·by_cases e:o=c/\l=s
   ·rw[ahf e]at q;ext q
   ·rw[ahc e]at q;rwa[j.e _ _ _ q]
def HJ {P:Nat->Bool}{G:Nat}:∀{ns:Zh},ns.Nodup->(∀n∈ns,n<G/\P n=true)->⇑ns<=(List.range G).countP P:=by
 intro ns
 induction ns generalizing P with
 |nil=>exact λ_ _=>ahg _
 |cons m r j=>
  intro b h;rw[ahs]at b;let⟨f,g⟩:=h m (ag2 ..);have:=lP (p:=P) (p':=λa=>P a && decide (a≠m)) (v:=m) (λa=>rfl) g G;rw[ahf f]at this
  cbv
def xQ {W:bI}{c s:Int}(h:∀n,W c s n=false):gx W c s=W:=by
 funext a b n
 rw[ah6,dk]
 cbv
end
end L2
namespace L2
section
variable {S:RS}{R:Za2}
theorem A3 (g:Good S [] R):∀{w:Zg} {c d e:Nat},wk S.by c w=some e->wk S.by d w=some e->c=d
 |[],c,d,e,b,a=>by rw[Za0 b,Za0 a]
 |z::w,c,d,e,b,a=>by
  let⟨l,f,h⟩:=g9 b;let⟨m,j,i⟩:=g9 a;have:=A3 g h i;subst this;let n:=g.sy _ _ _ f;let k:=g.sy _ _ _ j
  cbv
def Kx (g:Good S [] R){p c d m:Nat}{word:Zg}{z:Int}(h:HC S p word)(t:word[m]?\z)(n:wk S.by p (word.take m)=some c)(l:wk S.by d (word.drop (m+ 1))=some p):S.by c z=some d:=by
 let J:=(agM.mp t).1;rcases h with h|⟨i,j,f,r,y,u,G,D,C,E,I,B,s⟩
 ·have:word=word.take m++(z::word.drop (m+ 1)):=by rw[<-drop_cons t,aiC]
  rw[this,oJ n]at h;let⟨e,H,A⟩:=g9 h;rw[H,A3 g A l]
 ·exfalso
  let a:m<=i:=by
   rcases aiA i m with q|q
   ·exfalso
    let e:word.take m=word.take i++(y::(word.take m).drop (i+ 1)):=by
     let o:(word.take m)[i]?\y:=by rw[List.getElem?_take,ahf q];rwa[D]
     rw[<-drop_cons o];have:word.take i=(word.take m).take i:=by rw[List.take_take,aji ∅]
     rw[this,aiC]
    rw[e,oJ E]at n;let⟨x,L,_⟩:=g9 n
    cbv
   ·rwa[q]
  let b:j<=m:=by
   rcases aiA m j with q|q
   ·exfalso
    let k:(word.drop (m+ 1))[j - (m+ 1)]?\u:=by rw[aj8,show m+ 1+ (j - (m+ 1))=j by ext];rwa[C]
    let e:word.drop (m+ 1)=(word.drop (m+ 1)).take (j - (m+ 1))++(u::word.drop (j+ 1)):=by
     have:word.drop (j+ 1)=(word.drop (m+ 1)).drop (j - (m+ 1)+ 1):=by rw[List.drop_drop];congr 1;ext
     rw[this,<-drop_cons k,aiC]
    rw[e]at l;let⟨x,_,v⟩:=AY l;let⟨M,F,w⟩:=g9 v;have:=A3 g w B;subst this;rw[g.sy _ _ _ F]at s;ext s
   ·rwa[q]
  ext
theorem FG {b:Nat->Int->Zi}:∀{w:Zg} {p q:Nat},UW (λp z q=>b p z\q) p w q->wk b p w\q
 |[],p,q,h=>by rw[show p=q from h];rfl
 |z::w,p,q,h=>by
  let⟨r,c,a⟩:=h;rw[hY c];rwa[FG a]
def R6 (g:Good S [] R){n k a i:Za3}(c:uJ n k S)(o:0<S.made)(u:∀w∈a,w∈n)(r:∀w∈i,w∈k):Wq (a++i) ⇑a S.made S.aw (λp z q=>S.by p z=some q):=by
 rwa[⟨λp z q h=>g.sy _ _ _ h,λp z q D B A=>by cbv,λe b start m C d z j s l v y x=>?_⟩];rwa[Kx g (p:=S.aw start) ?_ v (FG y) (FG x)];by_cases f:e<⇑a
 ·rw[agV f]at j;rwa[c.r b (u _ (agK j)) _ (g.lt l) (g.el _ l).2]
 ·rw[agW ∅]at j;let t:start=0:=s.resolve_left f;have:S.aw start=0:=by rw[t];have:=(g.el 0 o).1;ext
  rw[this];rwa[c.p b (r _ (agK j))]
end
end L2
namespace L2
open PySem PySem.Spec PyProof.Rows
theorem Ph {CX:lF}{base:Heap}{k:Nat}{name qual:Str}{params:Arguments}{body:Expr}{scope:Scope}{pm:Zt}{i:Zp}
 {A:Around} {f:Zq} {s:Zu} {H:Hp} {g:Args} {us:Zk} {vs:Zb} {Q:VK} {E:XK} {t:TE} (S:aS Z i scope) (T:⇑vs=⇑i) (p:cy (k+ 1) A) (j:ml P w K M base A f s H)
 (D:s.heap.get? a\PySem.W.kla_obj name qual params body scope [] pm c v) (l:s.heap.CodeRec ↑c qual) (z:bindArgs (PySem.W.kla_fn name qual params body scope [] pm ↑c v) g=pure (i.zip us)) (r:Vals vs us)
 (B:PE (cz CX P w K M base Z qual scope a ↑c A f s H E) body t) (C:t (start Z vs) H Q):codeAny (model P w) A (.call ↑a g) (CR CX f P w H s Q E) s:=by
 let lim:s.heap.NoLimit:=j.mod.nolimit.keeps λb o e=>(j.bs b o e).1
 let h:∀y∈i.zip us,scope.names.lookup y.1=some .local\/(scope.names.lookup y.1=some .cell/\((cellsFrom (↥s+ 1) scope.names []).lookup y.1).isSome=true):=λ⟨n,d⟩ R=>by
  rcases S.par n (List.of_mem_zip R).1 with q|q
  ·rwa[.inl q]
  ·rwa[.inr ⟨q,aj9 _ _ _ (.inl q)⟩]
 rwa[PySem.W.kla_callFunE p.depth D rfl S.co S.gen rfl l ?_];rw[z];rwa[agP (wpAny_newFunctionEnv_cells S.kind h λenv G m x=>?_)];subst G;rwa[⟨lim.keeps x.toInCall.keep,PySem.W.kla_codeExpr ?_⟩];let I:Inv (cz CX P w K M base Z qual scope a ↑c A f s H E) [] (start Z vs) H m:=yx S p.hd j T r x;rwa[ahN (B [] m (start Z vs) H Q I C) (λu N ζ=>?_) λe N F=>F];let⟨d,O,J,L,q⟩:=ζ
 rwa[d,O,J.os,J.bare,J.base,J.aO,L,q]
def df (b:Zs)(pos:Pos)(qual:Str)(H:Hp):Prop:=
 H b=some (.fE #[])\/∃(c:Zs) (a:Obj) (d:Zm) (t:Tok),H b\(.fE #[rawInt pos.line,rawInt pos.col,↑c])/\H c\.cR a (.own c)/\a.data=.fields d/\d[1]?\(.str qual t)
def df.keep {pos:Pos}{qual:Str}(h:df a pos qual H)(k:∀b u,H b\u->(∃j,u=.fE j)\/(∃o v,u=.cR o v)->I b\u):df a pos qual I:=by
 rcases h with h|⟨c,f,l,t,i,d,e,g⟩
 ·rwa[.inl (k _ _ h (.inl ⟨_,rfl⟩))]
 ·rwa[.inr ⟨c,f,l,t,k _ _ i (.inl ⟨_,rfl⟩),k _ _ d (.inr ⟨_,_,rfl⟩),e,g⟩]
def ki (c:Str->Zl)(base:Heap):Prop:=∃(b:Zs) (a:Obj),c "__builtins__"=some ↑b/\base.get? b\a/\(a.cls=.type "module"/\a.dict\builtinsNs/\a.data=.plain)/\b≠builtinsNs
section
variable {X:Cx}{pins:List (Zs×Obj)}{σ:St}{H:Hp}{s:Zu}
theorem R7 {params:Arguments}{body:Expr}{scope:Scope}{pos:Pos}(I:Inv X pins σ H s)(A:X.env.code=↑c)(hC:PySem.W.codeHdIn X.K c a=true)
 (Y:closureFor scope X.env=pure []) (V:defaultsOf params X.env=([],[])) (hT:df a pos (X.env.qual++"<lambda>") H)
 (hB:ki X.mg X.base)
 (h:∀(f g:Zs) (m:Obj) (D:Zm) (t:Tok) (pm j:Zt) (C:Hp) (s2:Zu),Inv X (pins++[(f,PySem.W.kla_obj "<lambda>" (X.env.qual++"<lambda>") params body scope [] pm g j)]) σ C s2->C g\.cR m (.own g)->m.data=.fields D->D[1]?\.str (X.env.qual++"<lambda>") t->
  df a pos (X.env.qual++"<lambda>") C->(∀b u,b≠a->H b\u->C b\u)->Q ↑f s2):
 X⁻¹ X.A (eval (.Lambda params body scope pos) X.env) Q E s:=by
 let⟨bm,ob,b1,b2,b3,b4⟩:=hB;rwa[PySem.W.kla_eval V ?_]
 let B:s.heap.Ns mainGlobals X.mg:=by
  let⟨o,es,ep,e,r⟩:=I.ok.mod.glob;rwa[o,es,ep,I.bk^e,r]
 let T:=PySem.W.codeHd_of_K I.dw hC;let R:s.heap.get? bm\ob:=I.bk^b2
 let hPH:∃ps,H a\(.fE ps):=by
  rcases hT with z|⟨M,_,_,_,z,_⟩
  ·rwa[⟨_,z⟩]
  ·rwa[⟨_,z⟩]
 let⟨U,O⟩:=hPH
 let neP:∀{b:Zs} {o:Obj},s.heap.get? b\o->o.cls≠.none->b≠a:=λ{b o} e hc z=>by
  have:=I.aO^O;rw[z,show s.heap.get? a=some { cls:=.none,data:=.fields U } from this]at e
  cbv
 let hbP:bm≠a:=neP R (by cbv)
 let hgP:mainGlobals≠a:=λz=>by
  let⟨o,es,ep,e,hd,_⟩:=B;have:=I.aO^O;rw[z,show s.heap.get? a=some { cls:=.none,data:=.fields U } from this]at e
  cbv
 let hbG:bm≠mainGlobals:=λz=>by
  let⟨o,es,ep,e,hd,_⟩:=B
  cbv
 let hB:s.heap.BuiltinsAt X.mg a:=⟨bm,ob,b1,b4,hbG,hbP,R,b3.1,b3.2.1,b3.2.2⟩
 let fin:∀{f:Zs} {C:Hp} {s2:Zu} {o:Obj},Inv X pins σ C s2->↥s<=f->s2.heap.get? f\o->C f=none->(∀v,o.data≠.cell v)->Inv X (pins++[(f,o)]) σ C s2:=λ{f C s2 o} J hf e n hd=>J.jq λp S=>by
  rcases agX.mp S with S|S
  ·rwa[J.pin p (agS _ S)]
  ·rw[agR.mp S];rwa[e,n,ah0 (ahh I.lt hf),I.E4 hf,hd]
 rcases hT with L|⟨M,m,D,t,L,N,x,w⟩
 ·let F:s.heap.get? a\(PySem.W.tabObj #[]):=I.aO^L;rwa[PySem.W.kla_makeFunction (mg:=X.mg) Y I.ok.glob B A T F trivial rfl hgP hB λg j h' tk hx G Z W Wr=>?_]
  let⟨c2,m,D,t,e2,P,x,w⟩:=W;ext e2;let lE:∀b u,H b\u->b≠g:=λb u e z=>absurd (I.aO b u e).lt ([z]▸Nat.not_lt.mpr G)
  let hcP:g≠a:=(lE a _ L).symm;let k1:∀b o,b≠a->s.heap.get? b\o->(h'.push (PySem.W.kla_obj "<lambda>" (X.env.qual++"<lambda>") params body scope [] ((X.mg "__name__").getD .none) g j)).get? b\o:=λb o y e=>agL _ (hx b o y e)
  let eP2:(upd (upd H a (.fE #[rawInt pos.line,rawInt pos.col,↑g])) g (.cR m (.own g))) a\(.fE #[rawInt pos.line,rawInt pos.col,↑g]):=by rw[ak hcP.symm,ah]
  let i:∀b u,b≠a->H b\u->(upd (upd H a (.fE #[rawInt pos.line,rawInt pos.col,↑g])) g (.cR m (.own g))) b\u:=λb u y e=>by rw[ak (lE b u e),ak y];rwa[e]
  let J:Inv X pins σ (upd (upd H a (.fE #[rawInt pos.line,rawInt pos.col,↑g])) g (.cR m (.own g))) { s with heap:=h'.push (PySem.W.kla_obj "<lambda>" (X.env.qual++"<lambda>") params body scope [] ((X.mg "__name__").getD .none) g j),toks:=tk }:=by
   rwa[I.un ⟨λb o e n _ _=>k1 b o (λz=>by cbv) e,λb o e n _ _=>⟨o.slots,k1 b o (λz=>by cbv) e⟩,λb o e n _=>?_,λb o e _=>?_,λb xs e=>i b _ (λz=>by cbv) e,λb o u e=>i b _ (λz=>by cbv) e,λb qs e=>?_⟩ λb u e=>?_]
   ·rw[ak (ahk (ahh (ag8 e) G)),ak (λz=>by cbv)];rwa[n]
   ·by_cases y:b=a
    ·subst y;rwa[_,agL _ Wr]
    ·rwa[o,k1 b o y e]
   ·by_cases y:b=a
    ·cbv
    ·rwa[#[],by rw[i b _ y e];simp]
   ·by_cases y:b=g
    ·subst y;rw[ah]at e;ext e;rwa[agL _ P,m,agL _ P]
    ·rw[ak y]at e;by_cases Wt:b=a
     ·subst Wt;rw[ah]at e;ext e;rwa[agL _ Wr]
     ·rw[ak Wt]at e;rwa[(I.aO b u e).fy (λd v hd q=>k1 d v ?_ q) (λd q=>?_) λd xs q=>?_]
      ·cbv
      ·rwa[i d _ (λz=>by cbv) q]
      ·rwa[i d _ (λz=>by cbv) q]
  let l:↥s<=h'.objs.size:=ag3 G (ajR Z);rwa[h _ g m D t _ j _ _ (fin J l (agZ _ rfl) ?_ λv z=>nomatch z) ah x w (.inr ⟨g,m,D,t,eP2,ah,x,w⟩) i];rw[ak (ah0 Z),ak (λz=>absurd (I.aO^L).lt (by rw[<-z];rwa[Nat.not_lt.mpr l]))];rwa[I.aO.fresh l]
 ·let F:s.heap.get? a\(PySem.W.tabObj #[rawInt pos.line,rawInt pos.col,↑M]):=I.aO^L;rwa[PySem.W.kla_makeFunctionHit (mg:=X.mg) (cv:=↑M) Y I.ok.glob B A T F (by simp[TriplesOk,rawInt]) (by simp[codeAmong,rawInt]) hB λj h' tk k l=>?_]
  let J:Inv X pins σ H { s with heap:=h'.push ("function">>>.func (PySem.W.kla_fn "<lambda>" (X.env.qual++"<lambda>") params body scope [] ((X.mg "__name__").getD .none) ↑M j)),toks:=tk }:=I.kept λb u e=>agL _ (k b u e)
  rwa[h _ M m D t _ j H _ (fin J l (agZ _ rfl) (I.aO.fresh l) λv z=>nomatch z) N x w (.inr ⟨M,m,D,t,L,N,x,w⟩) λb u _ e=>e]
structure Fp (X:Cx) (pq:List (Zs×Obj)) (H:Hp) (b:Zs):Prop where
 none:H b=none
 loc:b≠X.env.locals
 fs:b∉X.fs
 new:X.eB.heap.objs.size<=b
 cell:∀x c,X.env.cells.lookup x\c->c≠b
 pin:∀p∈X.pn++pq,p.1≠b
def vJ (I:Inv X o σ H s)(h:↥s<=b):Fp X o H b:=
 ⟨I.aO.fresh h,ah0 (ahh I.lt h),I.E4 h,ag3 I.sz h,λx c e z=>by
  let⟨v,d⟩:=I.cell x c e;rwa[absurd d.lt ([z]▸Nat.not_lt.mpr h)],λp a z=>absurd (ag8 (I.pin p a).1) ([z]▸Nat.not_lt.mpr h)⟩
def Inv.FH {a:List (Zs×Obj)}(I:Inv X (o++a) σ H s):Inv X o σ H s:=I.jq λp b=>I.pin p (agS _ (ahd _ b))
abbrev R8 (a:Zm) (c:Nat):Obj:={ cls:=.type "list",dict:=none,data:=.seq a c,slots:=#[] }
theorem HK {it l:Zs}{ys:Zb}{kf:Nat->Int}{R:Result->Zu->Prop}(hh:X.A.in1.handled=none)(hq:aD X.K H l ys)(lH:l≠it)(n1:a≠it)(D:Fp X o H it)(B:Fp X o H a)
 (turn:∀(i:Nat) (y:V) (f:Zt) (pr:List (Zs×Obj)) (s':Zu),ys[i]?\y->RelV y f->Inv X (o++pr) σ H s'->X⁻¹ X.A.in1 (call ↑b [f]) (λu s2=>∃t,u=.int (kf i) t/\Inv X (o++pr) σ H s2) (λ_ _=>False) s')
 (hR:∀f s',(ys=[]/\f=v\/∃(j:Nat) (y:V),ys[j]?\y/\RelV y f/\∀d,d<⇑ys->kf j<=kf d/\(d<j->kf j<kf d))->Inv X o σ H s'->R (.ok (.ret f)) s'):
 ∀(k i:Nat) (s:Zu) (old:Zm) (c:Nat),⇑ys - i=k->i<=⇑ys->Inv X o σ H s->s.heap.IsListIter it l i->s.heap.get? a\R8 old c->
 ((i=0/\old=#[])\/∃(j:Nat) (y:V) (vb:Zt) (T:Tok),j<i/\ys[j]?\y/\RelV y vb/\old=#[vb,.int (kf j) T]/\∀d,d<i->kf j<=kf d/\(d<j->kf j<kf d))->
 codeAny (model X.prog X.w) X.A (.builtin "min.loop" ⟨[↑it,↑b,↑a],[("default",v)]⟩) R s:=by
 let nm:(toString "min"++toString ".loop":String)="min.loop":=⋯
 let J:∀m:Zs,m≠it->m∉[it]:=λm r z=>r (agR.mp z)
 intro k
 induction k with
 |zero=>
  intro i s old c hk hi I hit r hold;let⟨C,hv,pl,hz⟩:=I.list hq;let Sb:=⇑hv;let W:=Walks.list (prog:=X.prog) (w:=X.w) (A:=X.A.in1) hh it l lH C.toArray;let ei:i=⇑C:=∅
  rwa[aj4 F.entry_min_loop ?_];rw[ajK ajq _];show wpAny _ X.A.in1 (seqItems? ↑a >>=_) _ _ s;rwa[agI (ajr r rfl ?_)];show wpAny _ X.A.in1 (tryCatch (pyNext ↑it) _ >>=_) _ _ s;rwa[agI (akk (W.done s _ _ ⟨by cbv,pl.isList⟩ λh' M kp=>?_))];let S:=kp a _ (J _ n1) r;let I2:Inv X o σ H { s with heap:=h',toks:=M }:=I.turned (λm n r e=>kp m n (J _ r) e) D.none D.loc (.inr D.new) D.cell D.pin;rcases hold with ⟨e0,rfl⟩|⟨j,y,vb,T,hj,hy,rb,rfl,q⟩
  ·let en:ys=[]:=aie (by omega);rwa[agI (akf ?_)];rwa[agP (hR v _ (.inl ⟨en,2⟩) I2)]
  ·show wpAny _ X.A.in1 (updateSeq a (λ_=>#[]) >>=_) _ _ _;rwa[agI (aje S rfl (agI (akg (agP ?_))))];rwa[hR _ _ (.inr ⟨j,y,hy,rb,λd Q=>q d ∅⟩) (I2.turned (t':=M) (λm n r e=>(ahx^ah5 r).trans e) B.none B.loc (.inr B.new) B.cell B.pin)]
 |succ k ih=>
  intro i s old c hk hi I hit r hold;let⟨C,hv,pl,hz⟩:=I.list hq;let Sb:=⇑hv;let lG:i<⇑C:=∅
  let W:=Walks.list (prog:=X.prog) (w:=X.w) (A:=X.A.in1) hh it l lH C.toArray;rwa[aj4 F.entry_min_loop ?_];rw[ajK ajq _];show wpAny _ X.A.in1 (seqItems? ↑a >>=_) _ _ s;rwa[agI (ajr r rfl ?_)];show wpAny _ X.A.in1 (tryCatch (pyNext ↑it) _ >>=_) _ _ s;rwa[agI (akk (W.item i s _ _ ∅ ⟨hit,pl.isList⟩ λf h' M hP HL kp=>?_))];let⟨⟨oI,hoI,GB,O⟩,Mz⟩:=HL;let S:=kp a _ (J _ n1) r;let I2:Inv X o σ H { s with heap:=h',toks:=M }:=I.turned (λm n r e=>kp m n (J _ r) e) D.none D.loc (.inr D.new) D.cell D.pin;let E:ys[i]?\(ys[i]'∅):=agJ ∅
  generalize ys[i]'∅=y at E;let⟨u,hu,ru⟩:=hv.get (i:=i) (x:=y) E;let Y:C[i]?\f:=by simpa using hP
  rw[hu]at Y;let euv:u=f:=Za0 Y;subst euv;let dI:∀z,oI.data≠.cell z:=λz e=>by rw[O]at e;ext e
  let J2:Inv X (o++[(it,oI),(a,R8 old c)]) σ H { s with heap:=h',toks:=M }:=I2.jq λp N=>by
   rcases agX.mp N with N|N
   ·rwa[I2.pin p (agS _ N)]
   ·rcases ag4.mp N with rfl|N
    ·rwa[⟨hoI,D.none,D.loc,D.fs,dI⟩]
    ·rw[agR.mp N];rwa[S,B.none,B.loc,B.fs,λz e=>nomatch e]
  show wpAny _ X.A.in1 (tryCatch (holding [u] (call ↑b [u])) _ >>=_) _ _ _;rwa[agI (akk (ahY (ahN (turn i y u _ _ E ru J2) (λx G he=>?_) λ_ _ hF=>hF.elim)))];let⟨U,rfl,J3⟩:=he;let pI:=(J3.pin (it,oI) (agS _ (agS _ (.head _)))).1;let Z:=(J3.pin (a,R8 old c) (agS _ (agS _ (.tail _ (.head _))))).1;let I3:=J3.FH;let YX:G.heap.IsListIter it l (i+ 1):=⟨oI,pI,GB,O⟩;let Wu:∀(g:Zm->Zm),(G.heap.update a (Obj.mapSeq g)).IsListIter it l (i+ 1):=λg=>⟨oI,(ahx^n1).trans pI,GB,O⟩
  let Wv:∀(g:Zm->Zm) (M:Nat),Inv X o σ H { G with heap:=G.heap.update a (Obj.mapSeq g),toks:=M }:=λg M=>I3.turned (λm n r e=>(ahx^ah5 r).trans e) B.none B.loc (.inr B.new) B.cell B.pin
  rcases hold with ⟨e0,rfl⟩|⟨j,y0,vb,T,hj,hy,rb,rfl,q⟩
  ·subst e0;show wpAny _ X.A.in1 (updateSeq a (λ_=>#[u,.int (kf 0) U]) >>=_) _ _ _;rwa[agI (aje Z rfl ?_)];rw[nm]
   exact agP ⟨ajm ajq _,ih 1 _ _ _ ∅ ∅ (Wv _ _) (Wu _) (ahv _ Z rfl) (.inr ⟨(0),y,u,U,3,E,ru,2,λd Q=>by
    let e:d=0:=∅
    subst e;rwa[Int.le_refl _,λz=>absurd z (ah2 _)]⟩)⟩
  ·show wpAny _ X.A.in1 (tryCatch (holding [u,.int (kf i) U] (richCompare .Lt (.int (kf i) U) (.int (kf j) T) >>=_)) _ >>=_) _ _ _;rwa[agI (akk (ahY (agI (CmpOf.ints_lt (prog:=X.prog) (w:=X.w) (A:=X.A.in1) (P:=λi f=>∃t,f=.int (kf i) t) kf (λi f h=>h) i j _ _ _ _ _ ⟨U,2⟩ ⟨T,2⟩ ?_))))];rwa[agI (ahY (aiM ?_))];rwa[agI (akg (agP ?_))];by_cases A4:kf i<kf j
   ·simp only[A4,decide_true,akp];rwa[agI (aje Z rfl (agI (akg ?_)))];rw[nm];rwa[agP ⟨ajm ajq _,ih (i+ 1) _ _ _ ∅ ∅ (Wv _ _) (Wu _) (ahv _ Z rfl) (.inr ⟨i,y,u,U,3,E,ru,2,λd Q=>?_⟩)⟩];by_cases e:d=i
    ·subst e;rwa[Int.le_refl _,λz=>absurd z (ah2 _)]
    ·let h1:=(q d ∅).1;rwa[3,λ_=>∅]
   ·simp only[A4,decide_false,ajv,ajH];rwa[agI (akg ?_)];rw[nm];rwa[agP ⟨ajm ajq _,ih (i+ 1) _ _ _ ∅ ∅ I3 YX Z (.inr ⟨j,y0,vb,T,3,hy,rb,2,λd Q=>?_⟩)⟩];by_cases e:d=i
    ·subst e;rwa[3,λ_=>∅]
    ·rwa[q d ∅]
def aD.fZ {H:Hp}{ys:Zb}{d:Zm}(h:aD K H a ys)(f:H b\.fE d)(k:∀c u,c≠b->H c\u->I c\u):aD K I a ys:=by
 rcases h with h|h
 ·rcases h with e|⟨o,e⟩
  ·rwa[.inl (.inl (k _ _ (λz=>by cbv) e))]
  ·rwa[.inl (.inr ⟨o,k _ _ (λz=>by cbv) e⟩)]
 ·rwa[.inr h]
def Ky (a f d:Zt):checkBuiltinCall "min" ⟨[a],[("key",f),("default",d)]⟩=pure ():=by kernel_rfl
def VD (K:Za1)(e:Zs)(f:Pos)(qual:Str)(h:TE)(g:TA):TE:=λ σ H Q=>g σ H λk d=>∃(l:Zs) (ys:Zb) (c:Nat->Int),k=[↑l]/\aD K d l ys/\df e f qual d/\
 ∀a,df e f qual a->(∀b u,b≠e->d b\u->a b\u)->(∀(i:Nat) (y:V),ys[i]?\y->h [some y] a λv m=>v=.int (c i)/\m=a)/\(ys=[]->Q .non a)/\
  ∀(i:Nat) (y:V),ys[i]?\y->(∀j,j<⇑ys->c i<=c j/\(j<i->c i<c j))->Q y a
theorem Pj {body:Expr}{te tb:TE}{n N G kq lp:Pos}{k:Nat}{params:Arguments}{scope:Scope}(hc:X.calm=true)(hg:Gl X "min")(hm:X.mg "min"=none)(he:PE X e te)
 (L:X.env.code=↑c) (hC:PySem.W.codeHdIn X.K c a=true) (A5:closureFor scope X.env=pure []) (U:defaultsOf params X.env=([],[]))
 (hB:ki X.mg X.base) (hr:cy (k+ 2) X.A) (S:aS [x] [x] scope)
 (T:∀(pm M:Zt) (w:Zs) (u:Zt),bindArgs (PySem.W.kla_fn "<lambda>" (X.env.qual++"<lambda>") params body scope [] pm ↑w M) ⟨[u],[]⟩=pure [(x,u)])
 (D:∀(A:Around) (C:Zq) (s:Zu) (H:Hp) (f w:Zs),cy k (A.deeper (envOfC (X.env.qual++"<lambda>") scope ↥s f ↑w))->PE (cz Wj X.prog X.w X.K X.mg X.base [x] (X.env.qual++"<lambda>") scope f ↑w A C s H E0) body tb)
 (hs:starEach [e] X.env=(false,eval e X.env)::starEach [] X.env:=by rfl)
 (oM:((backTo n (starEach [e] X.env)).any (·.1) || (backToKw n (keywordEach [⟨some "key",.Lambda params body scope lp,N⟩,⟨some "default",.Constant .none j kq,G⟩] X.env)).any (·.1.isNone))=false:=by rfl):
 PE X (.Call (.Name "min" p) [e] [⟨some "key",.Lambda params body scope lp,N⟩,⟨some "default",.Constant .none j kq,G⟩] n) (VD X.K a lp (X.env.qual++"<lambda>") tb (jM te j8)):=by
 intro pins s σ H Q I h;rwa[ahW (gZ I hg hm PyProof.Rows.boot_min ?_)];rwa[PySem.W.callWith_of (P:=λ_=>True) oM (λ_ _=>⟨.machine,.inr (.inl rfl),λ_ _ _ _ _ q=>agP q⟩) (evalArgs_kw2 rfl (a9 ((ae he ai hs) n pins s σ H _ I h) λus s1 ζ=>?_) hs)];let⟨vs,H1,I1,r,q⟩:=ζ;let⟨l,ys,kf,rfl,hq,hT,q⟩:=q;let⟨u,rfl,ru⟩:=vals1 r;ext ru;rwa[kwAll_cons (R7 I1 L hC A5 U hT hB λf w oc Z ct pm M H2 s2 I2 yF hvs W Hj m=>?_)];rwa[a9 ((DH dm GV:PK X [⟨some "default",.Constant .none j kq,G⟩] _) n _ s2 σ H2 (λzs B=>zs=[.non]/\B=H2) I2 ⟨22⟩) λws s3 ζ=>?_];let⟨zs,B,R,rz,O,e2⟩:=ζ;rwa[⟨True.intro,5⟩]
 subst O e2;let⟨u2,rfl,ru2⟩:=vals1 rz;ext ru2;let⟨q1,q2,q3⟩:=q B Hj m
 let V:aD X.K B l ys:=by
  rcases hT with z|⟨_,_,_,_,z,_⟩
  ·rwa[hq.fZ z m]
  ·rwa[hq.fZ z m]
 show wpAny _ _ (call (.builtin "min") [↑l] [("key",↑f),("default",.none)]) _ _ s3;let nm:(toString "min"++toString ".loop":String)="min.loop":=⋯
 rwa[ajG (aiH F.plain_min F.entry_min (wpAny_of_eq (Ky^_) ?_))];show wpAny _ X.A.in1 (Builtin.Builtins.bindParams "min" ["key","default"] 0 ⟨[],[("key",↑f),("default",.none)]⟩ >>=_) _ _ s3;rwa[agI (wpAny_of_eq (show Builtin.Builtins.bindParams "min" ["key","default"] 0 ⟨[],[("key",↑f),("default",.none)]⟩=pure #v[↑f,some .none] from rfl) ?_)];let⟨its,rv,pl,hz⟩:=R.list V;rwa[agI (agP (agI (ai8 pl.isList ?_)))];let⟨ol,Y,GB,Sd⟩:=id pl.isList;rwa[agI (ahI ?_)];let lG:=ag8 Y;let hsz:(s3.heap.push ("list_iterator">>>.fields #[↑l,.int 0 0])).objs.size=↥s3+ 1:=aiw ..;let kp4:∀(b:Zs) (o:Obj),s3.heap.get? b\o->((s3.heap.push ("list_iterator">>>.fields #[↑l,.int 0 0])).push ("list">>>.seq ([]:Zk).toArray)).get? b\o:=λb o d=>agL _ (agL _ d)
 let I4:=R.kept (t':=s3.toks) kp4;rw[nm];rwa[agP ⟨ajm ajq _,HK (X:=X) (σ:=σ) (H:=B) (ys:=ys) (kf:=kf) (it:=↥s3) (l:=l) (R.ok.hd hc) V (ahk lG) (by cbv) (vJ R (agQ _)) (vJ R (by cbv)) (λi y v pr s' hy rv' J=>?_) (λv s' hw J=>?_) _ 0 _ #[] 0 rfl (ahg _) I4 ⟨_,agL _ (agZ _ rfl),22⟩ (agZ _ rfl) (.inl ⟨22⟩)⟩]
 ·let hf:=(J.pin (f,_) (agS _ (ahd _ (agS _ (.head _))))).1;let hcr:s'.heap.CodeRec ↑w (X.env.qual++"<lambda>"):=⟨w,oc,Z,ct,2,(J.aO^yF).1,hvs,W⟩;rwa[ajG (ajj (Ph (CX:=Wj) (E:=E0) (k:=k) (vs:=[y]) (us:=[v]) S rfl hr.in1 J.Ac.in1 hf hcr (T pm M w v) (.cons rv' .nil) (D _ _ _ _ f w (hr.in1.deeper _)) (q1 i y hy)) λr s2 g=>?_)]
  cases r with
  |error d=>exact g.elim
  |ok fl=>
   cases fl with
   |next=>exact False.elim g
   |brk=>exact False.elim g
   |cont=>exact False.elim g
   |ret u=>
    let⟨v2,H4,J4,rv4,O,e2⟩:=J.after g;subst O e2;let⟨t,rfl⟩:=rv4;rwa[t,2,J4]
 ·rcases hw with ⟨O,rfl⟩|⟨i,y,hy,ry,hb⟩
  ·rwa[⟨.non,B,J.FH,rfl,q2 O⟩]
  ·rwa[⟨y,B,J.FH,ry,q3 i y hy hb⟩]
end
theorem HM {J:Str->Zl}{Z:lF}{k:Nat}{fd:FuncData}{X:Sp}{ns:Zg}
 (R:K.In s.heap) (p:s.heap.Ns mainGlobals M) (g:s.heap.Ns builtinsNs J) (B:∀x:Str,x≠"__name__"->J x=bootBuiltins x) (n:s.heap.NoLimit) (hg:s.gens=#[])
 (C:s.heap.get? b\("list">>>.seq N.toArray)) (U:IntsAre N ns) (hl:⇑ns<=sizeLine) (hr:cy k callerA)
 (Fn:∀base:Heap,K.In base->base.Ns mainGlobals M->ki M base->du P w K M base Z k a fd [x] X) (hB:ki M s.heap) (l:∀(s:Zu) (u:Zt),BindsTo s fd ⟨[u],[]⟩ [(x,u)])
 (D:s.heap.get? c\(PySem.W.tabObj #[])) (hKP:K.lookup c=none) (L:isCodeTable s.heap c)
 (F:∀H:Hp,H c\(.fE #[])->aD K H b (ns.map V.int)->X [↑b] H (λv _=>v=.bl true) λ_ _ _=>False)
 (E:∀H e i,Z [] H s (λ_ _ _=>False) e i->False):
 codeAny (model P w) callerA (.call ↑a ⟨[↑b],[]⟩) (λr i=>r=.ok (.ret (.bool true))/\OldK s.heap i.heap/\i.os=s.os/\AllBare i.gens) s:=by
 let rv:=yA U;let I:b≠c:=λz=>by cbv
 let main:∀H:Hp,H c\(.fE #[])->(∀f u,H f\u->K.lookup f=none/\(f=c\/f=b/\∃O,u=.cR ("list">>>.seq N.toArray) (.lst O)))->aD K H b (ns.map V.int)->dH P w H s.heap->
  codeAny (model P w) callerA (.call ↑a ⟨[↑b],[]⟩) (λr i=>r=.ok (.ret (.bool true))/\OldK s.heap i.heap/\i.os=s.os/\AllBare i.gens) s:=by
  intro H Y W h3 Q
  let nodict:∀{f:Zs} {o:Obj} {y:Array DictEntry} {A:Nat},s.heap.get? f\o->o.data=.dict y A->H f=none:=λ{f o y A} e d=>by
   cases q:H f with
   |none=>rfl
   |some u=>
    cbv
  let t:∀{f:Zs} {m:Str->Zl},s.heap.Ns f m->(pC s.heap H).Ns f m:=λ{f m} ⟨o,y,A,e,d,r⟩=>⟨o,y,A,uq e (nodict e d),d,r⟩
  let S:K.In (pC s.heap H):=λf o e=>uq (R f o e) (by
   cases q:H f with
   |none=>rfl
   |some u=>rw[(W f u q).1]at e;ext e)
  let md:Mod K M (pC s.heap H):=⟨S,t p,⟨J,t g,B⟩,let ⟨mc,z1,z2⟩:=n;⟨mc,t z1,z2⟩⟩;let e0:ml P w K M (pC s.heap H) callerA [] s H:=⟨2,md,λf o e=>N8 e,ajT (GA _ _),trivial,λf z=>absurd (show f∈([]:Zn) from z) (by simp),Q,.of_eq hg⟩
  let bb:ki M (pC s.heap H):=by
   let⟨T,ob,b1,b2,b3,b4⟩:=hB;rwa[⟨T,ob,b1,uq b2 ?_,b3,b4⟩]
   cases q:H T with
   |none=>rfl
   |some u=>
    cbv
  rwa[ajj ((Fn _ S (t p) bb).run callerA [] s H ⟨[↑b],[]⟩ [↑b] [↑b] _ _ hr e0 (l s ↑b) (.cons rfl .nil) (F H Y h3)) λr i h=>?_]
  cases r with
  |error e=>exact(E H e i h).elim
  |ok fl=>
   cases fl with
   |next=>exact False.elim h
   |brk=>exact False.elim h
   |cont=>exact False.elim h
   |ret u=>
    let⟨v,H',os,bare,un,j,r',q⟩:=h;let q':v=.bl true:=q;subst q';obtain rfl:u=Value.bool true:=r'
    let each:∀f o,s.heap.get? f\o->asItWas s.heap i.heap f o/\∃o',i.heap.get? f\o':=λf o e=>by
     cases q:H f with
     |none=>
      let z:=un.keep f o e q (by intro z;rwa[absurd (show f∈([]:Zn) from z) (by simp)]) (by simp);rwa[.inl z,o,z]
     |some u=>
      rcases (W f u q).2 with rfl|⟨rfl,O,rfl⟩
      ·rw[D]at e;ext e;let⟨more,z⟩:=un.iu^Y;let z2:i.heap.get? f\{ cls:=.none,data:=.fields (#[]++more) }:=j^z;rwa[.inr (.inl ⟨L,2,#[],more,2,z2⟩),_,z2]
      ·let⟨z1,_⟩:=Q^q;let⟨z2,_⟩:=j^un.gN _ _ _ q;rw[e]at z1;ext z1;rwa[.inl z2,_,z2]
    rwa[2,⟨λf o e=>(each f o e).1,λf o e=>(each f o e).2⟩,os,bare]
 cases G:K.lookup b with
 |some o=>
  let e:=R b o G;rw[C]at e;ext e;rwa[main (upd (λ_=>none) c (.fE #[])) ah (λf u z=>?_) (.inr ⟨_,N.toArray,_,G,222,[ag6,⇑U]▸hl,3⟩) λf u z=>?_]
  ·by_cases g:f=c
   ·cbv
   ·rw[ak g]at z;ext z
  ·by_cases g:f=c
   ·subst g;rw[ah]at z;ext z;rwa[D]
   ·rw[ak g]at z;ext z
 |none=>
  rwa[main (upd (upd (λ_=>none) c (.fE #[])) b (.cR ("list">>>.seq N.toArray) (.lst (ns.map V.int)))) (by rw[ak I.symm,ah]) (λf u z=>?_) (.inl (.inr ⟨_,ah⟩)) λf u z=>?_]
  ·by_cases g:f=b
   ·subst g;rw[ah]at z;ext z;rwa[G,.inr ⟨212⟩]
   ·rw[ak g]at z;by_cases g:f=c
    ·cbv
    ·rw[ak g]at z;ext z
  ·by_cases g:f=b
   ·subst g;rw[ah]at z;ext z;rwa[C,[agO]▸hl,N,_,rv,C]
   ·rw[ak g]at z;by_cases g:f=c
    ·subst g;rw[ah]at z;ext z;rwa[D]
    ·rw[ak g]at z;ext z
theorem qW.okT {mg:Str->Zl}{base:Heap}{j:lF}{qual:Str}{st:Stmt}{fd:FuncData}{g:Zp}{k:Nat}{sp:Sp}(F:qW K x qual st a fd)(hc:fd.code=↑c)(S:aS Z g (aB st))(len:∀d H Q E,sp d H Q E->⇑d=⇑g)
 (b:∀(A:Around) (outer:Zq) (s:Zu) (H:Hp) (d:Zb) (Q:VK) (E:XK),cy k (A.deeper (envOfC qual (aB st) ↥s a ↑c))->sp d H Q E->
  ∃t,iS (cz j P w K mg base Z qual (aB st) a ↑c A outer s H E).tU (cE st) t/\t { nx:=λ_ n=>Q .non n,rt:=Q } (start Z d) H):du P w K mg base j (k+ 1) a fd g sp:=by
 let⟨q,r,kV,doc,pm,u,h,ct,p,rfl,lk,i⟩:=F.ex;let e:h=↑c:=hc;subst e;rwa[zO lk i S len λA outer s H d Q E m f=>?_]
 let⟨t,o,l⟩:=b A outer s H d Q E m f;rwa[t,o.tU,l]
structure LamAt (K:Za1) (fd:FuncData) (c Pt:Zs):Prop where
 code:fd.code=↑c
 hd:PySem.W.codeHdIn K c Pt=true
 no:K.lookup Pt=none
theorem Kz {l:PySem.W.OpenLaw}{k:Nat}{loose:Zp}{XP:(Str->Zl)->Heap->Prop}{B:World->Heap->Prop}{d:DefRec}{K:Params->Za1}{CX:World->lF}{sp:World->Sp}
 (W:l.most\n) (A:n<=sizeLine) (m:d.params.defaults=[]) (hr:cy k callerA) (R:∀(w:World) (h:Heap),B w h->(K w.params).In h/\h.get? a\(PySem.W.tabObj #[]))
 (F:∀(w:World) (g:Str->Zl) (j:Zs) (h:Heap),(K w.params).In h->h.Ns mainGlobals g->g d.name\↑j->
  ∃fd:FuncData,(∃fd2 c,LamAt (K w.params) fd2 c a)/\(∀(s:Zu) (u:Zt),BindsTo s fd ⟨[u],[]⟩ [(x,u)])/\∀base:Heap,(K w.params).In base->base.Ns mainGlobals g->ki g base->du l.prog w (K w.params) g base (CX w) k j fd [x] (sp w))
 (r:∀(w:World) (H:Hp) (b:Zs) (ns:Zg),⇑ns<=n->H a\(.fE #[])->aD (K w.params) H b (ns.map V.int)->sp w [↑b] H (λv _=>v=.bl true) λ_ _ _=>False)
 (p:∀(w:World) (H:Hp) (s:Zu) (e:Zt) (z:Zu),CX w [] H s (λ_ _ _=>False) e z->False):
 PySem.W.WalkO P loose XP B l.row.toRowW d [] (λf E=>PySem.call f E):=by
 rwa[Att.C0 W m λw C s g mb j o pm cd doc b E ns G Y ho hd hcd y i hints hlen hg=>?_]
 let⟨q,I⟩:=R w _ Y;let⟨fd,⟨fd2,c,D⟩,Q,U⟩:=F w g j _ q G.T.g y;let⟨J,t,_,_,_,_,_,_,_,Z,T,M,g4,_⟩:=PySem.W.codeHd_of_K q D.hd;let hB:ki g s.heap:=let ⟨S,ob,a1,a2,L,N,O,a6⟩:=G.T.bmain;⟨S,ob,a1,L,⟨N,O,a6⟩,a2⟩
 rwa[HM q G.T.g G.T.b G.T.builtins G.T.nolimit hg i hints (ag3 hlen A) hr U hB Q I D.no ⟨c,J,t,Z,T,M,g4⟩ (λH hO X=>r w H b ns hlen hO X) λH e z=>p w H s e z]
namespace Lr
def Se:typeLookup (.type "list_reverseiterator") "__len__"=pure none:=by kernel_rfl
def Pk:typeLookup (.type "list_reverseiterator") "__length_hint__"=pure (some (.builtin "list_reverseiterator.__length_hint__")):=by kernel_rfl
section
variable {prog:Program}{w:World}{A:Around}{E:Zt->Zu->Prop}{s:Zu}{it l:Zs}{items:Zm}
def hint {Q:Bool->Zu->Prop}(hm:s.heap.IsRevIter it l z)(h:Q false s):(prog<|>w) A (Builtin.List.listLengthHint ↑it) Q E s:=by
 rwa[agI (wpAny_specialOf hm.typeIs Se ?_)];rwa[agI (wpAny_specialOf hm.typeIs Pk ?_)];generalize c:("list_reverseiterator.__length_hint__":String)=d
 wp_delta
 subst c;rwa[agI (wpAny_isInstance (T:="list_reverseiterator") (b:=true) hm.typeIs (by kernel_rfl) ?_)];rwa[aj5 (λa=>absurd a ⋯) (λ_=>?_)];rwa[aj5 (λ_=>?_) (λa=>absurd ⋯ a)];rwa[agP h]
theorem extend {R:Result->Zu->Prop}(u:A.handled=none)(hit:s.heap.IsRevIter it l ((items.size:Int) - 1))(D:s.heap.IsList l items)(p:l≠it)(hlen:items.size<=sizeLine)(S:Zs)(n:S≠it)(C:S≠l)(res:Zt)(j:Nat)(t:s.heap.get? S\("list">>>.seq #[] j))
 (r:∀g1 z a d,(∀b o,b≠S->b≠it->s.heap.get? b\o->g1.get? b\o)->g1.get? S\{ cls:=.type "list",dict:=none,data:=.seq a d,slots:=#[] }->
  ItemsOf (λi v=>items[items.size - 1 - i]?\v) a items.size->R (.ok (.ret res)) { s with heap:=g1,toks:=z }):
 (prog<|>w) A.in1 (Builtin.List.listExtendWith ↑S ↑it res)
  (λfin c=>match fin with|.done f=>R (.ok f) c|.again d=>d.quiet=true/\codeAny (model prog w) A d R c) (λe c=>R (.error e) c) s:=by
 rwa[agI (ajk (T:="list_reverseiterator") hit.typeIs ?_)];let y:Builtin.List.listSameRef ↑S ↑it=false:=by simp[Builtin.List.listSameRef,n]
 let x:(Value.type "list_reverseiterator"==Value.type "list")=false:=⋯
 let G:(Value.type "list_reverseiterator"==Value.type "tuple")=false:=⋯
 simp only[y,x,G,Bool.or_false,ajv,ajH];rwa[agI (wpAny_pyIter_revIter hit ?_)];rwa[agI (ahY (hint hit ?_))];let W:=(Walks.listRev (prog:=prog) (w:=w) (A:=A.in1) u it l p items).toS
 let m:S∉[it,l]:=λH=>by
  cbv
 rwa[agP ⟨ajm F.plain_extend_loop _,5⟩];rwa[codeAny_extend_loopS W hlen S m res items.size 0 _ #[] _ rfl (ahg _) ⟨ahg _,by simpa using hit,D⟩ t (ItemsOf.nil _) λc a d h k g=>?_]
 rw[Moved.eq_with h];rwa[r c.heap c.toks a d (λb o I B e=>h.heap b o (λq=>?_) e) k g]
 cbv
def init {R:Result->Zu->Prop}(y:A.handled=none)(hit:s.heap.IsRevIter it l ((items.size:Int) - 1))(B:s.heap.IsList l items)(t:l≠it)(hlen:items.size<=sizeLine)(S:Zs)(j:S≠it)(h:S≠l)(n:s.heap.get? S\("list">>>.seq #[]))
 (u:∀g1 q a d,(∀b o,b≠S->b≠it->s.heap.get? b\o->g1.get? b\o)->g1.get? S\{ cls:=.type "list",dict:=none,data:=.seq a d,slots:=#[] }->
  ItemsOf (λi v=>items[items.size - 1 - i]?\v) a items.size->R (.ok (.ret .none)) { s with heap:=g1,toks:=q }):
 (prog<|>w) A.in1 (Builtin.«list.__init__» ⟨[↑S,↑it],[]⟩)
  (λfin m=>match fin with|.done f=>R (.ok f) m|.again d=>d.quiet=true/\codeAny (model prog w) A d R m) (λe m=>R (.error e) m) s:=by
 show wpAny _ _ (do let old <-Builtin.List.listItems ↑S;Builtin.List.listUpdate ↑S (λ_=>#[]);letGo old.toList.reverse;Builtin.List.listExtendWith ↑S ↑it .none) _ _ s;rwa[agI ?_];unfold Builtin.List.listItems;rwa[agI (ajr n rfl (agP ?_))];show wpAny _ _ (updateSeq S (λ_=>#[]) >>=λ_=>letGo (#[]:Zm).toList.reverse >>=λ_=>Builtin.List.listExtendWith ↑S ↑it .none) _ _ s;rwa[agI (aje n rfl ?_)];let x:=ahv (Obj.mapSeq (λ_=>(#[]:Zm))) n rfl;let c:∀b o,b≠S->s.heap.get? b\o->(s.heap.update S (Obj.mapSeq (λ_=>(#[]:Zm)))).get? b\o:=λb o k e=>(ahx^ah5 k).trans e
 rwa[extend (s:={ s with heap:=s.heap.update S (Obj.mapSeq (λ_=>(#[]:Zm))) }) y (hit.at λo e=>c _ o j.symm e) (B.at λo e=>c _ o h.symm e) t hlen S j h .none _ x λg1 q a d z p g=>?_]
 rwa[u g1 q a d (λb o k r e=>z b o k r (c b o k e)) p g]
theorem call (x:A.handled=none)(hit:s.heap.IsRevIter it l ((items.size:Int) - 1))(t:s.heap.IsList l items)(p:l≠it)(hlen:items.size<=sizeLine)
 (z:∀g1 m a k,(∀b o,b≠it->s.heap.get? b\o->g1.get? b\o)->g1.get? ↥s\{ cls:=.type "list",dict:=none,data:=.seq a k,slots:=#[] }->ItemsOf (λi v=>items[items.size - 1 - i]?\v) a items.size->Q ↑↥s { s with heap:=g1,toks:=m }):
 (prog<|>w) A (PySem.call (.type "list") [↑it]) Q E s:=by
 rwa[callType_codes (Q₁:=λobj c=>obj=↑↥s/\c={ s with heap:=s.heap.push ("list">>>.seq #[]) }) F.called_list (F.typeCall_list_1 _) F.entry_list_init (code_list_new _ ⟨22⟩) λobj c f=>?_]
 let⟨rfl,rfl⟩:=f;let q:(s.heap.push ("list">>>.seq #[])).get? ↥s\("list">>>.seq #[]):=agZ _ rfl;let n:it<↥s:=let ⟨o,h,_⟩:=hit;ag8 h
 let j:l<↥s:=let ⟨o,h,_⟩:=t;ag8 h
 rwa[⟨⟨_,q,2⟩,F.args_list_init_2 _ _,init (A:=A.in1) (s:={ s with heap:=s.heap.push ("list">>>.seq #[]) }) x (hit.at λo e=>agL _ e) (t.at λo e=>agL _ e) p hlen _ (ah0 n) (ah0 j) q λg1 m a k y g d=>?_⟩];rwa[2,z g1 m a k (λb o u e=>y b o (ahk (ag8 e)) u (agL _ e)) g d]
end
end Lr
section
variable {X:Cx}{a e:Expr}{ta:TA}{p p2 pos Ax:Pos}
def KC (K:Za1)(ta:TA):TE:=λ d H Q=>ta d H λc b=>∃(l:Zs) (ys:Zb),c=[↑l]/\aD K b l ys/\∀D,b D=none->Q ↑D (upd b D (.lst ys.reverse))
def KD {ys:Zb}{acc:Zm}(d:Vals ys N)(h:ItemsOf (λi v=>N.toArray[N.toArray.size - 1 - i]?\v) acc N.toArray.size):acc.toList=N.reverse:=by
 let b:acc.size=⇑N:=by simpa using h.1
 rwa[aja λi=>?_]
 by_cases f:i<⇑N
 ·let e:acc[i]?\(acc[i]'∅):=Array.getElem?_eq_getElem ∅
  let c:=h.2 i _ e
  cbv
 cbv
theorem rK:∀{ys:Zb} {b:Zk},Vals ys b->Vals ys.reverse b.reverse
 |_,_,.nil=>.nil
 |_,_,.cons r t=>[List.reverse_cons,List.reverse_cons]▸(rK t).append (.cons r .nil)
def FI (J:X.calm=true)(O:Gl X "list")(M:X.mg "list"=none)(hg:Gl X "reversed")(C:X.mg "reversed"=none)(V:PA X [a] ta)(Z:starEach [a] X.env=[(false,eval a X.env)]:=by rfl)
 (F:starEach [.Call (.Name "reversed" p) [a] [] pos] X.env=[(false,eval (.Call (.Name "reversed" p) [a] [] pos) X.env)]:=by rfl):PE X (.Call (.Name "list" p2) [.Call (.Name "reversed" p) [a] [] pos] [] Ax) (KC X.K ta):=by
 intro i s R H Q I h;rwa[ahW (gZ I O M boot_list ?_)];rwa[ahM ?_ F rfl];rwa[ahL ?_];rwa[Call_ (gZ I hg C boot_reversed (ahM (a9 (V pos i s R H _ I h) λus s1 ζ=>?_) Z rfl))];let⟨vs,A,t,r1,q1⟩:=ζ;let⟨l,ys,e,W,q⟩:=q1;subst e;let⟨u,rfl,ru⟩:=vals1 r1;ext ru;let⟨f,L,pl,hz⟩:=t.list W;let hl:=⇑L;let w:∀b o,s1.heap.get? b\o->(s1.heap.push (revObj l ((f.toArray.size:Int) - 1))).get? b\o:=λb o e=>agL _ e
 let E:l<↥s1:=let ⟨o,Y,_⟩:=pl.isList;ag8 Y
 let r:=vJ t (agQ ↥s1);rwa[call_reversed_list pl.isList (aij ?_)];let I2:Inv X i R A { s1 with heap:=s1.heap.push (revObj l ((f.toArray.size:Int) - 1)) }:=t.kept (t':=s1.toks) w;rwa[Lr.call (s:={ s1 with heap:=s1.heap.push (revObj l ((f.toArray.size:Int) - 1)) }) (I.ok.hd J) ⟨_,agZ _ rfl,22⟩ (pl.isList.at λo e=>w^e) (ahk E) (by rw[ag6];omega) λG B acc c hk S k=>?_]
 let x:=KD L k;let P:Inv X i R A { s1 with heap:=G,toks:=B }:=I2.turned (t':=B) (λb o j e=>hk b o j e) r.none r.loc (.inr r.new) r.cell r.pin;let N:(s1.heap.push (revObj l ((f.toArray.size:Int) - 1))).objs.size=↥s1+ 1:=aiw ..;generalize hD:(s1.heap.push (revObj l ((f.toArray.size:Int) - 1))).objs.size=D at S N ⊢;let g:A D=none:=t.aO.fresh ∅;let y:=vJ t (b:=D) ∅;let nD:∀{b:Zs},b∉[D]->b≠D:=λj z=>j (by simp[z])
 refine⟨↑D,upd A D (.lst ys.reverse),Inv.step (s:={ s1 with heap:=G,toks:=B }) P (h':=G) (t':=B) (g':=s1.gens) (d':=s1.drawn) (ch:=[D]) (λb j=>[agR.mp j]▸⟨.inr y.new,y.loc,y.cell,y.pin⟩) (λb o _ _ _ e _=>e) (λb o _ _ _ e _=>⟨o.slots,e⟩) (λb o J _ n=>[ak (nD J)]▸n) (λb o _ e=>⟨o,e⟩)
  (λb U e=>[ak (ax e g)]▸e) (λb o u e=>[ak (ax e g)]▸e) (λb ps e=>⟨#[],by rw[ak (ax e g),e];simp⟩) (λm C=>C) (λb u e=>?_) P.bare,2,q D g⟩
 ·by_cases j:b=D
  ·subst j;rw[ah]at e;ext e;erw[[List.length_reverse]▸hz,f.reverse,c,rK L];rw[<-x,Array.toArray_toList];rwa[S]
  ·rw[ak j]at e;rwa[(P.aO b u e).fy (λd v _ q=>q) (λd q=>[ak (ax q g)]▸q) λd U q=>[ak (ax q g)]▸q]
def A6 (d c:TE):TE:=λ b H Q=>d b H Q\/c b H Q
def vK {f d:TE}(i:PE X e f)(g:PE X e d):PE X e (A6 f d):=λb s c H Q I h=>h.elim (i b s c H Q I) (g b s c H Q I)
def Sf (C:Zs):TE:=λ_ H Q=>∀x d,H x=none->H d=none->d≠x->Q ↑x (upd (upd H d (.own x)) x (.ins C d []))
theorem uK (d:PySem.W.makesIn X.K b=true)(l:PySem.W.findIn X.K ↑b "__init__"=some (some (.builtin "object.__init__")))(kp:PySem.W.keepIn X.K ↑b=true)(q:Gl X x)(i:X.mg x\↑b)
 (f:(x==("__debug__":Str))=false:=by decide):PE X (.Call (.Name x p) [] [] pos) (Sf b):=by
 intro g s r H Q I h;rwa[ahW (j7 I q i ?_ f)];rwa[PySem.W.callWith_K0 I.dw kp (ajG ?_)];let m:=Inv.made (C:=b) I;let j:=h (↥s+ 1) ↥s (I.aO.fresh (aiZ _)) (I.aO.fresh (agQ _)) (ahk (aic _));let Y:=PySem.W.makes_of (M:=model X.prog X.w) I.dw d;rwa[GQ I.dw d l (λself=>PySem.W.Looks.of_pure (PySem.W.oi_bind self)) ?_]
 let k:((s.heap.push PySem.W.emptyDict).push (PySem.W.instObj b ↥s)).get? (↥s+ 1)\(PySem.W.instObj b ↥s):=by
  have:=agZ (s.heap.push PySem.W.emptyDict) (o:=PySem.W.instObj b ↥s) rfl
  rwa [aiw]at this
 let t1:PySem.W.Looks (model X.prog X.w) ((s.heap.push PySem.W.emptyDict).push (PySem.W.instObj b ↥s)) (typeOf ↑(↥s+ 1)) ↑b:=(PySem.W.Looks.ld k).andThen .now;let n:PySem.W.Looks (model X.prog X.w) ((s.heap.push PySem.W.emptyDict).push (PySem.W.instObj b ↥s)) (isInstance ↑(↥s+ 1) (.type "object")) true:=t1.andThen (Y.top.keeps λc o e=>agL _ (agL _ e));rwa[aiH PySem.W.oi_plain PySem.W.entry_oi (@PySem.W.check_slot (model X.prog X.w) _ _ _ "object.__init__" "object" "__init__" ↑(↥s+ 1) [] [] _ PySem.W.oi_kind PySem.W.oi_split n (PySem.W.oi_args ↑(↥s+ 1)) ?_)];rwa[agP (And.intro rfl ⟨↑(↥s+ 1),_,m,rfl,j⟩)]
inductive VF (K:Za1) (xs:Zb) (H:Hp) (Q:VK):Prop
 |mk (x:V) (D:Zs) (t:Zt) (b:Bool):xs=[x,↑D]->jL K H x t->PySem.W.kitOne K t ↑D\b->Q (.bl b) H->VF K xs H Q
end
end L2
namespace L2
noncomputable def nm (E:Zh)(c:Nat):Nat:=E.getD c 0
def qz (R:Za2)(E:Zh)(a:Nat)(z:Int)(b:Nat):Prop:=∃c d,R c z d/\nm E c=a/\nm E d=b
noncomputable def vL (x y a:Nat):Nat:=if a=y then x else a
def vM (h:n<m)(E:Zh)(c:Nat):nm (E.map (vL n m)) c=vL n m (nm E c):=by
 unfold nm;rw[agT,agT,ag0]
 cases E[c]? with
 |some x=>rfl
 |none=>show 0=vL n m 0;unfold vL;rw[ahc ∅]
def Sg (u v:Nat)(W:Za2)(a:Nat)(z:Int)(b:Nat):Prop:=∃c d,W c z d/\vL u v c=a/\vL u v d=b
inductive One (ws:Za3) (nr:Nat):Zh->(Za2)->Dt->Zh->(Za2)->Prop
 |meet {E:Zh} {W:Za2} {c u v:Nat} {z:Int}:u<v->E[u]?\u->E[v]?\v->W c z u->W c z v->One ws nr E W (hX c z u v) (E.map (vL u v)) (Sg u v W)
 |rule {E:Zh} {W:Za2} {which k c d:Nat} {word:Zg} {p:Zh} {z:Int}:ws[which]?\word->⇑p=⇑word+ 1->p[0]?=p[⇑word]?->(which<nr\/p[0]?\0)->(∀x∈p,E[x]?\x)->word[k]?\z->p[k]?\c->p[k+ 1]?\d->
  (∀(i a b:Nat) (y:Int),i≠k->word[i]?\y->p[i]?\a->p[i+ 1]?\b->W a y b)->One ws nr E W (lZ which p k) E (fQ W c z d)
inductive Go (ws:Za3) (nr:Nat):Zh->(Za2)->List Dt->Zh->(Za2)->Prop
 |nil {E:Zh} {W W':Za2}:(∀a z b,W a z b↔W' a z b)->Go ws nr E W [] E W'
 |cons {E E1 E2:Zh} {W W1 W2:Za2} {row:Dt} {ms:List Dt}:One ws nr E W row E1 W1->Go ws nr E1 W1 ms E2 W2->Go ws nr E W (row::ms) E2 W2
section
variable {ws:Za3}{nr:Nat}{E E1 E2:Zh}{W W' W1 W2:Za2}{ms ns:List Dt}
def Go.congr (h:Go ws nr E W ms E1 W1):∀{W':Za2},(∀a z b,W' a z b↔W a z b)->Go ws nr E W' ms E1 W1:=by
 induction h with
 |nil e=>exact λh=>.nil λa z b=>(h a z b).trans (e a z b)
 |cons o _ m=>
  intro W' h
  cases o with
  |meet k j l f c=>exact .cons (.meet k j l ((h^_).mpr f) ((h^_).mpr c)) (m λa z b=>by
   constructor
   ·rintro ⟨g,d,q,r⟩;rwa[g,d,(h^_).mp q,r]
   ·rintro ⟨g,d,q,r⟩;rwa[g,d,(h^_).mpr q,r])
  |rule k j l f c w t u p=>exact .cons (.rule k j l f c w t u λi a b y x n v s=>(h^_).mpr (p i a b y x n v s)) (m λa z b=>by
   unfold fQ;rw[h])
def Go.app (h:Go ws nr E W ms E1 W1):∀{E2:Zh} {W2:Za2} {ns:List Dt},Go ws nr E1 W1 ns E2 W2->Go ws nr E W (ms++ns) E2 W2:=by
 induction h with
 |nil e=>exact λg=>g.congr e
 |cons o _ a=>exact λg=>.cons o (a g)
end
def Pl (h:n<m)(a:Nat)(z:Int)(b:Nat):Sg n m (qz R B) a z b↔qz R (B.map (vL n m)) a z b:=by
 constructor
 ·rintro ⟨g,i,⟨c,d,r,rfl,rfl⟩,e,f⟩;rwa[c,d,r,by rw[vM h,e],by rw[vM h,f]]
 ·rintro ⟨c,d,r,e,f⟩;rwa[11,⟨c,d,r,22⟩,by rw[<-vM h,e],by rw[<-vM h,f]]
section
variable {ws:Za3}{nr:Nat}{S S':RS}{pend:Ze}{R:Za2}{ks:Zg}
def pV {S:RS}(wf:S.Wf){c:Nat}(a:c<S.made):S.aU[c]?\(S.aw c):=by
 unfold RS.aw;rw[agT,agJ ([wf.e]▸a)];rfl
def Sh (l:kh S pend S'):Good S pend R->(∀c z d,R c z d->z∈ks)->∃f,S'.rows=S.rows++f/\Go ws nr S.aU (qz R S.aU) f S'.aU (qz R S'.aU):=by
 induction l with
 |nil S=>exact λ_ _=>⟨[],(ahl _).symm,.nil λ_ _ _=>Iff.rfl⟩
 | @take S S' pend w _ G=>
   intro g u;let⟨g1,_,r,_,q⟩:=g.take u;let⟨f,A,k⟩:=G g1 u;rcases q with ⟨_,h,F⟩|⟨_,c,z,x,y,v,m,E,C,j,h,_,D⟩
   ·rw[t9 F]at k;rwa[f,by rw[A,h],k]
   ·let⟨_,n,_,ex⟩:=g.st _ _ _ v;let e:min x y<max x y:=by rcases Nat.lt_or_gt_of_ne j with q|q <;> ext
    let B:(S.takeIn pend w).1.aU=S.aU.map (vL (min x y) (max x y)):=by
     rwa[aja λi=>?_]
     rw[ag0];by_cases t:i<S.made
     ·rw[pV g1.wf ([r]▸t),pV g.wf t,D];rfl
     ·rw[ahz (by rw[g1.wf.e,r];omega),ahz (by rw[g.wf.e];omega)];rfl
    let ix:qz R S.aU c z x:=g.so _ _ _ v;let m:qz R S.aU c z y:=m;let o:=pV g.wf n;let p:=pV g.wf E;rw[ex]at o;rw[C]at p;rwa[⟨hX c z (min x y) (max x y)::f,by rw[A,h,ahJ];rfl,.cons (.meet e ?_ ?_ ?_ ?_) ((B ▸ k).congr λa s b=>Pl e a s b)⟩]
    ·rcases ajZ x y with q|q
     ·rw[aji q];rwa[o]
     ·rw[ajO q];rwa[p]
    ·rcases ajZ x y with q|q
     ·rw[akn q];rwa[p]
     ·rw[aj6 q];rwa[o]
    ·rcases ajZ x y with q|q
     ·cbv
     ·rw[ajO q];rwa[m]
    ·rcases ajZ x y with q|q
     ·cbv
     ·rw[aj6 q];rwa[ix]
theorem rL {c:Nat->Int->Zi}:∀{w:Zg} {r e:Nat},wk c r w\e->⇑(r::cj c r w)=⇑w+ 1/\(r::cj c r w)[⇑w]?\e/\∀(i:Nat) (y:Int),w[i]?\y->∃a b,(r::cj c r w)[i]?\a/\(r::cj c r w)[i+ 1]?\b/\c a y\b
 |[],r,e,h=>by
  rwa[⟨2,by rw[<-Za0 h];rfl,λi y q=>by simp at q⟩]
 |z::w,r,e,h=>by
  let⟨d,f,g⟩:=g9 h;let⟨j,k,l⟩:=rL g;rw[ny f];rwa[⟨by rw[ahi,j];rfl,k,λi y q=>?_⟩]
  cases i with
  |zero=>rwa[r,d,22,by rw[<-Za0 q];rwa[f]]
  |succ i=>exact l i y q
theorem uL (g:Good S [] R):∀{w:Zg} {r e:Nat},wk S.by r w=some e->S.aU[r]?\r->∀x∈r::cj S.by r w,S.aU[x]?\x
 |[],r,e,h,b,x,a=>by rw[agR.mp a];rwa[b]
 |z::w,r,e,h,b,x,a=>by
  let⟨d,c,f⟩:=g9 h;rcases ag4.mp a with rfl|a
  ·rwa[b]
  ·rw[ny c]at a;let⟨_,j,_,i⟩:=g.st _ _ _ c;have:=pV g.wf j;rw[i]at this;rwa[uL g f this x a]
def KG (f:nm B n=n)(e:nm B m=m)(a:Nat)(y:Int)(b:Nat):fQ (qz R B) n z m a y b↔qz (fQ R n z m) B a y b:=by
 constructor
 ·rintro (⟨g,h,r,c,d⟩|⟨rfl,rfl,rfl⟩|⟨rfl,rfl,rfl⟩)
  ·rwa[g,h,.inl r,c,d]
  ·rwa[11,.inr (.inl ⟨222⟩),f,e]
  ·rwa[11,.inr (.inr ⟨222⟩),e,f]
 ·rintro ⟨g,h,r|⟨rfl,rfl,rfl⟩|⟨rfl,rfl,rfl⟩,c,d⟩
  ·rwa[.inl ⟨g,h,r,c,d⟩]
  ·rwa[.inr (.inl ⟨c.symm.trans f,2,d.symm.trans e⟩)]
  ·rwa[.inr (.inr ⟨c.symm.trans e,2,d.symm.trans f⟩)]
def KH {start:Nat}{word:Zg}(g:Good S [] R)(c:AZ ws nr S n word start m i j z):One ws nr S.aU (qz R S.aU) (lZ n ((start::cj S.by start (word.take m))++(j::cj S.by j (word.drop (m+ 1)))) m) S.aU (fQ (qz R S.aU) i z j):=by
 let H:m<⇑word:=(agM.mp c.hz).1;let⟨k,w,E⟩:=rL c.f;let⟨A,C,F⟩:=rL c.r;let lt:⇑(word.take m)=m:=by rw[ahr];ext
 let ld:⇑(word.drop (m+ 1))=⇑word - (m+ 1):=ahP ..;rw[lt]at k w;rw[ld]at A C;let t:=pV g.wf c.s.1;rw[c.s.2]at t;let u:=pV g.wf c.hd.1;rw[c.hd.2]at u;let left:∀h,h<=m->((start::cj S.by start (word.take m))++(j::cj S.by j (word.drop (m+ 1))))[h]?=(start::cj S.by start (word.take m))[h]?:=λh v=>agV (by rw[k];omega)
 let right:∀h,((start::cj S.by start (word.take m))++(j::cj S.by j (word.drop (m+ 1))))[m+ 1+ h]?=(j::cj S.by j (word.drop (m+ 1)))[h]?:=λh=>by
  rw[agW (by rw[k];omega),k]
  congr 1
  ext
 rwa[.rule c.w (by rw[agN,k,A];omega) ?_ ?_ (λx d=>?_) c.hz ?_ ?_ λh a b y v G l o=>?_]
 ·cbv
 ·rw[left 0 ∅];exact c.n.imp id λe=>by rw[e];rfl
 ·rcases agX.mp d with d|d
  ·rwa[uL g c.f t x d]
  ·rwa[uL g c.r u x d]
 ·rw[left m (agQ _)];rwa[w]
 ·rw[right 0];rfl
 ·rcases Nat.lt_or_gt_of_ne v with q|q
  ·let⟨D,B,s,p,r⟩:=E h y (by cbv);rw[left h ∅,s]at l;rw[left (h+ 1) ∅,p]at o;obtain rfl:=Za0 l;obtain rfl:=Za0 o;rwa[g.so _ _ _ r]
  ·obtain⟨f,rfl⟩:∃f,h=m+ 1+ f:=⟨h - (m+ 1),3⟩;let⟨D,B,s,p,r⟩:=F f y ([aj8]▸G);rw[right,s]at l;rw[show m+ 1+ f+ 1=m+ 1+ (f+ 1) by ext,right,p]at o;obtain rfl:=Za0 l;obtain rfl:=Za0 o;rwa[g.so _ _ _ r]
def MC (t:Tr ws nr S S')(D:∀w∈ws,∀z∈w,z∈ks/\-z∈ks):Good S [] R->fH S->(∀a z b,R a z b->z∈ks)->∃o,Good S' [] o/\fH S'/\(∀a z b,o a z b->z∈ks)/\∃l,S'.rows=S.rows++l/\Go ws nr S.aU (qz R S.aU) l S'.aU (qz o S'.aU):=by
 induction t with
 |refl=>exact λg w k=>⟨R,g,w,k,[],(ahl _).symm,.nil λ_ _ _=>Iff.rfl⟩
 |step _ i u F=>
  rename_i j H h word start m c d z _;intro g v k;let⟨A,g1,p,x,l,G,n⟩:=F g v k;let s:=D word (agK i.w) z (agK i.hz)
  let f:∀a y b,fQ A c z d a y b->y∈ks:=by
   rintro a y b (r|⟨_,e,_⟩|⟨_,e,_⟩)
   ·rwa[x _ _ _ r]
   ·rw[e];rwa[s.1]
   ·rw[e];rwa[s.2]
  let gl:=g1.lay z i.hc.1 i.hd.1 (j.rows++[lZ h ((start::cj j.by start (word.take m))++(d::cj j.by d (word.drop (m+ 1)))) m]);let⟨B,C,_⟩:=u.all gl f ⟨p.a,p.b,p.c⟩;let⟨q,E,go2⟩:=Sh (ws:=ws) (nr:=nr) u gl f;rwa[⟨_,B,C,f,l++(_::q),5,n.app (.cons (KH g1 i) (go2.congr λa y b=>KG i.hc.2 i.hd.2 a y b))⟩];rw[E];show (j.rows++[_])++q=_
  cbv
end
end L2
namespace L2
open PySem PySem.Spec PyProof.Rows
def Ww (a:Program)(w:World)(A:Around)(env:Env):Zr->(Bool->Zu->Prop)->Zu->Prop
 |[],K,s=>K true s
 |c::_,K,s=>(a<|>w) A (isTrue c env (eval c env)) K (λ_ _=>False) s
theorem A7 {R:Result->Zu->Prop}{elt target iter:Expr}{cs:Zr}{scope:Scope}{it acc:Zt}{env:Env}(i:⇑cs<=1)(I:Nat->Zu->Prop)
 (turn:∀n s,I n s->(P<|>w) A (pyNext it) (λr c=>match r with
  |none=>R (.ok .next) c
  |some v=>(P<|>w) A (letOwnedTupleGo target it v) (λ_ d=>(P<|>w) A (assign target env v) (λ_ f=>Ww P w A env cs (λb a=>
   match b with
   |true=>(P<|>w) A (eval elt env) (λx e=>(P<|>w) A (call (.builtin "list.append") [acc,x]) (λ_ g=>∃m,m<n/\I m g) (λ_ _=>False) e) (λ_ _=>False) a
   |false=>∃m,m<n/\I m a) f) (λ_ _=>False) d) (λ_ _=>False) c) (λ_ _=>False) s)
 (n:Nat) (h:I n s):codeAny (model P w) A (.compLoop (.ListComp elt [⟨target,iter,cs,(0)⟩] scope p) 0 it acc env) R s:=
 match cs,i,turn with
 |[],_,turn=>C1 I turn n h
 |[_],_,turn=>zi I turn n h
def MD (X:Cx):Zr->TT->Prop
 |[],a=>a=λ_ H Q=>Q true H
 |c::_,a=>PT X c a
def Pn {e:TT}{Q:Bool->Hp->Prop}{K:Bool->Zu->Prop}(h:MD X C e)(i:X.xe=λ_ _=>False)(I:Inv X o D H s)(q:e D H Q)(k:∀b a d,Inv X o D d a->Q b d->K b a):Ww X.prog X.w X.A X.env C K s:=
 match C,h with
 |[],h=>by
  rw[h]at q;rwa[k true s H I q]
 |c::_,h=>by
  have:=h o s D H Q I q;rw[i]at this;rwa[a9 this λb a ζ=>?_];let⟨d,f,g⟩:=ζ;rwa[k b a d f g]
section
variable {X:Cx}{elt iter vD:Expr}{x:Str}{px pos:Pos}{scope:Scope}{cl:List (Str×Zs)}{fns:Zp}{ixs:Zh}{wi:TI}{tt:TT}{te:TE}
theorem yR {cs:Zr}{use:Option (Zt->Sem Unit)}{RQ:Zt->Zu->Prop}{Q:VK}(hl:⇑cs<=1)(hc:X.calm=true)(hi:PI X (.Name x px) iter wi)(S:dW X x fns ixs scope cl)
 (ht:∀(C:Zs) (s:Zu) (H:Hp) (ex:Zn),MD (dy X (x::fns) scope cl C s H ex) cs tt) (he:∀(C:Zs) (s:Zu) (H:Hp) (ex:Zn),PE (dy X (x::fns) scope cl C s H ex) elt te)
 (hs:∀x,foldedSetIterable iter X.env x=pure x) (I:Inv X o D H s) (h:oB wi (iX ixs) tt te D H Q)
 (fin:∀(C k:Zs) (H3:Hp) (ys:Zb) (s4:Zu) (m:Str->Zl),s4.heap.Ns C m->(∀L,Heap.SameBut C s4.heap L->Inv X o D (upd H3 k (.lst ys)) (s4<*L))->upd H3 k (.lst ys) C=none->X.env.locals≠C->(∀z c,X.env.cells.lookup z\c->c≠C)->X.eB.heap.objs.size<=C->(∀g∈X.pn++o,g.1≠C)->Q ↑k (upd H3 k (.lst ys))->compPost (model X.prog X.w) X.A X.xe use RQ ↑k C (.ok .next) s4):
 X⁻¹ X.A (comprehension (.ListComp elt [⟨.Name x px,iter,cs,(0)⟩] scope pos) scope X.env p (newList []) false (eval iter X.env) use) RQ X.xe s:=by
 rwa[wpAny_comprehension_free rfl hs S.Aj S.kind S.names (a9 (hi o s D H _ I h) λv s1 h1=>a9 h1 λitv s2 h2=>?_)];let⟨it,Y,tn,J,H2,e,A,T,HL,f2,W,⟨m0,w0⟩,turn⟩:=h2;subst e
 let E:∀b∈Y,b<↥s2:=λb t=>by
  let⟨f,ho,_⟩:=T.obj _ _ HL b t;rwa[ag8 ho]
 rwa[ahI (wpAny_newFunctionEnv S.cell (by intro y hy;simp at hy) (λKJ P N=>?_) S.kind)];generalize A8:s2.heap.push { cls:=.type "list",dict:=none,data:=.seq ([]:Zk).toArray }=M at P N ⊢;generalize hD:↥s2=k at E ⊢;let hC:M.objs.size=k+ 1:=by rw[<-A8,aiw,hD]
 generalize hCe:M.objs.size=C at hC P N ⊢;let w:k<C:=∅
 let HN:k≠C:=ahk w;let G:∀b u,s2.heap.get? b\u->M.get? b\u:=λb u q=>by rw[<-A8];rwa[agL _ q]
 let MF:∀{b u},s2.heap.get? b\u->b<k:=λq=>by rw[<-hD];rwa[ag8 q]
 let U:∀b u,M.get? b\u->KJ.get? b\u:=λb u q=>
  N.extBut b u (ahk (ahh (ag8 q) (ajT hCe))) (agL _ q)
 let hDo:M.get? k\{ cls:=.type "list",dict:=none,data:=.seq ([]:Zk).toArray }:=by rw[<-A8,<-hD];rwa[agZ _ rfl]
 let I3:Inv X o D H2 (s2<*M):=A.kept (t':=s2.toks) G;let MG:H2 k=none:=A.aO.fresh ∅;let hnC:H2 C=none:=A.aO.fresh ∅
 let KL:∀b∈k::Y,b∉cH X.stack:=λb t z=>by
  rcases ag4.mp (A.zX b z) with e|z
  ·rcases ag4.mp t with Z|t
   ·rwa[absurd A.lt (by rw[<-e,Z,<-hD];rwa[ah2 _])]
   ·rwa[(f2 b t).2.1 e]
  ·rcases ag4.mp t with Z|t
   ·rwa[A.E4 (by rw[Z,<-hD];rwa[agQ _]) z]
   ·rwa[(f2 b t).2.2.1 z]
 let lE:∀y c,cl.lookup y\c->∀b∈k::Y,c≠b:=λy c q b t z=>by
  let⟨v,hv⟩:=A.cell y c (S.sub y c q);rcases ag4.mp t with Z|t
  ·rwa[absurd hv.lt (by rw[z,Z,<-hD];rwa[ah2 _])]
  ·rwa[(f2 b t).2.2.2.2.1 y c (S.sub y c q) z]
 let' R:Cx:=dy X (x::fns) scope cl C (s2<*M) H2 (k::Y)
 let ok:R.Ok:={
  mod:=A.ok.mod
  kind:=S.kind
  glob:=A.ok.glob
  blt:=A.ok.blt
  above:=by show M.objs.size<=C;ext
  inj:=λy z c q1 q2=>A.ok.inj y z c (S.sub^q1) (S.sub^q2)
  has:=S.has
  zW:=λy c q=>nomatch q
  hd:=A.ok.hd
  frames:=A.ok.frames
  Dz:=.inl rfl
  L6:=λb t=>⟨by
   rcases ag4.mp t with Z|t
   ·rw[Z];rwa[HN]
   ·rwa[ahk (ajY (E b t) w)],λy c q=>lE y c q b t⟩
  bs:=I3.bs
  qS:=ag3 I3.ok.qS I3.sz
  uv:=λb f q t=>by
   rcases ag4.mp t with Z|t
   ·rwa[absurd (MF (A.bs b f q).1) (by rw[Z];rwa[ah2 _])]
   ·rcases (f2 b t).2.2.2.1 with z|z
    ·rwa[A.ok.uv b f q z]
    ·rwa[absurd (ag8 (A.ok.bs b f q).1) (Nat.not_lt.mpr z)]
  xm:=KL
  jh:=I3.stack
  tT:=I3.oq }
 let start:∀(v0:Zc),v0=none->Inv R [(k,{ cls:=.type "list",dict:=none,data:=.seq ([]:Zk).toArray })] (v0::iX ixs D) H2 { s2 with heap:=KJ,toks:=s2.toks+ ⇑([]:List (Str×Zt)) }:=λv0 hv0=>{
  ok:=ok
  os:=rfl
  bare:=A.bare
  base:=Un.kept U
  loc:=⟨_,P,λi y v e1 Z e3=>by
   cases i with
   |zero=>rw[hv0]at Z;ext Z
   |succ j=>
    let e1':fns[j]?\y:=e1
    let Si:(iX ixs D)[j]?\(some v):=Z
    let⟨i,hi1,hi2,hk,c,MH,yF⟩:=S.at_ j y e1';unfold iX at Si;rw[ag0,hi1]at Si
    let e3':D[i]?\(some v):=by
     let z:(D[i]?).join\v:=Za0 Si
     cases q:D[i]? with
     |none=>rw[q]at z;ext z
     |some f=>rw[q]at z;rw[show f=some v from z]
    let⟨m,_,hl⟩:=A.loc;let⟨u,r,l⟩:=hl i y v hi2 e3' (hk.elim (λz=>.inr (.inl z)) λz=>.inr (.inr z));rwa[⟨u,r,.inr ⟨yF,c,MH,5⟩⟩];rcases l with ⟨z,_⟩|⟨_,c',hc',VG⟩
    ·rcases hk with hk|hk <;> cbv
    ·have:c'=c:=Za0 (hc'.symm.trans (S.sub^MH));subst this;let⟨f,ho,hd⟩:=VG;rwa[f,U^G^ho,hd]⟩
  cell:=λy c q=>by
   let⟨v,f,ho,hd⟩:=A.cell y c (S.sub y c q);rwa[v,f,U^G^ho,hd]
  free:=hnC
  gO:=λy c q=>A.gO y c (S.sub y c q)
  pin:=λg hp=>by
   let Sj:g=(k,{ cls:=.type "list",dict:=none,data:=.seq ([]:Zk).toArray }):=by simpa [R,dy] using hp
   subst Sj;rwa[U^hDo,MG,HN,KL k (ag2 ..),λv z=>nomatch z]
  aO:=(A.aO.kept G).kept U
  len:=by show ⇑(v0::iX ixs D)=⇑(x::fns);simp[iX,S.len] }
 let Sl:∀{H':Hp} {O:List (Zs×Obj)},(∀b∈Y,H' b=none)->(∀g∈O,g.1=k)->∀b∈Y,pE R O H' b:=λ{H' O} hn hp b t=>
  ⟨hn b t,ahk (ajY (E b t) w),KL b (ahm _ t),.inl (ahm _ t),λy c q=>lE y c q b (ahm _ t),λg q=>by
   let q':g∈O:=by simpa [R,dy] using q
   rw[hp g q'];rwa[ah0 (E b t)]⟩
 let loop:codeAny (model X.prog X.w) X.A (.compLoop (.ListComp elt [⟨.Name x px,iter,cs,(0)⟩] scope pos) 0 ↑it ↑k (compEnvC scope cl C X.env))
  (compPost (model X.prog X.w) X.A X.xe use RQ ↑k C) { s2 with heap:=KJ,toks:=s2.toks+ ⇑([]:List (Str×Zt)) }:=by
  refine A7 hl (λn s'=>∃(i:Nat) (ys:Zb) (F:Zk) (nn:Nat) (v0:Zc) (H':Hp),Inv R [(k,{ cls:=.type "list",dict:=none,data:=.seq F.toArray nn })] (v0::iX ixs D) H' s'/\tn i s'.heap/\(∀b∈Y,H' b=none)/\Vals ys F/\W i n ys H') ?_ m0
   ⟨(0),[],[],(0),none,H2,start none rfl,T.keep _ _ _ HL λb _ f q=>U^G^q,λb t=>(f2 b t).1,.nil,w0⟩
  rintro n s3 ⟨i,ys,F,nn,v0,H3,J3,Wx,Wy,vv,w3⟩
  let KN:∀g∈([(k,({ cls:=.type "list",dict:=none,data:=.seq F.toArray nn }:Obj))]:List (Zs×Obj)),g.1=k:=λg hp=>by
   cbv
  rcases turn i n ys H3 w3 with ⟨stop,hlen,q⟩|⟨go,hlen,step⟩
  ·-- the end
   rwa[a9 (T.done R rfl rfl rfl hc i _ s3 _ H3 _ J3 (Sl Wy KN) Wx stop) λr s4 ζ=>?_];let⟨hr,J4⟩:=ζ
   subst hr;let⟨m,hn,_⟩:=J4.loc;let⟨gD,nD,_,_,_⟩:=J4.pin (k,{ cls:=.type "list",dict:=none,data:=.seq F.toArray nn }) (by simp[R,dy]);let B:=J4.base
   let inv:∀L,Heap.SameBut C s4.heap L->Inv X o D (upd H3 k (.lst ys)) (s4<*L):=λL hsb=>by
    let kC:∀b u,b≠C->s4.heap.get? b\u->L.get? b\u:=λb u t q=>(hsb.2 b t).trans q
    let ne:∀{b f},s2.heap.get? b\f->b≠C/\b≠k:=λq=>⟨ahk (ajY (MF q) w),ahk (MF q)⟩
    let vN:∀{b f},s2.heap.get? b\f->b∉Y->b∉k::Y:=λq hx z=>(ag4.mp z).elim (ne q).2 hx
    let uu:Un (cH X.stack) Y H2 (upd H3 k (.lst ys)) s2.heap L:={
     keep:=λb f q n t hx=>kC b f (ne q).1 (B.keep b f (G b f q) n t (vN q hx))
     slot:=λb f q n t hx=>by
      let⟨sl,e⟩:=B.slot b f (G b f q) n t (vN q hx);rwa[sl,kC b _ (ne q).1 e]
     free:=λb f q n hx=>by rw[ak (ne q).2];rwa[B.free b f (G b f q) n (vN q hx)]
     there:=λb f q hx=>by
      let⟨o',e⟩:=B.there b f (G b f q) (vN q hx);rwa[o',kC b _ (ne q).1 e]
     iq:=λb xs q=>by rw[ak (ax q MG)];rwa[B.iq b xs q]
     gN:=λb f xs q=>by rw[ak (ax q MG)];rwa[B.gN b f xs q]
     iu:=λb ps q=>by
      let⟨more,e⟩:=B.iu b ps q;rwa[⟨more,[ak (ax q MG)]▸e⟩ ]}
    let aO:dH X.prog X.w (upd H3 k (.lst ys)) L:=λb u e=>by
     by_cases t:b=k
     ·subst t;rw[ah]at e;ext e;rwa[hlen,F,nn,vv,kC _ _ HN gD]
     ·rw[ak t]at e;refine(J4.aO b u e).fy (λc v hc q=>kC c v ?_ q) (λc q=>[ak (ax q nD)]▸q) λc xs q=>by rw[ak (ax q nD)];rwa[q]
      let fC:H3 C=none:=J4.free
      cbv
    rwa[A.E5 (s':=(s4<*L)) J4.os uu aO J4.bare (λb t=>⟨(f2 b t).2.2.2.1,(f2 b t).2.1,(f2 b t).2.2.2.2.1,(f2 b t).2.2.2.2.2⟩)]
   let ab:∀{b f},s2.heap.get? b\f->b≠C:=λq z=>absurd (MF q) ([z]▸Nat.not_lt.mpr (ajR w))
   rwa[fin C k H3 ys s4 m hn inv ([ak (ah5 HN)]▸J4.free) (λz=>?_) (λz c hz=>?_) (ag3 (by have:=A.sz;rw[hD]at this;rwa[this]) (ajR w)) (λg hp=>ab (A.pin g hp).1) (q k nD)]
   ·let h1:=A.lt
    cbv
   ·let⟨v,f,ho,_⟩:=A.cell z c hz;rwa[ab ho]
  ·-- a turn
   rwa[a9 (T.item R rfl rfl rfl hc i _ s3 _ H3 _ J3 (Sl Wy KN) Wx go) λr s4 ζ=>?_];let⟨u,hr,h4⟩:=ζ
   subst hr;rwa[a9 h4 λ_ s5 ζ=>?_];let⟨xv,H5,J5,r5,y5,HP,HQ⟩:=ζ
   let J5':=J5.pinned (Sl HQ KN) (T.obj^HP);let hg:PG R (.Name x px) (m8 0):=DC (X:=R) (i:=0) S.nd rfl (.inl (tX S.own)) (.inr (tX S.own));rwa[a9 (hg _ s5 _ H5 xv u (λ gI H'=>gI=some xv::iX ixs D/\H'=H5) J5' r5 ⟨22⟩) λ_ s6 ζ=>?_];let⟨σ6,H6,J6,e6,e6'⟩:=ζ
   subst e6 e6';rwa[Pn (ht C (s2<*M) H2 (k::Y)) rfl J6 (step xv H6 y5) λbt Wz Sn HR q6=>?_]
   cases bt with
   |true=>
    rwa[a9 (he C (s2<*M) H2 (k::Y) _ Wz _ Sn _ HR q6) λyv s7 ζ=>?_];let⟨y,H7,J7,r7,m',Sq,w7⟩:=ζ
    let⟨gD,nD,_,_,_⟩:=J7.pin (k,{ cls:=.type "list",dict:=none,data:=.seq F.toArray nn }) (by simp[R,dy]);let Sr:tn (i+ 1) s7.heap:=T.keep _ _ _ HP λb t f e=>(J7.pin (b,f) (agS _ (agS _ (iH t e)))).1
    let Ss:∀b∈Y,H7 b=none:=λb t=>by
     let⟨f,e,d⟩:=T.obj _ _ HP b t;rwa[(J7.pin (b,f) (agS _ (agS _ (iH t e)))).2.1]
    let J7':Inv R [] (some xv::iX ixs D) H7 s7:=J7.jq λg hp=>nomatch hp
    rwa[wpAny_list_append_plain (hsz:=by rw[ag6,<-⇑vv];omega) ⟨nn,gD⟩ λh8 pl8 WB=>?_]
    let⟨n8,g8⟩:=pl8
    let J8:Inv R [] (some xv::iX ixs D) H7 (s7<*h8):=J7'.turned (t':=s7.toks) (it:=k) (λb f t e=>(WB.2 b t).trans e) nD (HN) (.inl (ag2 ..))
     (λy c q=>lE y c q k (ag2 ..)) (λg hp=>by simp[R,dy]at hp)
    rwa[⟨m',Sq,i+ 1,ys++[y],F++[yv],n8,some xv,H7,J8.jq λg hp=>?_,5,Ss,vv.append (.cons r7 .nil),w7⟩]
    ·cbv
    ·rwa[T.keep _ _ _ Sr λb t f e=>(WB.2 b (ahk (E b t))).trans e]
   |false=>
    let⟨m',Sq,w7⟩:=q6;let⟨gD,nD,_,_,_⟩:=HR.pin (k,{ cls:=.type "list",dict:=none,data:=.seq F.toArray nn }) (by simp[R,dy]);let Sr:tn (i+ 1) Wz.heap:=T.keep _ _ _ HP λb t f e=>(HR.pin (b,f) (agS _ (agS _ (iH t e)))).1
    let Ss:∀b∈Y,Sn b=none:=λb t=>by
     let⟨f,e,d⟩:=T.obj _ _ HP b t;rwa[(HR.pin (b,f) (agS _ (agS _ (iH t e)))).2.1]
    rwa[⟨m',Sq,i+ 1,ys,F,nn,some xv,Sn,HR.jq λg hp=>?_,Sr,Ss,vv,w7⟩]
    cbv
 rwa[codeAny_compStart_list loop (T.self _ 0 _ _ _ (T.keep _ _ _ HL λb _ f q=>U^G^q) loop)]
theorem A9 {cs:Zr}(k:⇑cs<=1)(e:X.calm=true)(g:PI X (.Name x px) iter wi)(S:dW X x fns ixs scope cl)(j:∀(C:Zs) (s:Zu) (H:Hp) (ex:Zn),MD (dy X (x::fns) scope cl C s H ex) cs tt)
 (i:∀(C:Zs) (s:Zu) (H:Hp) (ex:Zn),PE (dy X (x::fns) scope cl C s H ex) elt te) (f:∀x,foldedSetIterable iter X.env x=pure x):PE X (.ListComp elt [⟨.Name x px,iter,cs,(0)⟩] scope pos) (oB wi (iX ixs) tt te):=by
 intro c s o H Q I h;rwa[yR k e g S j i f I h λC D n ys l m d inv _ _ _ _ _ q=>⟨m,d,λa b=>⟨↑D,_,inv a b,2,q⟩⟩]
theorem ua {cs:Zr}{a:Pos}(U:⇑cs<=1)(L:X.N.Nodup)(g:X.N[n]?\f)(R:Loc X.env.scope f)(J:X.calm=true)(N:PI X (.Name x px) iter wi)(S:dW X x fns ixs scope cl)(T:∀(C:Zs) (s:Zu) (H:Hp) (ex:Zn),MD (dy X (x::fns) scope cl C s H ex) cs tt)
 (P:∀(C:Zs) (s:Zu) (H:Hp) (ex:Zn),PE (dy X (x::fns) scope cl C s H ex) elt te) (M:∀x,foldedSetIterable iter X.env x=pure x) (u:swapsWith (.ListComp elt [⟨.Name x px,iter,cs,(0)⟩] scope pos) (some (.Name f p)) a.line X.env=pure true)
 (l:X.fn f=true\/X.env.scope.names.lookup f=some .local):PS X (.Assign [.Name f p] (.ListComp elt [⟨.Name x px,iter,cs,(0)⟩] scope pos) a) (xq (oB wi (iX ixs) tt te) (m8 n)):=by
 intro d s σ H G I h;rw[exec_Assign_Name_used _ _ _ _ u];rwa[agI (ajF (agI ?_))];rwa[agI (ahN (yR (RQ:=λ_ z=>SP X d G .next z) U J N S T P M I h λC D W ys V m F inv i A y sz Q q=>?_) (λ_ z E=>agP (agP E)) λ_ _ e=>e)];rwa[wpAny_assign_Name (yp (inv _ ⟨2,λ_ _=>rfl⟩) L g R (v:=↑D) rfl (λs5 O c=>?_) l)];let⟨w,t,k⟩:=c
 let j:C≠w:=by
  rcases k with e|e
  ·cbv
  ·rwa[ah5 (y f w e)]
 rwa[⟨m,F.sameBut t j,λZ r=>?_⟩];rwa[11,O.turned (t':=s5.toks) (it:=C) (λb o B e=>(r.2 b B).trans e) i (ah5 A) (.inr sz) y Q,q]
theorem jl (b:X.calm=true)(d:PI X (.Name x px) iter wi)(S:dW X x fns ixs scope cl)
 (a:∀(C:Zs) (s:Zu) (H:Hp) (ex:Zn),PE (dy X (x::fns) scope cl C s H ex) elt te)
 (c:∀x,foldedSetIterable iter X.env x=pure x:=by intro _;rfl):
 PE X (.ListComp elt [⟨.Name x px,iter,[],(0)⟩] scope pos) (Ml wi (iX ixs) te):=A9 (cs:=[]) ⋯ b d S (λ_ _ _ _=>rfl) a c
theorem FJ (c:X.calm=true)(e:PI X (.Name x px) iter wi)(S:dW X x fns ixs scope cl)
 (a:∀(C:Zs) (s:Zu) (H:Hp) (ex:Zn),PT (dy X (x::fns) scope cl C s H ex) vD tt) (b:∀(C:Zs) (s:Zu) (H:Hp) (ex:Zn),PE (dy X (x::fns) scope cl C s H ex) elt te)
 (d:∀x,foldedSetIterable iter X.env x=pure x:=by intro _;rfl):
 PE X (.ListComp elt [⟨.Name x px,iter,[vD],(0)⟩] scope pos) (oB wi (iX ixs) tt te):=A9 (cs:=[vD]) (agQ _) c e S a b d
theorem i5 {iy:Nat}{a:Pos}(i:X.N.Nodup)(d:X.N[iy]?\f)(e:Loc X.env.scope f)(h:X.calm=true)(k:PI X (.Name x px) iter wi)(S:dW X x fns ixs scope cl)
 (g:∀(C:Zs) (s:Zu) (H:Hp) (ex:Zn),PE (dy X (x::fns) scope cl C s H ex) elt te)
 (j:∀x,foldedSetIterable iter X.env x=pure x:=by intro _;rfl) (b:swapsWith (.ListComp elt [⟨.Name x px,iter,[],(0)⟩] scope pos) (some (.Name f p)) a.line X.env=pure true:=by rfl)
 (c:X.fn f=true\/X.env.scope.names.lookup f=some .local:=by trivial):
 PS X (.Assign [.Name f p] (.ListComp elt [⟨.Name x px,iter,[],(0)⟩] scope pos) a) (xq (Ml wi (iX ixs) te) (m8 iy)):=ua (cs:=[]) ⋯ i d e h k S (λ_ _ _ _=>rfl) g j b c
theorem zp {iy:Nat}{a:Pos}(j:X.N.Nodup)(d:X.N[iy]?\f)(e:Loc X.env.scope f)(i:X.calm=true)(l:PI X (.Name x px) iter wi)(S:dW X x fns ixs scope cl)
 (g:∀(C:Zs) (s:Zu) (H:Hp) (ex:Zn),PT (dy X (x::fns) scope cl C s H ex) vD tt) (h:∀(C:Zs) (s:Zu) (H:Hp) (ex:Zn),PE (dy X (x::fns) scope cl C s H ex) elt te)
 (k:∀x,foldedSetIterable iter X.env x=pure x:=by intro _;rfl) (b:swapsWith (.ListComp elt [⟨.Name x px,iter,[vD],(0)⟩] scope pos) (some (.Name f p)) a.line X.env=pure true:=by rfl)
 (c:X.fn f=true\/X.env.scope.names.lookup f=some .local:=by trivial):
 PS X (.Assign [.Name f p] (.ListComp elt [⟨.Name x px,iter,[vD],(0)⟩] scope pos) a) (xq (oB wi (iX ixs) tt te) (m8 iy)):=ua (cs:=[vD]) (agQ _) j d e i l S g h k b c
end
def TrD (h base:Heap)(e:Zs)(cls:Zt)(g:Zo)(f:Zt):Prop:=
 ∃a d T c b,h.get? e\a/\(a.cls=cls/\a.dict=g)/\a.data=.fields d/\d[1]?\↑T/\base.get? T=none/\T≠e/\h.get? T\c/\c.data=.fields b/\b[3]?\f
def lz (base:Heap)(l:Zq)(e:Zs)(cls:Zt)(b:Zo)(a:Zt)(h:Heap):Prop:=base.StaysIn h/\base.get? e=none/\h.FunFrames base l/\TrD h base e cls b a
def yS (f:Zm->Zm)(o:Obj):(Obj.mapFields f o).dict=o.dict:=by
 let⟨a,b,d,e⟩:=o;cases d <;> rfl
section
variable {M:Model}{A:Around}{E:Zt->Zu->Prop}{s:Zu}{base:Heap}{env:Env}{outer:Zq}{L e:Zs}{cls:Zt}{dx:Zo}
theorem HS {u:Obj}{z:Zm}{head:Zt}{g:Bool}(F:A.frames\(env::outer))(y:s.heap.FunFrames base (env::outer))(P:env.frame\L)
 (Q:s.heap.get? e\u) (G:base.StaysIn s.heap) (J:base.get? e=none) (O:u.data=.fields z) (w:1<z.size)
 (h:∀I,lz base (env::outer) e u.cls u.dict (rawInt L) I->s.heap.UpToSlots I->U () (s<*I)):
 wpAny M A (do let a <-frameOf env;let pl <-entryPlaceOf L g;let b <-EntryCells.newEntry head a .none (rawInt L) .none pl;setField ↑e 1 b) U E s:=by
 let v:e∉(env::outer).filterMap (·.frame):=λB=>by
  let⟨_,o,R,m⟩:=y.mem B
  cbv
 rwa[agI (wpAny_frameOf_fun F y P λc f=>?_)];rwa[agI (wpAny_entryPlaceOf λpl C=>?_)];unfold EntryCells.newEntry newFields;rwa[agI (ahI ?_ (C.sizeOk5 _ _ _ _ _))];let n:c.get? e\u:=(f.2.1 e v).trans Q;let k:base.StaysIn c:=λb o l=>(f.2.1 b λB=>by rw[(y.mem B).1]at l;ext l).trans (G b o l)
 let i:=agL (h:=c) { cls:=.type "traceback",dict:=none,data:=.fields ([head,↑L,.none,rawInt L,.none]++(if pl.isEmpty then List.replicate 6 Value.none else pl)).toArray } n;rwa[ai0 i O w ?_];let x:c.objs.size≠e:=ah0 (ag8 n);let j:=aip O (·.setIfInBounds 1 (Value.ref c.objs.size));let t:=ahv (Obj.mapFields (·.setIfInBounds 1 (Value.ref c.objs.size))) i (aiX j)
 let r:=(ahx (c.push { cls:=.type "traceback",dict:=none,data:=.fields ([head,↑L,.none,rawInt L,.none]++(if pl.isEmpty then List.replicate 6 Value.none else pl)).toArray })
  (Obj.mapFields (·.setIfInBounds 1 (Value.ref c.objs.size))) (ah5 x)).trans (agZ c rfl)
 let keep:∀b o,b≠e->c.get? b\o->_\o:=λb o D p=>(ahx (c.push { cls:=.type "traceback",dict:=none,data:=.fields ([head,↑L,.none,rawInt L,.none]++(if pl.isEmpty then List.replicate 6 Value.none else pl)).toArray }) (Obj.mapFields (·.setIfInBounds 1 (Value.ref c.objs.size))) (ah5 D)).trans (agL _ p)
 let d:∀b o,s.heap.get? b\o->(∀z,o.data≠.fields z)->b≠e:=λb o p m q=>by
  cbv
 rwa[h _ ⟨λb o l=>keep b o (λq=>by cbv) (k b o l),J,y.of_keeps λb o p m=>?_,5⟩ λb o p m=>?_]
 ·let⟨N,H⟩:=f.2.2 b o p;rwa[_,keep b _ (d b o p m) H,2]
 ·rwa[11,c.objs.size,11,t,⟨Obj.cls_mapFields _ _,yS _ _⟩,j,by simp[w],k.fresh,x,r,2,by cbv]
 ·let⟨N,H⟩:=f.2.2 b o p;rwa[N,keep b _ (d b o p m) H]
theorem Sv {z:Obj}{n:Zm}{j:Obj}{m:Zm}{l:Zq}(p:base.StaysIn s.heap)(t:base.get? e=none)(H:s.heap.FunFrames base l)
 (D:s.heap.get? e\j) (B:j.cls=cls/\j.dict=dx) (G:j.data=.fields m) (F:m[1]?\↑a) (w:base.get? a=none) (k:a≠e) (y:s.heap.get? a\z) (i:z.data=.fields n) (C:n[3]?\v)
 (h:∀r,lz base l e cls dx u r->s.heap.UpToSlots r->U () (s<*r)):wpAny M A (setField ↑a 3 u) U E s:=by
 let g:3<n.size:=(ait.mp C).1;let other:∀b,b≠a->(s.heap.update a (Obj.mapFields (·.setIfInBounds 3 u))).get? b=s.heap.get? b:=λb f=>ahx^ah5 f
 let c:∀b o,s.heap.get? b\o->(∀m,o.data≠.fields m)->b≠a:=λb o f d q=>by
  cbv
 rwa[ai0 y i g (h _ ⟨λb o x=>(other b λq=>by cbv).trans (p b o x),t,H.of_keeps λb o f d=>⟨o,(other b (c b o f d)).trans f,2⟩,5⟩ λb o f d=>⟨o.slots,(other b (c b o f d)).trans f⟩)]
 rwa[j,m,a,11,(other e (ah5 k)).trans D,B,G,F,w,k,ahv _ y (aiX (aip i _)),aip i _,by simp[g]]
def vO {l:Zq}(n:lz base l e cls dx v s.heap)(q:∀d,lz base l e cls dx .none d->s.heap.UpToSlots d->U () (s<*d)):wpAny M A (setFlight ↑e none) U E s:=by
 let⟨c,f,p,t,w,T,u,r,i,a,k,j,g,h,m,b,o⟩:=n;unfold setFlight;rwa[agI (ahR i k j ?_)];rw[ahf (show (Value.ref T !=Value.none)=true from by simp)];rwa[Sv c f p i a k j g h m b o q]
theorem MJ (g:A.frames\(env::outer))(o:env.frame\L)(f:lz base (env::outer) e cls dx .none s.heap)
 (H:∀d,lz base (env::outer) e cls dx (rawInt L) d->s.heap.UpToSlots d->U () (s<*d)):wpAny M A (noteFrame ↑e env) U E s:=by
 let⟨a,b,k,N,P,T,O,J,r,⟨rfl,rfl⟩,u,t,j,l,n,c,q⟩:=f;unfold noteFrame;simp only[o];rwa[agI (ahR r u t ?_)];rw[ahf (show (Value.ref T !=Value.none)=true from by simp)];rwa[agI (ahR n c q ?_)];rw[ahc (show ¬((Value.none==rawInt L)=true) from by simp[rawInt])];rwa[agI (Sv a b k r ⟨22⟩ u t j l n c q λz C G=>?_)];let⟨a,b,k,w,v,I,y,B,i,⟨x,D⟩,h,m,_⟩:=C;rwa[HS (s:=(s<*z)) g k o i a b h (ait.mp m).1 λd p F=>?_]
 rw[x,D]at p;rwa[H d p (G.trans F)]
theorem Pp (c:A.frames\(env::outer))(m:env.frame\L)(b:lz base (env::outer) e cls dx .none s.heap)
 (i:∀a,lz base outer e cls dx .none a->s.heap.UpToSlots a->U () (s<*a)):wpAny M A (leaving env ↑e) U E s:=by
 unfold leaving;rwa[agI (MJ c m b λk n j=>vO (s:=(s<*k)) n λd ζ h=>?_)];let⟨l,g,⟨11,f⟩,o⟩:=ζ;rwa[i d ⟨l,g,f,o⟩ (j.trans h)]
theorem KP {a:Obj}{k:Zm}(c:A.frames\(env::outer))(r:s.heap.FunFrames base (env::outer))(h:env.frame\L)
 (i:s.heap.get? e\a) (d:base.StaysIn s.heap) (g:base.get? e=none) (j:a.data=.fields k) (b:k[1]?=some .none)
 (t:∀f,lz base outer e a.cls a.dict .none f->s.heap.UpToSlots f->U () (s<*f)):wpAny M A (leaving env ↑e) U E s:=by
 unfold leaving noteFrame;simp only[h];rwa[agI (agI (ahR i j b ?_))];rw[ahc ⋯];rwa[HS c r h i d g j (ait.mp b).1 λb v u=>vO (s:=(s<*b)) v λn ζ q=>?_];let⟨l,p,⟨11,o⟩,m⟩:=ζ;rwa[t n ⟨l,p,o,m⟩ (u.trans q)]
end
end L2
namespace L2
open PySem PySem.Spec PyProof.Rows PySem.Calls PySem.W Builtin Builtin.ObjectAttr
def yT (x C:Zs)(d:Zo)(e:Bool)(h:Heap):Prop:=∃b c,h.get? x\b/\b.cls=↑C/\b.dict=d/\b.data=.fields c/\(e=true->c[1]?=some .none/\∃a,c[0]?\↑a)
noncomputable def XO (x C:Zs)(a:Zo)(b:Bool):HO:=.ext (yT x C a b)
def yT.fy {x:Zs}{dx:Zo}{nw:Bool}(p:yT x a dx nw h)(k:∀o,h.get? x\o->g.get? x\o):yT x a dx nw g:=by
 let⟨b,c,e,r⟩:=p;rwa[b,c,k _ e,r]
def yT.ex {x:Zs}{dx:Zo}{nw:Bool}(p:yT x a dx nw h):Fq x a h:=let ⟨b,f,e,c,_,d,_⟩:=p;⟨b,f,e,c,d⟩
def Ba (d:Zs)(fs:List (Str×V))(h:Heap):Prop:=∃a,h.Ns1 d a/\(∀f,eS (fs.lookup f) (a f))/\Within a (fs.map (·.1))
noncomputable def XD (d:Zs)(fs:List (Str×V)):HO:=.ext (Ba d fs)
def Ba.fy {fs:List (Str×V)}(p:Ba d fs h)(k:∀o,h.get? d\o->g.get? d\o):Ba d fs g:=by
 let⟨a,n,r⟩:=p;rwa[a,n.at k,r]
def zQ {x:Zs}{b:Zo}{c:Bool}(p:yT x a b c h):bV P w H h x (XO x a b c):=⟨p,let ⟨d,_,e,_⟩:=p;⟨d,e⟩,λ_ _ q k=>q.fy k⟩
def MK {fs:List (Str×V)}(p:Ba d fs h):bV P w H h d (XD d fs):=⟨p,let ⟨_,⟨o,_,_,e,_⟩,_⟩:=p;⟨o,e⟩,λ_ _ q k=>q.fy k⟩
noncomputable def mE:Zk->Bool
 |.ref _::r=>mE r
 |l=>l==Av
def FK (e:mE N=true):(∃c r,N=↑c::r/\mE r=true)\/N=Av:=by
 cases N with
 |nil=>exact .inr (ajS.mp e)
 |cons c r=>cases c <;> first|rwa[.inl ⟨_,_,rfl,e⟩]|rwa[.inr (ajS.mp e)]
theorem qA (self:Zt):∀(l:Zk),mE l=true->refuseLoop self "__setattr__" l=pure ()/\l.contains (.type "object")=true/\l.isEmpty=false
 |[],e=>by ext e
 |v::l,e=>by
  rcases FK e with ⟨c,r,q,e⟩|q
  ·injection q with b a
   subst b a;let d:=qA self l e;rwa[[refuseLoop_ref]▸d.1,by cbv,2]
  ·rw[q];rwa[PySem.F.store_ValueError.passes self,42]
structure Bb (K:Za1) (C:Zs):Prop where
 mr:(clsIn K C).any (λcd=>mE cd.mro)=true
 hd:hasDictIn K C=true
 sa:findIn K ↑C "__setattr__"=some (some (.builtin "object.__setattr__"))
 ga:findIn K ↑C "__getattribute__"=some (some (.builtin "BaseException.__getattribute__"))
 gt:findIn K ↑C "__getattr__"=some none
 be:subIn K ↑C (.type "BaseException")\true
section
variable {prog:Program}{w:World}{A:Around}{R:Result->Zu->Prop}{s:Zu}{K:Za1}{x C:Zs}{name:Str}{v:Zt}
theorem Ed {y:Obj}{n:Option Obj}{g:Tok}(X:K.In s.heap)(I:PySem.W.InstAt s.heap x y C n)(l:(clsIn K C).any (λcd=>mE cd.mro)=true)(u:takerIn K C name\none)
 (h:∀b,(prog<|>w) A.in1 (storeInOwnDict ↑x ↑C (.str name g) name v b)
  (λfin d=>match fin with|.done f=>R (.ok f) d|.again i=>i.quiet=true/\codeAny (model prog w) A i R d) (λe d=>R (.error e) d) s):
 codeAny (model prog w) A (.call (.builtin "object.__setattr__") ⟨[↑x,.str name g,v],[]⟩) R s:=by
 let c:=PySem.F.store_object;let⟨cd,p,o⟩:=any_some l;let⟨m,B,z⟩:=qA ↑x _ o;let sub:Looks (model prog w) s.heap (isInstance ↑x (.type "object")) true:=I.type.andThen (looks_mroIn X (by unfold mroIn;cbv));rwa[aiH c.slot.plain c.entry (@check_slot (model prog w) _ _ s "object.__setattr__" "object" "__setattr__" ↑x [.str name g,v] [] _ c.kind c.split sub (c.args ↑x (.str name g) v) ?_)];let⟨attr,j,r⟩:=Option.bind_eq_some_iff.mp u;let hm:Looks (model prog w) s.heap (mroOf ↑C) cd.mro:=(looks_clsIn X p).andThen .now
 let t:Looks (model prog w) s.heap (storeTaker? attr) none:=by
  cases attr with
  |none=>exact .now
  |some a=>
   let⟨b,k,q⟩:=ah1.mp r;rwa[(looks_takesIn X k).andThen ?_]
   cases b with
   |true=>ext q
   |false=>exact .now
 rw[osa_eq,refuse_eq];rwa[agI (agI (I.type.here (agI (hm.here ?_))))];rw[m];rwa[agP (agI (I.type.here (agI ((looks_findIn X j).here (agI (t.here ?_))))))];rwa[h _]
theorem YY {ns:Zp}{g:Obj}{B:Zm}(X:K.In s.heap)(c:Bb K C)(z:s.heap.get? x\g)(i:g.cls=↑C)(u:g.data=.fields B)(N:takerIn K C name\none)
 (f:g.dict\d) (t:s.heap.Ns1 d M) (L:PySem.Within M ns) (O:⇑ns<=sizeLine)
 (h:∀j,j.Ns1 d (λy=>if y=name then some v else M y)->Heap.SameBut d s.heap j->U () { s with heap:=j,toks:=s.toks+ 2 }):
 (prog<|>w) A (setAttr ↑x name v) U E s:=by
 let⟨P,H,F,p⟩:=g;dsimp only at i u f;subst i u f;let⟨q,T,Q,D,r⟩:=id t;let J:PySem.W.InstAt s.heap x ⟨↑C,some d,.fields B,p⟩ C (some q):=⟨z,22,D⟩;rwa[set_plain X J c.sa (Ed (s:={ s with toks:=s.toks+ 1 }) X J c.mr N λb=>?_)];let⟨S,i,o⟩:=any_some c.hd;rwa[agI (agP (agI (agI (wpAny_loadPart z (agI (Looks.here (s:={ s with toks:=s.toks+ 1 }) (looks_clsIn X i) ?_))))))];rw[o];rwa[agP (a:=some d) (agI (agP (agI ?_)))];rwa[wpAny_nsSet1 (s:={ s with toks:=s.toks+ 1 }) t λj e n=>?_]
 let⟨q,G,I,m,l,k⟩:=e.count (PySem.Within.cons name v L);rwa[agI (wpAny_lookBehind m ([l]▸pastItsLine_dict (ag3 k (by rw[ahi];omega))) ?_)];rwa[agP (h _ e n)]
theorem VH {f:Obj}{D:Zm}(X:K.In s.heap)(c:Bb K C)(p:s.heap.get? x\f)(n:f.cls=↑C)(F:f.data=.fields D)(O:takerIn K C name\none)(l:f.dict=none)
 (h:∀j,j.Ns1 ↥s (λy=>if y=name then some v else none)->j.get? x\{ f with dict:=some ↥s }->(∀b o,b≠x->s.heap.get? b\o->j.get? b\o)->U () { s with heap:=j,toks:=s.toks+ 2 }):
 (prog<|>w) A (setAttr ↑x name v) U E s:=by
 let⟨Q,L,H,m⟩:=f;dsimp only at n F l;subst n F l;let J:PySem.W.InstAt s.heap x ⟨↑C,none,.fields D,m⟩ C none:=⟨p,22,True.intro⟩;rwa[set_plain X J c.sa (Ed (s:={ s with toks:=s.toks+ 1 }) X J c.mr O λb=>?_)];let⟨S,n,z⟩:=any_some c.hd;rwa[agI (agP (agI (agI (wpAny_loadPart p (agI (Looks.here (s:={ s with toks:=s.toks+ 1 }) (looks_clsIn X n) ?_))))))];rw[z];let d:(s.heap.push ("dict">>>.dict #[])).get? x\⟨↑C,none,.fields D,m⟩:=agL _ p;let i:x≠↥s:=ahk (ag8 p);rwa[agI (wpAny_alloc' ?_)];rwa[agI (wpAny_update' d ?_)];rwa[agP (a:=some ↥s) (agI (agP (agI ?_)))]
 let B:((s.heap.push ("dict">>>.dict #[])).update x λo=>{ cls:=o.cls,dict:=some ↥s,data:=o.data,slots:=o.slots }).get? ↥s
  =some ("dict">>>.dict #[]):=(Heap.get?_update_ne _ _ _ _ i.symm).trans (Heap.get?_push_at rfl rfl)
 let u:((s.heap.push ("dict">>>.dict #[])).update x λo=>{ cls:=o.cls,dict:=some ↥s,data:=o.data,slots:=o.slots }).Ns ↥s (λ_=>none):=
  ⟨_,#[],_,B,2,λe M=>absurd M (by simp),λ_=>rfl⟩
 rwa[wpAny_nsSet1 (s:={ s with heap:=(s.heap.push ("dict">>>.dict #[])).update x λo=>{ cls:=o.cls,dict:=some ↥s,data:=o.data,slots:=o.slots },toks:=s.toks+ 1 }) (Heap.Ns1.of_empty u) λj k g=>?_]
 let⟨P,I,N,t,r,q⟩:=k.count (Within.cons name v Within.nil);rwa[agI (wpAny_lookBehind t ([r]▸pastItsLine_dict (ag3 q (by rw[ahi,aio,sizeLine_eq];omega))) ?_)];rwa[agP (h _ k ?_ λb o G e=>?_)]
 ·rwa[(g.2 x i).trans (ahv _ d rfl)]
 ·rwa[(g.2 b (ahk (ag8 e))).trans ((Heap.get?_update_ne _ _ _ _ G).trans (agL _ e))]
end
end L2
namespace L2
open PySem PySem.Spec PyProof.Rows PySem.Calls PySem.W
noncomputable def xR (K:Frag)(C f:Zs):Bool:=match K.lookup C with
 |some ⟨.type "type",_,.cls cd,c⟩=>(match cd.mro,c.toList with
  |.ref b::a,#v[_,_,_,_,.builtin n,_]=>b==C && n=="ValueError.__new__" && !cd.hasDel && tailIn K Av a && nsOkIn K cd.ns && nsIn K cd.ns "__init__"==some (some ↑f)
  |_,_=>false)
 |_=>false
def Pq {K:Frag}(X:K.In h)(G:h.Ns a M)(e:nsIn K a x\some v):M x\v:=by
 let⟨o,p,m,f,j,_,b⟩:=G;unfold nsIn at e;split at e
 ·rename_i c d i k l q;have:=X^q;rw[f]at this;ext this;ext j;split at e
  ·rename_i n g;ext e;rw[<-b];unfold nsFind findBy;rw[<-Array.find?_toList,g];rfl
  ·split at e <;> ext e
 ·ext e
theorem Bc (XK:K.In h)(q:xR K a b=true):∃n N nm r bs k t sub o col s D C G E B z,
 h.get? a=some (excClassObj nm r a N bs n k t sub o col s D C G E B "ValueError.__new__")/\h.Ns N z/\z "__init__"=some ↑b/\OwnTail h Av n:=by
 unfold xR at q;split at q
 ·rename_i s cls m g;split at q
  ·rename_i H n u x y v nid w e c;simp only[aiD,ajS,Bool.not_eq_true']at q;let⟨⟨⟨⟨⟨rfl,rfl⟩,f⟩,i⟩,j⟩,d⟩:=q;let⟨nm,bs,mro,A,r,F,t,sub,o,col,del⟩:=cls;dsimp only at e f j d;subst e f
   let p:m=#[u,x,y,v,some (.builtin "ValueError.__new__"),w]:=by
    let⟨l⟩:=m;simp only at c;rw[c]
   subst p;rwa[n,A,nm,r,bs,F,t,sub,o,col,s,u,x,y,v,w,_,XK^g,.of_isNs (PySem.W.isNs_of_in XK j),Pq XK (.of_isNs (PySem.W.isNs_of_in XK j)) d,PySem.W.tail_of_in XK i]
  ·ext q
 ·ext q
section
variable {prog:Program}{w:World}{A:Around}{E:Zt->Zu->Prop}{h:Heap}{g:Array GenState}{d:Drawn}{t:Nat}{os:OsState}
variable {nm q:Str}{C N:Zs}{bs bm ML:Zk}{hdct:Bool}{sn:Zp}{sub:Zk}{ab:Bool}{col:Option Bool}{dd:Zo}{k0 k1 k2 k3 k5:Zl}{B newId HV:String}
theorem vP (F:ExcBaseFacts B newId HV ML)(T:OwnTail h ML bm){u:Str->Zl}{rest:Zk}{s:Zs}{v:Obj}{Q:Fin->Zu->Prop}
 (j:h.get? C\excClassObj nm q C N bs bm hdct sn sub ab col dd k0 k1 k2 k3 k5 newId) (G:h.Ns N u) (H:u "__init__"=some ↑s)
 (p:h.get? s\v) (m:v.cls=.type "function")
 (D:∀n e,Heap.MadeExcOf h n e ↑C rest->
  (prog<|>w) A (call ↑s (↑e::rest)) (λr y=>r=.none/\Q (.done (.ret ↑e)) y) E ⟨n,g,d,t,os⟩) (VJ:⇑rest<=sizeLine):
 (prog<|>w) A (Builtin.«type.__call__» ⟨↑C::rest,[]⟩) Q E ⟨h,g,d,t,os⟩:=by
 repeat (first|with_reducible rwa[ajJ j ?_]|with_reducible rwa[wpAny_madeBy_exc j ?_]|wp_step)
 rwa[codeAny_call_builtin_code (Code.quiet_builtin _ F.quiet) (wpAny_check_new_subT F T j ?_)];rwa[codeAny_exc_new_subT F T j ?_ VJ];show wpAny _ _ _ _ _ _
 let a:=agL { cls:=↑C,data:=.fields #[↑h.objs.size,.none,.none,.none,.bool false,.none] }
  (agL ("tuple">>>.seq rest.toArray) j)
 let c:=agL { cls:=↑C,data:=.fields #[↑h.objs.size,.none,.none,.none,.bool false,.none] }
  (agL ("tuple">>>.seq rest.toArray) p)
 let i:((h.push ("tuple">>>.seq rest.toArray)).push { cls:=↑C,data:=.fields #[↑h.objs.size,.none,.none,.none,.bool false,.none] }).Ns N u:=
  let ⟨o,M,J,e,r⟩:=G;⟨o,M,J,agL _ (agL _ e),r⟩
 let f:((h.push ("tuple">>>.seq rest.toArray)).push
  { cls:=↑C,data:=.fields #[↑h.objs.size,.none,.none,.none,.bool false,.none] }).get? (h.objs.size+ 1)=some
  { cls:=↑C,data:=.fields #[↑h.objs.size,.none,.none,.none,.bool false,.none] }:=by heap_get
 let l:(Value.ref C::bm).contains ↑C=true:=by simp
 let k:=T.keeps (h':=(h.push ("tuple">>>.seq rest.toArray)).push { cls:=↑C,data:=.fields #[↑h.objs.size,.none,.none,.none,.bool false,.none] })
  λb o e=>agL _ (agL _ e)
 unfold isInstance
 repeat (first|with_reducible rwa[ajJ f ?_]|(with_reducible rwa[wpAny_isSubtype_exc a ?_];rw[l])|wp_step)
 show wpAny _ _ (typeLookup ↑C _) _ _ _;rwa[wpAny_typeLookup_tail a i k F.mroIs F.init.lookup ?_];rw[H];rwa[ahY (agI ?_)];unfold bindSpecial;rwa[agI (ajk (T:="function") ⟨_,c,m⟩ ?_)];rw[ahf ⋯];rwa[agP (agI (ahN (D _ (h.objs.size+ 1) ⟨λb o z=>agL _ (agL _ z),Heap.get?_none_of_le (aiZ _),h.objs.size,f,Heap.get?_none_of_le (agQ _),5⟩) (λr y I=>?_) λ_ _ x=>x))]
 ·rwa[agL _ (Heap.get?_push_at rfl rfl)]
 ·let⟨rfl,L⟩:=I
  wp_walk
  rwa[L]
theorem FL (F:ExcBaseFacts B newId HV ML)(T:OwnTail h ML bm){l:Str->Zl}{rest:Zk}{j:Zs}{k:Obj}{Q:Zt->Zu->Prop}
 (b:h.get? C\excClassObj nm q C N bs bm hdct sn sub ab col dd k0 k1 k2 k3 k5 newId) (o:h.Ns N l) (p:l "__init__"=some ↑j)
 (i:h.get? j\k) (f:k.cls=.type "function")
 (n:∀c e,Heap.MadeExcOf h c e ↑C rest->
  (prog<|>w) (A.under (.builtin "type.__call__" ⟨↑C::rest,[]⟩)) (call ↑j (↑e::rest)) (λr s=>r=.none/\Q ↑e s) E ⟨c,g,d,t,os⟩) (a:⇑rest<=sizeLine):
 (prog<|>w) A (call ↑C rest) Q E ⟨h,g,d,t,os⟩:=by
 let x:=tc_lookup;let v:=tc_bind ↑C;let u:(⟨h,g,d,t,os⟩:Zu).TypeIs ↑C "type":=⟨_,b,2⟩;rwa[ajG (codeAny_of_tree ?_)];show wpAny _ _ (callAny ↑C _) _ _ _
 repeat (any_goals (first|assumption|with_reducible rwa[ajJ b ?_]|wp_step))
 erw[2];rwa[codeAny_call_builtin_at (Code.quiet_builtin _ ⋯) entry_typeCall (wpAny_check_type_call_sub b (vP (VJ:=a) F T b o p i f λc e m=>?_))];rwa[n c e m]
theorem KQ {M:Model}{env:Env}{x:Sem Zt}{Q:Flow->Zu->Prop}(b:bm.contains (.type "BaseException")=true)(p:A.handled=none)
 (h:wpAny M A x (λv a=>∃e f j,v=↑e/\a.heap.get? C\excClassObj nm q C N bs bm hdct sn sub ab col dd k0 k1 k2 k3 k5 newId/\
  a.heap.get? e=some f/\f.cls=↑C/\f.data=.fields j/\j[1]?=some .none/\E ↑e a) E s):
 wpAny M A (raiseStmt env (some x) none) Q E s:=by
 let i:(Value.ref C::bm).contains (.type "BaseException")=true:=by rw[List.contains_cons,b,Bool.or_true]
 unfold raiseStmt;rwa[agI (ahN h (λv a c=>?_) λ_ _ x=>x)];let⟨e,f,j,rfl,k,m,l,n,r,y⟩:=c;let⟨D,g,d,G,os⟩:=a;let⟨z,F,o,u⟩:=f;dsimp only at l n;subst l n
 repeat (first|with_reducible rwa[ajJ m ?_]|with_reducible rwa[ajJ k ?_]|(with_reducible rwa[wpAny_isSubtype_exc k ?_];rw[i])|with_reducible rwa[agI (ahR m rfl r ?_)]|wp_step)
 all_goals rwa[wpAny_raiseNew_none p y]
end
end L2
namespace L2
open PySem PySem.Spec PyProof.Rows
inductive cZ (P:Program) (w:World) (outer:Zq) (H:Hp) (s:Zu) (E:XK) (e:Zt) (s':Zu):Prop
 |mk (x C:Zs) (dx:Zo) (B:Heap) (H':Hp):e=↑x->s'.os=s.os->AllBare s'.gens->lz B outer x ↑C dx .none s'.heap->Un (cH outer) [] H H' s.heap s'.heap->dH P w H' B->(∀b o,s.heap.get? b\o->H b=none->b∉cH outer->B.get? b\o)->(∀b o,s.heap.get? b\o->b∉cH outer->∃o',B.get? b\o')->E ↑C dx H'->cZ P w outer H s E e s'
noncomputable def del (H:Hp)(x:Zs):Hp:=λb=>if b=x then none else H b
def rM {x:Zs}(h:b≠x):del H x b=H b:=by unfold del;rw[ahc h]
def KR {x:Zs}{u:HO}(h:del H x b\u):b≠x/\H b\u:=by
 unfold del at h
 cbv
def gy:Passes (cZ P w) X (λ_ _ _=>False):=λ_ _ _ _ _ _ _ ⟨1111111111111,q⟩=>q.elim
def MN {a:Zq}(h:cZ P w a H s (λ_ _ _=>False) v t):False:=let ⟨_,_,_,_,_,_,_,_,_,_,_,_,_,q⟩:=h;q
section
variable {P:Program}{w:World}{K:Za1}{mg:Str->Zl}{base:Heap}{N:Zp}{qual:Str}{scope:Scope}{f:Zs}{cd:Zt}{A:Around}{outer:Zq}{s:Zu}{H:Hp}{E:XK}{pins:List (Zs×Obj)}{σ:St}{H1:Hp}{s1:Zu}
def pW {o:Obj}(I:Inv (cz (cZ P w) P w K mg base N qual scope f cd A outer s H E) pins σ H1 s1)(e:s.heap.get? b\o)(a:b∉cH outer):b∉cH (cz (cZ P w) P w K mg base N qual scope f cd A outer s H E).stack:=λz=>by
 rcases ag4.mp (show b∈↥s::cH outer from z) with z|z
 ·rwa[absurd (ag8 e) (by rw[z];rwa[ah2 _])]
 ·rwa[a z]
theorem Sw {x:Zs}{Q:Zo}(I:Inv (cz (cZ P w) P w K mg base N qual scope f cd A outer s H E) pins σ H1 s1)(G:H1 x\XO x a Q true)(Z:s.heap.get? x=none)(q:E ↑a Q (del H1 x)):
 (cz (cZ P w) P w K mg base N qual scope f cd A outer s H E).xe ↑x s1:=by
 let t:=I.ok.frames;let J:∀env∈(cz (cZ P w) P w K mg base N qual scope f cd A outer s H E).stack,∀b,env.frame\b->b∈x::cH (cz (cZ P w) P w K mg base N qual scope f cd A outer s H E).stack:=λenv X b k=>ahm _ (aj1.mpr ⟨env,X,k⟩)
 let y:=PySem.W.funFrames_hide I.stack J;let⟨⟨ob,vs,d,rfl',rfl,i,p⟩,_,_⟩:=I.aO x _ G;let nx:∀b o,s.heap.get? b\o->b≠x:=λb o e z=>by cbv
 let out:∀b o,s.heap.get? b\o->b∉cH outer->b∉x::cH (cz (cZ P w) P w K mg base N qual scope f cd A outer s H E).stack:=λb o e k z=>(ag4.mp z).elim (nx b o e) (pW I e k)
 rwa[KP (s:=s1) (base:=PySem.W.hideAll s1.heap (x::cH (cz (cZ P w) P w K mg base N qual scope f cd A outer s H E).stack)) (L:=↥s) t y rfl d (λb o z=>PySem.W.of_hideAll _ z) (PySem.W.hideAll_none _ (.head _)) i (p rfl).1 λF r ups=>?_]
 let O:∀b o,s.heap.get? b\o->H b=none->b∉cH outer->(PySem.W.hideAll s1.heap (x::cH (cz (cZ P w) P w K mg base N qual scope f cd A outer s H E).stack)).get? b\o:=λb o d g h=>
  ajP _ (I.base.keep b o d g h (by simp[cz])) (out b o d h)
 let R:∀b o,s.heap.get? b\o->b∉cH outer->∃j,(PySem.W.hideAll s1.heap (x::cH (cz (cZ P w) P w K mg base N qual scope f cd A outer s H E).stack)).get? b\j:=λb o d h=>by
  let⟨j,i⟩:=I.base.there b o d (by simp[cz]);rwa[j,ajP _ i (out b o d h)]
 let S:∀b o,s1.heap.get? b\o->b∈cH outer->∃C,F.get? b\{ o with slots:=C }:=λb o d g=>by
  let⟨_,o2,h,Y⟩:=I.stack.mem (show b∈cH (cz (cZ P w) P w K mg base N qual scope f cd A outer s H E).stack from ahm _ g);rw[d]at h;ext h;rwa[ups b o d Y]
 let dl:∀{b:Zs} {u:HO},H1 b\u->(∀ T,u≠.ext T)->del H1 x b\u:=λ{b u} e n=>by
  rw[rM]
  ·rwa[e]
  ·intro z;rw[z,G]at e;rwa[n _ (Za0 e).symm]
 rw[rfl']at r;rwa[⟨x,a,11,del H1 x,2,I.os,I.bare,r,⟨λb o d g h _=>r.1 b o (O b o d g h),λb o d g h _=>?_,λb o d g _=>?_,λb o d _=>?_,λb M e=>dl (I.base.iq b M e) (by cbv),λb o u e=>dl (I.base.gN b o u e) (by cbv),λb U e=>?_⟩,5,O,R,q⟩]
 ·let⟨C,i⟩:=I.base.slot b o d g h (by simp[cz]);let⟨B,p⟩:=S b _ i h;rwa[B,p]
 ·rw[rM (nx b o d)];rwa[I.base.free b o d g (by simp[cz])]
 ·by_cases k:b∈cH outer
  ·let⟨j,i⟩:=I.base.there b o d (by simp[cz]);let⟨C,p⟩:=S b j i k;rwa[_,p]
  ·let⟨j,i⟩:=R b o d k;rwa[j,r.1 b j i]
 ·let⟨m,g⟩:=I.base.iu b U e;rwa[m,dl g (by cbv)]
 ·intro b u d;let⟨V,d⟩:=KR d
  let l:∀c v,c≠x->H1 c\v->c∉x::cH (cz (cZ P w) P w K mg base N qual scope f cd A outer s H E).stack:=λc v D g z=>by
   rcases ag4.mp z with z|z
   ·rwa[D z]
   ·rw[I.oq c z]at g;ext g
  rwa[(I.aO b u d).fy (λc v D z=>ajP _ z ?_) (λc z=>dl z (by cbv)) λc M z=>dl z (by cbv)]
  rcases D with z2|z2
  ·rw[z2];rwa[l b u V d]
  ·rwa[l c _ (λz=>by rw[z,G]at z2;ext z2) z2]
def VL:Passes (cZ P w) (cz (cZ P w) P w K mg base N qual scope f cd A outer s H E) E:=by
 intro pins σ H1 s1 e U I v;let⟨x,C,G,B,J,rfl,os,bare,F,un,m,z,M,q⟩:=v;rwa[Pp (L:=↥s) I.ok.frames rfl F λu j ups=>?_]
 let p:∀b o,s.heap.get? b\o->H b=none->b∉cH outer->B.get? b\o:=λb o a d c=>
  z b o (I.base.keep b o a d c (by simp[cz])) (I.base.free b o a d (by simp[cz])) (pW I a c)
 let n:∀b o,s.heap.get? b\o->b∉cH outer->∃h,B.get? b\h:=λb o a c=>by
  let⟨h,g⟩:=I.base.there b o a (by simp[cz]);rwa[M b h g (pW I a c)]
 let O:∀b o,s1.heap.get? b\o->b∈cH outer->∃r,u.get? b\{ o with slots:=r }:=λb o a d=>by
  let k:b∈cH (cz (cZ P w) P w K mg base N qual scope f cd A outer s H E).stack:=ahm _ d;let⟨_,T,c,Q⟩:=I.stack.mem k;rw[a]at c;ext c;let⟨r,g⟩:=un.slot b o a (I.oq b k) k (by simp);let⟨i,t⟩:=ups b _ g Q;rwa[i,t]
 rwa[⟨x,C,G,B,J,2,os.trans I.os,bare,j,⟨λb o a d c _=>j.1 b o (p b o a d c),λb o a d c _=>?_,λb o a d _=>?_,λb o a _=>?_,λb l a=>un.iq b l (I.base.iq b l a),λb o l a=>un.gN b o l (I.base.gN b o l a),λb D a=>?_⟩,m,p,n,q⟩]
 ·let⟨r,g⟩:=I.base.slot b o a d c (by simp[cz]);let⟨i,t⟩:=O b _ g c;rwa[i,t]
 ·let⟨h,g⟩:=I.base.there b o a (by simp[cz]);rwa[un.free b h g (I.base.free b o a d (by simp[cz])) (by simp)]
 ·by_cases y:b∈cH outer
  ·let⟨h,g⟩:=I.base.there b o a (by simp[cz])
   cbv
  ·let⟨h,g⟩:=n b o a y;rwa[h,j.1 b h g]
 ·let⟨R,d⟩:=I.base.iu b D a;let⟨S,c⟩:=un.iu b _ d
  cbv
end
section
variable {P:Program}{w:World}{K:Za1}{mg:Str->Zl}{base:Heap}
theorem qW.Sx {qual:Str}{st:Stmt}{fd:FuncData}{f:Zp}{k:Nat}{sp:Sp}(F:qW K x qual st a fd)(S:aS Z f (aB st))(len:∀d H Q E,sp d H Q E->⇑d=⇑f)
 (c:∀(b:Zt) (A:Around) (outer:Zq) (s:Zu) (H:Hp) (d:Zb) (Q:VK) (E:XK),cy k (A.deeper (envOfC qual (aB st) ↥s a b))->sp d H Q E->
  ∃t,iS (cz (cZ P w) P w K mg base Z qual (aB st) a b A outer s H E) (cE st) t/\t { nx:=λ_ i=>Q .non i,rt:=Q } (start Z d) H):du P w K mg base (cZ P w) (k+ 1) a fd f sp:=by
 let⟨l,m,kV,doc,pm,n,b,ct,j,rfl,lk,g⟩:=F.ex;rwa[zO lk g S len λA outer s H d Q E h e=>c b A outer s H d Q E h e]
end
section
variable {X:Cx}{pins:List (Zs×Obj)}{σ:St}{H:Hp}{s:Zu}{h':Heap}{e C:Zs}{vs:Zk}
def Inv.VM (I:Inv X pins σ H s)(hm:Heap.MadeExcOf s.heap h' e ↑C vs)(hex:X.ex=[]):H e=none/\X.eB.heap.get? e=none/\Inv X pins σ (upd H e (XO e C none true)) (s<*h'):=by
 let a:H e=none:=by
  cases q:H e with
  |none=>rfl
  |some u=>
   let⟨o,d⟩:=(I.aO e u q).get;rw[hm.new]at d;ext d
 let ne:∀b o,s.heap.get? b\o->b≠e:=λb o q z=>by rw[z,hm.new]at q;ext q
 let h:X.eB.heap.get? e=none:=by
  cases q:X.eB.heap.get? e with
  |none=>rfl
  |some o=>
   let⟨j,d⟩:=I.base.there e o q (by rw[hex];simp)
   cbv
 rwa[⟨a,h,I.un (t':=s.toks) ⟨λb u q _ _ _=>hm.keeps b u q,λb u q _ _ _=>⟨u.slots,hm.keeps b u q⟩,λb u q n _=>[ak (ne b u q)]▸n,λb u q _=>⟨u,hm.keeps b u q⟩,λb f q=>[ak (ax q a)]▸q,λb u f q=>[ak (ax q a)]▸q,λb k q=>⟨#[],by rw[ak (ax q a),q];simp⟩⟩ λb u q=>?_⟩];by_cases g:b=e
 ·subst g;rw[ah]at q;ext q;let⟨t,i,_,_⟩:=hm.there;rwa[zQ ⟨11,i,222,λ_=>⟨212⟩⟩]
 ·rw[ak g]at q;rwa[(I.aO b u q).fy (λc v _ q=>hm.keeps c v q) (λc q=>[ak (ax q a)]▸q) λc f q=>[ak (ax q a)]▸q]
end
section
variable {X:Cx}{k:Nat}{f C:Zs}{fd:FuncData}{ps:Zp}{sp:Sp}{x:Str}{p pos cG:Pos}{e:Expr}{es:Zr}{t:TA}{E:XK}
def WC (X:Cx)(C:Zs)(E:XK):Prop:=∀(a:List (Zs×Obj)) (c:St) (H:Hp) (s:Zu) (x:Zs) (b:Zo),Inv X a c H s->H x\XO x C b true->X.eB.heap.get? x=none->E ↑C b (del H x)->X.xe ↑x s
def lvD {base:Heap}{qual:Str}{scope:Scope}{f C:Zs}{a:Zq}{E:XK}:WC (cz (cZ P w) P w K M base Z qual scope f v A a s H E) C E:=λ_ _ _ _ _ _ I c b q=>Sw I c b q
def Pu (C:Zs)(sp:Sp)(E:XK)(t:TA):TS:=λ_ g H=>t g H λd b=>∀x,b x=none->sp (↑x::d) (upd b x (XO x C none true)) (λv c=>v=.non/\∃a,c x\XO x C a true/\E ↑C a (del c x)) (λ_ _ _=>False)
theorem HW (F:du X.prog X.w X.K X.mg X.base (cZ X.prog X.w) k f fd ps sp)(hr:cy (k+ 1) X.A)(hb:Binds X.K fd ps [])(hc:X.calm=true)(hg:Gl X x)(hm:X.mg x\↑C)(hC:xR X.K C f=true)(hf:PySem.W.isFn X.K ↑f=true)(hk:PySem.W.keepIn X.K ↑C=true)
 (ha:PA X (e::es) t) (lv:WC X C E) (hex:X.ex=[]:=by rfl) (Bd:⇑ps<=1000:=by decide) (O:(x==("__debug__":Str))=false:=by decide) (he:starEach (e::es) X.env=(false,eval e X.env)::starEach es X.env:=by rfl) (G:(backTo cG (starEach es X.env)).any (·.1)=false:=by rfl):
 PS X (.Raise (some (.Call (.Name x p) (e::es) [] cG)) none pos) (Pu C sp E t):=by
 intro c s T H D I h;let⟨Y,N,nm,qn,bs,i,sn,sub,ab,col,dd,R,Q,k2,k3,k5,mN,S,o2,o3,W⟩:=Bc I.ok.mod.vn hC;let kp:∀{L M n},Inv X c L M n->∀b o,X.base.get? b\o->n.heap.get? b\o:=λJ b o q=>(J.bs b o q).1
 rw[arm_exec_Raise];rwa[agI (ajF (KQ (C:=C) (nm:=nm) (q:=qn) (N:=N) (bs:=bs) (bm:=Y) (hdct:=i) (sn:=sn) (sub:=sub) (ab:=ab) (col:=col) (dd:=dd) (k0:=R) (k1:=Q) (k2:=k2) (k3:=k3) (k5:=k5) (newId:="ValueError.__new__") (W.hasType ⋯) (I.ok.hd hc) (agI (ahN (E:=X.xe) ?_ (λv afr m=>agI (ajF (agP m))) λ_ _ x=>x))))];rwa[ahW (j7 I hg hm ?_ O)];rwa[aju (h₀:=X.base) I.ok.mod.vn hk (a9 (ha cG c s T H _ I h) λus s1 ζ=>?_) he G];let⟨vs,H1,j,r,q⟩:=ζ;rwa[⟨j.dw,5⟩];let⟨oI,w,P⟩:=ah1.mp (ajS.mp hf)
 let len:⇑us<=1000:=by
  let h1:=F.len _ _ _ _ (q (↥s1) (j.aO.fresh (agQ _)));rw[ahi]at h1;rw[<-⇑r];ext
 let⟨hh,g,d,tk,os⟩:=s1;rwa[FL (A:=X.A) aiT (W.keeps (kp j)) (kp j _ _ S) (o2.keeps (kp j)) o3 (j.dw^w) P (λh' y z=>?_) (ag3 len ⋯)];let⟨hn,h0,J⟩:=j.VM z hex;let hq:=q y hn;let Z:Vals (V.ref y::vs) (Value.ref y::us):=.cons rfl r
 let hl:⇑(Value.ref y::us++[])=⇑ps:=by
  rw[ahl,<-⇑Z];rwa[F.len _ _ _ _ hq]
 let l:=hb _ (Value.ref y::us) J.dw hl;rw[ahl]at l;rwa[ajG (ajj (F.run _ X.stack _ _ ⟨Value.ref y::us,[]⟩ (Value.ref y::us) _ _ _ (hr.make C us []) (J.Ac.make C us []) l Z hq) λr n a=>?_)]
 cases r with
 |error e=>exact(MN a).elim
 |ok fl=>
  cases fl with
  |ret u=>
   let⟨v,M,B,rv,ev,dx,hx,q3⟩:=J.after a;subst ev;let⟨⟨ob,ws,a1,a2,a3,a4,a5⟩,_,_⟩:=B.aO y _ hx;rwa[rv,y,ob,ws,2,kp B _ _ S,a1,a2,a4,(a5 rfl).1,lv c T M n y dx B hx h0 q3]
  |next=>exact False.elim a
  |brk=>exact False.elim a
  |cont=>exact False.elim a
end
end L2
namespace L2
open PySem PySem.Spec PyProof.Rows PySem.W
section
variable {M:Model}{A:Around}{E:Zt->Zu->Prop}{s:Zu}{x a:Zs}{ob:Obj}{vs:Zm}{tv:Zt}
theorem KS {Q:Fin->Zu->Prop}(e:s.heap.get? x\ob)(d:ob.data=.fields vs)(c:vs[0]?\↑a)
 (h:Q (.done (.ret .none)) { s with heap:=(s.heap.push ("tuple">>>.seq #[tv])).update x (Obj.mapFields (·.setIfInBounds 0 ↑↥s)) }):wpAny M A (Builtin.«BaseException.__init__» ⟨[↑x,tv],[]⟩) Q E s:=by
 let b:=agL ("tuple">>>.seq #[tv]) e;unfold Builtin.«BaseException.__init__»;rwa[agI (wpAny_newTuple ?_)];unfold Builtin.BaseException.bexcPut;rwa[agI (agI (ahR b d c (agI (ai0 b d (ait.mp c).1 ?_))))]
 wp_walk
 rwa[h]
end
section
variable {X:Cx}{Y:Zs}{y f:Str}{np apos pos pos':Pos}{e:Expr}{es:Zr}{t:TA}
structure KW (K:Za1) (Y:Zs):Prop where
 sp:specialIn K ↑Y "__getattribute__"=some (some (.builtin "type.__getattribute__"))
 rd:readsIn K Y (.type "type")=true
 fc:(match findCls K ↑Y (.type "type") "__init__" with|some (.val (.builtin i))=>i=="ValueError.__init__" | _=>false)=true
def KW.find {Y:Zs}(b:KW K Y):findCls K ↑Y (.type "type") "__init__"=some (.val (.builtin "ValueError.__init__")):=by
 have:=b.fc
 cbv
def YZ (C:Zs)(t:TA):TE:=λ d H Q=>t d H λc a=>∃(x:Zs) (b:Zo) (l:Zh),c=[↑x,.str (tx l)]/\a x\XO x C b true/\Q .non a
def KY {pl:Sem Bool}(Z:xR X.K a b=true)(v:KW X.K Y)(hg:Gl X y)(U:X.mg y\↑Y)(R:PA X (e::es) t)(D:(y==("__debug__":Str))=false:=by decide)
 (B:starEach (e::es) X.env=(false,eval e X.env)::starEach es X.env:=by rfl) (p:(backTo pos (starEach es X.env)).any (·.1)=false:=by rfl)
 (ht:eval (.Call (.Attribute (.Name y np) "__init__" apos) (e::es) [] pos) X.env=(do
  let P <-eval (.Name y np) X.env
  standAt apos.atName
  let (f,first) <-holding [P] (getMethod P "__init__" pl)
  callWith pos f first (backTo pos (starEach (e::es) X.env)) (backToKw pos (keywordEach [] X.env))):=by rfl):
 PE X (.Call (.Attribute (.Name y np) "__init__" apos) (e::es) [] pos) (YZ a t):=by
 intro j s σ H Q I h;rwa[methodCall_KW (pl:=pl) (j7 I hg U ?_ D) ht];rwa[method_cls I.dw v.sp (cls_value I.dw v.rd v.find rfl ?_)];rwa[PyProof.Rows.callWith_builtin1 (a9 (R pos j _ σ H _ (I.tok _) h) λus s1 ζ=>?_) B p];let⟨vs,n,A,r,x,L,l,S,C,q⟩:=ζ;subst S;let⟨u,O,rfl,rx,ry⟩:=vals2 r;ext rx;let⟨bm,N,nm,qn,bs,G,sn,sub,ab,col,dd,k0,k1,k2,k3,k5,mN,o1,o2,o3,o4⟩:=Bc I.ok.mod.vn Z;let kp:∀c o,X.base.get? c\o->s1.heap.get? c\o:=λc o q=>(A.bs c o q).1
 let⟨⟨ob,ws,m,M,T,E,V⟩,_,_⟩:=A.aO x _ C;let⟨b1,d,F⟩:=V rfl;let⟨g,gg,dr,tk,os⟩:=s1;rwa[ajG (aiH aiT.init.plain aiT.initEntry (wpAny_check_init_subT aiT (o4.keeps kp) (kp^o1) m M ?_))];rwa[KS m E F ?_];let lH:x≠g.objs.size:=ahk (ag8 m);let w:=agL ("tuple">>>.seq #[O]) m;let i:=aip E (·.setIfInBounds 0 (Value.ref g.objs.size));let k:=ahv (Obj.mapFields (·.setIfInBounds 0 (Value.ref g.objs.size))) w (aiX i)
 let J:=A.write (h':=(g.push ("tuple">>>.seq #[O])).update x (Obj.mapFields (·.setIfInBounds 0 ↑g.objs.size))) (t':=tk) (o:=XO x a L true) (x:=x) (e:=x) ([C]▸True.intro) (.inl rfl) (λc u W z=>(ahx^ah5 W).trans (agL _ z)) ⟨_,k⟩
  (zQ ⟨11,k,(Obj.cls_mapFields _ _).trans M,(yS _ _).trans T,i,λ_=>⟨by cbv,g.objs.size,by simp[(ait.mp F).1]⟩⟩)
 let eH:upd n x (XO x a L true)=n:=by
  funext c
  by_cases z:c=x
  ·rw[z,ah,C]
  ·rw[ak z]
 rw[eH]at J;rwa[.non,n,J,2,q]
def VN (K:Za1)(i k:TE)(f:Str):TS:=λD c H=>k c H λy j=>i c j λx b=>∃(a C:Zs) (g:Zo) (h:Bool),x=↑a/\b a\XO a C g h/\Bb K C/\kP K C f/\
 match g with
 |none=>∀d,b d=none->D.nx c (upd (upd b d (XD d [(f,y)])) a (XO a C (some d) h))
 |some d=>∃fs,d≠a/\b d\XD d fs/\⇑fs<1000/\D.nx c (upd b d (XD d (bL f y fs)))
def HX {fs:List (Str×V)}{mA:Str->Zl}{y:V}(r:∀f,eS (fs.lookup f) (mA f))(b:PySem.Within mA (fs.map (·.1)))(a:RelV y u):(∀g,eS ((bL f y fs).lookup g) (if g=f then some u else mA g))/\PySem.Within (λg=>if g=f then some u else mA g) ((bL f y fs).map (·.1)):=by
 rwa[⟨λg=>?_,λg c=>?_⟩]
 ·rw[nY];by_cases q:g=f
  ·rw[ahf q,ahf q];rwa[a]
  cbv
 ·by_cases q:g=f
  ·rw[q];rwa[(kO f y fs).1]
  ·rwa[(kO f y fs).2 g (b g λz=>c ?_)]
   cbv
def Ee {o value:Expr}{S U:TE}(ha:PE X o S)(hv:PE X value U)(hs:swapsWith value (some (.Attribute o f pos')) pos.line X.env=pure false):PS X (.Assign [.Attribute o f pos'] value pos) (VN X.K S U f):=by
 intro j s A H D I h;rwa[plainObj_wpAny_Assign_Attribute (a9 (hv j s A H _ I h) λu V ζ=>?_) hs];let⟨y,H1,I1,Q,q⟩:=ζ;rwa[a9 (ha j V A H1 _ I1 q) λov s2 ζ=>?_];let⟨x,H2,k,rx,a,C,dx,nw,ex,T,c,n,m⟩:=ζ;subst ex;obtain rfl:ov=Value.ref a:=rx;let⟨⟨ob,vs,G,M,P,B,a5⟩,_,_⟩:=k.aO a _ T
 cases dx with
 |some d=>
  let⟨fs,nd,R,hl,m⟩:=m;let⟨⟨Z,hn,r,O⟩,_,_⟩:=k.aO d _ R;rwa[YY k.dw c G M B n.Fd P hn O (by rw[agO,sizeLine_eq];omega) λv i W=>?_]
  let⟨F,L⟩:=HX (f:=f) r O Q;let⟨p,_,_,w,_⟩:=id i;rwa[A,_,k.write (x:=d) (e:=d) ([R]▸True.intro) (.inl rfl) (λb u E z=>(W.2 b E).trans z) ⟨p,w⟩ (MK ⟨_,i,F,L⟩),m]
 |none=>
  rwa[VH k.dw c G M B n.Fd P λv i l kp=>?_]
  let hd:H2 ↥s2=none:=k.aO.fresh (agQ _);let N:↥s2≠a:=ah0 (ag8 G);let⟨p,es,ep,w,r'⟩:=id i;let⟨F,L⟩:=HX (fs:=[]) (mA:=λ_=>none) (f:=f) (λ_=>True.intro) (λg hg=>absurd rfl hg) Q;let J:=k.laid (a:=↥s2) (o:=XD ↥s2 [(f,y)]) (h':=s2.heap.push p) (t':=s2.toks) (λb u z=>agL _ z) (agQ _) (MK ⟨_,⟨p,es,ep,Heap.get?_push_at rfl (Heap.get?_some_iff.mp w).2,r'⟩,F,L⟩);rwa[⟨A,_,J.write (h':=v) (x:=a) (e:=a) (o:=XO a C (some ↥s2) nw) ([ak N.symm,T]▸True.intro) (.inl rfl) (λb u E z=>?_) ⟨_,l⟩ (zQ ⟨11,l,M,2,B,a5⟩),m _ hd⟩];rcases Heap.get?_push_cases z with ⟨rfl,rfl⟩|z
  ·rwa[w]
  ·rwa[kp b u E z]
inductive Y0 (K:Za1) (f:Str) (x:V) (H:Hp) (Q:VK):Prop
 |mk (a C d:Zs) (nw:Bool) (fs:List (Str×V)) (v:V):x=↑a->H a\XO a C (some d) nw->H d\XD d fs->Bb K C->kP K C f->fs.lookup f\v->Q v H->Y0 K f x H Q
end
end L2
namespace L2
open PySem PySem.Spec PyProof.Rows
def eZ (X:Cx)(a:List (Zs×Obj))(g:St)(d:Hp)(x C:Zs)(e:Zo)(s:Zu):Prop:=
 ∃(B:Heap) (c:Hp) (s1:Zu),Inv X a g c s1/\s.os=s1.os/\AllBare s.gens/\lz B X.stack x ↑C e .none s.heap/\Un (cH X.stack) [] c d s1.heap s.heap/\dH X.prog X.w d B/\
  (∀b o,s1.heap.get? b\o->c b=none->b∉cH X.stack->B.get? b\o)/\(∀b o,s1.heap.get? b\o->b∉cH X.stack->∃f,B.get? b\f)
section
variable {X:Cx}{pins:List (Zs×Obj)}{σ:St}{H':Hp}{x C:Zs}{dx:Zo}{s:Zu}
def eZ.of {E:XK}(I:Inv X pins σ H t)(b:cZ X.prog X.w X.stack H t E v s):∃x C dx H',v=↑x/\eZ X pins σ H' x C dx s/\E ↑C dx H':=by
 let⟨x,C,dx,B,H',rfl,os,bare,fl,un,a,c,d,q⟩:=b;rwa[x,C,dx,H',2,⟨B,H,t,I,os,bare,fl,un,a,c,d⟩,q]
theorem eZ.step {fl:Zt}{s1:Zu}(I:Inv X pins σ H s1)(os:s.os=s1.os)(bare:AllBare s.gens)(un:Un (cH X.stack) [] H H' s1.heap s.heap)(aO:dH X.prog X.w H' g)
 (n:∀b o,s1.heap.get? b\o->H b=none->b∉cH X.stack->g.get? b\o) (p:∀b o,s1.heap.get? b\o->b∉cH X.stack->∃f,g.get? b\f) (a:lz g X.stack x ↑C dx .none h) (u:s.heap.UpToSlots h):eZ X pins σ H' x C dx (s<*h):=by
 let q:∀b o,s1.heap.get? b\o->b∈cH X.stack->∃sl,h.get? b\{ o with slots:=sl }:=λb o e c=>by
  let⟨t,i,r⟩:=I.Mv c;rw[e]at i;ext i;let⟨sl,k⟩:=un.slot b o e (I.oq b c) c (by simp);let⟨l,m⟩:=u b _ k r;rwa[l,m]
 rwa[⟨g,H,s1,I,os,bare,a,⟨λb o d i j _=>a.1 b o (n b o d i j),λb o d _ j _=>q b o d j,un.free,λb o d _=>?_,un.iq,un.gN,un.iu⟩,aO,n,p⟩];by_cases c:b∈cH X.stack
 ·let⟨sl,m⟩:=q b o d c;rwa[_,m]
 ·let⟨f,k⟩:=p b o d c;rwa[f,a.1 b f k]
theorem eZ.look (t:eZ X pins σ H' x C dx s)(a:X.stack=X.env::X.outer)(g:X.env.frame\X.env.locals)(hA:A.frames\X.stack)
 (h:∀d,eZ X pins σ H' x C dx (s<*d)->U () (s<*d)):
 X⁻¹ A (noteFrame ↑x X.env) (λ_ m=>X⁻¹ A (setFlight ↑x none) U E m) E s:=by
 let⟨B,p,o,I,os,bare,fl,un,aO,e,j⟩:=t;let b:=fl;rw[a]at b;rwa[MJ (base:=B) (hA.trans (by rw[a])) g b λi f l=>?_]
 rwa[vO (s:=(s<*i)) f λn c k=>h n (eZ.step (fl:=.none) I os bare un aO e j ([a]▸c) (l.trans k))]
theorem eZ.again (t:eZ X pins σ H' x C dx s)(h:∀b,eZ X pins σ H' x C dx (s<*b)->U () (s<*b)):
 X⁻¹ A (setFlight ↑x none) U E s:=by
 let⟨B,g,f,I,os,bare,fl,un,aO,c,d⟩:=t;rwa[vO fl λe a u=>h e (eZ.step (fl:=.none) I os bare un aO c d a u)]
def eZ.inv (t:eZ X pins σ H' x C dx s):Inv X pins σ H' s:=by
 let⟨B,d,a,I,os,bare,fl,un,aO,c,e⟩:=t;rwa[I.E5 (ch:=[]) os un (aO.kept fl.1) bare (λb z=>absurd z (by simp))]
def eZ.none (t:eZ X pins σ H' x C dx s):H' x=none:=by
 let⟨B,d,b,I,os,bare,fl,un,aO,c,f⟩:=t
 cases e:H' x with
 |none=>rfl
 |some u=>
  let⟨o,a⟩:=(aO x u e).get;rw[fl.2.1]at a;ext a
def eZ.at (t:eZ X pins σ H' x C dx s):yT x C dx false s.heap:=by
 let⟨B,f,d,I,os,bare,fl,un,aO,e,g⟩:=t;let⟨_,_,_,a,c,_,_,_,b,hc,hd,_⟩:=fl;rwa[a,c,b,hc.1,hc.2,hd,λz=>by ext z]
def eZ.Y1 (t:eZ X pins σ H' x C dx s):Inv X pins σ (upd H' x (XO x C dx false)) s:=by
 let r:=t.none;let h:=t.at;let⟨B,p,n,I,os,bare,fl,un,aO,k,E⟩:=t;let⟨A,G,D,_,_,hd,_⟩:=id h;let ne:∀b u,H' b\u->b≠x:=λb u e z=>by cbv
 rwa[I.E5 (ch:=[]) os ⟨un.keep,un.slot,λb o d f j=>?_,un.there,λb g e=>?_,λb o u e=>?_,λb l e=>?_⟩ (λb u e=>?_) bare (λb z=>absurd z (by simp))]
 ·rwa[(ak ?_).trans (un.free b o d f j)];rintro rfl;by_cases a:b∈cH X.stack
  ·let⟨w,i,F⟩:=I.Mv a;rw[d]at i;ext i;let⟨sl,y⟩:=un.slot b o d f a (by simp)
   cbv
  ·have:=k b o d f a;rw[fl.2.1]at this
   cbv
 ·have:=un.iq b g e;rw[ak (ne^this)];ext
 ·have:=un.gN b o u e;rw[ak (ne^this)];ext
 ·let⟨m,this⟩:=un.iu b l e;rwa[m,by rw[ak (ne^this)];ext]
 ·by_cases a:b=x
  ·subst a;rw[ah]at e;ext e;rwa[zQ h]
  ·rw[ak a]at e;rwa[(aO b u e).fy (λc v _ q=>fl.1 c v q) (λc q=>[ak (ne^q)]▸q) λc g q=>[ak (ne^q)]▸q]
end
abbrev HY:=Zs->Zo->St->Hp->Prop
abbrev MP:=St->Hp->VK->HY->Prop
abbrev yU:=Ends->HY->St->Hp->Prop
def Sy (X:Cx)(a:List (Zs×Obj))(R:HY)(e:Zt)(s:Zu):Prop:=∃x C c b H,e=↑x/\eZ X a b H x C c s/\R C c b H
def WD (X:Cx)(e:Expr)(t:MP):Prop:=
 ∀(a:List (Zs×Obj)) (s:Zu) (b:St) (H:Hp) (Q:VK) (R:HY),Inv X a b H s->t b H Q R->X⁻¹ X.A (eval e X.env) (EP X a b Q) (Sy X a R) s
def Ef (X:Cx)(st:Stmt)(t:yU):Prop:=
 ∀(a:List (Zs×Obj)) (s:Zu) (b:St) (H:Hp) (D:Ends) (R:HY),Inv X a b H s->t D R b H->X⁻¹ X.A (exec st X.env) (SP X a D) (Sy X a R) s
section
variable {X:Cx}{k:Nat}{f:Zs}{fd:FuncData}{ps:Zp}{sp:Sp}{x:Str}{p pos:Pos}{e:Expr}{es:Zr}{t:TA}{ds:Zk}{dvs:Zb}
def Sz (sp:Sp)(dvs:Zb)(t:TA):MP:=λ a H Q R=>t a H λh d=>sp (h++dvs) d Q λc b g=>∃C,c=↑C/\R C b a g
theorem Be (F:du X.prog X.w X.K X.mg X.base (cZ X.prog X.w) k f fd ps sp)(G:cy k X.A)(Y:Gl X x)(B:X.mg x\↑f)(L:PySem.W.keepIn X.K ↑f=true)(D:Binds X.K fd ps ds)(P:Vals dvs ds)
 (A:PA X.tU (e::es) t) (l:(x==("__debug__":Str))=false:=by decide) (M:starEach (e::es) X.env=(false,eval e X.env)::starEach es X.env:=by rfl) (i:(backTo pos (starEach es X.env)).any (·.1)=false:=by rfl):
 WD X (.Call (.Name x p) (e::es) [] pos) (Sz sp dvs t):=by
 intro b s m H Q R I h;rwa[ahW (j7 I Y B ?_ l)];rwa[aju (h₀:=X.base) I.ok.mod.vn L (ahN (A pos b s m H _ (I.wish _) h) (λd g ζ=>?_) λ_ _ z=>False.elim z) M i];let⟨y,n,v,r,q⟩:=ζ;rwa[⟨v.dw,5⟩];let J:=v.iw;let o:Vals (y++dvs) (d++ds):=r.append P;let T:⇑(d++ds)=⇑ps:=by rw[<-⇑o];rwa[F.len _ _ _ _ q]
 rwa[ajG (ajj (F.run X.A X.stack g n ⟨d,[]⟩ (d++ds) (y++dvs) Q _ G J.Ac (D g d J.dw T) o q) λr N a=>?_)]
 cases r with
 |error e=>
  let a:cZ X.prog X.w X.stack n g (λc j U=>∃C,c=Value.ref C/\R C j m U) e N:=a;let⟨x,C,j,O,rfl,W,Z,S,z⟩:=eZ.of J a;ext S;rwa[x,C,j,m,O,2,W,z]
 |ok E=>
  cases E with
  |ret u=>exact J.after a
  |next=>exact False.elim a
  |brk=>exact False.elim a
  |cont=>exact False.elim a
def VP (i:Nat)(c:MP):yU:=λD R a H=>c a H (λv b=>D.nx (a.set i (some v)) b) R
def Eg {x:Str}{b:MP}{pos':Pos}(j:X.N.Nodup)(m:X.N[i]?\x)(q:Loc X.env.scope x)(o:WD X e b)(l:swapsWith e (some (.Name x pos')) pos.line X.env=pure false:=by rfl)(g:X.fn x=true\/X.env.scope.names.lookup x=some .local:=by trivial):
 Ef X (.Assign [.Name x pos'] e pos) (VP i b):=by
 intro a s u H D R I h;rwa[wpAny_Assign_Name (a9 (o a s u H _ R I h) λv z ζ=>?_) l];let⟨y,c,d,r,w⟩:=ζ;rwa[pD d j m q r (λA n=>⟨_,c,n,w⟩) g]
def Y2 (c:TT)(t u:yU):yU:=λD R a H=>c a H λb d=>if b=true then t D R a d else u D R a d
def SD {c:Expr}{a b:Stmt}{u:TT}{o r:yU}(C:PT X.tU c u)(y:Ef X a o)(A:Ef X b r):Ef X (.If c [a] [b] pos) (Y2 u o r):=by
 intro g s l H D R I h
 let one:∀{st:Stmt} {m:yU} {i:Zu} {j:Hp},Ef X st m->Inv X g l j i->m D R l j->X⁻¹ X.A (execs [st] X.env) (SP X g D) (Sy X g R) i:=λ{st m i j} B J q=>
  wpAny_execs_cons (a9 (B g i l j D R J q) λE F z=>by
   cases E with
   |next=>exact ai6 z
   |ret v=>exact z
   |brk=>exact z
   |cont=>exact z)
 rwa[wpAny_If (ahN (C g s l H _ (I.wish _) h) (λd i ζ=>?_) λ_ _ z=>False.elim z)];let⟨j,n,w⟩:=ζ
 cases d with
 |true=>exact one y n.iw w
 |false=>exact one A n.iw w
end
abbrev yV:=Ends->Zs->Zo->St->Hp->Prop
def MQ (X:Cx)(d:List ExceptHandler)(t:yV):Prop:=
 ∀(a:List (Zs×Obj)) (s:Zu) (b:St) (H:Hp) (x C:Zs) (c:Zo) (D:Ends),eZ X a b H x C c s->t D C c b H->X⁻¹ X.A (handleBy ↑x X.env d) (SP X a D) X.xe s
section
variable {X:Cx}{y n:Str}{Y:Zs}{np pos:Pos}{Fs:Stmt}{suite:List Stmt}{rest:List ExceptHandler}{tb:TS}{tr:yV}{i:Nat}
def VQ (K:Za1)(Y:Zs)(i:Nat)(tb:TS)(tr:yV):yV:=λD C d e H=>∃b,PySem.W.exmOne K ↑C ↑Y\b/\
 if b=true then ∀x,H x=none->tb { nx:=λ a c=>D.nx (a.set i none) c,rt:=D.rt,bk:=λ a c=>D.bk (a.set i none) c,ct:=λ a c=>D.ct (a.set i none) c } (e.set i (some ↑x)) (upd H x (XO x C d false)) else tr D C d e H
theorem SF (j:X.N.Nodup)(k:X.N[i]?\n)(g:X.env.scope.names.lookup n=some .local)(M:Gl X y)(A:X.mg y\↑Y)(B:∀x,iS (X.yE x) (Fs :: suite) tb)(F:MQ X rest tr)(w:(y==("__debug__":Str))=false:=by decide):
 MQ X (.ExceptHandler (some (.Name y np)) (some n) (Fs :: suite) pos::rest) (VQ X.K Y i tb tr):=by
 intro a s O H x C G D l h;let⟨b,m,h⟩:=h;let I:=l.inv;rwa[wpAny_handleBy_cons (codeAny_handlers_test ?_) f!""];rwa[j7 (X:=X.yE x) (I.yE x) M A ?_ w];rwa[PySem.W.exm_one I.dw l.at.ex.Vr m _ _ _ _ (λ_ _ e=>e) ?_]
 cases b with
 |false=>exact F a s O H x C G D l h
 |true=>
  let h:=h x l.none;rwa[codeAny_handlers_suite_as (l.again λQ o=>?_)];let J:=o.Y1;rwa[pD (X:=X.yE x) (J.yE x) j k (.inl g) (v:=↑x) rfl (λN E=>?_) (.inr g)];rwa[ahN (B x a N _ _ _ E h) (λL P q=>?_) λ_ _ z=>False.elim z]
  cases L with
  |next=>let⟨d,t,f,q⟩:=q;rwa[sU (f.zP I.ok) j k g λp c=>⟨11,c,q⟩]
  |brk=>let⟨d,t,f,q⟩:=q;rwa[sU (f.zP I.ok) j k g λp c=>⟨11,c,q⟩]
  |cont=>let⟨d,t,f,q⟩:=q;rwa[sU (f.zP I.ok) j k g λp c=>⟨11,c,q⟩]
  |ret u=>let⟨v,d,t,f,r,q⟩:=q;rwa[sU (f.zP I.ok) j k g λp c=>⟨v,11,c,r,q⟩]
def VR:yV:=λ_ _ _ _ _=>False
def SG:MQ X rest VR:=λ_ _ _ _ _ _ _ _ _ h=>h.elim
def VS (t:yU)(d:yV):TS:=λD e H=>t D (λC b a c=>d D C b a c) e H
theorem Pw {st:Stmt}{t:yU}{b:ExceptHandler}{j:List ExceptHandler}{c:yV}(g:X.stack=X.env::X.outer)(p:X.env.frame\X.env.locals)(m:Ef X st t)(o:MQ X (b :: j) c):
 PS X (.Try [st] (b :: j) [] [] pos) (VS t c):=by
 intro a s w H D I h;rwa[wpAny_Try_except (wpAny_execs_cons (ahN (m a s w H D _ I h) (λr k q=>?_) λe k q=>?_))]
 ·cases r with
  |next=>exact ai6 (ai6 q)
  |ret v=>exact q
  |brk=>exact q
  |cont=>exact q
 ·let⟨x,C,u,d,l,rfl,c,q⟩:=q;rwa[c.look g p I.ok.frames λz f=>o a _ d l x C u D f q]
end
def FN (K:Za1)(C:Zs):Bool:=match PySem.W.findIn K ↑C "__init__" with
 |some (some ↑f)=>xR K C f
 |_=>false
def Eh (h:FN K a=true)(e:PySem.W.findIn K ↑a "__init__"=some (some ↑b)):xR K a b=true:=by
 unfold FN at h;rw[e]at h;rwa[h]
structure Y3 (K:Za1) (x qual:Str) (st:Stmt) (f:Zs) (fd:FuncData) (dV:Zt):Prop where
 ex:∃(oc:Zt) (od:Zo) (kV doc pm:Zt) (an:Zo) (cu ct:Zt) (Ai:Array Zl),
  fd=PySem.W.fnOf x qual (dE st) (cE st) (aB st) dV kV doc pm an cu ct/\K.lookup f\⟨oc,od,.func fd,Ai⟩/\PySem.W.codeIn K cu qual=true
 kp:PySem.W.keepIn K ↑f=true
structure DDef (K:Za1) (mg:Str->Zl) (x:Str) (st:Stmt) (ps:Zp) (f:Zs) (fd:FuncData) (d:Str):Prop where
 F:∃dV,Y3 K x x st f fd dV
 kp:PySem.W.keepIn K ↑f=true
 m:mg x\↑f
 b:Binds K fd ps []
 bd:∃t,Binds K fd ps [.str d t]
section
variable {P:Program}{w:World}{K:Za1}{mg:Str->Zl}{base:Heap}
theorem DDef.Sx {st:Stmt}{fd:FuncData}{e:Zp}{k:Nat}{sp:Sp}(D:DDef K mg x st e a fd f)(S:aS Z e (aB st))(len:∀d H Q E,sp d H Q E->⇑d=⇑e)
 (c:∀(b:Zt) (A:Around) (outer:Zq) (s:Zu) (H:Hp) (d:Zb) (Q:VK) (E:XK),cy k (A.deeper (envOfC x (aB st) ↥s a b))->sp d H Q E->
  ∃t,iS (cz (cZ P w) P w K mg base Z x (aB st) a b A outer s H E) (cE st) t/\t { nx:=λ_ j=>Q .non j,rt:=Q } (start Z d) H):du P w K mg base (cZ P w) (k+ 1) a fd e sp:=by
 let⟨o,F⟩:=D.F;let⟨m,n,kV,doc,pm,p,b,ct,l,rfl,lk,h⟩:=F.ex;rwa[zO lk h S len λA outer s H d Q E i g=>c b A outer s H d Q E i g]
theorem DDef.of {st:Stmt}{y d:Zo}{j r:Array Zl}{kV doc pm ct A:Zt}{dd:Zo}{t:Tok}(X:K.In h)(G:h.Ns mainGlobals mg)(g:PySem.W.nsIn K mainGlobals x\some ↑a)(l:K.lookup a\⟨v,y,.func (PySem.W.fnOf x x (dE st) (cE st) (aB st) ↑b kV doc pm d u ct),j⟩)(c:PySem.W.codeIn K u x=true)(k:PySem.W.keepIn K ↑a=true)
 (lt:K.lookup b\⟨A,dd,.seq #[.str f t] n,r⟩)
 (e:∀(kV doc pm:Zt) (d:Zo) (u ct:Zt) (us:Zk),⇑us=⇑Z->∃i:Option Zm->Sem (List (Str×Zt)),bindArgs (PySem.W.fnOf x x (dE st) (cE st) (aB st) ↑b kV doc pm d u ct) ⟨us,[]⟩=seqItems? ↑b >>=i/\i (some #[.str f t])=pure (Z.zip us))
 (z:∀(kV doc pm:Zt) (d:Zo) (u ct:Zt) (us:Zk),⇑us+ 1=⇑Z->∃i:Option Zm->Sem (List (Str×Zt)),bindArgs (PySem.W.fnOf x x (dE st) (cE st) (aB st) ↑b kV doc pm d u ct) ⟨us,[]⟩=seqItems? ↑b >>=i/\i (some #[.str f t])=pure (Z.zip (us++[.str f t]))):
 DDef K mg x st Z a (PySem.W.fnOf x x (dE st) (cE st) (aB st) ↑b kV doc pm d u ct) f:=by
 rwa[⟨⟨_,⟨v,y,kV,doc,pm,d,u,ct,j,2,l,c⟩,k⟩,k,PySem.W.mg_of X G g,λs us o m=>?_,t,λs us o m=>?_⟩]
 ·rw[ahl]at m ⊢;let⟨i,q,p⟩:=e kV doc pm d u ct us m;rwa[BindsTo.of_defaults (T:=b) rfl (o^lt) rfl q p]
 ·let⟨i,q,p⟩:=z kV doc pm d u ct us (by simpa using m);rwa[BindsTo.of_defaults (T:=b) rfl (o^lt) rfl q p]
end
end L2
namespace L2
def FP {c:Nat}{g:Zg}(b:S.Wf):(S.make c z g).stand=S.stand+ 1:=by
 unfold RS.stand;show (List.range (S.made+ 1)).countP _=_;rw[aib,List.countP_append,List.countP_singleton]
 let d:(S.make c z g).aw S.made=S.made:=by
  show (S.grown c z g).aw S.made=S.made;rw[fF b,ahf rfl]
 rw[show decide ((S.make c z g).aw S.made=S.made)=true from ahp d,ahf rfl]
 congr 1
 rwa[List.countP_congr λa e=>?_]
 have:(S.make c z g).aw a=S.aw a:=by
  show (S.grown c z g).aw a=S.aw a;rw[fF b,ahc (by have:=ahG.mp e;omega)]
 rw[this]
def KZ (hw:S.Wf)(d:n<S.made):(S.make n z l).by m y=if m=S.made/\y= -z then some n else if m=n/\y=z then some S.made else S.by m y:=by
 unfold RS.make RS.keep;let b:(S.grown n z l).ways.length=S.made+ 1:=by show ⇑(S.ways++[[]])=_;rw[agN,hw.w];rfl
 let c:∀a s,(S.grown n z l).by a s=S.by a s:=λa s=>by unfold RS.by;rw[nj hw]
 show (((S.grown n z l).b8 n z S.made).b8 S.made (-z) n).by m y=_;rw[jx (by show ⇑((S.grown n z l).ways.set n _) > _;rw[ahj,b];omega),jx (by rw[b];omega),c]
def yW (h:fH S)(g:S.Wf)(c:Nat)(z:Int)(f:Zg):fH (S.make c z f):=by
 let e:∀b,(S.make c z f).aw b=if b=S.made then S.made else S.aw b:=λb=>fF g c z f b
 rwa[⟨λb a d=>?_,λb a=>?_,λb a=>?_⟩]
 ·let a:b<S.made+ 1:=a;rw[e]at d;by_cases q:b=S.made
  ·cbv
  ·rw[ahc q]at d;rwa[h.a b ∅ d]
 ·let a:b∈S.aZ:=a;have:=h.c b a;rw[e,ahc ∅];rwa[h.b b a]
 ·let a:b∈S.aZ:=a;have:=h.c b a;show b<S.made+ 1;ext
def Ei (d:Dt):Prop:=(∃n,d=.i n)\/∃l,d=.s l
def Ei.low {k:Nat}{d:Dt}(h:Ei d)(b:bK H k q d):bK H n q d:=by
 rcases h with ⟨a,rfl⟩|⟨l,rfl⟩
 ·ext b;rwa[.i]
 ·ext b;rwa[.s]
def Px {k:Nat}{b:List Dt}(h:∀x∈b,Ei x)(a:bK H (k+ 1) q (.t b)):bK H (n+ 1) q (.t b):=by
 cases a with
 |t g e i=>exact .t g e λj q d f c=>(h d (agK c)).low (i j q d f c)
def Dp (d:Dt):Prop:=∃a,d=.t a/\∀x∈a,Ei x\/∃as,x=.t as/\∀y∈as,Ei y
def Dp.low {d:Dt}(h:Dp d)(b:bK H 4 q d):bK H 2 q d:=by
 let⟨k,rfl,h⟩:=h
 cases b with
 |t g e i=>
  rwa[.t g e λj q d f c=>?_]
  let b:=i j q d f c;rcases h d (agK c) with a|⟨as,rfl,a⟩
  ·rwa[a.low b]
  ·rwa[Px a b]
def Ej {a:List Dt}(h:∀x∈a,Ei x):Dp (.t a):=⟨a,rfl,λx b=>.inl (h x b)⟩
def SJ (c:Nat)(z:Int)(n:Nat):Dp (rj c z n):=Ej λx a=>by
 simp only[ag4,ahy,aiY]at a;rcases a with rfl|rfl|rfl|rfl
 ·rwa[.inr ⟨_,rfl⟩]
 all_goals rwa[.inl ⟨_,rfl⟩]
def SK {e:Za3}{d:Zh}{W:Za2}{row:Dt}(h:One e n B W row d R):Dp row:=by
 cases h with
 |meet=>
  rwa[Ej λx a=>?_]
  simp only[ag4,ahy,aiY]at a;rcases a with rfl|rfl|rfl|rfl|rfl
  ·rwa[.inr ⟨_,rfl⟩]
  all_goals rwa[.inl ⟨_,rfl⟩]
 |rule=>
  rwa[⟨12,λx a=>?_⟩];simp only[ag4,ahy,aiY]at a;rcases a with rfl|rfl|rfl|rfl
  ·rwa[.inl (.inr ⟨_,rfl⟩)]
  ·rwa[.inl (.inl ⟨_,rfl⟩)]
  ·rwa[.inr ⟨_,rfl,λy b=>?_⟩];let⟨c,_,rfl⟩:=ahO.mp b;rwa[.inl ⟨12⟩]
  ·rwa[.inl (.inl ⟨12⟩)]
def VW {e:Za3}{d:Zh}{W:Za2}{b:List Dt}(h:Go e n B W b d R):∀x∈b,Dp x:=by
 induction h with
 |nil=>cbv
 |cons o _ c=>
  intro x a;rcases ag4.mp a with rfl|a
  ·rwa[SK o]
  ·rwa[c x a]
section
variable {S S':RS}{R:Za2}{ks:Zg}{pend:Ze}
def kh.gap (l:kh S pend S'):Good S pend R->(∀c z d,R c z d->z∈ks)->eQ S R ks->eQ S' R ks:=by
 induction l with
 |nil S=>exact λ_ _ h=>h
 |take _ b=>
  intro g a h;rwa[b (g.take a).1 a (h.take g)]
def kh.wr (l:kh S pend S'):Good S pend R->(∀c z d,R c z d->z∈ks)->⇑S.aZ<=⇑S.rows->⇑S'.aZ<=⇑S'.rows:=by
 induction l with
 |nil S=>exact λ_ _ h=>h
 |take _ i=>
  intro g e h;let⟨f,_,_,_,q⟩:=g.take e;rwa[i f e ?_];rcases q with ⟨_,a,b⟩|⟨_,_,_,_,_,_,_,_,_,_,a,b,_⟩
  ·rw[a,b];rwa[h]
  ·rw[a,b,agN,agN,ahX,ahX];ext
structure YS (S:RS) (L:Nat) (ks:Zg) (R:Za2):Prop where
 g:Good S [] R
 w:fH S
 k:∀a z b,R a z b->z∈ks
 gi:eQ S R ks
 l:S.L=L
 m:0<S.made
 d:∀x∈S.rows,Dp x
 wr:⇑S.aZ<=⇑S.rows
def YS.new {L:Nat}{ks:Zg}:YS (RS.new L ks) L ks (λ_ _ _=>False):=by
 rwa[⟨uF L _,⟨λc hc e=>?_,(λc hc=>by ext hc),(λc hc=>by ext hc)⟩,(λ_ _ _ z=>z.elim),OU L _,2,Nat.one_pos,(λx a=>by ext a),agQ _⟩];have:c=0:=by have:c<1:=hc;ext
 subst this;rwa[absurd rfl e]
def YS.make (h:YS S n ks R)(hc:m<S.made)(f:S.aw m=m)(g:S.by m z=none)(hz:z∈ks)(c: -z∈ks):YS (S.make m z ks) n ks (fQ R m z S.made):=by
 erw[h.g.make hc f g _,yW h.w h.g.wf _ _ _,λa y b r=>?_,h.gi.make h.g hc f g,h.l,Nat.succ_pos _,λx d=>?_]
 ·rcases r with r|⟨_,e,_⟩|⟨_,e,_⟩
  ·rwa[h.k _ _ _ r]
  ·rw[e];rwa[hz]
  ·rw[e];rwa[c]
 ·let d:x∈S.rows++[rj m z S.made]:=d;rcases agX.mp d with p|p
  ·rwa[h.d x p]
  ·rw[agR.mp p];rwa[SJ^_]
 ·show ⇑S.aZ<=⇑(S.rows++[_]);rw[agN];have:=h.wr;ext
def YS.tr {ws:Za3}(t:Tr ws m S S')(s:∀w∈ws,∀z∈w,z∈ks/\-z∈ks)(h:YS S n ks R):∃l,YS S' n ks l/\S'.made=S.made/\(∀a z b,R a z b->l a z b)/\∃C,S'.rows=S.rows++C/\∃E W B F,Go ws m E W C B F:=by
 induction t with
 |refl=>rwa[R,h,2,λ_ _ _ r=>r,[],(ahl _).symm,1111,.nil (E:=S.aU) (W:=λ_ _ _=>False) λ_ _ _=>Iff.rfl]
 |step O ra j Q=>
  rename_i k S2 which word start f c d z;let⟨v,g,H,G,L,e1,E,W,B,F,X⟩:=Q;let hz:=s word (agK ra.w) z (agK ra.hz)
  let i:∀a y b,fQ v c z d a y b->y∈ks:=by
   rintro a y b (r|⟨_,e,_⟩|⟨_,e,_⟩)
   ·rwa[g.k _ _ _ r]
   ·rw[e];rwa[hz.1]
   ·rw[e];rwa[hz.2]
  let gl:=g.g.lay z ra.hc.1 ra.hd.1 (pT k which word start f d).rows;let⟨J,I,A,l2,_⟩:=j.all gl i ⟨g.w.a,g.w.b,g.w.c⟩;let gp:=j.gap gl i ((g.gi.more λa y b r=>.inl r).rows _);let⟨l,V,w',Y,N,P,o⟩:=MC (Tr.step (Tr.refl k) ra j) (R:=v) s g.g g.w g.k;let⟨Z,U,w0,T,u,M,p⟩:=MC (Tr.step O ra j) (R:=R) s h.g h.w h.k;rwa[⟨_,⟨J,I,i,gp,l2.trans g.l,[A]▸g.m,λx D=>?_,j.wr gl i (by show ⇑k.aZ<=⇑(k.rows++[_]);rw[agN];have:=g.wr;omega)⟩,A.trans H,λa y b r=>.inl (G _ _ _ r),u,M,1111,p⟩];rw[P]at D;rcases agX.mp D with q|q
  ·rwa[g.d x q]
  ·rwa[VW o x q]
end
def CI.make {bs:List (Nat×Zg×Nat)}{gs:Zf}{W:bI}(h:CI S bs gs [] W fT none)(d:Good S [] R)(hc:n<S.made)(x:S.aw n=n)(v:S.by n z=none)(i:∀b∈bs,b.2.2<S.made)(g:Zg):CI (S.make n z g) bs gs [] W (λr s=>r=n/\s=z) none:=by
 let k:=d.make hc x v g;let f:S.made<=(S.make n z g).made:=aiZ _;let lt:=Later.of d k iB f;let el:∀b,b<S.made->(S.make n z g).aw b=S.aw b:=λb c=>(fF d.wf n z g b).trans (ahc ∅)
 rwa[⟨h.len,λa u q=>?_,λa b I p o=>?_,(λa j=>by ext j),λr s a q=>?_,h.sl,h.bd⟩]
 ·let⟨D,C,G⟩:=h.al a u q;rwa[D,C.later lt f,G]
 ·let c:=i b (agK o);rw[el _ c];rcases h.de a b I p o with w|w
  ·rwa[.inl w]
  ·by_cases e:S.aw b.2.2=b.2.2
   ·right
    have:=lt.wk w;rw[el _ c,e]at this;rwa[this]
   ·rwa[.inl e]
 ·let⟨m,t,F,H,l,j,B,w⟩:=h.en r s a q;erw[m,t,F,H,ahh l f,j,B];rcases w with ⟨E,A⟩|w
  ·by_cases e:m=n/\s=z
   ·rwa[.inr e]
   ·left
    rw[el _ l,KZ d.wf hc,ahc (λy=>by omega),ahc e];rwa[E,A]
  ·rwa[w.elim]
noncomputable def pw (s:Int)(n:Nat):Zg:=List.replicate n s
def FQ (h:(pw z n)[m]?\y):m<n/\y=z:=by
 unfold pw at h;rw[List.getElem?_replicate]at h;split at h
 ·rwa[3,(Za0 h).symm]
 ·ext h
structure Pth (S:RS) (P:Nat->Int) (lo:Int):Prop where
 el:∀c,c<S.made->S.aw c=c
 rg:∀c,c<S.made->lo<=P c/\P c<lo+ S.made
 on:∀t:Int,lo<=t->t<lo+ S.made->∃c,c<S.made/\P c=t
 inj:∀a b,a<S.made->b<S.made->P a=P b->a=b
 by_:∀a z b,S.by a z=some b->(z=1\/z= -1)/\P b=P a+ z
 ch:∀a b,a<S.made->b<S.made->P b=P a+ 1->S.by a 1=some b
section
variable {S:RS}
structure Rng (S:RS) (G:Int->Nat) (M:Nat):Prop where
 st:∀t,S.by (G t) 1=some (G (t+ 1))
 pm:∀t,G (t+ M)=G t
end
def Per (G:Int->Nat)(k:Int):Prop:=∀t,G (t+ k)=G t
def UR (d:Nat)(p:Nat)(z:Int)(q:Nat):Prop:=p<d/\q<d/\(d:Int)∣(p:Int)+ z - q
end L2
namespace L2
open PySem PySem.Spec PyProof.Rows
inductive SM (K:Za1) (xs:Zb) (H:Hp) (Q:VK):Prop
 |mk (l:Zs) (ns:Zg):xs=[↑l]->aD K H l (ao ns)->⇑ns<64->(∀D ms,H D=none->ms.Perm ns->ms.Pairwise (·<= ·)->Q ↑D (upd H D (.lst (ao ms))))->SM K xs H Q
inductive Py (x:V) (vs:Zb) (H:Hp) (Q:VK):Prop
 |mk (a:Zs) (ns:Zg) (k:Int):x=↑a->vs=[.int k]->H a\.lst (ao ns)->Q (.int (ns.count k:Nat)) H->Py x vs H Q
abbrev Def.Ok {K:Za1} {mg:Str->Zl} {x:Str} {st:Stmt} {ps:Zp} {f:Zs} {fd:FuncData} (_:Def K mg x st ps f fd) (P:Program) (w:World) (base:Heap) (k:Nat) (sp:Sp):Prop:=du P w K mg base (cZ P w) k f fd ps sp
abbrev MDef.Ok {K:Za1} {C:Zs} {x q:Str} {st:Stmt} {ps:Zp} {f:Zs} {fd:FuncData} (_:MDef K C x q st ps f fd) (mg:Str->Zl) (P:Program) (w:World) (base:Heap) (k:Nat) (sp:Sp):Prop:=du P w K mg base (cZ P w) k f fd ps sp
section
variable {P:Program}{w:World}{K:Za1}{mg:Str->Zl}{base:Heap}{x q:Str}{st:Stmt}{ps N:Zp}{f C:Zs}{fd:FuncData}{k:Nat}{sp:Sp}
theorem Def.on (D:Def K mg x st ps f fd)(S:aS N ps (aB st))
 (a:∀(b:Zt) (A:Around) (outer:Zq) (s:Zu) (H:Hp) (c:Zb) (Q:VK) (E:XK),cy k (A.deeper (envOfC x (aB st) ↥s f b))->sp c H Q E->
  ∃t,iS (cz (cZ P w) P w K mg base N x (aB st) f b A outer s H E).tU (cE st) t/\t { nx:=λ_ d=>Q .non d,rt:=Q } (start N c) H) (len:∀c H Q E,sp c H Q E->⇑c=⇑ps:=by intro _ _ _ _ h;rcases h with ⟨⟩;subst_vars;rfl):D.Ok P w base (k+ 1) sp:=D.F.okN S len a
theorem MDef.on (D:MDef K C x q st ps f fd)(S:aS N ps (aB st))
 (a:∀(b:Zt) (A:Around) (outer:Zq) (s:Zu) (H:Hp) (c:Zb) (Q:VK) (E:XK),cy k (A.deeper (envOfC q (aB st) ↥s f b))->sp c H Q E->
  ∃t,iS (cz (cZ P w) P w K mg base N q (aB st) f b A outer s H E).tU (cE st) t/\t { nx:=λ_ d=>Q .non d,rt:=Q } (start N c) H) (len:∀c H Q E,sp c H Q E->⇑c=⇑ps:=by intro _ _ _ _ h;rcases h with ⟨⟩;subst_vars;rfl):D.Ok mg P w base (k+ 1) sp:=D.F.okN S len a
end
section
variable {X:Cx}{x q m:Str}{st:Stmt}{ps:Zp}{f C:Zs}{fd:FuncData}{k j i:Nat}{sp:Sp}{e o:Expr}{es:Zr}{t:TA}{ta te:TE}{p pos pos' apos:Pos}
def pc (D:Def X.K X.mg x st ps f fd)(F:du X.prog X.w X.K X.mg X.base (cZ X.prog X.w) k f fd ps sp)(c:cy j X.A)(d:PA X (e::es) t)(hj:k<=j:=by decide)(h:Gl X x:=by rfl)(a:(x==("__debug__":Str))=false:=by decide)(g:starEach (e::es) X.env=(false,eval e X.env)::starEach es X.env:=by rfl)(b:(backTo pos (starEach es X.env)).any (·.1)=false:=by rfl):
 PE X (.Call (.Name x p) (e::es) [] pos) (Md sp [] (λ_ _ _=>False) t):=xt F (c.mono hj) h D.m D.F.kp D.b .nil gy d a g b
def pm {pl:Sem Bool}(r:PE X o ta)(c:j3 X.K C)(D:MDef X.K C m q st ps f fd)(F:du X.prog X.w X.K X.mg X.base (cZ X.prog X.w) k f fd ps sp)(g:cy j X.A)(l:PA X (e::es) t)(n:k<=j:=by decide)(b:starEach (e::es) X.env=(false,eval e X.env)::starEach es X.env:=by rfl)(a:(backTo pos (starEach es X.env)).any (·.1)=false:=by rfl)
 (h:eval (.Call (.Attribute o m apos) (e::es) [] pos) X.env=(do
  let d <-eval o X.env
  standAt apos.atName
  let (f,first) <-holding [d] (getMethod d m pl)
  callWith pos f first (backTo pos (starEach (e::es) X.env)) (backToKw pos (keywordEach [] X.env))):=by rfl):
 PE X (.Call (.Attribute o m apos) (e::es) [] pos) (kD C m sp [] (λ_ _ _=>False) ta t):=j9 r c D.m F (g.mono n) D.b .nil gy l b a h
def vQ {pl:Sem Bool}(h:PE X o ta)(c:j3 X.K C)(D:MDef X.K C m q st ps f fd)(F:du X.prog X.w X.K X.mg X.base (cZ X.prog X.w) k f fd ps sp)(b:cy j X.A)(g:k<=j:=by decide)
 (d:eval (.Call (.Attribute o m apos) [] [] pos) X.env=(do
  let a <-eval o X.env
  standAt apos.atName
  let (f,first) <-holding [a] (getMethod a m pl)
  callWith pos f first (backTo pos (starEach [] X.env)) (backToKw pos (keywordEach [] X.env))):=by rfl):
 PE X (.Call (.Attribute o m apos) [] [] pos) (kD C m sp [] (λ_ _ _=>False) ta j8):=JS h c D.m F (b.mono g) D.b .nil gy d
def bJ (i:Nat)(d:X.N.Nodup)(a:PE X e te)(h:X.N[i]?\x:=by rfl)(c:Loc X.env.scope x:=by trivial)(g:swapsWith e (some (.Name x pos')) pos.line X.env=pure false:=by rfl)(b:X.fn x=true\/X.env.scope.names.lookup x=some .local:=by trivial):
 PS X (.Assign [.Name x pos'] e pos) (xq te (m8 i)):=Qw d h c a g b
def di (i:Nat)(c:X.N.Nodup)(d:X.N[i]?\x:=by rfl)(b:Loc X.env.scope x:=by trivial)(a:X.fn x=true\/X.env.scope.names.lookup x=some .local:=by trivial):PG X (.Name x pos) (m8 i):=DC c d b a
end
end L2
namespace M11
noncomputable def flip (k:Nat):Nat:=if k % 2=0 then k+ 1 else k - 1
noncomputable def nx (T:Za3)(k i:Nat):Nat:=((T.getD i []).getD k 0).toNat
structure Tab (L:Nat) (T:Za3):Prop where
 pos:1<=⇑T
 top:⇑T<=300
 let1:1<=L
 Y4:L<=40
 row:∀(i:Nat) (r:Zg),T[i]?\r->⇑r=2* L
 val:∀i k,i<⇑T->k<2* L->∃r:Zg,T[i]?\r/\r[k]?\((nx T k i:Nat):Int)
 lt:∀i k,i<⇑T->k<2* L->nx T k i<⇑T
 back:∀i k,i<⇑T->k<2* L->nx T (flip k) (nx T k i)=i
noncomputable def pl (s:Int):Nat:=if 0<s then 2* s.natAbs - 2 else 2* s.natAbs - 1
def walk (T:Za3)(w:Zg)(i:Nat):Nat:=w.foldl (λi s=>nx T (pl s) i) i
def dG (L:Nat)(w:Zg):Prop:=∀s∈w,s≠0/\s.natAbs<=L
noncomputable def back (w:Zg):Zg:=w.reverse.map λz=>-z
def tj (h:z≠0/\z.natAbs<=n):pl z<2* n:=by
 unfold pl;split <;> ext
def Pz (h:z≠0):pl (-z)=flip (pl z):=by
 unfold pl flip;rw[Int.natAbs_neg];by_cases a:0<z
 ·rw[ahf a,ahc (show ¬ 0 < -z by omega),ahf ∅];ext
 ·rw[ahc a,ahf (show 0 < -z by omega),ahc ∅];ext
theorem Ek {L:Nat}{T:Za3}(c:Tab L T):∀{w:Zg} {i:Nat},dG L w->i<⇑T->walk T w i<⇑T
 |[],i,_,a=>a
 |s::w,i,b,a=>Ek c (w:=w) (λs d=>b s (ahm _ d)) (c.lt i (pl s) a (tj (b s (ag2 ..))))
def K0 (T:Za3)(w u:Zg)(i:Nat):walk T (w++u) i=walk T u (walk T w i):=ajf ..
structure Pm (p:Nat) (r:Zg):Prop where
 len:⇑r=p
 nd:r.Nodup
 rg:∀z∈r,0<=z/\z<(p:Int)
def Pm.at {r:Zg}(h:Pm n r){i:Nat}(b:i<n):∃j:Nat,r[i]?\(j:Int)/\j<n:=by
 let a:i<⇑r:=by rw[h.len];rwa[b]
 have:=h.rg r[i] (List.getElem_mem a);rwa[r[i].toNat,by rw[agJ a,show ((r[i].toNat:Nat):Int)=r[i] by ext],3]
def El {k:Nat}(h:k<2* n):flip k<2* n:=by unfold flip;split <;> ext
def aff (L:Nat)(f:Nat->Int->Int)(come:Zg)(x:Int)(r:Zg)(m:Nat):Prop:=⇑r=m/\∀k,k<m->∃j:Nat,r[k]?\(j:Int)/\come[j]?\(f k x)
theorem jA:∀(n:Nat) (l:Zh),l.Nodup->(∀x∈l,x<n)->⇑l<=n
 |0,[],_,_=>agQ _
 |0,a::l,_,h=>absurd (h a (ag2 ..)) ∅
 |n+ 1,l,b,h=>by
  by_cases c:n∈l
  ·have:=jA n (l.erase n) (b.erase n) (λx d=>by
    cbv)
   rw[ajh c]at this;ext
  ·have:=jA n l b (λx d=>by
    cbv)
   ext
def vR (f:l.Nodup)(h:∀x∈l,0<=x/\x<(n:Int)):⇑l<=n:=by
 let i:(l.map Int.toNat).Nodup:=by
  rwa[aiv.mpr (aj0 ?_ f)];intro a b e j c z;have:=h a e;have:=h b j;rwa[c ∅]
 have:=jA n (l.map Int.toNat) i (λx g=>by
  let⟨y,d,rfl⟩:=ahO.mp g;have:=h y d;omega)
 rw[agO]at this;rwa[this]
def Pm.SN {r:Zg}(h:Pm n r){x:Nat}(f:x<n):∃i:Nat,r[i]?\(x:Int)/\i<n:=by
 let c:(x:Int)∈r:=by
  rwa[ajM λc=>?_]
  have:=vR (n:=n) (l:=(x:Int)::r) (ahs.mpr ⟨c,h.nd⟩) (λy b=>by
   rcases ag4.mp b with e|b
   ·rw[e];ext
   ·rwa[h.rg y b])
  rw[ahi,h.len]at this;ext
 let⟨i,d,e⟩:=aiG.mp c;rwa[i,by rw[agJ d,e],by rw[<-h.len];rwa[d]]
def afg (p:Nat)(r t:Zg):Prop:=⇑t=p/\∀k j:Nat,r[k]?\(j:Int)->t[j]?\(k:Int)
def afh (p:Nat)(r t:Zg)(n:Nat):Prop:=⇑t=p/\∀k j:Nat,k<n->r[k]?\(j:Int)->t[j]?\(k:Int)
end M11
namespace M12
open M11
def Fc (W:Nat)(E:Zg)(N:Nat):Prop:=(∀z∈E,0<=z/\z<(N:Int))/\∀j:Nat,0<j->j<N->∃p:Nat,p<j* W/\E[p]?\(j:Int)/\∀(q:Nat) (z:Int),q<p->E[q]?\z->z<(j:Int)
def Fc.old {W:Nat}(h:Fc W l n)(k:i<n):Fc W (l++[(i:Int)]) n:=by
 rwa[⟨λz hz=>?_,λj c e=>?_⟩]
 ·rcases agX.mp hz with hz|hz
  ·rwa[h.1 z hz]
  ·rw[agR.mp hz];ext
 ·let⟨p,a,f,d⟩:=h.2 j c e;let g:=(agM.mp f).1;rwa[⟨p,a,by cbv,λq z b hz=>d q z b ?_⟩];rw[agV ∅]at hz;rwa[hz]
def Fc.new {W:Nat}{E:Zg}(h:Fc W E n)(hN:0<n)(hE:⇑E<n* W):Fc W (E++[(n:Int)]) (n+ 1):=by
 rwa[⟨λz hz=>?_,λj c g=>?_⟩]
 ·rcases agX.mp hz with hz|hz
  ·have:=h.1 z hz;ext
  ·rw[agR.mp hz];ext
 ·by_cases e:j=n
  ·subst e;rwa[⟨⇑E,hE,by cbv,λq z a hz=>?_⟩];rw[agV a]at hz;rwa[(h.1 z (agK hz)).2]
  ·let⟨p,b,f,d⟩:=h.2 j c ∅;let i:=(agM.mp f).1;rwa[⟨p,b,by cbv,λq z a hz=>d q z a ?_⟩];rw[agV ∅]at hz;rwa[hz]
def Fc.zero (W:Nat):Fc W [] 1:=⟨(λz hz=>by ext hz),(λj a b=>∅)⟩
theorem Em {W:Nat}(d:0<W):∀{T:Za3} {i k:Nat} {r:Zg},(∀(i:Nat) (r:Zg),T[i]?\r->⇑r=W)->T[i]?\r->k<W->T.flatten[i* W+ k]?=r[k]?
 |[],i,k,r,_,a,_=>by simp at a
 |s::T,0,k,r,h,a,b=>by
  cbv
 |s::T,i+ 1,k,r,h,a,b=>by
  let c:=h 0 s rfl;rw[ai9,agW (by rw[c,Nat.succ_mul];omega),c];let e:(i+ 1)* W+ k - W=i* W+ k:=by rw[Nat.succ_mul];ext
  rw[e];rwa[Em d (λi r a=>h (i+ 1) r a) a b]
noncomputable def st (k:Nat):Int:=if k % 2=0 then ((k / 2+ 1:Nat):Int) else -((k / 2+ 1:Nat):Int)
def MR (k:Nat):pl (st k)=k:=by
 unfold pl st;by_cases h:k % 2=0
 ·rw[ahf h,ahf ∅];ext
 ·rw[ahc h,ahc ∅];ext
def VX {k:Nat}(h:k<2* n):st k≠0/\(st k).natAbs<=n:=by
 unfold st;split <;> ext
def SQ:Zh->Zh->Prop
 |a::u,b::v=>a<b\/(a=b/\SQ u v)
 |_,_=>False
def abF (u v:Zh):Prop:=⇑u<⇑v\/(⇑u=⇑v/\SQ u v)
def Lw (L:Nat)(T:Za3)(ws:List Zh):Prop:=⇑ws=⇑T/\ws[0]?\[]/\
 ∀(j p:Nat),0<j->j<⇑T->T.flatten[p]?\(j:Int)->(∀(q:Nat) (z:Int),q<p->T.flatten[q]?\z->z<(j:Int))->∃u,ws[p / (2* L)]?\u/\ws[j]?\(u++[p % (2* L)])
end M12
namespace M17
noncomputable def it (f:Nat->Nat):Nat->Nat->Nat
 |0,x=>x
 |n+ 1,x=>f (it f n x)
theorem vS (f:Nat->Nat)(m:Nat):∀(n x:Nat),it f (m+ n) x=it f n (it f m x)
 |0,x=>rfl
 |n+ 1,x=>ahZ f (vS f m n x)
theorem tm {f:Nat->Nat}(h:∀x,x<m->f x<m):∀(n x:Nat),x<m->it f n x<m
 |0,x,a=>a
 |n+ 1,x,a=>h _ (tm h n x a)
theorem HZ {f:Nat->Nat}(h:∀x,x<m->f x<m)(c:∀x y,x<m->y<m->f x=f y->x=y):∀(n x y:Nat),x<m->y<m->it f n x=it f n y->x=y
 |0,x,y,_,_,e=>e
 |n+ 1,x,y,b,a,e=>HZ h c n x y b a (c _ _ (tm h n x b) (tm h n y a) e)
theorem mF {f:Nat->Nat}{x:Nat}(h:it f n x=x):∀k,it f (n* k) x=x
 |0=>rfl
 |k+ 1=>by
  rw[Nat.mul_succ,vS,mF h k,h]
def ring {f:Nat->Nat}{x:Nat}(h:∀x,x<n->f x<n)(p:∀x y,x<n->y<n->f x=f y->x=y)(k:x<n):∃c,1<=c/\c<=n/\it f c x=x:=by
 rwa[ajM λo=>?_]
 let ne:∀i j,i<j->j<=n->it f i x≠it f j x:=λi j r u e=>by
  rwa[o ⟨j - i,335⟩];let s:it f j x=it f i (it f (j - i) x):=by rw[<-vS,show j - i+ i=j by ext]
  rw[s]at e;rwa[(HZ h p i x _ k (tm h _ x k) e).symm]
 let l:((List.range (n+ 1)).map λi=>((it f i x:Nat):Int)).Nodup:=by
  rw[List.nodup_iff_pairwise_ne,aiv];rwa[aj0 (R:=λa b=>a<b) (λt m g e=>?_) akd];have:=ahG.mp m;rwa[ne _ _ g ∅ ∅]
 have:=M11.vR (n:=n) l λz q=>by
  let⟨i,_,rfl⟩:=ahO.mp q;have:=tm h i x k;ext
 rw[agO,ahw]at this;ext
def VY {f:Nat->Nat}(i:n<=6)(h:∀x,x<n->f x<n)(d:∀x y,x<n->y<n->f x=f y->x=y)(x:Nat)(b:x<n):it f 60 x=x:=by
 let⟨c,g,j,e⟩:=ring h d b;let a:c=1\/c=2\/c=3\/c=4\/c=5\/c=6:=∅
 rcases a with rfl|rfl|rfl|rfl|rfl|rfl
 ·rwa[mF e 60]
 ·rwa[mF e 30]
 ·rwa[mF e 20]
 ·rwa[mF e 15]
 ·rwa[mF e 12]
 ·rwa[mF e 10]
end M17
namespace M24
noncomputable def add (come:Zh)(y:Nat):Zh:=if y∈come then come else come++[y]
def dN (f:Nat->Nat->Nat)(x:Nat)(come:Zh)(k:Nat):Zh:=(List.range k).foldl (λc i=>add c (f i x)) come
def jB (f:Nat->Nat->Nat)(x:Nat)(come:Zh)(k:Nat):dN f x come (k+ 1)=add (dN f x come k) (f k x):=by
 unfold dN;rw[aib,ajf];rfl
def bf (f:Nat->Nat->Nat)(k a:Nat):Nat->Zh
 |0=>[a]
 |n+ 1=>match (bf f k a n)[n]? with
  |some x=>dN f x (bf f k a n) k
  |none=>bf f k a n
def uM (f:Nat->Nat->Nat)(k a:Nat):bf f k a 0=[a]:=rfl
def fU {f:Nat->Nat->Nat}{k x:Nat}(h:(bf f k n m)[m]?\x):bf f k n (m+ 1)=dN f x (bf f k n m) k:=by
 rw[bf,h]
def kj {f:Nat->Nat->Nat}{k:Nat}(h:(bf f k n m)[m]?=none):bf f k n (m+ 1)=bf f k n m:=by
 rw[bf,h]
def Eo (come:Zh)(y:Nat):∃t,add come y=come++t:=by
 unfold add;split
 ·rwa[[],(ahl _).symm]
 cbv
theorem pX (f:Nat->Nat->Nat)(x:Nat)(come:Zh):∀k,∃t,dN f x come k=come++t
 |0=>⟨[],(ahl _).symm⟩
 |k+ 1=>by
  let⟨t,b⟩:=pX f x come k;let⟨u,a⟩:=Eo (dN f x come k) (f k x);rwa[t++u,by rw[jB,a,b,ahJ]]
def uN (f:Nat->Nat->Nat)(k a n:Nat):∃t,bf f k a (n+ 1)=bf f k a n++t:=by
 cases h:(bf f k a n)[n]? with
 |none=>rwa[[],by rw[kj h,ahl]]
 |some x=>let⟨t,b⟩:=pX f x (bf f k a n) k;rwa[t,by rw[fU h,b]]
theorem Ep (f:Nat->Nat->Nat)(k a n:Nat):∀m,∃t,bf f k a (n+ m)=bf f k a n++t
 |0=>⟨[],(ahl _).symm⟩
 |m+ 1=>by
  let⟨t,c⟩:=Ep f k a n m;let⟨u,b⟩:=uN f k a (n+ m)
  cbv
def PB {come:Zh}:m∈add come n↔m∈come\/m=n:=by
 unfold add
 cbv
def SR {come:Zh}(h:come.Nodup)(y:Nat):(add come y).Nodup:=by
 unfold add
 cbv
theorem tq {f:Nat->Nat->Nat}{x:Nat}{come:Zh}(h:come.Nodup):∀k,(dN f x come k).Nodup
 |0=>h
 |k+ 1=>[jB]▸SR (tq h k) _
theorem iD (f:Nat->Nat->Nat)(k a:Nat):∀n,(bf f k a n).Nodup
 |0=>by rw[uM];simp
 |n+ 1=>by
  cases h:(bf f k a n)[n]? with
  |none=>rw[kj h];rwa[iD f k a n]
  |some x=>rw[fU h];rwa[tq (iD f k a n) k]
theorem kl {f:Nat->Nat->Nat}{x:Nat}{come:Zh}{z:Nat}:∀{k:Nat},z∈dN f x come k↔z∈come\/∃i,i<k/\z=f i x
 |0=>⟨.inl,λq=>q.elim id λ⟨i,a,_⟩=>absurd a (Nat.not_lt_zero _)⟩
 |k+ 1=>by
  rw[jB,PB,kl (k:=k)]
  cbv
theorem oN {f:Nat->Nat->Nat}{k x0:Nat}{P:Nat->Prop}(b:P x0)(c:∀x i,P x->i<k->P (f i x)):∀n,∀z∈bf f k x0 n,P z
 |0,z,a=>by rw[uM,agR]at a;rw[a];rwa[b]
 |n+ 1,z,a=>by
  cases h:(bf f k x0 n)[n]? with
  |none=>rw[kj h]at a;rwa[oN b c n z a]
  |some x=>
   rw[fU h,kl]at a;rcases a with a|⟨i,d,rfl⟩
   ·rwa[oN b c n z a]
   ·rwa[c _ _ (oN b c n x (agK h)) d]
theorem lQ {f:Nat->Nat->Nat}{k:Nat}:∀{n j x i:Nat},j<n->(bf f k m n)[j]?\x->i<k->f i x∈bf f k m n
 |n+ 1,j,x,i,o,a,c=>by
  cases h:(bf f k m n)[n]? with
  |none=>
   rw[kj h]at a ⊢;let p:=ai3.mp h;let g:=(agM.mp a).1;rwa[lQ (show j<n by omega) a c]
  |some y=>
   let⟨t,d⟩:=pX f y (bf f k m n) k;let l:=(agM.mp h).1
   let b:(bf f k m n)[j]?\x:=by
    rw[fU h,d,agV ∅]at a;rwa[a]
   by_cases e:j=n
   ·rw[e,h]at b;rw[fU h,kl];rwa[.inr ⟨i,c,by cbv⟩]
   ·rw[fU h,kl];rwa[.inl (lQ (show j<n by omega) b c)]
theorem uO {f:Nat->Nat->Nat}{k:Nat}(h:⇑(bf f k n i)=i):∀m,bf f k n (i+ m)=bf f k n i
 |0=>rfl
 |m+ 1=>by
  let a:=uO h m;rw[<-Nat.add_assoc,kj ([a]▸ai3.mpr ∅),a]
def PD {f:Nat->Nat->Nat}{k:Nat}(h:⇑(bf f k n m)=m)(a:⇑(bf f k n i)=i):m=i:=by
 rcases ajZ m i with q|q
 ·have:=uO h (i - m);rw[show m+ (i - m)=i by ext]at this;rw[this,h]at a;rwa[a]
 ·have:=uO a (m - i);rw[show i+ (m - i)=m by ext]at this;rw[this,a]at h;rwa[h.symm]
noncomputable def ix (come:Zh)(y:Nat):Nat:=come.findIdx λz=>z==y
theorem vT:∀{come:Zh} {i y:Nat},come.Nodup->come[i]?\y->ix come y=i
 |[],i,y,_,h=>by simp at h
 |a::l,0,y,_,h=>by
  let e:a=y:=Za0 h;unfold ix
  cbv
 |a::l,i+ 1,y,d,h=>by
  rw[List.getElem?_cons_succ]at h;let f:=agK h
  let b:(a==y)=false:=by
   rw[ag9];intro e;rwa[(ahs.mp d).1 (by cbv)]
  let c:ix l y=i:=vT (ahs.mp d).2 h;unfold ix at c ⊢;rw[akj,b];show l.findIdx _+ 1=i+ 1;rw[c]
def Ia {come:Zh}(b:come.Nodup)(h:n∈come):come[ix come n]?\n:=by
 let⟨i,a⟩:=ahF h;rw[vT b a];rwa[a]
def vU {come:Zh}(b:(come++B).Nodup)(h:n∈come):ix (come++B) n=ix come n:=by
 let⟨i,a⟩:=ahF h;let c:(come++B)[i]?\n:=by rw[agV (agM.mp a).1];rwa[a]
 rw[vT b c,vT (ahK.mp b).1 a]
def fB (f:Nat->Nat->Nat)(k:Nat)(come:Zh):Za3:=come.map λx=>(List.range k).map λi=>((ix come (f i x):Nat):Int)
def Ib {come:Zh}(h:n∉come):ix (come++[n]) n=⇑come:=by
 induction come with
 |nil=>unfold ix;rw[ajx,akj];simp
 |cons a l c=>
  rw[ag4,not_or]at h;let b:(a==n)=false:=by rw[ag9];rwa[λe=>h.1 e.symm]
  have:=c h.2;unfold ix at this ⊢
  cbv
def km (f:Nat->Nat->Nat)(k a n:Nat):Za3:=((bf f k a n).take n).map λx=>(List.range k).map λi=>((ix (bf f k a n) (f i x):Nat):Int)
def yX (f:Nat->Nat->Nat)(k a:Nat):km f k a 0=[]:=rfl
def yZ {f:Nat->Nat->Nat}{k x:Nat}(h:(bf f k n m)[m]?\x):km f k n (m+ 1)=km f k n m++[(List.range k).map λi=>((ix (bf f k n (m+ 1)) (f i x):Nat):Int)]:=by
 let⟨t,e⟩:=uN f k n m;let b:=iD f k n (m+ 1);let q:=(agM.mp h).1
 let g:(bf f k n (m+ 1)).take (m+ 1)=(bf f k n m).take m++[x]:=by
  rw[e,List.take_append_of_le_length ∅,aim,h];rfl
 unfold km;rw[g,aho]
 congr 1
 rwa[ahS λc o=>?_]
 rwa[ahS λi p=>?_]
 let⟨j,d⟩:=ahF o
 let a:j<m:=by
  have:=(agM.mp d).1;rw[ahr]at this;ext
 rw[ajV a]at d;let l:=lQ a d (ahG.mp p);rw[e]at b ⊢;rw[vU b l]
def Bf {f:Nat->Nat->Nat}{k:Nat}(h:⇑(bf f k n m)=m):km f k n m=fB f k (bf f k n m):=by
 unfold km fB
 cbv
end M24
namespace M55
open M11 M24
theorem y1 {f:Nat->Nat->Nat}{x:Nat}{come:Zh}{m:Nat}:∀n,∃t,dN f x come (m+ n)=dN f x come m++t
 |0=>⟨[],(ahl _).symm⟩
 |n+ 1=>by
  let⟨t,b⟩:=y1 (m:=m) n;let⟨u,a⟩:=Eo (dN f x come (m+ n)) (f (m+ n) x);rwa[t++u,by rw[<-Nat.add_assoc,jB,a,b,ahJ]]
section
variable {f:Nat->Nat->Nat}{k N:Nat}
theorem Ic {x:Nat}(h:(bf f k 0 n)[n]?\x){E:Zg}(l:⇑E=n* k)(j:M12.Fc k E ⇑(bf f k 0 n)):∀m,m<=k->M12.Fc k (E++(List.range m).map λi=>((ix (bf f k 0 (n+ 1)) (f i x):Nat):Int)) ⇑(dN f x (bf f k 0 n) m)
 |0,_=>by rw[List.range_zero,List.map_nil,ahl];rwa[j]
 |m+ 1,r=>by
  let g:=Ic h l j m ∅;let a:=iD f k 0 (n+ 1);let⟨t,b⟩:=y1 (f:=f) (x:=x) (come:=bf f k 0 n) (m:=m+ 1) (k - (m+ 1));rw[show m+ 1+ (k - (m+ 1))=k by ext,<-fU h]at b;rw[aib,aho,<-ahJ,List.map_singleton];generalize e:bf f k 0 (n+ 1)=O at *;let p:=(agM.mp h).1;let⟨u,o⟩:=pX f x (bf f k 0 n) m;let hlen:n<⇑(dN f x (bf f k 0 n) m):=by rw[o,agN];ext
  rw[jB]at b ⊢;by_cases c:f m x∈dN f x (bf f k 0 n) m
  ·let d:add (dN f x (bf f k 0 n) m) (f m x)=dN f x (bf f k 0 n) m:=by unfold add;rw[ahf c]
   rw[d]at b ⊢;rw[b]at a;let q:=vU a c;let lt:=(agM.mp (Ia (ahK.mp a).1 c)).1;rw[show ix O (f m x)=ix (dN f x (bf f k 0 n) m) (f m x) by rw[b];rwa[q]];rwa[g.old lt]
  ·let d:add (dN f x (bf f k 0 n) m) (f m x)=dN f x (bf f k 0 n) m++[f m x]:=by unfold add;rw[ahc c]
   rw[d]at b ⊢;rw[b]at a;let q:=vU a (agS (dN f x (bf f k 0 n) m) ag2);rw[show ix O (f m x)=⇑(dN f x (bf f k 0 n) m) by rw[b,q];rwa[Ib c],agN];rwa[g.new ∅ ?_];rw[agN,agO,ahw,l];have:(n+ 1)* k<=⇑(dN f x (bf f k 0 n) m)* k:=air _ hlen;rw[ajo]at this;ext
theorem SV (d:⇑(bf f k 0 N)=N):∀n,n<=N->(km f k 0 n).flatten.length=n* k/\M12.Fc k (km f k 0 n).flatten ⇑(bf f k 0 n)
 |0,_=>⟨by rw[yX,Nat.zero_mul];rfl,[yX,uM]▸M12.Fc.zero k⟩
 |n+ 1,h=>by
  let⟨c,g⟩:=SV d n ∅
  let a:∃x,(bf f k 0 n)[n]?\x:=by
   cases e:(bf f k 0 n)[n]? with
   |some x=>rwa[x,2]
   |none=>
    exfalso
    let i:=ai3.mp e
    have:∀m,(bf f k 0 (n+ m))=bf f k 0 n:=λm=>by
     induction m with
     |zero=>rfl
     |succ m b=>rw[<-Nat.add_assoc,kj ([b]▸ai3.mpr ∅),b]
    have:=this (N - n);rw[show n+ (N - n)=N by ext]at this;rw[this]at d;ext
  let⟨x,a⟩:=a;rw[yZ a,List.flatten_append,List.flatten_singleton];erw[by rw[agN,c,agO,ahw,ajo,Nat.one_mul]];have:=Ic a c g k (agQ _);rw[fU a]at this ⊢;rwa[this]
def fc (a:⇑(bf f k 0 N)=N):M12.Fc k (fB f k (bf f k 0 N)).flatten ⇑(fB f k (bf f k 0 N)):=by
 have:=(SV a N (agQ _)).2;rw[Bf a]at this;unfold fB;rw[agO];rwa[this]
def Bg {come:Zh}(b:j<k)(a:come[i]?\n):nx (fB f k come) j i=ix come (f j n):=by
 unfold nx fB;rw[agT (l:=List.map _ come),ag0,a];show ((((List.range k).map λi=>((ix come (f i n):Nat):Int))).getD j 0).toNat=_;rw[agT,ag0,aiP b];rfl
def uP (c:⇑(bf f k 0 N)=N){j i y:Nat}(b:j<k)(a:(bf f k 0 N)[i]?\y):(bf f k 0 N)[nx (fB f k (bf f k 0 N)) j i]?\(f j y):=by
 rw[Bg b a];rwa[Ia (iD _ _ _ N) (lQ (by have:=(agM.mp a).1;omega) a b)]
end
def SW {f:Nat->Nat->Nat}(l:⇑(bf f (2* n) 0 m)=m)(p:∀x∈bf f (2* n) 0 m,∀j,j<2* n->f (flip j) (f j x)=x)(g:1<=n)(o:n<=40)(s:1<=m)(q:m<=300):Tab n (fB f (2* n) (bf f (2* n) 0 m)):=by
 let hlen:⇑(fB f (2* n) (bf f (2* n) 0 m))=m:=by unfold fB;rw[agO,l]
 let c:∀i,i<⇑(fB f (2* n) (bf f (2* n) 0 m))->∃y,(bf f (2* n) 0 m)[i]?\y:=λi d=>⟨_,agJ ∅⟩
 rwa[⟨33,g,o,λi r h=>?_,λi k d b=>?_,λi k d b=>?_,λi k d b=>?_⟩]
 ·unfold fB at h;rw[ag0]at h
  cases e:(bf f (2* n) 0 m)[i]? with
  |none=>rw[e]at h;ext h
  |some y=>
   rw[e]at h;rw[<-Za0 h,agO,ahw]
 ·let⟨y,a⟩:=c i d;erw[_,by unfold fB;rw[ag0,a];rfl];rw[Bg b a,ag0,aiP b];rfl
 ·let⟨y,a⟩:=c i d;have:=(agM.mp (uP l b a)).1;ext
 ·let⟨y,a⟩:=c i d;rw[Bg (El b) (uP l b a),p y (agK a) k b];rwa[vT (iD _ _ _ m) a]
end M55
namespace K33
open PySem L2
noncomputable def top (i:Nat):Stmt:=PySem.Challenge.pw_cosetyard_k33_whole_table_stands.main.body.getD i (.Pass ⟨(0),(0),(0),(0)⟩)
abbrev Bh:Stmt:=top 1
abbrev oO:Stmt:=top 2
abbrev vV:Stmt:=top 10
abbrev vW:Stmt:=top 12
abbrev vX:Stmt:=top 13
abbrev vY:Stmt:=top 18
abbrev vZ:Stmt:=top 19
abbrev v3:Stmt:=top 22
abbrev MS:Stmt:=top 23
abbrev Ie:Stmt:=top 25
abbrev oQ:Stmt:=top 27
abbrev rN:Stmt:=top 28
abbrev ub:Stmt:=top 29
abbrev oR:Stmt:=top 30
abbrev rO:Stmt:=top 31
abbrev qB:Stmt:=top 32
abbrev rP:Stmt:=top 33
abbrev uc:Stmt:=top 34
abbrev qC:Stmt:=top 35
abbrev mG:Stmt:=top 36
abbrev rQ:Stmt:=top 37
abbrev qD:Stmt:=top 38
abbrev rS:Stmt:=top 39
abbrev rT:Stmt:=top 40
abbrev v7:Stmt:=top 41
abbrev MT:Stmt:=top 42
abbrev mH:Stmt:=inClass (top 3) 0
abbrev nB:Stmt:=inClass (top 3) 1
abbrev ud:Stmt:=inClass (top 3) 2
abbrev kT:Stmt:=inClass (top 4) 0
abbrev jC:Stmt:=inClass (top 4) 1
abbrev nF:Stmt:=inClass (top 4) 2
abbrev mI:Stmt:=inClass (top 4) 3
abbrev oS:Stmt:=inClass (top 4) 4
abbrev nH:Stmt:=inClass (top 4) 5
abbrev oT:Stmt:=inClass (top 4) 6
abbrev qE:Stmt:=inClass (top 4) 7
abbrev oU:Stmt:=inClass (top 4) 8
abbrev oV:Stmt:=inClass (top 4) 9
abbrev kU:Stmt:=inClass (top 4) 10
abbrev kX:Stmt:=inClass (top 8) 0
abbrev uf:Stmt:=inClass (top 15) 0
abbrev jV:Stmt:=inClass (top 16) 0
abbrev rV:Stmt:=inClass (top 17) 0
abbrev mJ:Stmt:=inClass (top 21) 0
abbrev rX:Stmt:=inClass (top 21) 1
abbrev ug:Stmt:=inClass (top 21) 2
abbrev wc:Stmt:=inClass (top 21) 3
abbrev qF:Stmt:=inClass (top 21) 4
abbrev mK:Stmt:=inClass (top 21) 5
abbrev qG:Stmt:=inClass (top 21) 6
abbrev lI:Stmt:=inClass (top 21) 7
abbrev rY:Stmt:=inClass (top 21) 8
abbrev nJ:Stmt:=inClass (top 21) 9
abbrev jW:Stmt:=inClass (top 21) 10
abbrev nK:Stmt:=inClass (top 21) 11
set_option genInjectivity false in
structure qH where
 K1:Zs
 K2:FuncData
 xS:Zs
 xT:FuncData
 FU:Zs
 FV:FuncData
 FW:Zs
 FX:FuncData
 FY:Zs
 FZ:FuncData
 wg:Zs
 wj:FuncData
 F0:Zs
 F1:FuncData
 F2:Zs
 F3:FuncData
 tu:Zs
 tD:FuncData
 Ig:Zs
 Ih:FuncData
 xU:Zs
 xV:FuncData
 Bi:Zs
 Bj:FuncData
 C6:Zs
 C7:FuncData
 xW:Zs
 xX:FuncData
 Bk:Zs
 Bl:FuncData
 zq:Zs
 zr:FuncData
 Bm:Zs
 Bn:FuncData
 C8:Zs
 C9:FuncData
 zt:Zs
 zu:FuncData
 uQ:Zs
 uR:FuncData
 Bo:Zs
 Bp:FuncData
 zv:Zs
 zx:FuncData
 Bq:Zs
 Br:FuncData
 Bs:Zs
 Bu:FuncData
 F4:Zs
 F5:FuncData
 VZ:Zs
 V0:FuncData
 mM:Zs
 uS:FuncData
 wm:Zs
 wq:FuncData
 Dc:Zs
 Dd:FuncData
 kY:Zs
 rZ:FuncData
 oW:Zs
 oX:FuncData
 wu:Zs
 wx:FuncData
 uT:Zs
 uU:FuncData
 xY:Zs
 xZ:FuncData
 wy:Zs
 wz:FuncData
 x6:Zs
 x8:FuncData
 zy:Zs
 zz:FuncData
 ya:Zs
 yb:FuncData
 yc:Zs
 yd:FuncData
 r0:Zs
 r6:FuncData
 sg:Zs
 sh:FuncData
 De:Zs
 Df:FuncData
 nL:Zs
 jX:FuncData
 Bv:Zs
 Bw:FuncData
 mO:Zs
 uV:FuncData
 Bx:Zs
 By:FuncData
 Dg:Zs
 Dh:FuncData
 F6:Zs
 F7:FuncData
 zA:Zs
 zB:FuncData
 uW:Zs
 uX:FuncData
 zC:Zs
 zD:FuncData
 tG:Zs
 tH:FuncData
 Bz:Zs
 BD:FuncData
 wA:Zs
 wB:FuncData
 pY:Zs
 pZ:FuncData
 wC:Zs
 wD:FuncData
 kF:Zs
 nM:Zs
 bE:Zs
 cQ:Zs
 bM:Zs
 cD:Zs
 az:Zs
 aJ:Zs
 aF:Zs
 Y5:Zs
 eG:Zs
set_option genInjectivity false in
structure Txt (K:Za1) (mg:Str->Zl) (A:qH):Prop where
 walked:Def K mg "walked" Bh ["rooms","room","word"] A.K1 A.K2
 mP:Def K mg "first_places" oO ["rules"] A.xS A.xT
 p1:Def K mg "steps_of" vV ["letters"] A.FU A.FV
 numbered:Def K mg "numbered" vW ["rooms"] A.FW A.FX
 mQ:Def K mg "place_of" vX ["step"] A.FY A.FZ
 p5:Def K mg "order_by" vY ["name"] A.wg A.wj
 mz:Def K mg "first_of" vZ ["rooms","some"] A.F0 A.F1
 p6:Def K mg "all_gaps" v3 ["letters"] A.F2 A.F3
 own:Def K mg "own" MS ["value"] A.tu A.tD
 fill:DDef K mg "fill" Ie ["letters","rules","part","limit","order"] A.Ig A.Ih (tx [114,111,111,109,115])
 bx:Def K mg "_law_cell_at" oQ ["_law_script","_law_k"] A.xU A.xV
 p7:Def K mg "_law_whole" rN ["_law_found"] A.Bi A.Bj
 nS:Def K mg "_law_step" ub ["_law_number","_law_letters"] A.C6 A.C7
 mR:Def K mg "_law_turning" oR ["_law_number","_law_many","_law_plain"] A.xW A.xX
 lS:Def K mg "_law_moved" rO ["_law_turns","_law_point","_law_word"] A.Bk A.Bl
 kH:Def K mg "_law_rounds" qB ["_law_turns","_law_points","_law_word"] A.zq A.zr
 p8:Def K mg "_law_rules" rP ["_law_turns","_law_letters","_law_mask","_law_room"] A.Bm A.Bn
 si:Def K mg "_law_part" uc ["_law_script","_law_turns","_law_letters","_law_first"] A.C8 A.C9
 kI:Def K mg "_law_digits" qC ["_law_cell","_law_letters","_law_most"] A.zt A.zu
 ko:Def K mg "_law_any_group" mG ["_law_script"] A.uQ A.uR
 p9:Def K mg "_law_group" rQ ["_law_script"] A.Bo A.Bp
 i6:Def K mg "_law_filled" qD ["_law_letters","_law_rules_here","_law_part_here","_law_limit_here","_law_order"] A.zv A.zx
 qc:Def K mg "_law_limit" rS ["_law_script"] A.Bq A.Br
 qd:Def K mg "_law_table" rT ["_law_table_here","_law_letters"] A.Bs A.Bu
 qe:Def K mg "_law_led" v7 ["_law_table_here","_law_room","_law_word"] A.F4 A.F5
 law:Def K mg "law" MT ["_law_script"] A.VZ A.V0
 gA:MDef K A.aJ "__init__" "Going.__init__" mH ["self","which","word","start"] A.mM A.uS
 lA:MDef K A.aJ "advance" "Going.advance" nB ["self","rooms"] A.wm A.wq
 sj:MDef K A.aJ "row" "Going.row" ud ["self","rooms"] A.Dc A.Dd
 e8:MDef K A.aF "__init__" "Closing.__init__" kT ["self","rooms","rules","part"] A.kY A.rZ
 fk:MDef K A.aF "begin_rules" "Closing.begin_rules" jC ["self","room"] A.oW A.oX
 jc:MDef K A.aF "begin" "Closing.begin" nF ["self","which","word","room"] A.wu A.wx
 iN:MDef K A.aF "settle" "Closing.settle" mI ["self"] A.uT A.uU
 mS:MDef K A.aF "make" "Closing.make" oS ["self","room","step"] A.xY A.xZ
 lB:MDef K A.aF "go_on" "Closing.go_on" nH ["self","number"] A.wy A.wz
 jY:MDef K A.aF "wait" "Closing.wait" oT ["self","number","room","step"] A.x6 A.x8
 nZ:MDef K A.aF "lay" "Closing.lay" qE ["self","going"] A.zy A.zz
 fb:MDef K A.aF "wake" "Closing.wake" oU ["self","room","step"] A.ya A.yb
 mU:MDef K A.aF "hear" "Closing.hear" oV ["self"] A.yc A.yd
 jm:MDef K A.aF "wake_all" "Closing.wake_all" kU ["self","room"] A.r0 A.r6
 dO:MDef K A.bE "__init__" "TooMany.__init__" kX ["self","made","rows"] A.sg A.sh
 jD:MDef K A.cQ "gap" "Order.gap" uf ["self","rooms"] A.De A.Df
 hH:MDef K A.bM "gap" "ByLetters.gap" jV ["self","rooms"] A.nL A.jX
 iO:MDef K A.cD "gap" "Newest.gap" rV ["self","rooms"] A.Bv A.Bw
 gB:MDef K A.az "__init__" "Rooms.__init__" mJ ["self","letters"] A.mO A.uV
 qf:MDef K A.az "make" "Rooms.make" rX ["self","room","step"] A.Bx A.By
 sk:MDef K A.az "lay" "Rooms.lay" ug ["self","room","step","other","row"] A.Dg A.Dh
 iE:MDef K A.az "by" "Rooms.by" wc ["self","room","step"] A.F6 A.F7
 ia:MDef K A.az "elder" "Rooms.elder" qF ["self","room"] A.zA A.zB
 eR:MDef K A.az "standing" "Rooms.standing" mK ["self"] A.uW A.uX
 kJ:MDef K A.az "paper" "Rooms.paper" qG ["self"] A.zC A.zD
 fJ:MDef K A.az "first_gap" "Rooms.first_gap" lI ["self","room"] A.tG A.tH
 lT:MDef K A.az "keep" "Rooms.keep" rY ["self","room","step","other"] A.Bz A.BD
 lC:MDef K A.az "take_in" "Rooms.take_in" nJ ["self","way","pending"] A.wA A.wB
 fK:MDef K A.az "put_together" "Rooms.put_together" jW ["self","room","step","one","other","pending"] A.pY A.pZ
 lD:MDef K A.az "put_off" "Rooms.put_off" nK ["self","room","pending"] A.wC A.wD
 kK:mg "enumerate"=none
 MV:mg "min"=none
 V1:mg "max"=none
 ej:mg "range"=none
 dB:mg "len"=none
 oY:mg "tuple"=none
 fe:mg "list"=none
 cV:mg "isinstance"=none
 SX:mg "bool"=none
 zR:mg "int"=none
 BE:mg "dict"=none
 F8:mg "reversed"=none
 V2:mg "abs"=none
 Dj:mg "YardError"=some ↑A.kF
 WG:mg "NoOrder"=some ↑A.nM
 y3:mg "TooMany"=some ↑A.bE
 PF:mg "Order"=some ↑A.cQ
 Dl:mg "ByLetters"=some ↑A.bM
 K3:mg "Newest"=some ↑A.cD
 PH:mg "Rooms"=some ↑A.az
 PL:mg "Going"=some ↑A.aJ
 Ii:mg "Closing"=some ↑A.aF
 K4:PySem.W.plainGet K A.az Str.empty=true
 K5:PySem.W.hasDictIn K A.az=true
 K6:PySem.W.plainOver K A.az=true
 K7:PySem.W.findIn K ↑A.az "__setattr__"=some (some (.builtin "object.__setattr__"))
 uY:PySem.W.makesIn K A.az=true
 K8:PySem.W.keepIn K ↑A.az=true
 sr:PySem.W.findIn K ↑A.az "letters"=some none
 o6:PySem.W.findIn K ↑A.az "made"=some none
 su:PySem.W.findIn K ↑A.az "rows"=some none
 i7:PySem.W.findIn K ↑A.az "ways"=some none
 sv:PySem.W.findIn K ↑A.az "gaps"=some none
 jn:PySem.W.findIn K ↑A.az "elders"=some none
 mV:PySem.W.findIn K ↑A.az "called"=some none
 sx:PySem.W.findIn K ↑A.az "went"=some none
 K9:PySem.W.plainGet K A.aJ Str.empty=true
 La:PySem.W.hasDictIn K A.aJ=true
 Lb:PySem.W.plainOver K A.aJ=true
 Lc:PySem.W.findIn K ↑A.aJ "__setattr__"=some (some (.builtin "object.__setattr__"))
 uZ:PySem.W.makesIn K A.aJ=true
 Ld:PySem.W.keepIn K ↑A.aJ=true
 BF:PySem.W.findIn K ↑A.aJ "which"=some none
 jE:PySem.W.findIn K ↑A.aJ "word"=some none
 qg:PySem.W.findIn K ↑A.aJ "start"=some none
 gU:PySem.W.findIn K ↑A.aJ "front"=some none
 fh:PySem.W.findIn K ↑A.aJ "first"=some none
 ib:PySem.W.findIn K ↑A.aJ "rear"=some none
 iP:PySem.W.findIn K ↑A.aJ "last"=some none
 F9:PySem.W.plainGet K A.aF Str.empty=true
 Ga:PySem.W.hasDictIn K A.aF=true
 Gb:PySem.W.plainOver K A.aF=true
 Ge:PySem.W.findIn K ↑A.aF "__setattr__"=some (some (.builtin "object.__setattr__"))
 qh:PySem.W.makesIn K A.aF=true
 Gf:PySem.W.keepIn K ↑A.aF=true
 fi:PySem.W.findIn K ↑A.aF "rooms"=some none
 BG:PySem.W.findIn K ↑A.aF "rules"=some none
 jF:PySem.W.findIn K ↑A.aF "goings"=some none
 kZ:PySem.W.findIn K ↑A.aF "agenda"=some none
 jZ:PySem.W.findIn K ↑A.aF "waiting"=some none
 mW:PySem.W.findIn K ↑A.aF "heard"=some none
 Le:PySem.W.plainGet K A.cQ Str.empty=true
 Lf:PySem.W.hasDictIn K A.cQ=true
 Lg:PySem.W.plainOver K A.cQ=true
 Lh:PySem.W.findIn K ↑A.cQ "__setattr__"=some (some (.builtin "object.__setattr__"))
 Li:PySem.W.makesIn K A.cQ=true
 Lj:PySem.W.keepIn K ↑A.cQ=true
 Lk:PySem.W.findIn K ↑A.cQ "__init__"=some (some (.builtin "object.__init__"))
 Y6:PySem.W.findIn K ↑A.cQ "__class__"=some (some (.builtin "object.__class__"))
 Y7:PySem.W.mroIn K A.cQ (.type "object")\true
 BH:PySem.W.plainGet K A.bM Str.empty=true
 BI:PySem.W.hasDictIn K A.bM=true
 BJ:PySem.W.plainOver K A.bM=true
 BK:PySem.W.findIn K ↑A.bM "__setattr__"=some (some (.builtin "object.__setattr__"))
 BL:PySem.W.makesIn K A.bM=true
 BM:PySem.W.keepIn K ↑A.bM=true
 BO:PySem.W.findIn K ↑A.bM "__init__"=some (some (.builtin "object.__init__"))
 SY:PySem.W.findIn K ↑A.bM "__class__"=some (some (.builtin "object.__class__"))
 S0:PySem.W.mroIn K A.bM (.type "object")\true
 Ij:PySem.W.plainGet K A.cD Str.empty=true
 Ik:PySem.W.hasDictIn K A.cD=true
 Il:PySem.W.plainOver K A.cD=true
 Io:PySem.W.findIn K ↑A.cD "__setattr__"=some (some (.builtin "object.__setattr__"))
 Ip:PySem.W.makesIn K A.cD=true
 Iq:PySem.W.keepIn K ↑A.cD=true
 Ir:PySem.W.findIn K ↑A.cD "__init__"=some (some (.builtin "object.__init__"))
 WH:PySem.W.findIn K ↑A.cD "__class__"=some (some (.builtin "object.__class__"))
 WK:PySem.W.mroIn K A.cD (.type "object")\true
 WL:PySem.W.excIn K A.nM Av "ValueError.__new__"=true
 wF:L2.FN K A.bE=true
 Gh:PySem.W.keepIn K ↑A.bE=true
 WM:PySem.W.exmOne K ↑A.bE ↑A.bE\true
 Gi:(PySem.W.clsIn K A.bE).any (λcd=>L2.mE cd.mro)=true
 Gj:PySem.W.hasDictIn K A.bE=true
 Gk:PySem.W.findIn K ↑A.bE "__setattr__"=some (some (.builtin "object.__setattr__"))
 Gm:PySem.W.findIn K ↑A.bE "__getattribute__"=some (some (.builtin "BaseException.__getattribute__"))
 Gn:PySem.W.findIn K ↑A.bE "__getattr__"=some none
 Gp:PySem.W.subIn K ↑A.bE (.type "BaseException")\true
 PN:PySem.W.findIn K ↑A.bE "made"=some none
 PQ:PySem.W.findIn K ↑A.bE "rows"=some none
 Y8:PySem.W.specialIn K ↑A.kF "__getattribute__"=some (some (.builtin "type.__getattribute__"))
 Y9:PySem.W.readsIn K A.kF (.type "type")=true
 aac:(match PySem.W.findCls K ↑A.kF (.type "type") "__init__" with|some (.val (.builtin i))=>i=="ValueError.__init__" | _=>false)=true
 lam:LamAt K A.jX A.Y5 A.eG
def aI {A:qH}(T:Txt K M A):j3 K A.az:=⟨T.K4,T.K5,T.K6,T.K7⟩
def uY {A:qH}(T:Txt K M A):Mk K A.az A.mO:=⟨T.uY,T.gB.m.at_,T.gB.m.fn,T.K8⟩
def aT {A:qH}(T:Txt K M A):j3 K A.aJ:=⟨T.K9,T.La,T.Lb,T.Lc⟩
def uZ {A:qH}(T:Txt K M A):Mk K A.aJ A.mM:=⟨T.uZ,T.gA.m.at_,T.gA.m.fn,T.Ld⟩
def aL {A:qH}(T:Txt K M A):j3 K A.aF:=⟨T.F9,T.Ga,T.Gb,T.Ge⟩
def qh {A:qH}(T:Txt K M A):Mk K A.aF A.kY:=⟨T.qh,T.e8.m.at_,T.e8.m.fn,T.Gf⟩
def BP {A:qH}(T:Txt K M A):j3 K A.cQ:=⟨T.Le,T.Lf,T.Lg,T.Lh⟩
def sC {A:qH}(T:Txt K M A):j3 K A.bM:=⟨T.BH,T.BI,T.BJ,T.BK⟩
def y4 {A:qH}(T:Txt K M A):j3 K A.cD:=⟨T.Ij,T.Ik,T.Il,T.Io⟩
def nT:aS ["rooms","room","word","path","step"] ["rooms","room","word"] (aB Bh):=(by ac_rfl)
def ip:aS ["rules","places","which","rule"] ["rules"] (aB oO):=(by ac_rfl)
def oh:aS ["letters","steps","letter"] ["letters"] (aB vV):=(by ac_rfl)
def fV:aS ["rooms","steps","found","numbers","rows","others","other"] ["rooms"] (aB vW):=(by ac_rfl)
def Dm:aS ["step"] ["step"] (aB vX):=(by ac_rfl)
def Dq:aS ["name"] ["name"] (aB vY):=(by ac_rfl)
def oj:aS ["rooms","some","room","step"] ["rooms","some"] (aB vZ):=(by ac_rfl)
def Dr:aS ["letters"] ["letters"] (aB v3):=(by ac_rfl)
def Iu:aS ["value"] ["value"] (aB MS):=(by ac_rfl)
def l0:aS ["letters","rules","part","limit","order","chosen","rooms","closing","gap"] ["letters","rules","part","limit","order"] (aB Ie):=(by ac_rfl)
def wG:aS ["_law_script","_law_k"] ["_law_script","_law_k"] (aB oQ):=(by ac_rfl)
def zE:aS ["_law_found"] ["_law_found"] (aB rN):=(by ac_rfl)
def BQ:aS ["_law_number","_law_letters"] ["_law_number","_law_letters"] (aB ub):=(by ac_rfl)
def fL:aS ["_law_number","_law_many","_law_plain","_law_by","_law_some","_law_turned"] ["_law_number","_law_many","_law_plain"] (aB oR):=(by ac_rfl)
def jd:aS ["_law_turns","_law_point","_law_word","_law_step_here"] ["_law_turns","_law_point","_law_word"] (aB rO):=(by ac_rfl)
def gC:aS ["_law_turns","_law_points","_law_word","_law_count","_law_spots"] ["_law_turns","_law_points","_law_word"] (aB qB):=(by ac_rfl)
def cW:aS ["_law_turns","_law_letters","_law_mask","_law_room","_law_words","_law_k","_law_j","_law_found","_law_word","_law_often"] ["_law_turns","_law_letters","_law_mask","_law_room"] (aB rP):=(by ac_rfl)
def gE:aS ["_law_script","_law_turns","_law_letters","_law_first","_law_way","_law_words","_law_word","_law_cell"] ["_law_script","_law_turns","_law_letters","_law_first"] (aB uc):=(by ac_rfl)
def dP:aS ["_law_cell","_law_letters","_law_most","_law_many","_law_word","_law_k"] ["_law_cell","_law_letters","_law_most"] (aB qC):=(by ac_rfl)
def dF:aS ["_law_script","_law_letters","_law_rules_here","_law_k","_law_part_here"] ["_law_script"] (aB mG):=(by ac_rfl)
def cx:aS ["_law_script","_law_plain","_law_many","_law_letters","_law_turns","_law_k","_law_mask","_law_first","_law_rules_here"] ["_law_script"] (aB rQ):=(by ac_rfl)
def dQ:aS ["_law_letters","_law_rules_here","_law_part_here","_law_limit_here","_law_order","_law_found","_law_refused","e"] ["_law_letters","_law_rules_here","_law_part_here","_law_limit_here","_law_order"] (aB qD):=(by ac_rfl)
def je:aS ["_law_script","_law_cell","_law_limit_here"] ["_law_script"] (aB rS):=(by ac_rfl)
def eI:aS ["_law_table_here","_law_letters","_law_come","_law_room","_law_row","_law_at","_law_other"] ["_law_table_here","_law_letters"] (aB rT):=(by ac_rfl)
def om:aS ["_law_table_here","_law_room","_law_word","_law_step_here"] ["_law_table_here","_law_room","_law_word"] (aB v7):=(by ac_rfl)
def dX:aS ["_law_script","_law_letters","_law_turns","_law_rules_here","_law_part_here","_law_first","_law_limit_here","_law_order","_law_handed","_law_found","_law_refused","_law_table_here","_law_room","_law_word","_law_held","_law_again"] ["_law_script"] (aB MT):=(by ac_rfl)
def tI:aS ["self","which","word","start"] ["self","which","word","start"] (aB mH):=(by ac_rfl)
def jo:aS ["self","rooms","room"] ["self","rooms"] (aB nB):=(by ac_rfl)
def mX:aS ["self","rooms","ahead","behind"] ["self","rooms"] (aB ud):=(by ac_rfl)
def fm:aS ["self","rooms","rules","part","room","which","word"] ["self","rooms","rules","part"] (aB kT):=(by ac_rfl)
def fW:aS ["self","room","rule","which"] ["self","room"] (aB jC):=(by ac_rfl)
def u6:aS ["self","which","word","room"] ["self","which","word","room"] (aB nF):=(by ac_rfl)
def tJ:aS ["self"] ["self"] (aB mI):=(by ac_rfl)
def wH:aS ["self","room","step"] ["self","room","step"] (aB oS):=(by ac_rfl)
def mY:aS ["self","number","going"] ["self","number"] (aB nH):=(by ac_rfl)
def j0:aS ["self","number","room","step","steps","numbers"] ["self","number","room","step"] (aB oT):=(by ac_rfl)
def o8:aS ["self","going","step"] ["self","going"] (aB qE):=(by ac_rfl)
def wI:aS ["self","room","step"] ["self","room","step"] (aB oU):=(by ac_rfl)
def wJ:aS ["self"] ["self"] (aB oV):=(by ac_rfl)
def fq:aS ["self","room","step","elder"] ["self","room"] (aB kU):=(by ac_rfl)
def qO:aS ["self","made","rows"] ["self","made","rows"] (aB kX):=(by ac_rfl)
def BR:aS ["self","rooms"] ["self","rooms"] (aB uf):=(by ac_rfl)
def mZ:aS ["self","rooms","gaps"] ["self","rooms"] (aB jV):=(by ac_rfl)
def zF:aS ["self","rooms"] ["self","rooms"] (aB rV):=(by ac_rfl)
def tK:aS ["self","letters"] ["self","letters"] (aB mJ):=(by ac_rfl)
def qI:aS ["self","room","step","number"] ["self","room","step"] (aB rX):=(by ac_rfl)
def sD:aS ["self","room","step","other","row","pending"] ["self","room","step","other","row"] (aB ug):=(by ac_rfl)
def Ds:aS ["self","room","step"] ["self","room","step"] (aB wc):=(by ac_rfl)
def ye:aS ["self","room"] ["self","room"] (aB qF):=(by ac_rfl)
def tL:aS ["self"] ["self"] (aB mK):=(by ac_rfl)
def yf:aS ["self"] ["self"] (aB qG):=(by ac_rfl)
def k8:aS ["self","room","step"] ["self","room"] (aB lI):=(by ac_rfl)
def zG:aS ["self","room","step","other"] ["self","room","step","other"] (aB rY):=(by ac_rfl)
def dR:aS ["self","way","pending","room","step","other","led_to","come_from"] ["self","way","pending"] (aB nJ):=(by ac_rfl)
def eA:aS ["self","room","step","one","other","pending","less","more","number"] ["self","room","step","one","other","pending"] (aB jW):=(by ac_rfl)
def gW:aS ["self","room","pending","ways","step","other"] ["self","room","pending"] (aB nK):=(by ac_rfl)
section
variable {P:Program}{w:World}{K:Za1}{mg:Str->Zl}{base:Heap}{A:qH}
def hJ {c:PySem.Const}{p:PySem.Pos}{a:List PySem.Expr}{env:PySem.Env}:PySem.starEach (.Constant c j p::a) env=(false,PySem.eval (.Constant c j p) env)::PySem.starEach a env:=rfl
def zS (K:Za1)(c:Zs):Sp:=λd H Q _=>∃(a:Zs) (ns:Zg),d=[↑a]/\aD K H a (ns.map V.int)/\⇑ns<=63/\H c\(.fE #[])/\∀b,Q (.bl true) b
def bA (n:Nat):Zg:=(List.range n).map M12.st
def tE (n:Nat):⇑(bA n)=n:=by unfold bA;cbv
def sE (h:i<n):(bA n)[i]?\(M12.st i):=by
 unfold bA;rw[ag0,aiP h];rfl
def PR (i:Nat):bA (2* i)++[1+ (i:Int)]++[-(1+ (i:Int))]=bA (2* (i+ 1)):=by
 let e:2* (i+ 1)=2* i+ 1+ 1:=∅
 rw[e];unfold bA;rw[aib,aib,aho,aho];let b:M12.st (2* i)=1+ (i:Int):=by unfold M12.st;rw[ahf ∅];ext
 let a:M12.st (2* i+ 1)= -(1+ (i:Int)):=by unfold M12.st;rw[ahc ∅];ext
 show _=(List.range (2* i)).map M12.st++[M12.st (2* i)]++[M12.st (2* i+ 1)];rw[b,a]
def Iv (n:Nat):(bA n).Nodup:=by
 unfold bA;rwa[aiv.mpr (List.Pairwise.imp ?_ ako)];intro a b c z;let d:=M12.MR a;rw[z,M12.MR]at d;rwa[c d.symm]
def dC {rs:Zn}{r:Zs}(h:rs[i]?\r):j4 (rs.map V.ref) (i:Int)\(V.ref r):=da (by rw[ag0,h];rfl)
def Ln:Sp:=λb H Q _=>∃L:Nat,b=[.int L]/\1<=L/\L<=200/\∀l a,aq H a->a l\.lst (ao ((List.range (2* L)).map M12.st))->Q ↑l a
def S3:Sp:=λb H Q _=>∃L:Nat,b=[.int L]/\1<=L/\L<=200/\∀d a,aq H a->H d=none->a d\.dK (gK (bA (2* L)))->Q ↑d a
inductive MX (C:Zs) (vs:Zb) (H:Hp) (Q:VK) (E_:XK):Prop
 |mk (x dx:Zs) (L:Nat):vs=[↑x,.int L]->H x\.ins C dx []->1<=L->L<=200->(∀a H',(∀b o,H b\o->b≠x->H' b\o)->ay C H' x (RS.new L (bA (2* L))) a->(∀b,a.own x b->b=x\/H b=none)->Q .non H')->MX C vs H Q E_
def cY (a:RA)(r:Zs)(H c:Hp):Prop:=∀b o,¬a.own r b->H b\o->c b\o
inductive Iw (C:Zs) (vs:Zb) (H:Hp) (Q:VK) (E_:XK):Prop
 |mk (r:Zs) (S:RS) (a:RA) (c d:Nat) (z:Int):vs=[↑r,.int c,.int z,.int d]->ay C H r S a->S.Wf->c<S.made->d<S.made->(∀l∈S.ways,⇑l<=100000)->(∀H',cY a r H H'->ay C H' r (S.keep c z d) a->Q .non H')->Iw C vs H Q E_
inductive Iy (C:Zs) (vs:Zb) (H:Hp) (Q:VK) (E_:XK):Prop
 |mk (r:Zs) (S:RS) (a:RA) (c:Nat) (z:Int):vs=[↑r,.int c,.int z]->ay C H r S a->S.Wf->1<=S.L->S.L<=200->c<S.made->S.made<=100000->⇑S.rows<=1000000->(∀l∈S.ways,⇑l<=100000)->(∀a' H',cY a r H H'->ay C H' r (S.make c z (bA (2* S.L))) a'->(∀b,a'.own r b->a.own r b\/H b=none)->Q (.int S.made) H')->Iy C vs H Q E_
inductive MY (C:Zs) (vs:Zb) (H:Hp) (Q:VK) (E_:XK):Prop
 |mk (r:Zs) (S:RS) (a:RA) (c:Nat) (z:Int):vs=[↑r,.int c,.int z]->ay C H r S a->c<⇑S.ways->(Q (((S.by c z).map λn:Nat=>V.int (n:Int)).getD .non) H)->MY C vs H Q E_
inductive Er (C:Zs) (vs:Zb) (H:Hp) (Q:VK) (E_:XK):Prop
 |mk (r:Zs) (S:RS) (a:RA) (c e:Nat):vs=[↑r,.int c]->ay C H r S a->S.aU[c]?\e->Q (.int e) H->Er C vs H Q E_
inductive wL (C:Zs) (vs:Zb) (H:Hp) (Q:VK) (E_:XK):Prop
 |mk (r:Zs) (S:RS) (a:RA):vs=[↑r]->ay C H r S a->S.Wf->S.made<=100000->(∀l,H l=none->Q ↑l (upd H l (.lst (ao (nI ((List.range S.made).filter λc=>decide (S.aU[c]?\c)))))))->wL C vs H Q E_
def wM (k:Nat):Sp:=λc H Q _=>∃(v:V) (d:Dt),c=[v]/\bK H k v d/\mB d/\∀b a,aq H a->bK a k b d->Q b a
inductive Es (k:Nat) (C:Zs) (vs:Zb) (H:Hp) (Q:VK) (E_:XK):Prop
 |mk (r:Zs) (S:RS) (a:RA):vs=[↑r]->ay C H r S a->⇑S.rows<=1000000->(∀p d,d∈S.rows->bK H 4 ↑p d->bK H k ↑p d)->(∀l ps H',aq H H'->H l=none->H' l\.lst (ps.map V.ref)->Each (λp d=>bK H' 4 ↑p d) ps S.rows->Q ↑l H')->Es k C vs H Q E_
def Iz (T:Txt K mg A):du P w K mg base (cZ P w) 2 A.tu A.tD ["value"] (wM 0):=by
 rwa[T.own.F.okN Iu (λg H Q E h=>?_) (λq u c s H g Q E x h=>?_)]
 ·let⟨v,d,rfl,_⟩:=h;rfl
 ·let⟨v,d,rfl,f,m,k⟩:=h
  erw[_,(aj (bH (eV (bq eY rfl T.cV aht (ae (pv 0) (ae (gk (v:=.ty "tuple") rfl T.oY aiK rfl) ai))))
   kL
   bp)
   (aj (bH (eV (bq eY rfl T.cV aht (ae (pv 0) (ae (gk (v:=.ty "list") rfl T.fe ahB rfl) ai))))
    kL
    bp)
   (aj (bH (eV (bq eY rfl T.cV aht (ae (pv 0) (ae (gk (v:=.ty "dict") rfl T.BE ake rfl) ai))))
    kL
    bp)
   (av (bh (pv 0))))))]
  rwa[gT ?_];intro p o t
  let atom:(∃n,v=.int n)\/(∃l,v=.str (tx l))\/∃(a:Zs) (g:Zb) (j:List Dt),v=↑a/\d=.t j/\False:=by
   cases f with
   |i=>exact .inl ⟨12⟩
   |s=>exact .inr (.inl ⟨12⟩)
   |n=>ext m
   |b=>ext m
  rcases atom with ⟨n,rfl⟩|⟨l,rfl⟩|⟨a,g,j,rfl,rfl,r⟩
  ·rwa[⟨_,rfl,_,_,_,_,rfl,.int n,qw K,_,rfl,dv ?_⟩];rwa[⟨1211112,.int n,rn K,12,dv ?_⟩];rwa[⟨1211112,.int n,ro K,12,dv ?_⟩];rwa[12,k _ H (λ_ _ e=>e) f]
  ·rwa[⟨1211112,.str (tx l),qx K,12,dv ?_⟩];rwa[⟨1211112,.str (tx l),rq K,12,dv ?_⟩];rwa[⟨1211112,.str (tx l),rA K,12,dv ?_⟩];rwa[12,k _ H (λ_ _ e=>e) f]
  ·rwa[r.elim]
def BU (T:Txt K mg A)(p:du P w K mg base (cZ P w) j A.tu A.tD ["value"] (wM m)):du P w K mg base (cZ P w) (j+ 1) A.tu A.tD ["value"] (wM (m+ 1)):=by
 rwa[T.own.F.okN Iu (λg H Q E h=>?_) (λcu AA I s H g Q E J h=>?_)]
 ·let⟨v,d,rfl,_⟩:=h;rfl
 ·let⟨v,d,rfl,M,z,k⟩:=h
  erw[_,(aj (bH (eV (bq eY rfl T.cV aht (ae (pv 0) (ae (gk (v:=.ty "tuple") rfl T.oY aiK rfl) ai))))
   (av (bh (c9 qq rfl T.oY aiK (ae (jl (fns:=[]) (ixs:=[]) (cl:=[]) rfl (vt (pv 0)) (jP ⋯ ⋯ rfl ⋯ rfl) (λC s H ex=>(pc (hj:=agQ _) T.own p J (ae (pv 0) ai)))) ai))))
   bp)
   (aj (bH (eV (bq eY rfl T.cV aht (ae (pv 0) (ae (gk (v:=.ty "list") rfl T.fe ahB rfl) ai))))
    kL
    bp)
   (aj (bH (eV (bq eY rfl T.cV aht (ae (pv 0) (ae (gk (v:=.ty "dict") rfl T.BE ake rfl) ai))))
    kL
    bp)
   (av (bh (pv 0))))))]
  rwa[gT ?_];intro jG S fx
  let atom:(∃n,v=.int n)\/(∃l,v=.str (tx l))\/∃(a:Zs) (g:Zb) (ds:List Dt),v=↑a/\d=.t ds/\(H a\.tup g/\⇑g=⇑ds/\∀(c:Nat) (v:V) (x:Dt),g[c]?\v->ds[c]?\x->bK H m v x):=by
   cases M with
   |i=>exact .inl ⟨12⟩
   |s=>exact .inr (.inl ⟨12⟩)
   |n=>ext z
   |b=>ext z
   |t o O L=>exact .inr (.inr ⟨11122,o,O,L⟩)
   |l=>ext z
  rcases atom with ⟨n,rfl⟩|⟨l,rfl⟩|⟨a,g,ds,rfl,rfl,B⟩
  ·rwa[⟨_,rfl,_,_,_,_,rfl,.int n,qw K,_,rfl,dv ?_⟩];rwa[⟨1211112,.int n,rn K,12,dv ?_⟩];rwa[⟨1211112,.int n,ro K,12,dv ?_⟩];rwa[12,k _ H (λ_ _ e=>e) M]
  ·rwa[⟨1211112,.str (tx l),qx K,12,dv ?_⟩];rwa[⟨1211112,.str (tx l),rq K,12,dv ?_⟩];rwa[⟨1211112,.str (tx l),rA K,12,dv ?_⟩];rwa[12,k _ H (λ_ _ e=>e) M]
  ·let⟨o,O,L⟩:=B;obtain⟨hz,r⟩:⇑ds<=100000/\∀x∈ds,mB x:=by cases z with|t a b=>exact⟨a,b⟩
   rwa[⟨1211112,.tup o,mq K "tuple",12,jj ?_⟩];erw[12,a,2,⟨_,bG.of o⟩];rwa[ni ⇑g (λi=>g.getD i .non) (λf v i=>∃x,ds[i]?\x/\mB x/\bK f m v x) (λH1 f v i s ⟨x,e,Z,q⟩=>⟨x,e,Z,q.same s⟩) ?_ (λi f s2 u=>QW (bG.of (s2^o)) i u) (λi x f H3 s2 u y=>?_) (λf s2=>J1 (bG.of (s2^o))) (λi f Rr u s2 Y=>?_) (λD f ys s2 hD hl J=>?_)]
   ·rwa[ag3 ∅ (show 100000<=sizeLine by decide)]
   ·let⟨e,B⟩:=Oi (bG.of (s2^o)) i x H3 u y
    cbv
   ·let B:g[i]?\(g.getD i .non):=by rw[agT,agJ u];rfl
    let F:ds[i]?\(ds[i]'∅):=agJ ∅
    rwa[⟨12112,(L i _ _ B F).same s2,r _ (agK F),λU H' s' q'=>Y U H' s' ⟨_,F,r _ (agK F),q'⟩⟩]
   ·rwa[⟨D,ys,2,.inl ⟨aD.of ah,λl G=>?_⟩⟩];let R:aq f (upd f D (.lst ys)):=aq.upd hD;let N:aq (upd f D (.lst ys)) (upd (upd f D (.lst ys)) l (.tup ys)):=aq.upd G;rwa[k _ _ (s2.trans (R.trans N)) (.t ah ∅ λc v x e1 e2=>?_)];obtain⟨y,X,-,q⟩:=J c v e1;obtain rfl:y=x:=Za0 (X.symm.trans e2);rwa[q.same (R.trans N)]
def IA (T:Txt K mg A):du P w K mg base (cZ P w) 3 A.tu A.tD ["value"] (wM 1):=BU T (Iz T)
def y6 (T:Txt K mg A):du P w K mg base (cZ P w) 4 A.tu A.tD ["value"] (wM 2):=BU T (IA T)
def uh (T:Txt K mg A):T.p1.Ok P w base 1 Ln:=by
 rwa[T.p1.on oh (λu z d s H D Q E C h=>?_) (len:=by rintro _ _ _ _ ⟨L,rfl,_⟩;rfl)]
 ·let⟨L,rfl,q,t,k⟩:=h
  erw[_,(aj (bJ 1 oh.nd (bT ai))
   (aj (ck ahe rfl (m9 rfl T.ej (ae au (ae (aK cI (pv 0) au) ai))) (di 2 oh.nd)
    (aj (aV (cO agY aha ahb bN (pv 1) (ae (pv 2) ai)))
    (av (aV (cO agY aha ahb bN (pv 1) (ae (fY eJ (pv 2)) ai))))))
   (av (bh (pv 1)))))]
  rwa[fS ?_];intro r x;rwa[⟨ahg _,λl f=>?_⟩];let p:aq H (upd H l (.lst [])):=aq.upd f;let m:upd H l (.lst []) l\(.lst (ao (bA (2* 0)))):=ah;generalize upd H l (.lst [])=H0 at p m ⊢;erw[121122,(1),(L:Int)+ 1,2,⟨3333⟩];rwa[gL (lo:=1) (n:=((L:Int)+ 1 - 1).toNat) (λi j c=>∃v:Zc,j=#v[.int L,↑l,v]/\aq H c/\c l\.lst (ao (bA (2* i)))) ⟨none,2,p,m⟩ ?_ ?_]
  ·rintro i j c B ⟨v,rfl,g,a⟩;let y:i<L:=∅
   erw[12,.inl ⟨21,aD.of a⟩,12,l,1122,a,5]
   ·rw[aM,tE];rwa[agU (show 2* i<=400 by omega) ⋯]
   erw[12,.inl ⟨21,aD.of ah⟩,1212,l,1122,ah,5]
   ·rw[agN,aM,tE];rwa[agU (show 2* i+ 1<=400 by omega) ⋯]
   erw[12,λb o e=>?_]
   ·rw[ak (ax e f),ak (ax e f)];rwa[g^e]
   ·rw[ah,<-PR,ints_app,ints_app];rfl
  ·rintro j c ⟨v,rfl,g,a⟩;rw[show ((L:Int)+ 1 - 1).toNat=L by ext]at a;rwa[12,k l c g a]
def ui (T:Txt K mg A):T.p6.Ok P w base 2 S3:=by
 rwa[T.p6.on Dr (λZ AA o s H vs Q E B h=>?_) (len:=by rintro _ _ _ _ ⟨L,rfl,_⟩;rfl)]
 ·let⟨L,rfl,m,u,k⟩:=h;erw[_,(av (bh (c9 (vE rfl) rfl T.BE ake (ae (jl (fns:=[]) (ixs:=[]) (cl:=[]) rfl (cP (pc T.p1 (uh T) B (ae (pv 0) ai))) (jP ⋯ ⋯ rfl ⋯ rfl) (λC s H ex=>(cJ (ae (pv 0) (ae kA ai))))) ai))))];rwa[⟨12,L,2,m,u,λl O s1 j=>⟨l,2,⟨_,aD.of j⟩,5⟩⟩];let U:⇑(ao ((List.range (2* L)).map M12.st))=2* L:=by rw[aM,agO,ahw]
  rwa[ni (2* L) (λi=>.int (M12.st i)) (λc v i=>∃p,v=↑p/\c p\.tup [.int (M12.st i),.bl true]) (λO c v i s ⟨p,e,q⟩=>⟨p,e,s^q⟩) ?_ (λi c s2 f=>jQ (aD.of (s2^j)) i ∅) (λi x c Y s2 f y=>?_) (λc s2=>?_) (λi c Rr f s2 R=>?_) (λD c ys s2 hD F B=>?_)]
  ·rwa[ag3 (show 2* L<=400 by omega) ⋯]
  ·let⟨e,hx⟩:=iJ (aD.of (s2^j)) i x Y ∅ y;erw[e];rw[show (ao ((List.range (2* L)).map M12.st))[i]?=some (.int (M12.st i)) from cC (sE f)]at hx
   cbv
  ·have:=gR (aD.of (K:=K) (s2^j));rw[U]at this;rwa[this]
  ·rwa[⟨12,(Za4 2),λt ht=>R _ _ (aq.upd ht) ⟨t,2,ah⟩⟩]
  ·let⟨g,rfl,r⟩:=ti (P:=λi p=>c p\.tup [.int (M12.st i),.bl true]) ys 0 (λi v hv=>[akl]▸B i v hv);let J:aq c (upd c D (.lst (g.map V.ref))):=aq.upd hD;rw[agO]at F;rwa[⟨D,g,gK (bA (2* L)),2,ah,by rw[Rt,tE,F],λi p kv N G=>?_,λd M=>?_⟩]
   ·let f:i<2* L:=by rw[<-F];rwa[(agM.mp N).1]
    have:=r i p N;rw[akl]at this;unfold gK at G;rw[ag0,sE f]at G;rw[<-Za0 G];rwa[J^this]
   ·let e:iZ [] (gK (bA (2* L)))=gK (bA (2* L)):=by
     rw[yG _ _ ?_,ajx];rw[ajx];unfold gK;rw[ahE];rwa[aiv.mpr (List.Pairwise.imp (λ{a b} n z=>n (Sum.inl.inj z)) (Iv _))]
    rw[e];let S:aq (upd c D (.lst (g.map V.ref))) (upd (upd c D (.lst (g.map V.ref))) d (.dK (gK (bA (2* L))))):=aq.upd M;let I:=s1.trans (s2.trans J);rwa[k d _ (I.trans S) (I.free M) ah]
def ic (T:Txt K mg A):T.iE.Ok mg P w base 1 (MY A.az):=by
 rwa[T.iE.on Ds (λj m b s H n Q E i h=>?_)]
 ·let⟨r,S,a,c,z,rfl,h,g,k⟩:=h;let d:=ig i;erw[_,(av (bh (Kg d (bC bF (aH (pv 0) rfl) (pv 1) (λ_ _=>rfl)) (pv 2) ⟨2222⟩)))];let l:S.ways[c]?\(S.way c):=by unfold RS.way;rw[agT,agJ g];rfl
  let⟨p,f,e⟩:=h.rW.at l;erw[12,r,_,a.dx,112,h.ins,aI T,T.i7,iL^_,12,a.aW,11122,aD.of h.hW,dC f,p,2,.inl ⟨_,.inl e⟩,121,gq.k (k:=Sum.inl z) e];rw[kS];rwa[k]
def iQ (T:Txt K mg A):T.ia.Ok mg P w base 1 (Er A.az):=by
 rwa[T.ia.on ye (λf i b s H j Q E g h=>?_)]
 ·let⟨r,S,a,c,e,rfl,h,d,k⟩:=h;erw[_,(av (bh (bC bF (aH (pv 0) rfl) (pv 1) (λ_ _=>rfl))))];rwa[12,r,_,a.dx,112,h.ins,aI T,T.jn,jt^_,12,a.aE,11122,aD.of h.hE,da (cC (jT d)),k]
def pe {c:Nat}(h:c<⇑S.ways):S.ways[c]?\(S.way c):=by unfold RS.way;cbv
def wN {c:Nat}(h:c<⇑S.gaps):S.gaps[c]?\(S.gap c):=by unfold RS.gap;cbv
def BV (h:∀l∈S.ways,⇑l<=m):⇑(S.way n)<=m:=by
 unfold RS.way;rw[agT]
 cases e:S.ways[n]? with
 |none=>exact ahg _
 |some l=>exact h l (agK e)
def MZ {r:Zs}(h:O.ws[i]?\a):O.own r a:=.inr (.inr (dz (agK h)))
def V3 {r:Zs}(h:O.gs[i]?\a):O.own r a:=.inr (.inr (gw (agK h)))
def cY.upd {r:Zs}{o:HO}(h:O.own r a):cY O r H (upd H a o):=λb u c e=>[ak (λz=>c ([z]▸h))]▸e
def cY.trans {r:Zs}(h:cY O r H I)(c:cY O r I J):cY O r H J:=λb u a e=>c b u a (h b u a e)
def qJ (T:Txt K mg A):T.lT.Ok mg P w base 1 (Iw A.az):=by
 rwa[T.lT.on zG (λcu AA J s H vs Q E hr h=>?_)]
 ·let⟨r,S,a,c,d,z,rfl,h,hw,U,Z,Y,k⟩:=h;let n:=ig hr
  erw[_,(aj (sT n (bC bF (aH (pv 0) rfl) (pv 1) (λ_ _=>rfl)) (pv 2) (pv 3) rfl)
   (aj (sT n (bC bF (aH (pv 0) rfl) (pv 3) (λ_ _=>rfl)) (fY eJ (pv 2)) (pv 1) rfl)
   (aj (aV (uC (bC bF (aH (pv 0) rfl) (pv 1) (λ_ _=>rfl)) (pv 2) dm ⟨2222⟩))
   (av (aV (uC (bC bF (aH (pv 0) rfl) (pv 3) (λ_ _=>rfl)) (fY eJ (pv 2)) dm ⟨2222⟩))))))]
  rwa[gT ?_];intro jG hM fx;let⟨p,b,D⟩:=h.rW.at (pe (S:=S) (c:=c) ([hw.w]▸U));let b1:⇑(S.way c)<=100000:=BV Y;erw[1212,r,_,a.dx,112,h.ins,aI T,T.i7,iL^_,12,a.aW,11122,aD.of h.hW,dC b,12,p,12,qY.k (k:=Sum.inl z) D ([AH]▸agU b1 ⋯)];rw[AI];let u:ay A.az _ r (S.b8 c z d) a:=h.AK b (iY (S.way c) z d);let u1:cY a r H (upd H p (.dK (wK (iY (S.way c) z d)))):=cY.upd (MZ b);generalize upd H p (.dK (wK (iY (S.way c) z d)))=F at u u1 ⊢;let w1:(S.b8 c z d).ways.length=S.made:=by show ⇑(S.ways.set c _)=_;rw[ahj,hw.w]
  let⟨q,I,B⟩:=u.rW.at (pe (S:=S.b8 c z d) (c:=d) ([w1]▸Z))
  let b2:⇑((S.b8 c z d).way d)<=100001:=BV λl g=>by
   rcases ai1 g with g|rfl
   ·rwa[Nat.le_succ_of_le (Y l g)]
   ·rwa[ag3 (Kq^_) (by omega)]
  rwa[⟨_,rfl,_,rfl,r,_,a.dx,_,_,rfl,u.ins,aI T,T.i7,iL^_,_,rfl,a.aW,_,_,_,rfl,rfl,aD.of u.hW,dC I,_,rfl,_,rfl,q,_,rfl,qY.k (k:=Sum.inl (-z)) B (by rw[AH];rwa[agU b2 (by decide)]),?_⟩];rw[AI];let f:ay A.az _ r ((S.b8 c z d).b8 d (-z) c) a:=u.AK I (iY ((S.b8 c z d).way d) (-z) c);let u2:cY a r F (upd F q (.dK (wK (iY ((S.b8 c z d).way d) (-z) c)))):=cY.upd (MZ I);generalize upd F q (.dK (wK (iY ((S.b8 c z d).way d) (-z) c)))=H2 at f u2 ⊢;generalize e2:(S.b8 c z d).b8 d (-z) c=C at f ⊢;let O:⇑C.gaps=S.made:=by rw[<-e2];rwa[hw.g]
  let⟨p3,y,m⟩:=f.rG.at (wN (S:=C) (c:=c) ([O]▸U))
  let pop:∀{H:Hp} {S:RS} {c:Nat} {z:Int} {p:Zs},ay A.az H r S a->a.gs[c]?\p->H p\.dK (gK (S.gap c))->∀{Q:V->Hp->Prop},(∀v L,cY a r H L->ay A.az L r (S.lM c z) a->Q v L)->
   Kf p (.int z) .non H Q:=by
   intro H S c z p h b D Q B
   suffices q:(∀v,bD (gK (S.gap c)) (Sum.inl z)\v->Q v (upd H p (.dK (fj (gK (S.gap c)) (Sum.inl z)))))/\(bD (gK (S.gap c)) (Sum.inl z)=none->Q .non H) from ⟨_,Sum.inl z,D,2,q.1,q.2⟩
   rw[Hn,OG];by_cases G:z∈S.gap c
   ·rw[ahf G];rwa[λv _=>B _ _ (cY.upd (V3 b)) (h.Rz b _),λz=>by ext z]
   ·rw[ahc G];rwa[⟨λv z=>(by ext z),λ_=>B _ _ (λ_ _ _ e=>e) ?_⟩];let e:(S.gap c).filter (λx=>decide (x≠z))=S.gap c:=List.filter_eq_self.mpr λx hx=>ahp λz=>G (z ▸ hx)
    let g:c<⇑S.gaps:=by rw[<-h.rG.1];rwa[(agM.mp b).1]
    have:S.lM c z=S:=by
     unfold RS.lM RS.setG;rw[e]
     let es:S.gaps.set c (S.gap c)=S.gaps:=aja λi=>by
      by_cases X:c=i
      ·subst X;rw[ahH g,wN g]
      ·rw[ah8 X]
     rw[es]
    rw[this];rwa[h]
  rwa[⟨12,r,_,a.dx,112,f.ins,aI T,T.sv,sY^_,12,a.aG,11122,aD.of f.hG,dC y,p3,2,.inl ⟨_,.inl m⟩,12,pop f y m λv H3 u3 t=>?_⟩];generalize M:C.lM c z=R at t;let g3:⇑R.gaps=S.made:=by rw[<-M];show ⇑(C.gaps.set c _)=_;rw[ahj,O]
  let⟨p4,j,o⟩:=t.rG.at (wN (S:=R) (c:=d) ([g3]▸Z));rwa[⟨12,r,_,a.dx,112,t.ins,aI T,T.sv,sY^_,12,a.aG,11122,aD.of t.hG,dC j,p4,2,.inl ⟨_,.inl o⟩,1212,pop t j o λv H4 u4 N=>?_⟩];rwa[k H4 (u1.trans (u2.trans (u3.trans u4))) ?_];rw[<-M,<-e2]at N;rwa[N]
def tM (T:Txt K mg A):T.gB.Ok mg P w base 3 (MX A.az):=by
 rwa[T.gB.on tK (λcu AA outer s H vs Q E hr h=>?_)]
 ·let⟨x,j,L,rfl,hx,j5,qK,k⟩:=h
  erw[_,(aj (bY (pv 0) (pv 1) rfl)
   (aj (bY (pv 0) au rfl)
   (aj (bY (pv 0) (bT ai) rfl)
   (aj (bY (pv 0) (bT (ae fP ai)) rfl)
   (aj (bY (pv 0) (bT (ae (pc T.p6 (ui T) hr (ae (pv 1) ai)) ai)) rfl)
   (aj (bY (pv 0) (bT (ae au ai)) rfl)
   (aj (bY (pv 0) (bT (ae (bT (ae au ai)) ai)) rfl)
   (av (bY (pv 0) (bT ai) rfl)))))))))]
  rwa[AQ ?_];intro M0 y7 nU lJ jG hM fx
  let st:∀{H0:Hp} {fs:List (Str×V)} {f:Str} {v:V},H0 x\.ins A.az j fs->(∀b o,H b\o->b≠x->H0 b\o)->upd H0 x (.ins A.az j (bL f v fs)) x\.ins A.az j (bL f v fs)/\(∀b o,H b\o->b≠x->upd H0 x (.ins A.az j (bL f v fs)) b\o)/\∀b o,b≠x->H0 b\o->upd H0 x (.ins A.az j (bL f v fs)) b\o:=
   λ_ h=>⟨ah,λb o e n=>[ak n]▸h b o e n,λb o n e=>[ak n]▸e⟩
  erw[1212,x,_,j,12,hx,aI T,T.sr,(by show 0<1000;decide)];obtain⟨x1,o1,-⟩:=st (f:="letters") (v:=.int L) hx (λb o e _=>e);generalize upd H x (.ins A.az j (bL "letters" (.int L) []))=H1 at x1 o1 ⊢;let f1:⇑(bL "letters" (.int L) ([]:List (Str×V)))<=1:=jv (n:=0) (agQ _);erw[12,x,_,j,12,x1,aI T,T.o6,agU f1 ⋯];obtain⟨x2,o2,-⟩:=st (f:="made") (v:=.int 1) x1 o1;let f2:=jv (f:="made") (v:=.int 1) f1;generalize e2:bL "made" (.int 1) (bL "letters" (.int L) [])=WN at x2 o2 f2 ⊢;generalize upd H1 x (.ins A.az j WN)=H2 at x2 o2 ⊢;rwa[⟨ahg _,λz nR=>⟨12,x,_,j,12,aq.upd nR _ _ x2,aI T,T.su,agU f2 ⋯,5⟩⟩];let WO:upd H2 z (.lst []) z\(.lst []):=ah;let G:z≠x:=(ax x2 nR).symm;let s3:=aq.upd (o:=.lst []) nR
  let n0:∀{b:Zs} {H0:Hp},(∀c o,H c\o->c≠x->H0 c\o)->H0 b=none->b≠x->H b=none:=λ{b H0} h n nx=>by
   cases e:H b with
   |none=>rfl
   |some o=>rw[h b o e nx]at n;ext n
  let kR:=n0 o2 nR G;generalize upd H2 z (.lst [])=H3 at WO s3 ⊢;let⟨x4,o4,k4⟩:=st (f:="rows") (v:=↑z) (s3^x2) (λb o e n=>s3^o2 b o e n);let f4:=jv (f:="rows") (v:=↑z) f2;generalize e4:bL "rows" ↑z WN=WQ at x4 o4 f4 k4 ⊢;let S5:=k4 _ _ G WO;generalize upd H3 x (.ins A.az j WQ)=H4 at x4 o4 S5 ⊢;intro wd S6;let q:wd≠x:=(ax x4 S6).symm;let WR:=n0 o4 S6 q;let s5:=aq.upd (o:=.dK []) S6;let S7:upd H4 wd (.dK []) wd\(.dK []):=ah;generalize upd H4 wd (.dK [])=H5 at s5 S7 ⊢;rwa[⟨(Za4 1),λC nW=>⟨12,x,_,j,12,aq.upd nW _ _ (s5^x4),aI T,T.i7,agU f4 ⋯,5⟩⟩];let X:C≠x:=(ax (s5^x4) nW).symm;let kW:=n0 (λb o e n=>s5^o4 b o e n) nW X;let nWR:C≠z:=(ax (s5^S5) nW).symm;let s6:=aq.upd (o:=.lst [↑wd]) nW;let WT:upd H5 C (.lst [↑wd]) C\(.lst [↑wd]):=ah;generalize upd H5 C (.lst [↑wd])=H6 at s6 WT ⊢;let⟨x7,o7,k7⟩:=st (f:="ways") (v:=↑C) (s6^s5^x4) (λb o e n=>s6^s5^o4 b o e n);let f7:=jv (f:="ways") (v:=↑C) f4;generalize e7:bL "ways" ↑C WQ=WU at x7 o7 f7 k7 ⊢;let S8:=k7 _ _ G (s6^s5^S5);let S9:=k7 _ _ X WT;let Lp:=k7 _ _ q (s6^S7);generalize upd H6 x (.ins A.az j WU)=H7 at x7 o7 S8 S9 Lp ⊢;rwa[⟨12,L,2,j5,qK,λgd H8 s8 Ta aad=>?_⟩];let t:gd≠x:=(ax x7 Ta).symm;let kgd:=n0 o7 Ta t;let ngw:gd≠wd:=(ax Lp Ta).symm;rwa[⟨(Za4 1),λF nG=>⟨12,x,_,j,12,aq.upd nG _ _ (s8^x7),aI T,T.sv,agU f7 ⋯,5⟩⟩];let IB:F≠x:=(ax (s8^x7) nG).symm;let kG:=n0 (λb o e n=>s8^o7 b o e n) nG IB;let nGR:F≠z:=(ax (s8^S8) nG).symm;let nGW:F≠C:=(ax (s8^S9) nG).symm;let s9:=aq.upd (o:=.lst [↑gd]) nG;let WV:upd H8 F (.lst [↑gd]) F\(.lst [↑gd]):=ah;generalize upd H8 F (.lst [↑gd])=H9 at s9 WV ⊢;let⟨x10,M3,Y⟩:=st (f:="gaps") (v:=↑F) (s9^s8^x7) (λb o e n=>s9^s8^o7 b o e n);let IC:=jv (f:="gaps") (v:=↑F) f7;generalize e10:bL "gaps" ↑F WU=Tc at x10 M3 IC Y ⊢;let Lq:=Y _ _ G (s9^s8^S8);let Ls:=Y _ _ X (s9^s8^S9);let M4:=Y _ _ q (s9^s8^Lp);let Lv:=Y _ _ IB WV;let M5:=Y _ _ t (s9^aad);generalize upd H9 x (.ins A.az j Tc)=y8 at x10 M3 Lq Ls M4 Lv M5 ⊢;rwa[⟨4,λD nE=>⟨12,x,_,j,12,aq.upd nE _ _ x10,aI T,T.jn,agU IC ⋯,5⟩⟩];let M6:D≠x:=(ax x10 nE).symm;let kE:=n0 M3 nE M6;let nER:D≠z:=(ax Lq nE).symm;let nEW:D≠C:=(ax Ls nE).symm;let nEG:D≠F:=(ax Lv nE).symm;let y:=aq.upd (o:=.lst [.int 0]) nE;let Td:upd y8 D (.lst [.int 0]) D\(.lst [.int 0]):=ah;generalize upd y8 D (.lst [.int 0])=Te at y Td ⊢;let⟨Z,IE,N⟩:=st (f:="elders") (v:=↑D) (y^x10) (λb o e n=>y^M3 b o e n);let Tf:=jv (f:="elders") (v:=↑D) IC;generalize e12:bL "elders" ↑D Tc=Tg at Z IE Tf N ⊢;let U:=N _ _ G (y^Lq);let R:=N _ _ X (y^Ls);let M7:=N _ _ q (y^M4);let O:=N _ _ IB (y^Lv);let M8:=N _ _ t (y^M5);let S:=N _ _ M6 Td;generalize upd Te x (.ins A.az j Tg)=WW at Z IE U R M7 O M8 S ⊢;rwa[⟨4,λcl u=>⟨(Za4 1),λB nC=>⟨12,x,_,j,12,aq.upd nC _ _ (aq.upd u _ _ Z),aI T,T.mV,agU Tf ⋯,5⟩⟩⟩];let Lx:cl≠x:=(ax Z u).symm;let kcl:=n0 IE u Lx;let ncR:cl≠z:=(ax U u).symm;let ncW:cl≠C:=(ax R u).symm;let ncG:cl≠F:=(ax O u).symm;let ncE:cl≠D:=(ax S u).symm;let a:=aq.upd (o:=.lst [.int 0]) u;let J:upd WW cl (.lst [.int 0]) cl\(.lst [.int 0]):=ah;generalize upd WW cl (.lst [.int 0])=WX at a J nC ⊢;let Ti:B≠x:=(ax (a^Z) nC).symm;let kC:=n0 (λb o e n=>a^IE b o e n) nC Ti;let nCR:B≠z:=(ax (a^U) nC).symm;let nCW:B≠C:=(ax (a^R) nC).symm;let nCG:B≠F:=(ax (a^O) nC).symm;let nCE:B≠D:=(ax (a^S) nC).symm;let nCc:B≠cl:=(ax J nC).symm;let m:=aq.upd (o:=.lst [↑cl]) nC;let Tj:upd WX B (.lst [↑cl]) B\(.lst [↑cl]):=ah;generalize upd WX B (.lst [↑cl])=H14 at m Tj ⊢;let⟨IG,M9,r⟩:=st (f:="called") (v:=↑B) (m^a^Z) (λb o e n=>m^a^IE b o e n);let Nb:=jv (f:="called") (v:=↑B) Tf;generalize e15:bL "called" ↑B Tg=Tn at IG M9 Nb r ⊢;let Ly:=r _ _ G (m^a^U);let Lz:=r _ _ X (m^a^R);let Nc:=r _ _ q (m^a^M7);let LC:=r _ _ IB (m^a^O);let Nf:=r _ _ t (m^a^M8);let LD:=r _ _ M6 (m^a^S);let I:=r _ _ Lx (m^J);let LJ:=r _ _ Ti Tj;generalize upd H14 x (.ins A.az j Tn)=WY at IG M9 Ly Lz Nc LC Nf LD I LJ ⊢;rwa[⟨ahg _,λM nN=>⟨12,x,_,j,12,aq.upd nN _ _ IG,aI T,T.sx,agU Nb ⋯,5⟩⟩];let WZ:M≠x:=(ax IG nN).symm;let kN:=n0 M9 nN WZ;let nNR:M≠z:=(ax Ly nN).symm;let nNW:M≠C:=(ax Lz nN).symm;let nNG:M≠F:=(ax LC nN).symm;let nNE:M≠D:=(ax LD nN).symm;let nNC:M≠B:=(ax LJ nN).symm;let nNc:M≠cl:=(ax I nN).symm;let g:=aq.upd (o:=.lst []) nN;let To:upd WY M (.lst []) M\(.lst []):=ah;generalize upd WY M (.lst [])=H16 at g To ⊢;let⟨W6,W7,l⟩:=st (f:="went") (v:=↑M) (g^IG) (λb o e n=>g^M9 b o e n)
  let ef:bL "went" ↑M Tn=fA (L:Int) 1 ⟨j,z,C,F,D,B,M,[],[wd],[gd],[cl]⟩:=by
   rw[<-e15,<-e12,<-e10,<-e7,<-e4,<-e2]
   kernel_rfl
  rw[ef]at W6 W7 l ⊢;rwa[k ⟨j,z,C,F,D,B,M,[],[wd],[gd],[cl]⟩ _ W7 ⟨W6,l _ _ G (g^Ly),l _ _ X (g^Lz),l _ _ IB (g^LC),l _ _ M6 (g^LD),l _ _ Ti (g^LJ),l _ _ WZ To,⟨2,(λi p d h=>by simp at h)⟩,555,(λd hd=>by ext hd),55⟩ ?_]
  ·rwa[Each.snoc (ps:=[]) (xs:=[]) ⟨2,λi p d h=>by simp at h⟩ (l _ _ q (g^Nc))]
  ·rwa[Each.snoc (ps:=[]) (xs:=[]) ⟨2,λi p d h=>by simp at h⟩ (l _ _ t (g^Nf))]
  ·rwa[Each.snoc (ps:=[]) (xs:=[]) ⟨2,λi p d h=>by simp at h⟩ (l _ _ Lx (g^I))]
  ·show [z,C,F,D,B,M,cl].Nodup;simp only[ahs,ag4,ahy,aiY,not_or,aix,and_true,ajg]
   cbv
  ·show [wd,gd].Nodup;simp only[ahs,ag4,ahy,aiY,aix,and_true,ajg];rwa[ngw.symm]
  ·intro b hb;rcases hb with rfl|hb|hb
   ·rwa[.inl rfl]
   ·simp only[RA.lists,ag4,ahy,aiY]at hb
    cbv
   ·simp only[RA.eP,agX,ag4,ahy,aiY]at hb
    cbv
def _root_.Lake.L2.ay.BW {r:Zs}(h:ay a H r S O){p:Zs}(b:H p=none):¬O.own r p:=λz=>by
 let⟨o,e⟩:=h.there z
 cbv
def zH (T:Txt K mg A):T.qf.Ok mg P w base 3 (Iy A.az):=by
 rwa[T.qf.on qI (λcu AA outer s H vs Q E hr h=>?_)]
 ·let⟨r,S,a,c,z,rfl,h,hw,j5,qK,hc,hm,wO,hz,k⟩:=h
  erw[_,(aj (bJ 3 qI.nd (aH (pv 0) rfl))
   (aj (bY (pv 0) (aK cI (pv 3) au) rfl)
   (aj (aV (cO agY aha ahb bN (aH (pv 0) rfl) (ae (cJ (ae (fD (l:=[110,101,119]) rfl) (ae (pv 1) (ae (pv 2) (ae (pv 3) ai))))) ai)))
   (aj (aV (cO agY aha ahb bN (aH (pv 0) rfl) (ae fP ai)))
   (aj (aV (cO agY aha ahb bN (aH (pv 0) rfl) (ae (pc T.p6 (ui T) hr (ae (aH (pv 0) rfl) ai)) ai)))
   (aj (aV (cO agY aha ahb bN (aH (pv 0) rfl) (ae (pv 3) ai)))
   (aj (aV (cO agY aha ahb bN (aH (pv 0) rfl) (ae (bT (ae (pv 3) ai)) ai)))
   (aj (aV (pm (pv 0) (aI T) T.lT (qJ T) hr (ae (pv 1) (ae (pv 2) (ae (pv 3) ai)))))
   (av (bh (pv 3)))))))))))]
  rwa[Kr ?_];intro W8 M0 y7 nU lJ jG hM fx;erw[12,r,_,a.dx,112,h.ins,aI T,T.o6,sW^_];erw[12112212,r,_,a.dx,12,h.ins,aI T,T.o6,(by show 8<1000;decide)];rw[Ho,show (S.made:Int)+ 1=((S.made+ 1:Nat):Int) by ext];let h1:=h.OI (S.made+ 1);let u1:cY a r H (upd H r (.ins A.az a.dx (fA S.L ((S.made+ 1:Nat):Int) a))):=cY.upd (.inl rfl);generalize upd H r (.ins A.az a.dx (fA S.L ((S.made+ 1:Nat):Int) a))=H1 at h1 u1 ⊢;let lR:⇑(a.rs.map V.ref)<sizeLine:=by rw[agO,h.rR.1];rwa[agU wO ⋯]
  rwa[⟨12,r,_,a.dx,112,h1.ins,aI T,T.su,sX^_,.inl ⟨21,aD.of h1.hR⟩,121212,(Za4 4),λt ht=>⟨a.aR,1122,aq.upd ht _ _ h1.hR,lR,5⟩⟩];let s2:=aq.upd (o:=.tup [.str (tx [110,101,119]),.int c,.int z,.int S.made]) ht;let W9:upd H1 t (.tup [.str (tx [110,101,119]),.int c,.int z,.int S.made]) t\(.tup [.str (tx [110,101,119]),.int c,.int z,.int S.made]):=ah;generalize upd H1 t (.tup [.str (tx [110,101,119]),.int c,.int z,.int S.made])=H2 at s2 W9 ⊢
  let hd2:bK H2 4 ↑t (rj c z S.made):=by
   rwa[.t W9 rfl λj v d u F=>?_]
   rcases j with _|_|_|_|j
   ·simp at u F;subst u F;rwa[.s]
   ·simp at u F;subst u F;rwa[.i]
   ·simp at u F;subst u F;rwa[.i]
   ·simp at u F;subst u F;rwa[.i]
   ·simp at u
  let nl:mB (rj c z S.made):=.t (by show 4<=100000;decide) λd hd=>by
   simp only[ag4,ahy,aiY]at hd;rcases hd with rfl|rfl|rfl|rfl
   ·rwa[.s]
   ·rwa[.i]
   ·rwa[.i]
   ·rwa[.i]
  let J:=(h1.same s2).AJ hd2 nl;let u3:cY a r H2 (upd H2 a.aR (.lst (a.rs.map V.ref++[↑t]))):=cY.upd (.inr (.inl gb));generalize upd H2 a.aR (.lst (a.rs.map V.ref++[↑t]))=H3 at J u3 ⊢;generalize M:({ a with rs:=a.rs++[t] }:RA)=n at J;let aae:∀b,n.own r b->a.own r b:=λb f=>by rw[<-M]at f;rwa[f]
  let afi:∀b,a.own r b->n.own r b:=λb f=>by rw[<-M];rwa[f]
  let ewG:n.dx=a.dx:=by rw[<-M]
  let U3:cY a r H H3:=u1.trans (λb o f e=>u3 b o f (s2^e));erw[12,r,_,n.dx,112,J.ins,aI T,T.i7,iL^_,.inl ⟨21,aD.of J.hW⟩];intro i y;let hdW:⇑(n.ws.map V.ref)<sizeLine:=by rw[agO,J.rW.1];show ⇑S.ways<sizeLine;rw[hw.w];rwa[agU hm ⋯]
  let s4:=aq.upd (o:=.dK []) y;let C:upd H3 i (.dK []) i\(.dK (wK [])):=ah;let aaf:=J.BW y;erw[n.aW,1122,s4^J.hW,hdW];generalize upd H3 i (.dK [])=H4 at s4 C ⊢;let B:=(J.same s4).Rw C (λz=>aaf (.inr (.inr z)));let u5:cY n r H4 (upd H4 n.aW (.lst (n.ws.map V.ref++[↑i]))):=cY.upd (.inr (.inl gf));generalize upd H4 n.aW (.lst (n.ws.map V.ref++[↑i]))=H5 at B u5 ⊢;generalize ea5:({ n with ws:=n.ws++[i] }:RA)=m at B
  let afs:∀b,m.own r b->n.own r b\/b=i:=λb f=>by
   rw[<-ea5]at f;rcases f with f|f|f
   ·rwa[.inl (.inl f)]
   ·rwa[.inl (.inr (.inl f))]
   ·simp only[RA.eP,agX,agR]at f;rcases f with (f|f)|f
    ·rwa[.inl (.inr (.inr (ahd _ f)))]
    ·rwa[.inr f]
    ·rwa[.inl (.inr (.inr (agS _ f)))]
  let WR:H i=none\/a.own r i:=by
   by_cases D:a.own r i
   ·rwa[.inr D]
   ·rwa[.inl ?_]
    cases e:H i with
    |none=>rfl
    |some o=>rw[U3 i o D e]at y;ext y
  let U5:cY a r H H5:=U3.trans λb o f e=>u5 b o (λz=>f (aae b z)) (s4^e)
  rwa[⟨12,r,_,m.dx,112,B.ins,aI T,T.sv,sY^_,.inl ⟨21,aD.of B.hG⟩,12,r,_,m.dx,112,B.ins,aI T,T.sr,vF^_,S.L,2,j5,qK,λx H6 s6 O aag=>?_⟩];let hdG:⇑(m.gs.map V.ref)<sizeLine:=by rw[agO,B.rG.1];show ⇑S.gaps<sizeLine;rw[hw.g];rwa[agU hm ⋯]
  let h6:=B.same s6;let Z:=B.BW O;erw[m.aG,1122,h6.hG,hdG];let U:=h6.Rx aag (λz=>Z (.inr (.inr z)));let u7:cY m r H6 (upd H6 m.aG (.lst (m.gs.map V.ref++[↑x]))):=cY.upd (.inr (.inl jb));generalize upd H6 m.aG (.lst (m.gs.map V.ref++[↑x]))=H7 at U u7 ⊢;generalize ea7:({ m with gs:=m.gs++[x] }:RA)=g at U
  let aft:∀b,g.own r b->m.own r b\/b=x:=λb f=>by
   rw[<-ea7]at f;rcases f with f|f|f
   ·rwa[.inl (.inl f)]
   ·rwa[.inl (.inr (.inl f))]
   ·simp only[RA.eP,agX,agR]at f;rcases f with f|f|f
    ·rwa[.inl (.inr (.inr (ahd _ f)))]
    ·rwa[.inl (.inr (.inr (agS _ f)))]
    ·rwa[.inr f]
  let w5:H i=none\/a.own r i:=WR
  let Y:∀b o,¬a.own r b->H b\o->¬m.own r b:=λb o f e z=>by
   cbv
  let U7:cY a r H H7:=λb o f e=>u7 b o (Y b o f e) (s6^U5 b o f e)
  let kgd:H x=none\/a.own r x:=by
   by_cases D:a.own r x
   ·rwa[.inr D]
   ·rwa[.inl ?_]
    cases e:H x with
    |none=>rfl
    |some o=>rw[U5 x o D e]at O;ext O
  erw[12,r,_,g.dx,112,U.ins,aI T,T.jn,jt^_,.inl ⟨21,aD.of U.hE⟩,12,g.aE,1122,U.hE,5]
  ·rw[aM,b6];show ⇑S.aU<sizeLine;rw[hw.e];rwa[agU hm ⋯]
  let eE:ao (nI S.aU)++[V.int (S.made:Int)]=ao (nI (S.aU++[S.made])):=by rw[i3,ints_app];rfl
  show _;let I:=U.yH (S.aU++[S.made]);rw[<-eE]at I;let u8:cY g r H7 (upd H7 g.aE (.lst (ao (nI S.aU)++[V.int (S.made:Int)]))):=cY.upd (.inr (.inl gS));generalize upd H7 g.aE (.lst (ao (nI S.aU)++[V.int (S.made:Int)]))=H8 at I u8 ⊢
  let L:∀b o,¬a.own r b->H b\o->¬g.own r b:=λb o f e z=>by
   cbv
  let U8:cY a r H H8:=λb o f e=>u8 b o (L b o f e) (U7 b o f e)
  rwa[⟨12,r,_,g.dx,112,I.ins,aI T,T.mV,nh^_,.inl ⟨21,aD.of I.hC⟩,12,(Za4 1),λcl q=>⟨g.aC,1122,aq.upd q _ _ I.hC,55⟩⟩]
  ·rw[agO,I.rC.1];show ⇑S.called<sizeLine;rw[hw.c];rwa[agU hm ⋯]
  let s9:=aq.upd (o:=.lst [.int (S.made:Int)]) q;let G:upd H8 cl (.lst [.int (S.made:Int)]) cl\(.lst (ao (nI [S.made]))):=ah;let aah:=I.BW q;generalize upd H8 cl (.lst [.int (S.made:Int)])=H9 at s9 G ⊢;let R:=(I.same s9).Hq G (λz=>aah (.inr (.inl z)));let Xa:cY g r H9 (upd H9 g.aC (.lst (g.cs.map V.ref++[↑cl]))):=cY.upd (.inr (.inl iM));generalize upd H9 g.aC (.lst (g.cs.map V.ref++[↑cl]))=y8 at R Xa ⊢;generalize X:({ g with cs:=g.cs++[cl] }:RA)=p at R
  let afj:∀b,p.own r b->g.own r b\/b=cl:=λb f=>by
   rw[<-X]at f;rcases f with f|f|f
   ·rwa[.inl (.inl f)]
   ·let A4:b∈g.lists++[cl]:=f;rcases agX.mp A4 with f|f
    ·rwa[.inl (.inr (.inl f))]
    cbv
   ·rwa[.inl (.inr (.inr f))]
  let kcl:H cl=none\/a.own r cl:=by
   by_cases D:a.own r cl
   ·rwa[.inr D]
   ·rwa[.inl ?_]
    cases e:H cl with
    |none=>rfl
    |some o=>rw[U8 cl o D e]at q;ext q
  let N:∀b o,¬a.own r b->H b\o->¬p.own r b:=λb o f e z=>by
   cbv
  let U10:cY a r H y8:=λb o f e=>Xa b o (L b o f e) (s9^U8 b o f e)
  let hS:ay A.az y8 r (S.grown c z (bA (2* S.L))) p:=R;rwa[⟨12,r,p.dx,12,hS.ins,cK _ _ _ ⋯,121212,r,S.grown c z (bA (2* S.L)),p,c,S.made,z,2,hS,⟨5555⟩,555,λTe u11 h11=>?_⟩]
  ·show ⇑(S.ways++[[]])=S.made+ 1;rw[agN,hw.w];rfl
  ·show ⇑(S.gaps++[_])=S.made+ 1;rw[agN,hw.g];rfl
  ·show ⇑(S.aU++[_])=S.made+ 1;rw[agN,hw.e];rfl
  ·show ⇑(S.called++[_])=S.made+ 1;rw[agN,hw.c];rfl
  ·show c<S.made+ 1;ext
  ·show S.made<S.made+ 1;ext
  ·intro l hl;rcases agX.mp hl with hl|hl
   ·rwa[hz l hl]
   cbv
  ·rwa[⟨_,rfl,k p Te (λb o f e=>u11 b o (N b o f e) (U10 b o f e)) h11 λb f=>?_⟩]
   cbv
def gj (T:Txt K mg A):T.eR.Ok mg P w base 1 (wL A.az):=by
 rwa[T.eR.on tL (λp t f s H B Q E v h=>?_)]
 ·let⟨r,S,a,rfl,h,hw,n,k⟩:=h;erw[_,(av (bh (FJ (fns:=["self"]) (ixs:=[0]) (cl:=_) rfl (gJ rfl T.ej (ae (aH (pv 0) rfl) ai)) (pK rfl rfl ⋯ rfl ⋯ rfl ⋯ ⋯ rfl rfl rfl rfl) (λC s H ex=>(aX eh (bC (Ay (K:=K) rfl) (OL (K:=K) rfl (pv 1) rfl) (pv 0) (λ_ _=>rfl)) (pv 0) (aY _))) (λC s H ex=>(pv 0)))))];erw[12,r,_,a.dx,112,h.ins,aI T,T.o6,sW^_,(S.made:Int),233];rw[ahn];erw[λi m ys l=>m=S.made - i/\i<=S.made/\ys=ao (nI ((List.range i).filter λc=>decide (S.aU[c]?\c)))/\l=H,⟨S.made,by simp,ahg _,22⟩];rintro i m ys l ⟨rfl,u,rfl,rfl⟩
  let hlen:⇑(ao (nI ((List.range i).filter λc=>decide (S.aU[c]?\c))))<=i:=by
   rw[aM,b6];rwa[ag3 (aiV _ _) (by cbv)]
  by_cases b:i<S.made
  ·rwa[.inr ⟨b,5,λx y g=>?_⟩]
   ·rwa[agU (ag3 hlen (show i<=100000 by omega)) ⋯]
   let⟨rfl,rfl⟩:=g;let j:S.aU[i]?\(S.aU[i]'([hw.e]▸b)):=agJ _
   generalize S.aU[i]'(by cbv)=e at j;erw[12,r,_,a.dx,112,h.ins,aI T,T.jn,jt^_,12,a.aE,11122,aD.of h.hE,([akm]▸da (cC (jT j)))];erw[12212];by_cases d:e=i
   ·subst d;rw[show decide (V.int (e:Int)=V.int (0+ (e:Int)))=true from ahp (by rw[akm])];rwa[⟨12,S.made - (e+ 1),32,b,52⟩];rw[aib,List.filter_append,aj7 (by cbv),List.filter_nil,i3,ints_app,akm];rfl
   ·rw[show decide (V.int (e:Int)=V.int (0+ (i:Int)))=false from ahA (λz=>d (by injection z with z;omega))];rwa[⟨S.made - (i+ 1),32,b,52⟩];rw[aib,List.filter_append,List.filter_cons_of_neg (by cbv),List.filter_nil,ahl]
  ·let e:i=S.made:=∅
   subst e;rwa[.inl ⟨agQ _,ag3 hlen (ag3 n ⋯),λD q=>k D q⟩]
def pf (T:Txt K mg A):T.kJ.Ok mg P w base 5 (Es 2 A.az):=by
 rwa[T.kJ.on yf (λcu AA B s H vs Q E R h=>?_)]
 ·let⟨r,S,a,rfl,h,G,u,k⟩:=h;erw[_,(av (bh (jl (fns:=[]) (ixs:=[]) (cl:=[]) rfl (cP (aH (pv 0) rfl)) (jP ⋯ ⋯ rfl ⋯ rfl) (λC s H ex=>(pc T.own (y6 T) R (ae (pv 0) ai))))))];erw[12,r,_,a.dx,112,h.ins,aI T,T.su,sX^_,a.aR,2,⟨_,aD.of h.hR⟩];let n:⇑(a.rs.map V.ref)=⇑S.rows:=by rw[agO,h.rR.1]
  let j:∀i,i<⇑S.rows->∃p d,a.rs[i]?\p/\S.rows[i]?\d/\d∈S.rows/\bK H 4 ↑p d:=λi c=>by
   let f:=agJ c;let⟨p,m,q⟩:=h.rR.at f;rwa[p,_,m,f,agK f,q]
  rwa[ni ⇑S.rows (λi=>(a.rs.map V.ref).getD i .non) (λb v i=>∃p d,v=↑p/\S.rows[i]?\d/\mB d/\bK b 4 ↑p d) (λH1 b v i s q0=>by let⟨p,x,e,L,hn,q⟩:=q0;rwa[p,x,e,L,hn,q.same s]) ?_ (λi b s2 c=>jQ (aD.of (s2^h.hR)) i ∅) (λi x b H3 s2 c y=>?_) (λb s2=>?_) (λi b Rr c s2 kk=>?_) (λD b ys s2 Y X R=>?_)]
  ·rwa[ag3 G ⋯]
  ·let⟨e,I⟩:=iJ (aD.of (s2^h.hR)) i x H3 ∅ y;erw[e];rw[agT,I];rfl
  ·have:=gR (aD.of (K:=K) (s2^h.hR));rw[n]at this;rwa[this]
  ·let⟨p,d,m,f,g,q⟩:=j i c;let I:(a.rs.map V.ref).getD i .non=↑p:=by rw[agT,ag0,m];rfl
   let q1:=(u p d g q).same s2;rw[I];rwa[⟨12,↑p,d,2,q1,h.flat d g,λv' H' s' Z=>?_⟩]
   have:∃o,v'=↑o:=by
    let J:∃M,d=.t M:=by
     cases q with
     |t=>cbv
     |l=>exact absurd (h.flat _ g) (λz=>by ext z)
    let⟨M,rfl⟩:=J
    cases Z with
    |t=>cbv
   let⟨o,rfl⟩:=this;rwa[kk _ H' s' ⟨o,d,2,f,h.flat d g,Z.le ⋯⟩]
  ·let⟨O,rfl,F⟩:=ti (P:=λi p=>∃d,S.rows[i]?\d/\bK b 4 ↑p d) ys 0 (λi v hv=>by
    cbv)
   let U:aq b (upd b D (.lst (O.map V.ref))):=aq.upd Y;rw[agO]at X;rwa[k D O _ (s2.trans U) (s2.free Y) ah ⟨X,λi p d e1 L=>?_⟩];let⟨d',N,q⟩:=F i p e1;rw[akl]at N;obtain rfl:d'=d:=Za0 (N.symm.trans L);rwa[q.same U]
def dg (H:Hp)(p:Zs)(a:Ze):Prop:=∃b:Zn,H p\.lst (b.map V.ref)/\Each (λq (w:Way)=>H q\.tup [.int (w.1:Int),.int w.2.1,.int (w.2.2:Int)]) b a
def qi (a:RA)(r p:Zs)(H c:Hp):Prop:=∀b o,¬a.own r b->b≠p->H b\o->c b\o
def dg.keep {c:Ze}(h:dg H a c)(k:∀o,H a\o->I a\o)(g:∀b d,H b\.tup d->I b\.tup d):dg I a c:=by
 let⟨j,i,f⟩:=h;rwa[j,k _ i,f.imp λq w _ _ e=>g^e]
structure Small (S:RS):Prop where
 m:S.made<=100000
 w:∀l∈S.ways,⇑l<=100000
 r:⇑S.rows<=1000000
 n:⇑S.aZ<=1000000
 c:∀l∈S.called,⇑l<=1000000
inductive BX (C:Zs) (vs:Zb) (H:Hp) (Q:VK) (E_:XK):Prop
 |mk (r p:Zs) (S:RS) (a:RA) (c:Nat) (pend:Ze):vs=[↑r,.int c,↑p]->ay C H r S a->S.Wf->c<S.made->FC S c->(∀l∈S.ways,⇑l<=100000)->dg H p pend->¬a.own r p->⇑pend<=1000000->(∀a' H',qi a r p H H'->ay C H' r (S.oH c pend).1 a'->dg H' p (S.oH c pend).2->(∀b,a'.own r b->a.own r b\/H b=none)->Q .non H')->BX C vs H Q E_
inductive Eu (C:Zs) (vs:Zb) (H:Hp) (Q:VK) (E_:XK):Prop
 |mk (r p:Zs) (S:RS) (a:RA) (c x y:Nat) (z:Int) (pend:Ze):vs=[↑r,.int c,.int z,.int x,.int y,↑p]->ay C H r S a->S.Wf->x<S.made->y<S.made->x≠y->FC S (max x y)->(∀n∈S.b9 (max x y),n<S.made)->Small S->dg H p pend->¬a.own r p->⇑pend<=1000000->(∀a' H',qi a r p H H'->ay C H' r (S.meet c z x y pend).1 a'->dg H' p (S.meet c z x y pend).2->(∀b,a'.own r b->a.own r b\/H b=none)->Q .non H')->Eu C vs H Q E_
structure wQ (S:RS):Prop where
 wf:S.Wf
 el:∀c,c<S.made->S.aw c<S.made
 bl:∀c z d,S.by c z=some d->d<S.made
 cl:∀c,∀n∈S.b9 c,n<S.made
 off:∀c,c<S.made->FC S c
 sm:Small S
inductive BZ (C:Zs) (vs:Zb) (H:Hp) (Q:VK) (E_:XK):Prop
 |mk (r t p:Zs) (S:RS) (a:RA) (w:Way) (pend:Ze):vs=[↑r,↑t,↑p]->ay C H r S a->H t\.tup [.int (w.1:Int),.int w.2.1,.int (w.2.2:Int)]->wQ S->w.1<S.made->w.2.2<S.made->dg H p pend->¬a.own r p->⇑pend<=1000000->(∀a' H',qi a r p H H'->ay C H' r (S.takeIn pend w).1 a'->dg H' p (S.takeIn pend w).2->(∀b,a'.own r b->a.own r b\/H b=none)->Q .non H')->BZ C vs H Q E_
inductive Ng (C:Zs) (vs:Zb) (H:Hp) (Q:VK) (E_:XK):Prop
 |mk (r q:Zs) (S:RS) (a:RA) (c d:Nat) (z:Int) (row:Dt) (I:RS->Ze->Prop) (μ:RS->Ze->Nat):vs=[↑r,.int c,.int z,.int d,↑q]->ay C H r S a->⇑S.rows<=1000000->bK H 2 ↑q row->mB row->I { S with rows:=S.rows++[row] } [(c,z,d)]->(∀S pend w,I S (pend++[w])->wQ S/\w.1<S.made/\w.2.2<S.made/\⇑pend<=1000000/\I (S.takeIn pend w).1 (S.takeIn pend w).2/\μ (S.takeIn pend w).1 (S.takeIn pend w).2 < μ S (pend++[w]))->(∀S' a' H',cY a r H H'->ay C H' r S' a'->I S' []->(∀b,a'.own r b->a.own r b\/H b=none)->Q .non H')->Ng C vs H Q E_
def ph (h:i<n):vA n (i:Int)\i:=by
 unfold vA;rw[ahf ∅,ahf ∅,ahn]
def LK {l:List (Int×Nat)}(a:(l.map (·.1)).Nodup){q:Int×Nat}(h:q∈l):fz l q.1\q.2:=by
 induction l with
 |nil=>ext h
 |cons p l b=>
  unfold fz;rw[ah3,ahs]at a;by_cases e:p.1=q.1
  ·cbv
  ·rw[ajt (by simpa using e)];rcases ag4.mp h with rfl|h
   ·rwa[absurd rfl e]
   ·rwa[b a.2 h]
def u9 (T:Txt K mg A):T.lD.Ok mg P w base 1 (BX A.az):=by
 rwa[T.lD.on gW (λcu AA outer s H vs Q E hr h=>?_)]
 ·let⟨r,p,S,a,c,d,rfl,h,hw,hc,ok,sm,hP,np,oM,k⟩:=h;let m2:=ig hr
  erw[_,(aj (bJ 3 gW.nd (bC bF (aH (pv 0) rfl) (pv 1) (λ_ _=>rfl)))
   (aj (mh fP (vo (aH (pv 0) rfl) (pv 1) set_list))
   (av (ck ahe rfl (cP (c9 (jU rfl) rfl T.fe ahB (ae (pv 3) ai))) (di 4 gW.nd)
    (aj (bJ 5 gW.nd (DR m2 (pv 3) (pv 4) (λ_ _=>rfl)))
    (aj (bP (bH (aX jK (pv 5) (pv 1) (aY _))
     (av (aV (Kh (bC bF (aH (pv 0) rfl) (pv 5) (λ_ _=>rfl)) (fY eJ (pv 4)) ⟨2222⟩)))
     bp))
    (av (aV (cO agY aha ahb bN (pv 2) (ae (cJ (ae (pv 1) (ae (pv 4) (ae (pv 5) ai)))) ai))))))))))]
  rwa[fS ?_];intro hM fx;let Tp:c<⇑S.ways:=by rw[hw.w];rwa[hc]
  let⟨u,v,Xb⟩:=h.rW.at (pe Tp);let Xc:⇑(S.way c)<=100000:=BV sm;erw[12,r,_,a.dx,112,h.ins,aI T,T.i7,iL^_,12,a.aW,11122,aD.of h.hW,dC v];intro G C;let s1:=aq.upd (o:=.dK []) C;let N:upd H G (.dK []) G\(.dK (wK [])):=ah;let nn:=h.BW C;let nnp:G≠p:=λz=>by let⟨L,q1,_⟩:=hP;cbv
  generalize upd H G (.dK [])=H1 at s1 N ⊢;let h1:=h.same s1;let hi:c<⇑a.ws:=by rw[h.rW.1];rwa[Tp]
  erw[12,r,_,a.dx,112,h1.ins,aI T,T.i7,iL^_,12,a.aW,11,c,22,h1.hW,ph ([agO]▸hi)];let h2:=h1.RB hi N (λz=>nn (.inr (.inr z)));let u2:∀b o,b≠a.aW->H1 b\o->upd H1 a.aW (.lst ((a.ws.map V.ref).set c ↑G)) b\o:=λb o y e=>by rw[ak y];rwa[e]
  generalize upd H1 a.aW (.lst ((a.ws.map V.ref).set c ↑G))=H2 at h2 u2 ⊢;let npW:p≠a.aW:=λz=>np (.inr (.inl ([z]▸gf)))
  let wdW:u≠a.aW:=(h.ld gf (dz (agK v))).symm;let M:H2 u\(.dK (wK (S.way c))):=u2 _ _ wdW (s1^Xb);generalize Ew:({ a with ws:=a.ws.set c G }:RA)=a2 at h2;let Xd:ay A.az H2 r (cU c S d []).1 a2:=h2
  let aai:¬a2.own r u:=λz=>by
   rw[<-Ew]at z;rcases z with z|z|z
   ·rwa[(h.rd (dz (agK v))) z.symm]
   ·rwa[h.ld z (dz (agK v)) rfl]
   ·let Xe:=ahK.mp h.mC;let z':u∈a.ws.set c G++a.gs:=z;rcases agX.mp z' with z|z
    ·let⟨j,J⟩:=ahF z;by_cases e:c=j
     ·subst e;rw[ahH hi]at J;have:G=u:=Za0 J;rw[this,Xb]at C;ext C
     ·rw[ah8 e]at J;rwa[e ((aki hi Xe.1).mp (v.trans J.symm))]
    ·rwa[Xe.2.2 u (agK v) u z rfl]
  let O:∀b,a2.own r b->a.own r b\/H b=none:=λb f=>by
   rw[<-Ew]at f;rcases f with f|f|f
   ·rwa[.inl (.inl f)]
   ·rwa[.inl (.inr (.inl f))]
   ·let A4:b∈a.ws.set c G++a.gs:=f;rcases agX.mp A4 with f|f
    ·rcases ai1 f with f|rfl
     ·rwa[.inl (.inr (.inr (ahd _ f)))]
     ·rwa[.inr C]
    ·rwa[.inl (.inr (.inr (agS _ f)))]
  let wR:¬a2.own r p:=λz=>by
   rcases O p z with q|q
   ·rwa[np q]
   ·let⟨L,q1,_⟩:=hP;cbv
  let Y:dg H2 p (cU c S d []).2:=hP.keep (λo e=>u2 _ _ npW (s1^e)) (λb X e=>u2 _ _ (h.tl e gf) (s1^e));let B2:qi a r p H H2:=λb o y _ e=>u2 _ _ (λz=>y (.inr (.inl ([z]▸gf)))) (s1^e)
  rwa[⟨12,u,12,M,λl nl=>?_⟩];let s3:=aq.upd (o:=.lst ((wK (S.way c)).map λD=>kV D.1)) nl;let Z:upd H2 l (.lst ((wK (S.way c)).map λD=>kV D.1)) l\(.lst ((wK (S.way c)).map λD=>kV D.1)):=ah;let Ey:=Xd.BW nl;let Xf:l≠p:=λz=>by let⟨L,q1,_⟩:=Y;cbv
  let nlw:l≠u:=λz=>by cbv
  let nlH:H l=none\/a.own r l:=by
   by_cases ho:a.own r l
   ·rwa[.inr ho]
   ·rwa[.inl ?_]
    cases e:H l with
    |none=>rfl
    |some o=>rw[B2 l o ho Xf e]at nl;ext nl
  generalize upd H2 l (.lst ((wK (S.way c)).map λD=>kV D.1))=H3 at s3 Z ⊢;erw[l,2,⟨_,aD.of Z⟩];let hlen:⇑((wK (S.way c)).map λD=>kV D.1)=⇑(S.way c):=by rw[agO,AH]
  rwa[eX (xs:=(wK (S.way c)).map λD=>kV D.1) (λi σ R=>∃v4 v5,σ=#v[↑r,.int (c:Int),↑p,↑u,v4,v5]/\ay A.az R r (cU c S d ((S.way c).take i)).1 a2/\dg R p (cU c S d ((S.way c).take i)).2/\(∀b o,¬a2.own r b->b≠p->H3 b\o->R b\o)) ⟨none,none,2,Xd.same s3,Y.keep (λo e=>s3^e) (λb X e=>s3^e),λb o _ _ e=>e⟩ (λi σ R _ q0=>by let⟨_,_,_,_,_,kk⟩:=q0;rwa[aD.of (kk _ _ Ey Xf Z)]) ?_ ?_]
  ·rintro i x σ R hx ⟨v4,v5,rfl,U,B,kk⟩;let I:i<⇑(S.way c):=by rw[<-hlen];rwa[(agM.mp hx).1]
   let hg:(S.way c)[i]?\((S.way c)[i]'I):=agJ I
   generalize (S.way c)[i]'I=w at hg
   let ex:x=.int w.1:=by
    unfold wK at hx;rw[ag0,ag0,hg]at hx;rwa[(Za0 hx).symm]
   subst ex;let hm:=agK hg;let AB:(S.way c).take (i+ 1)=(S.way c).take i++[w]:=by rw[aim,hg];rfl
   let aaj:R u\(.dK (wK (S.way c))):=kk _ _ aai (λz=>by let⟨L,q1,_⟩:=Y;cbv) (s3^M);let hv:bD (wK (S.way c)) (Sum.inl w.1)\(.int (w.2:Int)):=by rw[kS,LK ok.nd hm];rfl
   let lG:=ok.lt w hm;let hol:=(gM c S d ((S.way c).take i)).1;erw[1212,u,12,(by have:=gq.k (k:=Sum.inl w.1) aaj;rw[hv]at this;rwa[this])];erw[λ gI H'=>gI=#v[↑r,.int (c:Int),↑p,↑u,.int w.1,.int (w.2:Int)]/\ay A.az H' r (cU c S d ((S.way c).take (i+ 1))).1 a2/\dg H' p (cU c S d ((S.way c).take i)).2/\(∀b o,¬a2.own r b->b≠p->H3 b\o->H' b\o),5]
   ·rwa[⟨1212212,bU (λlH=>?_) (λlH=>?_)⟩]
    ·let n:w.2≠c:=λz=>by cbv
     let hd2:w.2<(cU c S d ((S.way c).take i)).1.ways.length:=by rw[hol,hw.w];rwa[lG]
     let⟨pd,F,Xg⟩:=U.rW.at (pe hd2)
     let hby:((cU c S d ((S.way c).take i)).1.by w.2 (-w.1)).isSome=true:=by
      rw[xP Tp _ (λq hq=>[hw.w]▸ok.lt q (ai5 hq)),ahc]
      ·rwa[ok.bk w hm n]
      ·rintro (q|⟨q,hq,q1,q2⟩)
       ·rwa[n q]
       ·let⟨j,J⟩:=ahF hq
        let Tq:j<i:=by
         have:=(agM.mp J).1;rw[ahr]at this;ext
        rw[ajV Tq]at J;let e1:((S.way c).map (·.1))[j]?\q.1:=by rw[ag0,J];rfl
        let e2:((S.way c).map (·.1))[i]?\w.1:=by rw[ag0,hg];rfl
        let e3:q.1=w.1:=∅
        rw[e3]at e1;have:=(aki ([agO]▸I) ok.nd).mp (e2.trans e1.symm);ext
     let⟨m,B1⟩:=ajU.mp hby;erw[12,r,_,a2.dx,112,U.ins,aI T,T.i7,iL^_,12,a2.aW,11122,aD.of U.hW,dC F,pd,2,.inl ⟨_,.inl Xg⟩,12121,Sum.inl (-w.1),.int (m:Int),Xg,25]
     ·rw[kS];show ((cU c S d ((S.way c).take i)).1.by w.2 (-w.1)).map _=_;rw[B1];rfl
     ·rw[OO];rwa[⟨25,B.keep (λo e=>?_) (λb X e=>?_),λb o y g e=>?_⟩]
      ·rw[AB,iA];unfold jw;simp only[n,akp,ajg,ne_eq];rwa[U.AK F _]
      ·rw[ak (λz=>wR (.inr (.inr (dz ([z]▸agK F)))))];rwa[e]
      ·rw[ak (U.td e (dz (agK F)))];rwa[e]
      ·rw[ak (λz=>y (.inr (.inr (dz ([z]▸agK F)))))];rwa[kk b o y g e]
    ·let n:w.2=c:=by
      by_cases e:w.2=c
      ·rwa[e]
      ·cbv
     rwa[⟨25,B,kk⟩];rw[AB,iA];unfold jw
     cbv
   rintro gI H5 ⟨rfl,h5,hP5,kk5⟩;let⟨L,IH,B6⟩:=hP5
   let B7:⇑(L.map V.ref)<sizeLine:=by
    rw[agO,B6.1,yI,agN,agO,ahr];rwa[agU (show _<=1100000 by omega) ⋯]
   rwa[⟨12,.inl ⟨21,aD.of IH⟩,121212,(Za4 3),λt nt=>?_⟩];let s6:=aq.upd (o:=.tup [.int (c:Int),.int w.1,.int (w.2:Int)]) nt;let Xh:upd H5 t (.tup [.int (c:Int),.int w.1,.int (w.2:Int)]) t\(.tup [.int (c:Int),.int w.1,.int (w.2:Int)]):=ah;generalize upd H5 t (.tup [.int (c:Int),.int w.1,.int (w.2:Int)])=H6 at s6 Xh ⊢;erw[p,1122,s6^IH,B7];let kp:∀b o,b≠p->H6 b\o->upd H6 p (.lst (L.map V.ref++[↑t])) b\o:=λb o y e=>by rw[ak y];rwa[e]
   let Ts:∀b X,H6 b\.tup X->upd H6 p (.lst (L.map V.ref++[↑t])) b\(.tup X):=λb X e=>kp _ _ (bW e (s6^IH) (by cbv)) e
   rwa[⟨112,(h5.same s6).keep (λb o f e=>kp b o (λz=>wR (z ▸ f)) e) Ts,⟨L++[t],55⟩,λb o y g e=>kp b o g (s6^kk5 b o y g e)⟩]
   ·rw[ah,aho];rfl
   ·rw[AB,iA];rwa[(B6.imp λq w' _ _ e=>Ts^s6^e).snoc (Ts^Xh)]
  ·rintro σ R ⟨v4,v5,rfl,U,B,kk⟩;rw[hlen,aid]at U B;rwa[k a2 R (λb o y g e=>?_) U B O];let e2:=B2 b o y g e;rwa[kk b o (λz=>by cbv) g (s3^e2)]
def wU (h:n<⇑S.called):S.called[n]?\(S.b9 n):=by unfold RS.b9;cbv
def m3 (h:n<⇑S.aU):S.aU[n]?\(S.aw n):=by unfold RS.aw;cbv
def II (h:∀l∈S.called,⇑l<=m):⇑(S.b9 n)<=m:=by
 unfold RS.b9;rw[agT]
 cases e:S.called[n]? with
 |none=>exact ahg _
 |some l=>exact h l (agK e)
theorem va (x:Nat):∀(l a:Zh),⇑(l.foldl (λa n=>a.set n x) a)=⇑a
 |[],_=>rfl
 |n::l,a=>by rw[List.foldl_cons,va x l,ahj]
def ints_set (ns:Zg)(i:Nat)(z:Int):(ao ns).set i (.int z)=ao (ns.set i z):=by
 unfold ao;rw[List.map_set]
def jH (T:Txt K mg A):T.fK.Ok mg P w base 2 (Eu A.az):=by
 rwa[T.fK.on eA (λcu AA outer s H vs Q E hr h=>?_)]
 ·let⟨r,p,S,a,c,x,y,z,f,rfl,h,hw,hx,hy,hxy,ok,A5,sm,hP,np,oM,k⟩:=h
  erw[_,(aj (bJ 6 eA.nd (bq (GO rfl) rfl T.MV PyProof.Rows.boot_min (ae (pv 3) (ae (pv 4) ai))))
   (aj (bJ 7 eA.nd (bq (GN rfl) rfl T.V1 PyProof.Rows.boot_max (ae (pv 3) (ae (pv 4) ai))))
   (aj (aV (cO agY aha ahb bN (aH (pv 0) rfl) (ae (cJ (ae (fD (l:=[109,101,101,116]) rfl) (ae (pv 1) (ae (pv 2) (ae (pv 6) (ae (pv 7) ai)))))) ai)))
   (aj (aV (cO agY aha ahb bN (aH (pv 0) rfl) (ae (pv 7) ai)))
   (aj (ck ahe rfl (cP (bC bF (aH (pv 0) rfl) (pv 7) (λ_ _=>rfl))) (di 8 eA.nd)
    (av (mh (pv 6) (vo (aH (pv 0) rfl) (pv 8) set_list))))
   (aj (aV (cO agY PySem.F.slot_list_extend PySem.F.type_list_extend yz (bC bF (aH (pv 0) rfl) (pv 6) (λ_ _=>rfl)) (ae (bC bF (aH (pv 0) rfl) (pv 7) (λ_ _=>rfl)) ai)))
   (av (aV (pm (pv 0) (aI T) T.lD (u9 T) hr (ae (pv 7) (ae (pv 5) ai)))))))))))]
  rwa[pO ?_];intro y7 nU lJ jG hM fx;let C:(if (y:Int)<(x:Int) then (y:Int) else (x:Int))=((min x y:Nat):Int):=by split <;> ext
  let D:(if (y:Int) > (x:Int) then (y:Int) else (x:Int))=((max x y:Nat):Int):=by split <;> ext
  let Xi:min x y<max x y:=∅
  let I:max x y<S.made:=∅
  generalize ev:min x y=u at C Xi;let ek:∀Z O,qi a r p H O->ay A.az O r ((S.joined c z u (max x y)).oH (max x y) f).1 Z->dg O p ((S.joined c z u (max x y)).oH (max x y) f).2->(∀b,Z.own r b->a.own r b\/H b=none)->Q .non O:=λZ O h1 N L g=>k Z O h1 (by unfold RS.meet;rw[ev];rwa[N]) (by unfold RS.meet;rw[ev];rwa[L]) g
  clear k;generalize max x y=v at D Xi I ok A5 ek;erw[1212112];rw[C];erw[1212112];rw[D];let lR:⇑(a.rs.map V.ref)<sizeLine:=by rw[agO,h.rR.1];rwa[agU sm.r ⋯]
  rwa[⟨12,r,_,a.dx,112,h.ins,aI T,T.su,sX^_,.inl ⟨21,aD.of h.hR⟩,12121212,(Za4 5),λt nt=>⟨a.aR,1122,aq.upd nt _ _ h.hR,lR,5⟩⟩];let s1:=aq.upd (o:=.tup [.str (tx [109,101,101,116]),.int (c:Int),.int z,.int (u:Int),.int (v:Int)]) nt;let Xj:upd H t (.tup [.str (tx [109,101,101,116]),.int (c:Int),.int z,.int (u:Int),.int (v:Int)]) t\(.tup [.str (tx [109,101,101,116]),.int (c:Int),.int z,.int (u:Int),.int (v:Int)]):=ah;generalize upd H t (.tup [.str (tx [109,101,101,116]),.int (c:Int),.int z,.int (u:Int),.int (v:Int)])=H1 at s1 Xj ⊢
  let hd1:bK H1 4 ↑t (hX c z u v):=by
   rwa[.t Xj rfl λj w d C D=>?_]
   rcases j with _|_|_|_|_|j
   ·simp at C D;subst C D;rwa[.s]
   ·simp at C D;subst C D;rwa[.i]
   ·simp at C D;subst C D;rwa[.i]
   ·simp at C D;subst C D;rwa[.i]
   ·simp at C D;subst C D;rwa[.i]
   ·simp at C
  let nl:mB (hX c z u v):=.t (by show 5<=100000;decide) λd hd=>by
   simp only[ag4,ahy,aiY]at hd;rcases hd with rfl|rfl|rfl|rfl|rfl
   ·rwa[.s]
   ·rwa[.i]
   ·rwa[.i]
   ·rwa[.i]
   ·rwa[.i]
  let N:=(h.same s1).AJ hd1 nl;let B2:qi a r p H (upd H1 a.aR (.lst (a.rs.map V.ref++[↑t]))):=λb o F _ e=>by rw[ak (λz=>F (.inr (.inl ([z]▸gb))))];rwa[s1^e]
  let npl:∀{b},b∈a.lists->p≠b:=λhb z=>np (.inr (.inl ([z]▸hb)))
  let P2:dg (upd H1 a.aR (.lst (a.rs.map V.ref++[↑t]))) p f:=hP.keep (λo e=>[ak (npl gb)]▸s1^e) (λb xs e=>[ak (h.tl e gb)]▸s1^e);generalize upd H1 a.aR (.lst (a.rs.map V.ref++[↑t]))=H2 at N B2 P2 ⊢;generalize Ew:({ a with rs:=a.rs++[t] }:RA)=a2 at N;let eo:∀b,a2.own r b↔a.own r b:=λb=>by rw[<-Ew];rwa[Iff.rfl]
  let wR:¬a2.own r p:=λz=>np ((eo p).mp z)
  let G:∀{b},b∈a2.lists->p≠b:=λhb z=>wR (.inr (.inl ([z]▸hb)))
  let lN:⇑(ao (nI S.aZ))<sizeLine:=by rw[aM,b6];rwa[agU sm.n ⋯]
  erw[12,r,_,a2.dx,112,N.ins,aI T,T.sx,sZ^_,.inl ⟨21,aD.of N.hN⟩,12,a2.aN,1122,N.hN,lN];let eN:ao (nI S.aZ)++[V.int (v:Int)]=ao (nI (S.aZ++[v])):=by rw[i3,ints_app];rfl
  let L:=N.OJ (S.aZ++[v]);rw[<-eN]at L;let B3:qi a r p H (upd H2 a2.aN (.lst (ao (nI S.aZ)++[V.int (v:Int)]))):=λb o F B e=>by rw[ak (λz=>F ((eo b).mp (.inr (.inl ([z]▸ik)))))];rwa[B2 b o F B e]
  let P3:dg (upd H2 a2.aN (.lst (ao (nI S.aZ)++[V.int (v:Int)]))) p f:=P2.keep (λo e=>[ak (G ik)]▸e) (λb xs e=>[ak (N.tl e ik)]▸e);show _;generalize upd H2 a2.aN (.lst (ao (nI S.aZ)++[V.int (v:Int)]))=H3 at L B3 P3 ⊢;let⟨pv,J,hPV⟩:=L.rC.at (show S.called[v]?=some (S.b9 v) from wU ([hw.c]▸I));let mpv:=agK J;erw[12,r,_,a2.dx,112,L.ins,aI T,T.mV,nh^_,12,a2.aC,11122,aD.of L.hC,dC J,pv,2,⟨_,aD.of hPV⟩];obtain⟨-,-,-,-,-,nc⟩:=vG L.iT;let npE:pv≠a2.aE:=(nc pv mpv).2.2.2.1;rwa[eX (xs:=ao (nI (S.b9 v))) (λi σ M=>∃v8,σ=#v[↑r,.int (c:Int),.int z,.int (x:Int),.int (y:Int),↑p,.int (u:Int),.int (v:Int),v8]/\ay A.az M r { S with rows:=S.rows++[hX c z u v],aZ:=S.aZ++[v],aU:=((S.b9 v).take i).foldl (λX n=>X.set n u) S.aU } a2/\qi a r p H M/\dg M p f) ⟨none,2,L,B3,P3⟩ (λi σ M _ ⟨11,g,11⟩=>aD.of (g.rC.2 v pv _ J (show S.called[v]?=some (S.b9 v) from wU ([hw.c]▸I)))) ?_ ?_]
  ·rintro i w σ M Xk ⟨v8,rfl,g,B4,P4⟩;let⟨m,rfl,Y⟩:=cw Xk;unfold nI at Y;rw[ag0]at Y
   cases hn:(S.b9 v)[i]? with
   |none=>rw[hn]at Y;ext Y
   |some n=>
    rw[hn]at Y;obtain rfl:(n:Int)=m:=Za0 Y;let Ez:=A5 n (agK hn);let DY:⇑(((S.b9 v).take i).foldl (λX n=>X.set n u) S.aU)=S.made:=by rw[va,hw.e]
    erw[1212,r,_,a2.dx,112,g.ins,aI T,T.jn,jt^_,12,a2.aE,11,n,22,g.hE,ph ([aM,b6,DY]▸Ez)];rw[ints_set,Rq];let h5:=g.yH ((((S.b9 v).take i).foldl (λX n=>X.set n u) S.aU).set n u);rwa[⟨125,λb o F B e=>?_,P4.keep (λo e=>?_) (λb xs e=>?_)⟩]
    ·let AB:(S.b9 v).take (i+ 1)=(S.b9 v).take i++[n]:=by rw[aim,hn];rfl
     rw[AB,ajf];rwa[h5]
    ·rw[ak (λz=>F ((eo b).mp (.inr (.inl ([z]▸gS)))))];rwa[B4 b o F B e]
    ·rw[ak (G gS)];rwa[e]
    ·rw[ak (g.tl e gS)];rwa[e]
  ·rintro σ M ⟨v8,rfl,g,B4,P4⟩;rw[aM,b6,aid]at g;let hul:u<⇑S.called:=by rw[hw.c];ext
   let Sb:v<⇑S.called:=by rw[hw.c];rwa[I]
   let⟨pu,R,Xl⟩:=g.rC.at (show S.called[u]?=some (S.b9 u) from wU hul);let aak:=g.rC.2 v pv _ J (show S.called[v]?=some (S.b9 v) from wU Sb);let b1:⇑(S.b9 u)<=1000000:=II sm.c;let b2:⇑(S.b9 v)<=1000000:=II sm.c;erw[12,r,_,a2.dx,112,g.ins,aI T,T.mV,nh^_,12,a2.aC,11122,aD.of g.hC,dC R,.inl ⟨21,aD.of Xl⟩];erw[12,r,_,a2.dx,112,g.ins,aI T,T.mV,nh^_,12,a2.aC,11122,aD.of g.hC,dC J,pu,pv,1122,Xl,aak,5]
   ·rw[aM,aM,b6,b6];rwa[ag3 (show _<=2000000 by omega) ⋯]
   let eC:ao (nI (S.b9 u))++ao (nI (S.b9 v))=ao (nI (S.b9 u++S.b9 v)):=by rw[i3,ints_app]
   rw[eC];let h5:=g.Hr R (S.b9 u++S.b9 v);let U:=gu (agK R);let B5:qi a r p H (upd M pu (.lst (ao (nI (S.b9 u++S.b9 v))))):=λb o F B e=>by rw[ak (λz=>F ((eo b).mp (.inr (.inl ([z]▸U)))))];rwa[B4 b o F B e]
   let P5:dg (upd M pu (.lst (ao (nI (S.b9 u++S.b9 v))))) p f:=P4.keep (λo e=>[ak (G U)]▸e) (λb xs e=>[ak (g.tl e U)]▸e);generalize upd M pu (.lst (ao (nI (S.b9 u++S.b9 v))))=H5 at h5 B5 P5 ⊢;let Xm:ay A.az H5 r (S.joined c z u v) a2:=h5;rwa[⟨12,r,a2.dx,12,Xm.ins,cK _ _ _ ⋯,1212,r,p,S.joined c z u v,a2,v,f,2,Xm,⟨hw.w,hw.g,55⟩,I,⟨ok.nd,ok.lt,ok.bk⟩,sm.w,P5,wR,oM,λZ O b' r' p' o'=>ek Z O (λb o F B e=>b' b o (λz=>F ((eo b).mp z)) B (B5 b o F B e)) r' p' (λb hb=>?_)⟩]
   ·show ⇑((S.b9 v).foldl (λX n=>X.set n u) S.aU)=S.made;rw[va];rwa[hw.e]
   ·show ⇑(S.called.set u (S.b9 u++S.b9 v))=S.made;rw[ahj];rwa[hw.c]
   ·rcases o' b hb with q|q
    ·rwa[.inl ((eo b).mp q)]
    ·by_cases ho:a.own r b
     ·rwa[.inl ho]
     ·rwa[.inr ?_]
      cases e:H b with
      |none=>rfl
      |some o=>
       by_cases hbp:b=p
       ·let⟨qs,q1,_⟩:=P5
        cbv
       ·rw[B5 b o ho hbp e]at q;ext q
def vd (T:Txt K mg A):T.lC.Ok mg P w base 3 (BZ A.az):=by
 rwa[T.lC.on dR (λcu AA Z s H vs Q E L h=>?_)]
 ·let⟨r,t,p,S,a,w,i,rfl,h,ht,ok,u,v,N,U,x,k⟩:=h;let B:=ig L
  erw[_,(aj (bJ 3 dR.nd (bC bF (aH (pv 0) rfl) (bC dJ (pv 1) au (λ_ _=>rfl)) (λ_ _=>rfl)))
   (aj (bJ 4 dR.nd (bC dJ (pv 1) au (λ_ _=>rfl)))
   (aj (bJ 5 dR.nd (bC bF (aH (pv 0) rfl) (bC dJ (pv 1) au (λ_ _=>rfl)) (λ_ _=>rfl)))
   (aj (bJ 6 dR.nd (my B (bC bF (aH (pv 0) rfl) (pv 3) (λ_ _=>rfl)) (pv 4) (pv 5) ⟨2222⟩))
   (aj (bJ 7 dR.nd (my B (bC bF (aH (pv 0) rfl) (pv 5) (λ_ _=>rfl)) (fY eJ (pv 4)) (pv 3) ⟨2222⟩))
   (av (bP (bH (aX jK (pv 6) (pv 5) (aY _))
    (av (aV (pm (pv 0) (aI T) T.fK (jH T) L (ae (pv 3) (ae (pv 4) (ae (pv 6) (ae (pv 5) (ae (pv 2) ai))))))))
    (av (bP (bH (aX jK (pv 7) (pv 3) (aY _))
     (av (aV (pm (pv 0) (aI T) T.fK (jH T) L (ae (pv 5) (ae (fY eJ (pv 4)) (ae (pv 7) (ae (pv 3) (ae (pv 2) ai))))))))
     (av (aV (pm (pv 0) (aI T) T.lT (qJ T) L (ae (pv 3) (ae (pv 4) (ae (pv 5) ai)))))))))))))))))]
  rwa[mD ?_];intro nU lJ jG hM fx;let sq:bG K H t [.int (w.1:Int),.int w.2.1,.int (w.2.2:Int)]:=bG.of ht;let y:∀{c:Nat},c<S.made->S.aU[c]?\(S.aw c):=λ{c} j=>m3 ([ok.wf.e]▸j)
  let j:=ok.el _ u;let J:=ok.el _ v;erw[12,r,_,a.dx,112,h.ins,aI T,T.jn,jt^_,12,t,11122,sq,(rfl:j4 _ (0:Int)=_),a.aE,11122,aD.of h.hE,da (cC (jT (y u)))];erw[12,t,11122,sq,(rfl:j4 _ (1:Int)=_)];erw[12,r,_,a.dx,112,h.ins,aI T,T.jn,jt^_,12,t,11122,sq,(rfl:j4 _ (2:Int)=_),a.aE,11122,aD.of h.hE,da (cC (jT (y v)))];let g:=k;clear k;unfold RS.takeIn at g;generalize S.aw w.1=c at j g ⊢;generalize S.aw w.2.2=d at J g ⊢;generalize w.2.1=z at g ⊢;let⟨pc,X,F⟩:=h.rW.at (pe (S:=S) (c:=c) ([ok.wf.w]▸j));let⟨pd,hpd,D⟩:=h.rW.at (pe (S:=S) (c:=d) ([ok.wf.w]▸J));let gd:∀(o:Zi) (n:Nat),(o.map λr:Nat=>V.int (r:Int)).getD (.int (n:Int))=V.int ((o.getD n:Nat):Int):=λo n=>by cases o <;> rfl
  erw[12,r,_,a.dx,112,h.ins,aI T,T.i7,iL^_,12,a.aW,11122,aD.of h.hW,dC X,pc,2,.inl ⟨_,.inl F⟩,12121,gq.k (k:=Sum.inl z) F];rw[kS,gd];show _;erw[12,r,_,a.dx,112,h.ins,aI T,T.i7,iL^_,12,a.aW,11122,aD.of h.hW,dC hpd,pd,2,.inl ⟨_,.inl D⟩,1212121,gq.k (k:=Sum.inl (-z)) D];rw[kS,gd];let e1:fz (S.way c) z=S.by c z:=rfl;let e2:fz (S.way d) (-z)=S.by d (-z):=rfl;rw[e1,e2]
  let hl:(S.by c z).getD d<S.made:=by
   cases e:S.by c z with
   |none=>exact J
   |some m=>exact ok.bl _ _ _ e
  let hf:(S.by d (-z)).getD c<S.made:=by
   cases e:S.by d (-z) with
   |none=>exact j
   |some m=>exact ok.bl _ _ _ e
  generalize (S.by c z).getD d=l at hl g ⊢;generalize (S.by d (-z)).getD c=f at hf g ⊢
  let ne:∀{m n:Nat},m≠n->(!decide (V.int (m:Int)=V.int (n:Int)))=true:=λ{m n} q=>by
   cbv
  rwa[⟨λ_ G=>Q .non G,5,λ_ _ q=>q⟩];by_cases I:l≠d
  ·rw[ahf I]at g;erw[1212212];rw[ne I];rwa[jj ?_];rwa[12,r,a.dx,12,h.ins,cK _ _ _ ⋯,1212121212,r,p,S,a,c,l,d,z,i,2,h,ok.wf,hl,J,I,ok.off _ ∅,λn Y=>ok.cl _ n Y,ok.sm,N,U,x,g]
  ·let M:l=d:=ajI.mp I;rw[ahc I]at g;rwa[⟨1212212,jO (by rw[M]) ?_⟩];rwa[⟨λ_ G=>Q .non G,5,λ_ _ q=>q⟩];by_cases C:f≠c
   ·rw[ahf C]at g;erw[1212212];rw[ne C];rwa[jj ?_];rwa[12,r,a.dx,12,h.ins,cK _ _ _ ⋯,121212121212,r,p,S,a,d,f,c,-z,i,2,h,ok.wf,hf,j,C,ok.off _ ∅,λn Y=>ok.cl _ n Y,ok.sm,N,U,x,g]
   ·let O:f=c:=ajI.mp C;rw[ahc C]at g;rwa[⟨1212212,jO (by rw[O]) ?_⟩];rwa[⟨12,r,a.dx,12,h.ins,cK _ _ _ ⋯,121212,r,S,a,c,d,z,2,h,ok.wf,j,J,ok.sm.w,λG R r'=>g a G (λb o nb _ e=>R b o nb e) r' (N.keep (λo e=>R _ _ U e) (λb xs e=>R _ _ (h.tf e) e)) λb hb=>.inl hb⟩]
theorem B9 (T:Txt K mg A):T.sk.Ok mg P w base 5 (Ng A.az):=by
 rwa[T.sk.on sD (λcu AA outer s H vs Q E hr h=>?_)]
 ·let⟨r,q,S,a,c,d,z,row,I,μ,rfl,h,wO,hq,n,hI,step,k⟩:=h
  erw[_,(aj (aV (cO agY aha ahb bN (aH (pv 0) rfl) (ae (pc T.own (y6 T) hr (ae (pv 4) ai)) ai)))
   (aj (bJ 5 sD.nd (bT (ae (cJ (ae (pv 1) (ae (pv 2) (ae (pv 3) ai)))) ai)))
   (av (bP (gP ahe (Ab (pv 5) (λ_=>rfl))
    (av (aV (pm (pv 0) (aI T) T.lC (vd T) hr (ae (GY agY PySem.F.slot_list_pop PySem.F.type_list_pop GZ (pv 5)) (ae (pv 5) ai))))))))))]
  rwa[fS ?_];intro hM fx;let lR:⇑(a.rs.map V.ref)<sizeLine:=by rw[agO,h.rR.1];rwa[agU wO ⋯]
  obtain⟨ds,rfl⟩:∃ds,row=.t ds:=by
   cases hq with
   |t=>cbv
   |l=>ext n
  rwa[⟨12,r,_,a.dx,112,h.ins,aI T,T.su,sX^_,.inl ⟨21,aD.of h.hR⟩,12,↑q,.t ds,2,hq,n,λv' H1 s1 Xn=>?_⟩];obtain⟨q',rfl⟩:∃q',v'=↑q':=by cases Xn with|t=>cbv
  erw[a.aR,1122,s1^h.hR,lR];let h2:=(h.same s1).AJ (Xn.le ⋯) n;let B2:cY a r H (upd H1 a.aR (.lst (a.rs.map V.ref++[↑q']))):=λb o v e=>by rw[ak (λz=>v (.inr (.inl ([z]▸gb))))];rwa[s1^e]
  generalize upd H1 a.aR (.lst (a.rs.map V.ref++[↑q']))=H2 at h2 B2 ⊢;generalize Ew:({ a with rs:=a.rs++[q'] }:RA)=a2 at h2;let eo:∀b,a2.own r b↔a.own r b:=λb=>by rw[<-Ew];rwa[Iff.rfl]
  rwa[⟨121212,(Za4 3),λt nt=>?_⟩];let U:=aq.upd (o:=.tup [.int (c:Int),.int z,.int (d:Int)]) nt;let Y:upd H2 t (.tup [.int (c:Int),.int z,.int (d:Int)]) t\(.tup [.int (c:Int),.int z,.int (d:Int)]):=ah;generalize upd H2 t (.tup [.int (c:Int),.int z,.int (d:Int)])=H3 at U Y ⊢;rwa[⟨(Za4 1),λp X=>?_⟩];let s4:=aq.upd (o:=.lst [↑t]) X;let Xo:upd H3 p (.lst [↑t]) p\(.lst [↑t]):=ah;let Xp:¬a2.own r p:=(h2.same U).BW X;generalize upd H3 p (.lst [↑t])=H4 at s4 Xo ⊢
  let npH:H p=none:=by
   cases e:H p with
   |none=>rfl
   |some o=>have:=U^(B2 p o (λz=>Xp ((eo p).mpr z)) e);cbv
  let B4:cY a r H H4:=λb o v e=>s4^U^B2 b o v e
  let P4:dg H4 p [(c,z,d)]:=⟨[t],Xo,Each.snoc (ps:=[]) (xs:=[]) ⟨2,λi p d h=>by simp at h⟩ (s4^Y)⟩;rwa[⟨λ_ R=>Q .non R,5,λ_ _ q=>q⟩];erw[λm σ j=>∃C F pend,m=μ C pend/\σ=#v[↑r,.int (c:Int),.int z,.int (d:Int),↑q,↑p]/\ay A.az j r C F/\dg j p pend/\I C pend/\¬F.own r p/\(∀b o,¬a.own r b->b≠p->H b\o->j b\o)/\∀b,F.own r b->a.own r b\/H b=none,⟨11,a2,[(c,z,d)],22,(h2.same U).same s4,P4,hI,Xp,λb o v _ e=>B4 b o v e,λb L=>.inl ((eo b).mp L)⟩];rintro m σ j ⟨C,F,pend,rfl,rfl,h5,P5,I5,J,B5,O5⟩;let⟨O,x,y⟩:=id P5;erw[12,!(O.map V.ref).isEmpty,.inl ⟨_,aD.of x,2⟩];by_cases N:pend=[]
  ·subst N;let eq0:O=[]:=aie y.1;subst eq0;rwa[dv ?_];rwa[k C F j (λb o v e=>B5 b o v (λz=>by cbv) e) h5 I5 O5]
  ·let M:=aiI N;generalize pend.getLast N=w at M;generalize pend.dropLast=pre at M;subst M;let G:⇑O=⇑pre+ 1:=by rw[y.1,agN];rfl
   let Xq:O≠[]:=λz=>by rw[z]at G;ext G
   let u:=aiI Xq;generalize O.getLast Xq=B at u;generalize O.dropLast=f at u;subst u;let oM:⇑f=⇑pre:=by rw[agN]at G;have:⇑([B]:Zn)=1:=rfl;ext
   let⟨ok,hw1,Xr,L,hI2,Nh⟩:=step C pre w I5;let htq:j B\(.tup [.int (w.1:Int),.int w.2.1,.int (w.2.2:Int)]):=y.2 ⇑pre B w (by rw[<-oM,agW (agQ _),aiL];rfl) (by cbv);let ht:(!((f++[B]).map V.ref).isEmpty)=true:=by simp
   rw[ht];rwa[jj ?_];erw[λ gI R=>∃Z a6 g,μ Z g < μ C (pre++[w])/\gI=#v[↑r,.int (c:Int),.int z,.int (d:Int),↑q,↑p]/\ay A.az R r Z a6/\dg R p g/\I Z g/\¬a6.own r p/\(∀b o,¬a.own r b->b≠p->H b\o->R b\o)/\∀b,a6.own r b->a.own r b\/H b=none,λ gI R ⟨Z,a6,g,lt,e1,e2,e3,e4,e5,e6,e7⟩=>⟨_,lt,Z,a6,g,2,e1,e2,e3,e4,e5,e6,e7⟩];erw[12,r,F.dx,12,h5.ins,cK _ _ _ ⋯,12,.inl ⟨21,aD.of x⟩,p,_,↑B,22,x,5]
   ·rw[aho,agN];show ((f.map V.ref)++[V.ref B])[⇑(f.map V.ref)+ 1 - 1]?=_
    rw[Nat.add_sub_cancel,agW (agQ _),aiL];rfl
   let Tt:((f++[B]).map V.ref).dropLast=f.map V.ref:=by rw[aho];rwa[List.dropLast_concat]
   rw[Tt];let kp:∀b o,b≠p->j b\o->upd j p (.lst (f.map V.ref)) b\o:=λb o v e=>by rw[ak v];rwa[e]
   let kt:∀b xs,j b\.tup xs->upd j p (.lst (f.map V.ref)) b\(.tup xs):=λb xs e=>kp b _ (bW e x (by cbv)) e
   let h6:=h5.keep (λb o L e=>kp b o (λz=>J (z ▸ L)) e) kt;let P6:dg (upd j p (.lst (f.map V.ref))) p pre:=⟨f,ah,oM,λi t' w' e1 e2=>kt^(y.2 i t' w' ([agV (agM.mp e1).1]▸e1) ([agV (agM.mp e2).1]▸e2))⟩;generalize upd j p (.lst (f.map V.ref))=H6 at kp kt h6 P6 ⊢;rwa[⟨12,r,B,p,C,F,w,pre,2,h6,kt^htq,ok,hw1,Xr,P6,J,L,λa7 H7 b7 h7 P7 o7=>?_⟩];rwa[⟨_,a7,_,Nh,2,h7,P7,hI2,λz=>?_,λb o v D e=>b7 b o (λz=>?_) D (kp b o D (B5 b o v D e)),λb L=>?_⟩]
   ·rcases o7 p z with q1|q1
    ·rwa[J q1]
    ·let⟨_,q2,_⟩:=P6;cbv
   ·cbv
   ·rcases o7 b L with q1|q1
    ·rwa[O5 b q1]
    ·by_cases ho:a.own r b
     ·rwa[.inl ho]
     ·rwa[.inr ?_]
      cases e:H b with
      |none=>rfl
      |some o=>
       cbv
def PV {a:Type}{ws:List a}{z:a}(h:ws[i]?\z):ws.drop i=z::ws.drop (i+ 1):=by
 let b:=(agM.mp h).1;rw[ajL b,(agM.mp h).2]
inductive Ca (C:Zs) (vs:Zb) (H:Hp) (Q:VK) (E_:XK):Prop
 |mk (r:Zs) (S:RS) (a:RA) (c:Nat) (t:Zs) (ws:Zg):vs=[↑r,.int c,↑t]->ay C H r S a->S.Wf->c<S.made->(∀c z d,S.by c z=some d->d<S.made)->H t\.tup (ao ws)->⇑ws<=1000->(∀l H',aq H H'->H' l\.lst (ao (nI (c::cj S.by c ws)))->Q ↑l H')->Ca C vs H Q E_
def y9 (T:Txt K mg A):T.walked.Ok P w base 2 (Ca A.az):=by
 rwa[T.walked.on nT (λcu AA F s H vs Q E hr h=>?_)]
 ·let⟨r,S,a,c,t,ws,rfl,h,hw,Z,G,R,EA,k⟩:=h
  refine⟨_,(aj (bJ 3 nT.nd (bT (ae (pv 1) ai)))
   (aj (ck ahe rfl (vt (pv 2)) (di 4 nT.nd)
    (aj (bJ 1 nT.nd (pm (pv 0) (aI T) T.iE (ic T) hr (ae (pv 1) (ae (pv 4) ai))))
    (aj (bH (aX qU (pv 1) dm (aY _))
     (av uy)
     bp)
    (av (aV (cO agY aha ahb bN (pv 3) (ae (pv 1) ai)))))))
   (av (bh (pv 3))))),?_⟩
  rwa[fS ?_];intro X fx;rwa[⟨12,(Za4 1),λl B=>?_⟩];let y:=aq.upd (o:=.lst [.int (c:Int)]) B;let p:upd H l (.lst [.int (c:Int)]) l\(.lst (ao (nI [c]))):=ah;let D:¬a.own r l:=h.BW B;generalize upd H l (.lst [.int (c:Int)])=M at y p ⊢;let v:=y^R;let L:t≠l:=ax R B;erw[12,t,2,⟨_,bG.of v⟩]
  let fin:∀{f:Hp} {pre:Zh},(∀b o,b≠l->M b\o->f b\o)->f l\.lst (ao (nI (c::pre)))->cj S.by c ws=pre->Q ↑l f:=λ{f pre} g d e=>by
   subst e;rwa[k l f (λb o e=>g b o (ax e B) (y^e)) d]
  rwa[xr (xs:=ao ws) (λi C f=>∃cur:Nat,∃pre J,C=#v[↑r,.int (cur:Int),↑t,↑l,J]/\cur<S.made/\⇑pre=i/\cj S.by c ws=pre++cj S.by cur (ws.drop i)/\(∀b o,b≠l->M b\o->f b\o)/\f l\.lst (ao (nI (c::pre)))) ⟨c,[],none,2,Z,22,λ_ _ _ e=>e,p⟩ (λi C f _ q0=>by let⟨_,_,_,_,_,_,_,g,_⟩:=q0;rwa[bG.of (g _ _ L v)]) ?_ ?_]
  ·rintro i x C f hx ⟨cur,pre,J,rfl,u,m,j,g,d⟩;let⟨z,rfl,O⟩:=cw hx;let hi:i<⇑ws:=(agM.mp O).1;let N:ay A.az f r S a:=(h.same y).keep (λb o Y e=>g b o (λq=>D (q ▸ Y)) e) (λb U e=>g b _ (bW e p (by cbv)) e);rw[PV O]at j;erw[12,r,a.dx,12,N.ins,cK _ _ _ ⋯,1212,r,S,a,cur,z,2,N,by rw[hw.w];ext]
   cases I:S.by cur z with
   |none=>
    rwa[⟨12212,jj ?_⟩];rw[yQ I,ahl]at j;rwa[12,fin g d j]
   |some b=>
    rw[show (Option.map (λn:Nat=>V.int (n:Int)) (some b)).getD V.non=V.int (b:Int) from rfl];rwa[⟨12212,dv ?_⟩];rw[ny I]at j;erw[12,.inl ⟨21,aD.of d⟩,12,l,1122,d,5]
    ·rw[aM,b6,ahi,m];rwa[agU (show i+ 1<=1001 by omega) ⋯]
    erw[b,pre++[b],12,G _ _ _ I,by rw[agN,m];rfl,by rw[j,ahJ];rfl,λx o n e=>[ak n]▸g x o n e];rw[ah,<-ajp,i3,ints_app];rfl
  ·rintro C f ⟨cur,pre,J,rfl,u,m,j,g,d⟩;rw[aM,List.drop_length]at j;rwa[12,fin g d ([j]▸ahl _)]
def gF (g:Gg)(a:Zs):List (Str×V):=[("which",.int g.which),("word",↑a),("start",.int g.start),("front",.int g.front),("first",.int g.first),("rear",.int g.bu),("last",.int g.last)]
def LN (g:Gg)(a:Zs):(gF g a).lookup ("which":Str)\(.int g.which):=by kernel_rfl
def kr (g:Gg)(a:Zs):(gF g a).lookup ("word":Str)\↑a:=by kernel_rfl
def ve (g:Gg)(a:Zs):(gF g a).lookup ("start":Str)\(.int g.start):=by kernel_rfl
def ku (g:Gg)(a:Zs):(gF g a).lookup ("front":Str)\(.int g.front):=by kernel_rfl
def gX (g:Gg)(a:Zs):(gF g a).lookup ("first":Str)\(.int g.first):=by kernel_rfl
def kx (g:Gg)(a:Zs):(gF g a).lookup ("rear":Str)\(.int g.bu):=by kernel_rfl
def ky (g:Gg)(a:Zs):(gF g a).lookup ("last":Str)\(.int g.last):=by kernel_rfl
def Ni {g:Gg}(h:x∉(["which","word","start","front","first","rear","last"]:Zp)):(gF g a).lookup x=none:=by
 simp only[ag4,ahy,aiY,not_or]at h;let⟨e,b,i,j,c,d,f⟩:=h;unfold gF;simp only[List.lookup,ag9.mpr e,ag9.mpr b,ag9.mpr i,ag9.mpr j,ag9.mpr c,ag9.mpr d,ag9.mpr f]
def Cb (g:Gg)(a:Zs)(n:Nat):bL "front" (.int n) (gF g a)=gF { g with front:=n } a:=by kernel_rfl
def LQ (g:Gg)(a:Zs)(n:Nat):bL "first" (.int n) (gF g a)=gF { g with first:=n } a:=by kernel_rfl
def EB (g:Gg)(a:Zs)(n:Nat):bL "rear" (.int n) (gF g a)=gF { g with bu:=n } a:=by kernel_rfl
def PX (g:Gg)(a:Zs)(n:Nat):bL "last" (.int n) (gF g a)=gF { g with last:=n } a:=by kernel_rfl
structure dY (CG:Zs) (H:Hp) (p dx wa:Zs) (g:Gg):Prop where
 ins:H p\(.ins CG dx (gF g wa))
 wo:H wa\(.tup (ao g.word))
def dY.same {dx:Zs}{g:Gg}(h:dY a H b dx c g)(s:aq H I):dY a I b dx c g:=⟨s^h.ins,s^h.wo⟩
def dY.set {dx:Zs}{g g':Gg}(h:dY a H b dx c g)(e:g'.word=g.word):dY a (upd H b (.ins a dx (gF g' c))) b dx c g':=⟨ah,[ak (bW h.wo h.ins (by cbv)),e]▸h.wo⟩
noncomputable def iU (a:List (Zg×Nat)):List (Zd×V):=a.map λp=>(p.1.map Sum.inl,V.int p.2)
structure yg (rs:Za3) (fp:List (Zg×Nat)):Prop where
 a:∀p∈fp,rs[p.2]?\p.1
 b:∀w∈rs,∃n,(w,n)∈fp
 n:(fp.map (·.1)).Nodup
def Cd {c:List (Zg×Nat)}(w:Zg):bD (iU c) (w.map Sum.inl)=((c.find? λp=>decide (p.1=w)).map λp=>V.int p.2):=by
 induction c with
 |nil=>rfl
 |cons p l d=>
  by_cases h:p.1=w
  ·rw[List.find?_cons_of_pos (by cbv)];rwa[cS (p:=(p.1.map Sum.inl,V.int p.2)) (by rw[h])]
  ·rw[ajt (by simpa using h)];rwa[(cM (p:=(p.1.map Sum.inl,V.int p.2)) (λz=>h ?_)).trans d]
   let inj:∀{a b:Zg},a.map (Sum.inl:Int->Key)=b.map Sum.inl->a=b:=λ{a b} e=>by
    induction a generalizing b with
    |nil=>cases b with|nil=>rfl|cons=>ext e
    |cons x a d=>cases b with
     |nil=>ext e
     |cons y b=>cbv
   rwa[inj z]
def LR:Sp:=λc H Q _=>∃(l:Zs) (rs:Za3),c=[↑l]/\bR H l rs/\⇑rs<=1000/\∀d b a,aq H a->H d=none->a d\.dT (iU b)->yg rs b->Q ↑d a
theorem wV (T:Txt K mg A):T.mP.Ok P w base 1 LR:=by
 rwa[T.mP.on ip (λcu AA X s H vs Q E hr h=>?_) (len:=by rintro _ _ _ _ ⟨l,rs,rfl,_⟩;rfl)]
 ·let⟨l,rs,rfl,hW,hl,k⟩:=h;let Y:=ig hr
  erw[_,(aj (bJ 1 ip.nd Kd)
   (aj (ck ahe rfl (uE rfl T.kK (pv 0)) (kM rfl (cF (di 2 ip.nd) (cF (di 3 ip.nd) jr)))
    (av (aV (Kv Y (pv 1) (pv 3) (pv 2) ⟨2222⟩))))
   (av (bh (pv 1)))))]
  rwa[fS ?_];intro hM fx;let⟨F,y,x⟩:=id hW;rwa[λd J=>?_]
  let M:=aq.upd (o:=.dT []) J;let q1:upd H d (.dT []) d\(.dT (iU [])):=ah;generalize upd H d (.dT [])=H1 at M q1 ⊢;let ndl:l≠d:=ax y J;erw[12,l,2,⟨_,aD.of (M^y)⟩]
  refine ri (K:=K) (a:=l) (xs:=F.map V.ref) (λi L B=>∃c Z O,L=#v[↑l,↑d,Z,O]/\aq H B/\B d\.dT (iU c)/\(∀p∈c,rs[p.2]?\p.1/\p.2<i)/\(∀(j:Nat) (w:Zg),j<i->rs[j]?\w->∃n,(w,n)∈c)/\(c.map (·.1)).Nodup/\⇑c<=i)
   ⟨[],none,none,2,M,q1,(λp f=>by ext f),λj w D=>absurd D ∅,aix,agQ _⟩ (λi L B _ q0=>by let⟨_,_,_,_,s2,_⟩:=q0;rwa[aD.of (s2^y)]) ?_ ?_
  ·rintro i v L B t hi nt ⟨c,Z,O,rfl,s2,hd,C,N,U,hlen⟩
   let g:i<⇑F:=by
    have:=(agM.mp hi).1;rw[agO]at this;rwa[this]
   let m:i<⇑rs:=by rw[<-x.1];rwa[g]
   let g1:F[i]?\(F[i]'g):=agJ g
   let R:rs[i]?\(rs[i]'m):=agJ m
   rw[ag0,g1]at hi;obtain rfl:V.ref (F[i]'g)=v:=Za0 hi;generalize F[i]'g=q at g1;generalize rs[i]'m=w at R;let I:=aq.upd (o:=.tup [.int (i:Int),↑q]) nt;erw[t,12,bG.of ah,21121122];generalize upd B t (.tup [.int (i:Int),↑q])=H3 at I ⊢;let r:=I^hd;let hq:H3 q\(.tup ((w.map (Sum.inl:Int->Key)).map kV)):=by rw[ahE];rwa[(s2.trans I) _ _ (x.2 i q w g1 R)]
   rwa[⟨12,d,2,.inr ⟨_,.inl r⟩,1212,iU c,w.map Sum.inl,q,r,2,hq,5,λv G=>?_,λG=>?_⟩]
   ·unfold iU;rw[agO];rwa[agU (show ⇑c<=1000 by omega) ⋯]
   ·rw[Cd]at G;let⟨p,f,rfl⟩:=ah1.mp G;let e:p.1=w:=by let h9:=List.find?_some f;simpa using h9
    let hm:=List.mem_of_find?_eq_some f;rwa[⟨c,112,s2.trans I,r,λp f=>⟨(C p f).1,by have:=(C p f).2;ext⟩,λj u D eu=>?_,U,3⟩];by_cases Tq:j<i
    ·rwa[N j u Tq eu]
    ·cbv
   ·rw[Cd]at G
    let hno:∀p∈c,p.1≠w:=λp f e=>by
     have:=List.find?_eq_none.mp (akc.mp G) p f
     cbv
    let ep:putK (iU c) (w.map Sum.inl) (V.int (i:Int))=iU (c++[(w,i)]):=by
     rw[Ar _ ([Cd]▸G)];unfold iU;rw[aho];rfl
    rw[ep];let S:H d=none:=J;rwa[⟨c++[(w,i)],112,λb o e=>[ak (ax e S)]▸(s2.trans I) _ _ e,ah,λp f=>?_,λj u D eu=>?_,5,by rw[agN];show _+ 1<=_;ext⟩]
    ·rcases agX.mp f with z|z
     ·rwa[⟨(C p z).1,by have:=(C p z).2;ext⟩]
     ·rw[agR.mp z];rwa[R,by show i<i+ 1;ext]
    ·cbv
    cbv
  ·rintro L B ⟨c,Z,O,rfl,s2,hd,C,N,U,hlen⟩;rwa[⟨12,k d c B s2 J hd ⟨λp f=>(C p f).1,λw hw=>?_,U⟩⟩];let⟨j,D⟩:=ahF hw;rwa[N j w ([agO,x.1]▸(agM.mp D).1) D]
def za (a:Nat)(word:Zg)(start:Nat):Gg:=⟨a,word,start,start,(0),start,⇑word - 1⟩
inductive IJ (CG:Zs) (vs:Zb) (H:Hp) (Q:VK) (E_:XK):Prop
 |mk (x dx wa:Zs) (which start:Nat) (word:Zg):vs=[↑x,.int which,↑wa,.int start]->H x\.ins CG dx []->H wa\.tup (ao word)->1<=⇑word->⇑word<=1000->(∀H',(∀b o,H b\o->b≠x->H' b\o)->dY CG H' x dx wa (za which word start)->Q .non H')->IJ CG vs H Q E_
def Nj (a start:Nat)(b:Zs)(l:Int):List (Str×V):=[("which",.int a)]
def Nk (a start:Nat)(b:Zs)(l:Int):List (Str×V):=[("which",.int a),("word",↑b)]
def Nm (a start:Nat)(b:Zs)(l:Int):List (Str×V):=[("which",.int a),("word",↑b),("start",.int start)]
def Nn (a start:Nat)(b:Zs)(l:Int):List (Str×V):=[("which",.int a),("word",↑b),("start",.int start),("front",.int start)]
def Np (a start:Nat)(b:Zs)(l:Int):List (Str×V):=[("which",.int a),("word",↑b),("start",.int start),("front",.int start),("first",.int 0)]
def Nq (a start:Nat)(b:Zs)(l:Int):List (Str×V):=[("which",.int a),("word",↑b),("start",.int start),("front",.int start),("first",.int 0),("rear",.int start)]
def Tv (a start:Nat)(b:Zs)(l:Int):List (Str×V):=[("which",.int a),("word",↑b),("start",.int start),("front",.int start),("first",.int 0),("rear",.int start),("last",.int l)]
def gy2 (a start:Nat)(b:Zs)(l:Int):bL "word" ↑b (Nj a start b l)=Nk a start b l:=dM (by kernel_rfl)
def gy3 (a start:Nat)(b:Zs)(l:Int):bL "start" (.int start) (Nk a start b l)=Nm a start b l:=dM (by kernel_rfl)
def gy4 (a start:Nat)(b:Zs)(l:Int):bL "front" (.int start) (Nm a start b l)=Nn a start b l:=dM (by kernel_rfl)
def gy5 (a start:Nat)(b:Zs)(l:Int):bL "first" (.int 0) (Nn a start b l)=Np a start b l:=dM (by kernel_rfl)
def gy6 (a start:Nat)(b:Zs)(l:Int):bL "rear" (.int start) (Np a start b l)=Nq a start b l:=dM (by kernel_rfl)
def gy7 (a start:Nat)(b:Zs)(l:Int):bL "last" (.int l) (Nq a start b l)=Tv a start b l:=dM (by kernel_rfl)
def tN (T:Txt K mg A):T.gA.Ok mg P w base 1 (IJ A.aJ):=by
 rwa[T.gA.on tI (λX AA l s H vs Q E hr h=>?_)]
 ·let⟨x,c,d,a,start,word,rfl,r,f,R,O,k⟩:=h
  refine⟨_,(aj (bY (pv 0) (pv 1) rfl)
   (aj (bY (pv 0) (pv 2) rfl)
   (aj (bY (pv 0) (pv 3) rfl)
   (aj (bY (pv 0) (pv 3) rfl)
   (aj (bY (pv 0) au rfl)
   (aj (bY (pv 0) (pv 3) rfl)
   (av (bY (pv 0) (aK g6 (bq bz rfl T.dB ahu (ae (pv 2) ai)) au) rfl)))))))),?_⟩
  rwa[pO ?_];intro y7 nU lJ U L Z;let st:∀{H0:Hp} {fs gs:List (Str×V)},H0 x\.ins A.aJ c fs->(∀b o,H b\o->b≠x->H0 b\o)->upd H0 x (.ins A.aJ c gs) x\.ins A.aJ c gs/\∀b o,H b\o->b≠x->upd H0 x (.ins A.aJ c gs) b\o:=λ_ h=>⟨ah,λb o e n=>[ak n]▸h b o e n⟩
  let g:d≠x:=bW f r f!"";let Y:∀b o,H b\o->b≠x->H b\o:=λb o e _=>e
  erw[1212,x,_,c,12,r,aT T,T.BF,(by show 0<1000;decide)];rw[show bL "which" (.int a) []=Nj a start d (((⇑word - 1:Nat):Int)) from rfl];let⟨t,F⟩:=st (gs:=Nj a start d (((⇑word - 1:Nat):Int))) r Y;generalize upd H x (.ins A.aJ c (Nj a start d (((⇑word - 1:Nat):Int))))=J at t F ⊢;erw[1212,x,_,c,12,t,aT T,T.jE,(by show 1<1000;decide)];rw[gy2];let⟨i,D⟩:=st (gs:=Nk a start d (((⇑word - 1:Nat):Int))) t F;generalize upd J x (.ins A.aJ c (Nk a start d (((⇑word - 1:Nat):Int))))=H2 at i D ⊢;erw[1212,x,_,c,12,i,aT T,T.qg,(by show 2<1000;decide)];rw[gy3];let⟨j,B⟩:=st (gs:=Nm a start d (((⇑word - 1:Nat):Int))) i D;generalize upd H2 x (.ins A.aJ c (Nm a start d (((⇑word - 1:Nat):Int))))=S at j B ⊢;erw[1212,x,_,c,12,j,aT T,T.gU,(by show 3<1000;decide)];rw[gy4];let⟨u,G⟩:=st (gs:=Nn a start d (((⇑word - 1:Nat):Int))) j B;generalize upd S x (.ins A.aJ c (Nn a start d (((⇑word - 1:Nat):Int))))=N at u G ⊢;erw[12,x,_,c,12,u,aT T,T.fh,(by show 4<1000;decide)];rw[gy5];let⟨m,C⟩:=st (gs:=Np a start d (((⇑word - 1:Nat):Int))) u G;generalize upd N x (.ins A.aJ c (Np a start d (((⇑word - 1:Nat):Int))))=M at m C ⊢;erw[1212,x,_,c,12,m,aT T,T.ib,(by show 5<1000;decide)];rw[gy6];let⟨v,p⟩:=st (gs:=Nq a start d (((⇑word - 1:Nat):Int))) m C;generalize upd M x (.ins A.aJ c (Nq a start d (((⇑word - 1:Nat):Int))))=I at v p ⊢;erw[12,d,12,.inr (bG.of (p _ _ f g)),112212,x,_,c,12,v,aT T,T.iP,(by show 6<1000;decide)];rw[show V.int ((⇑(ao word):Int) - 1)=V.int (((⇑word - 1:Nat):Int)) by show V.int ((⇑(ao word):Int) - 1)=_;rw[aM];congr 1;ext];rw[gy7];let⟨y,q⟩:=st (gs:=Tv a start d (((⇑word - 1:Nat):Int))) v p;generalize upd I x (.ins A.aJ c (Tv a start d (((⇑word - 1:Nat):Int))))=H7 at y q ⊢;rwa[k H7 q ⟨y,q _ _ f g⟩]
structure sF (S:RS) (g g':Gg):Prop where
 wh:g'.which=g.which
 wo:g'.word=g.word
 st:g'.start=g.start
 gi:GI S g'
 ef:S.aw g'.front=g'.front
 er:S.aw g'.bu=g'.bu
 k1:S.aw g.front=g.front->S.by g.front g.z1=none->g'.front=g.front/\g'.first=g.first
 k2:S.aw g.bu=g.bu->S.by g.bu g.z2=none->g'.bu=g.bu/\g'.last=g.last
def sF.fwd {g g1:Gg}(h:sF S g g1)(j:Good S [] R)(a:g1.first<g1.last){c:Nat}(hc:S.by g1.front g1.z1=some c):sF S g { g1 with front:=c,first:=g1.first+ 1 }:=by
 let⟨_,d,_,e⟩:=j.st _ _ _ hc;let ll:=h.gi.ll;let hz:=Gg.qy (g:=g1) ∅;rwa[⟨h.wh,h.wo,h.st,⟨a,ll,h.gi.s,d,h.gi.r,5,h.gi.wr⟩,e,h.er,λi b=>?_,h.k2⟩]
 ·have:=h.gi.wf;rw[h.ef]at this;show wk S.by _ (g1.word.take (g1.first+ 1))=some (S.aw c);rw[take_snoc hz,oJ this,RM hc,e]
 ·let⟨k,f⟩:=h.k1 i b;unfold Gg.z1 at hc b;rw[k,f,h.wo,b]at hc;ext hc
def sF.bwd {g g1:Gg}(h:sF S g g1)(e:Good S [] R)(j:g1.first<g1.last){c:Nat}(hc:S.by g1.bu g1.z2=some c):sF S g { g1 with bu:=c,last:=g1.last - 1 }:=by
 let⟨_,b,_,d⟩:=e.st _ _ _ hc;let ll:=h.gi.ll;let hz:=Gg.at2 (g:=g1) ll;rwa[⟨h.wh,h.wo,h.st,⟨by show g1.first<=g1.last - 1;ext,by show g1.last - 1<⇑g1.word;ext,h.gi.s,h.gi.f,b,h.gi.wf,5⟩,h.ef,d,h.k1,λi a=>?_⟩]
 ·have:=h.gi.wr;rw[h.er]at this;show wk S.by (S.aw c) (g1.word.drop (g1.last - 1+ 1))=some (S.aw g1.start);rw[show g1.last - 1+ 1=g1.last by ext,drop_cons hz,d,hY (e.sy _ _ _ hc)];ext
 ·let⟨k,f⟩:=h.k2 i a;unfold Gg.z2 at hc a;rw[k,f,h.wo,a]at hc;ext hc
inductive Nr (CR CG:Zs) (vs:Zb) (H:Hp) (Q:VK) (E_:XK):Prop
 |mk (p dx wa r:Zs) (g:Gg) (S:RS) (a:RA) (R:Za2):vs=[↑p,↑r]->dY CG H p dx wa g->ay CR H r S a->Good S [] R->GI S g->¬a.own r p->⇑g.word<=1000->(∀g' H',(∀b o,b≠p->H b\o->H' b\o)->dY CG H' p dx wa g'->Wo S g g'->Q .non H')->Nr CR CG vs H Q E_
def vg (T:Txt K mg A):T.lA.Ok mg P w base 2 (Nr A.az A.aJ):=by
 rwa[T.lA.on jo (λcu AA outer s H vs Q E X h=>?_)]
 ·let⟨p,d,t,r,g,S,a,R,rfl,O,Y,B,y,Z,N,k⟩:=h
  refine⟨_,(aj (bY (pv 0) (pm (pv 1) (aI T) T.ia (iQ T) X (ae (aH (pv 0) rfl) ai)) rfl)
   (aj (bY (pv 0) (pm (pv 1) (aI T) T.ia (iQ T) X (ae (aH (pv 0) rfl) ai)) rfl)
   (aj (bP (gP ahe (aX pG (aH (pv 0) rfl) (aH (pv 0) rfl) (aY _))
    (aj (bJ 2 jo.nd (pm (pv 1) (aI T) T.iE (ic T) X (ae (aH (pv 0) rfl) (ae (bC dJ (aH (pv 0) rfl) (aH (pv 0) rfl) (λ_ _=>rfl)) ai))))
    (aj (bH (aX qU (pv 2) dm (aY _))
     (av uy)
     bp)
    (aj (bY (pv 0) (pv 2) rfl)
    (av (bY (pv 0) (aK cI (aH (pv 0) rfl) au) rfl)))))))
   (av (bP (gP ahe (aX pG (aH (pv 0) rfl) (aH (pv 0) rfl) (aY _))
    (aj (bJ 2 jo.nd (pm (pv 1) (aI T) T.iE (ic T) X (ae (aH (pv 0) rfl) (ae (fY eJ (bC dJ (aH (pv 0) rfl) (aH (pv 0) rfl) (λ_ _=>rfl))) ai))))
    (aj (bH (aX qU (pv 2) dm (aY _))
     (av uy)
     bp)
    (aj (bY (pv 0) (pv 2) rfl)
    (av (bY (pv 0) (aK g6 (aH (pv 0) rfl) au) rfl))))))))))),?_⟩
  rwa[gT ?_];intro jG hM fx;let eo:∀{c:Nat},c<S.made->S.aU[c]?\(S.aw c):=λ{c} hc=>m3 ([B.wf.e]▸hc)
  let kp:∀{F:Hp},(∀b o,b≠p->H b\o->F b\o)->ay A.az F r S a:=λ{F} f=>Y.keep (λb o hb e=>f b o (λz=>Z (z ▸ hb)) e) (λb xs e=>f b _ (bW e O.ins f!"") e)
  let up:∀{F:Hp} {o2:HO},(∀b o,b≠p->H b\o->F b\o)->∀b o,b≠p->H b\o->upd F p o2 b\o:=λf b o n e=>by rw[ak n];rwa[f b o n e]
  erw[12,r,a.dx,12,Y.ins,cK _ _ _ ⋯,12,p,_,d,112,O.ins,aT T,T.gU,ku _ _,r,S,a,g.front,S.aw g.front,2,Y,eo y.f,12,p,_,d,12,O.ins,aT T,T.gU,(by show 7<1000;decide)];rw[Cb];let U:=O.set (g':={ g with front:=S.aw g.front }) rfl;let f1:=up (o2:=.ins A.aJ d (gF { g with front:=S.aw g.front } t)) (λb o _ e=>e);generalize upd H p (.ins A.aJ d (gF { g with front:=S.aw g.front } t))=H1 at U f1 ⊢;let R1:=kp f1;erw[12,r,a.dx,12,R1.ins,cK _ _ _ ⋯,12,p,_,d,112,U.ins,aT T,T.ib,kx _ _,r,S,a,g.bu,S.aw g.bu,2,R1,eo y.r,12,p,_,d,12,U.ins,aT T,T.ib,(by show 7<1000;decide)];rw[EB];let p2:=U.set (g':={ g with front:=S.aw g.front,bu:=S.aw g.bu }) rfl;let f2:=up (o2:=.ins A.aJ d (gF { g with front:=S.aw g.front,bu:=S.aw g.bu } t)) f1;generalize upd H1 p (.ins A.aJ d (gF { g with front:=S.aw g.front,bu:=S.aw g.bu } t))=F at p2 f2 ⊢;let e1:=(B.el _ y.f).2;let e2:=(B.el _ y.r).2;let D:sF S g { g with front:=S.aw g.front,bu:=S.aw g.bu }:=⟨222,⟨y.fl,y.ll,y.s,B.lt y.f,B.lt y.r,by show wk _ _ _\S.aw (S.aw g.front);rw[e1];rwa[y.wf],by show wk _ (S.aw (S.aw g.bu)) _=_;rw[e2];rwa[y.wr]⟩,e1,e2,λe _=>⟨e,2⟩,λe _=>⟨e,2⟩⟩;erw[λ v l=>∃g1 u,v=#v[↑p,↑r,u]/\(∀b o,b≠p->H b\o->l b\o)/\dY A.aJ l p d t g1/\sF S g g1/\(g1.first<g1.last->S.by g1.front g1.z1=none),5]
  ·erw[λm J l=>∃g1 u,m=g1.last - g1.first/\J=#v[↑p,↑r,u]/\(∀b o,b≠p->H b\o->l b\o)/\dY A.aJ l p d t g1/\sF S g g1,⟨11,none,22,f2,p2,D⟩];rintro m J l ⟨g1,u,rfl,rfl,x,i,ad⟩;let I:=kp x;let ll:=ad.gi.ll;let fl:=ad.gi.fl;let lw:⇑g1.word<=1000:=by rw[ad.wo];rwa[N]
   erw[12,p,_,d,112,i.ins,aT T,T.fh,gX _ _,12,p,_,d,112,i.ins,aT T,T.iP,ky _ _,112212];rwa[bU (λq=>?_) (λq=>?_)]
   ·let q:(g1.first:Int)<(g1.last:Int):=ahq q;erw[_,λ_ _ z=>z];let hz:=Gg.qy (g:=g1) ∅;erw[12,r,a.dx,12,I.ins,cK _ _ _ ⋯,12,p,_,d,112,i.ins,aT T,T.gU,ku _ _,12,p,_,d,112,i.ins,aT T,T.jE,kr _ _,12,p,_,d,112,i.ins,aT T,T.fh,gX _ _,t,11,.int g1.z1,22,bG.of i.wo,da (cC hz),r,S,a,g1.front,g1.z1,2,I,[B.wf.w]▸ad.gi.f]
    cases L:S.by g1.front g1.z1 with
    |none=>rwa[12212,jj ⟨g1,12,x,i,ad,λ_=>L⟩]
    |some c=>
     rw[show (Option.map (λn:Nat=>V.int (n:Int)) (some c)).getD V.non=V.int (c:Int) from rfl];rwa[⟨12212,dv ?_⟩];erw[1212,p,_,d,12,i.ins,aT T,T.gU,(by show 7<1000;decide)];rw[Cb];let C:=i.set (g':={ g1 with front:=c }) rfl;let M:=up (o2:=.ins A.aJ d (gF { g1 with front:=c } t)) x;generalize upd l p (.ins A.aJ d (gF { g1 with front:=c } t))=H3 at C M ⊢;erw[12,p,_,d,112,C.ins,aT T,T.fh,gX _ _,112212,p,_,d,12,C.ins,aT T,T.fh,(by show 7<1000;decide)];rw[show V.int ((({ g1 with front:=c }:Gg).first:Int)+ 1)=V.int ((g1.first+ 1:Nat):Int) from rfl,LQ];rwa[_,by show g1.last - (g1.first+ 1)<_;ext,1122,up M,C.set rfl,ad.fwd B ∅ L]
   ·rwa[g1,u,2,x,i,ad,λz=>absurd (ahp (show (g1.first:Int)<(g1.last:Int) by omega)) q]
  rintro v l ⟨g0,v0,rfl,f0,p0,D,n0⟩;erw[λ v l=>∃g1 u,v=#v[↑p,↑r,u]/\(∀b o,b≠p->H b\o->l b\o)/\dY A.aJ l p d t g1/\sF S g g1/\(g1.first<g1.last->S.by g1.front g1.z1=none)/\(g1.first<g1.last->S.by g1.bu g1.z2=none),5]
  ·erw[λm J l=>∃g1 u,m=g1.last - g1.first/\J=#v[↑p,↑r,u]/\(∀b o,b≠p->H b\o->l b\o)/\dY A.aJ l p d t g1/\sF S g g1/\(g1.first<g1.last->S.by g1.front g1.z1=none),⟨11,v0,22,f0,p0,D,n0⟩];rintro m J l ⟨g1,u,rfl,rfl,x,i,ad,G⟩;let I:=kp x;let ll:=ad.gi.ll;let fl:=ad.gi.fl;let lw:⇑g1.word<=1000:=by rw[ad.wo];rwa[N]
   erw[12,p,_,d,112,i.ins,aT T,T.fh,gX _ _,12,p,_,d,112,i.ins,aT T,T.iP,ky _ _,112212];rwa[bU (λq=>?_) (λq=>?_)]
   ·let q:(g1.first:Int)<(g1.last:Int):=ahq q;erw[_,λ_ _ z=>z];let hz:=Gg.at2 (g:=g1) ll;erw[12,r,a.dx,12,I.ins,cK _ _ _ ⋯,12,p,_,d,112,i.ins,aT T,T.ib,kx _ _,12,p,_,d,112,i.ins,aT T,T.jE,kr _ _,12,p,_,d,112,i.ins,aT T,T.iP,ky _ _,t,11,.int (-g1.z2),22,bG.of i.wo,da (cC hz),12,r,S,a,g1.bu,g1.z2,(by show [V.ref r,V.int (g1.bu:Int),V.int (- -g1.z2)]=_;rw[aiF]),I,[B.wf.w]▸ad.gi.r]
    cases L:S.by g1.bu g1.z2 with
    |none=>rwa[12212,jj ⟨g1,12,x,i,ad,G,λ_=>L⟩]
    |some c=>
     rw[show (Option.map (λn:Nat=>V.int (n:Int)) (some c)).getD V.non=V.int (c:Int) from rfl];rwa[⟨12212,dv ?_⟩];erw[1212,p,_,d,12,i.ins,aT T,T.ib,(by show 7<1000;decide)];rw[EB];let C:=i.set (g':={ g1 with bu:=c }) rfl;let M:=up (o2:=.ins A.aJ d (gF { g1 with bu:=c } t)) x;generalize upd l p (.ins A.aJ d (gF { g1 with bu:=c } t))=H3 at C M ⊢;erw[12,p,_,d,112,C.ins,aT T,T.iP,ky _ _,112212,p,_,d,12,C.ins,aT T,T.iP,(by show 7<1000;decide)];rw[show V.int ((({ g1 with bu:=c }:Gg).last:Int) - 1)=V.int ((g1.last - 1:Nat):Int) by show V.int ((g1.last:Int) - 1)=_;congr 1;ext,PX];rwa[_,by show (g1.last - 1) - g1.first<_;ext,1122,up M,C.set rfl,ad.bwd B ∅ L,λz=>G (by let z:g1.first<g1.last - 1:=z;omega)]
   ·rwa[g1,u,2,x,i,ad,G,λz=>absurd (ahp (show (g1.first:Int)<(g1.last:Int) by omega)) q]
  rintro v l ⟨g1,u,rfl,x,i,ad,G,n2⟩;rwa[k g1 l x i ⟨ad.wh,ad.wo,ad.st,ad.gi,ad.ef,ad.er,G,n2,ad.k1,ad.k2⟩]
def V4 (ns:Zg)(j:Nat):gQ (ao ns) none (some (j:Int))=ao (ns.take j):=by
 rw[Ap,HT.xA];show ao ((List.drop 0 ns).take (min j ⇑ns - 0))=_
 cbv
def PY (ns:Zg)(j:Nat)(h:j<=⇑ns):gQ (ao ns) (some (j:Int)) none=ao (ns.drop j):=by
 rw[Ap,HT.xA,aji h];show ao ((ns.drop j).take (⇑ns - j))=_;rw[aiR ([ahP]▸agQ _)]
theorem pj {by_:Nat->Int->Zi}:∀{ws:Zg} {r:Nat},⇑(cj by_ r ws)<=⇑ws
 |[],_=>agQ _
 |z::ws,r=>by
  cases q:by_ r z with
  |none=>rw[yQ q];rwa[ahg _]
  |some d=>rw[ny q,ahi,ahi];rwa[Nat.succ_le_succ pj]
inductive IK (CR CG:Zs) (vs:Zb) (H:Hp) (Q:VK) (E_:XK):Prop
 |mk (p dx wa r:Zs) (g:Gg) (S:RS) (a:RA) (R:Za2):vs=[↑p,↑r]->dY CG H p dx wa g->ay CR H r S a->Good S [] R->g.start<S.made->g.bu<S.made->g.last<⇑g.word->⇑g.word<=1000->(∀q H',aq H H'->bK H' 2 ↑q (lZ g.which ((g.start::cj S.by g.start (g.word.take g.first))++(g.bu::cj S.by g.bu (g.word.drop (g.last+ 1)))) g.first)->Q ↑q H')->IK CR CG vs H Q E_
def Ce (T:Txt K mg A):T.sj.Ok mg P w base 3 (IK A.az A.aJ):=by
 rwa[T.sj.on mX (λcu AA L s H vs Q E hr h=>?_)]
 ·let⟨p,m,wa,r,g,S,a,R,rfl,n,X,I,hs,J,Xs,EA,k⟩:=h
  refine⟨_,(aj (bJ 2 mX.nd (pc T.walked (y9 T) hr (ae (pv 1) (ae (aH (pv 0) rfl) (ae (pH An (aH (pv 0) rfl) xB (oy (aH (pv 0) rfl))) ai)))))
   (aj (bJ 3 mX.nd (pc T.walked (y9 T) hr (ae (pv 1) (ae (aH (pv 0) rfl) (ae (pH An (aH (pv 0) rfl) (oy (aK cI (aH (pv 0) rfl) au)) xB) ai)))))
   (av (bh (cJ (ae (fD (l:=[114,117,108,101]) rfl) (ae (aH (pv 0) rfl) (ae (c9 qq rfl T.oY aiK (ae (aK Ah (pv 2) (pv 3)) ai)) (ae (aH (pv 0) rfl) ai))))))))),?_⟩
  rwa[fS ?_];intro hM fx;let C:∀c z d,S.by c z=some d->d<S.made:=λc z d e=>(I.st c z d e).2.1
  rwa[⟨1212,p,_,m,112,n.ins,aT T,T.qg,ve _ _,12,p,_,m,112,n.ins,aT T,T.jE,kr _ _,12,p,_,m,112,n.ins,aT T,T.fh,gX _ _,12,wa,12,n.wo,λt1 H1 s1 e1=>?_⟩];rw[V4]at e1;rwa[⟨r,S,a,g.start,t1,g.word.take g.first,2,X.same s1,I.wf,hs,C,e1,by rw[ahr];ext,λl1 H2 s2 h2=>?_⟩];let D:=s1.trans s2;let G:=n.same D;rwa[⟨1212,p,_,m,112,G.ins,aT T,T.ib,kx _ _,12,p,_,m,112,G.ins,aT T,T.jE,kr _ _,12,p,_,m,112,G.ins,aT T,T.iP,ky _ _,112212,wa,12,G.wo,λt2 H3 s3 Y=>?_⟩];rw[show (g.last:Int)+ 1=((g.last+ 1:Nat):Int) by ext,PY _ _ ∅]at Y;let B:=D.trans s3;rwa[⟨r,S,a,g.bu,t2,g.word.drop (g.last+ 1),2,X.same B,I.wf,J,C,Y,by rw[ahP];ext,λl2 Z s4 h4=>?_⟩];let y:=B.trans s4;let p4:=n.same y;let lx:=pj (by_:=S.by) (ws:=g.word.take g.first) (r:=g.start);let ly:=pj (by_:=S.by) (ws:=g.word.drop (g.last+ 1)) (r:=g.bu);rw[ahr]at lx;rw[ahP]at ly;rwa[⟨12,p,_,m,112,p4.ins,aT T,T.BF,LN _ _,1212,l1,l2,1122,(s3.trans s4) _ _ h2,h4,5,λU n3=>?_⟩]
  ·rw[aM,aM,b6,b6,ahi,ahi];rwa[ag3 (show _<=100000 by omega) ⋯]
  rwa[⟨U,12,.inl ⟨aD.of ah,λF n4=>?_⟩⟩];rw[<-ints_app,<-i3]at n4 ⊢;let s5:=aq.upd (o:=.lst (ao (nI ((g.start::cj S.by g.start (g.word.take g.first))++(g.bu::cj S.by g.bu (g.word.drop (g.last+ 1))))))) n3;generalize (g.start::cj S.by g.start (g.word.take g.first))++(g.bu::cj S.by g.bu (g.word.drop (g.last+ 1)))=path at *;let M:=s5.trans (aq.upd (o:=.tup (ao (nI path))) n4);let V:upd (upd Z U (.lst (ao (nI path)))) F (.tup (ao (nI path))) F=_:=ah;generalize upd (upd Z U (.lst (ao (nI path)))) F (.tup (ao (nI path)))=H6 at M V ⊢;rwa[⟨12,p,_,m,112,(M^p4.ins),aT T,T.fh,gX _ _,(Za4 4),λq nq=>?_⟩];let s7:=aq.upd (o:=.tup [.str (tx [114,117,108,101]),.int (g.which:Int),↑F,.int (g.first:Int)]) nq;rwa[k q _ (y.trans (M.trans s7)) (.t ah rfl λj v d b f=>?_)]
  match j,b,f with
  |0,b,f=>ext b;ext f;rwa[.s]
  |1,b,f=>ext b;ext f;rwa[.i]
  |2,b,f=>
   ext b;ext f;rwa[.t (s7^V) (by rw[aM,b6,agO]) λi u x f1 N=>?_]
   let⟨z,rfl,t⟩:=cw f1;unfold nI at t;rw[ag0]at t N
   cases q1:path[i]? with
   |none=>rw[q1]at t;ext t
   |some c=>
    rw[q1]at t N;ext t;ext N;rwa[.i]
  |3,b,f=>ext b;ext f;rwa[.i]
  |j+ 4,b,f=>simp at b
def same_none (s:aq H I){b:Zs}(h:I b=none):H b=none:=by
 cases e:H b with
 |none=>rfl
 |some o=>rw[s^e]at h;ext h
structure KA where
 dx:Zs
 aQ:Zs
 aG:Zs
 aA:Zs
 aW:Zs
noncomputable def pk (r:Zs)(c:KA)(a:Nat):List (Str×V):=[("rooms",↑r),("rules",↑c.aQ),("goings",↑c.aG),("agenda",↑c.aA),("waiting",↑c.aW),("heard",.int a)]
def fX (r:Zs)(c:KA)(a:Nat):(pk r c a).lookup ("rooms":Str)\↑r:=by kernel_rfl
def LV (r:Zs)(c:KA)(a:Nat):(pk r c a).lookup ("rules":Str)\↑c.aQ:=by kernel_rfl
def lb (r:Zs)(c:KA)(a:Nat):(pk r c a).lookup ("goings":Str)\↑c.aG:=by kernel_rfl
def nV (r:Zs)(c:KA)(a:Nat):(pk r c a).lookup ("agenda":Str)\↑c.aA:=by kernel_rfl
def lU (r:Zs)(c:KA)(a:Nat):(pk r c a).lookup ("waiting":Str)\↑c.aW:=by kernel_rfl
def vh (r:Zs)(c:KA)(a:Nat):(pk r c a).lookup ("heard":Str)\(.int a):=by kernel_rfl
def fu {r:Zs}{c:KA}(h:x∉(["rooms","rules","goings","agenda","waiting","heard"]:Zp)):(pk r c n).lookup x=none:=by
 simp only[ag4,ahy,aiY,not_or]at h;let⟨e,a,f,g,b,d⟩:=h;unfold pk;simp only[List.lookup,ag9.mpr e,ag9.mpr a,ag9.mpr f,ag9.mpr g,ag9.mpr b,ag9.mpr d]
def LW (r:Zs)(c:KA)(a n:Nat):bL "heard" (.int n) (pk r c a)=pk r c n:=by kernel_rfl
structure qj (CG:Zs) (H:Hp) (gv:Zb) (gs:Zf) (O:Zs->Prop):Prop where
 l:⇑gv=⇑gs
 n:∀(i:Nat) (v:V),gv[i]?\v->gs[i]?\none->v=.non
 s:∀(i:Nat) (v:V) (g:Gg),gv[i]?\v->gs[i]?\some g->∃p dx wa,v=↑p/\dY CG H p dx wa g/\O p
 i:∀(i j:Nat) (p:Zs),gv[i]?\↑p->gv[j]?\↑p->i=j
structure cq (CG CC:Zs) (H:Hp) (x r:Zs) (c:KA) (gs:Zf) (ag:Zh) (W:bI) (hd:Nat) (fp:List (Zg×Nat)) (O:Zs->Prop):Prop where
 ins:H x\(.ins CC c.dx (pk r c hd))
 hG:∃gv,H c.aG\.lst gv/\qj CG H gv gs O
 hA:H c.aA\(.lst (ao (nI ag)))
 wt:oK H c.aW W O
 ne:c.aG≠c.aA
 ox:O x
 oG:O c.aG
 oA:O c.aA
 th:∀b,O b->∃o,H b\o/\(∀xs,o≠.tup xs)/\(∀kv,o≠.dT kv)/\(∀u v,o≠.cR u v)/\∀ps,o≠.fE ps
section
variable {CG CC:Zs}{H H':Hp}{x r:Zs}{c:KA}{gs:Zf}{ag:Zh}{W:bI}{hd:Nat}{fp:List (Zg×Nat)}{O:Zs->Prop}
def qj.keep (h:qj CG H L gs O)(f:∀b o,O b->H b\o->H' b\o)(ft:∀b a,H b\.tup a->H' b\.tup a):qj CG H' L gs O:=by
 rwa[⟨h.l,h.n,λi v g d k=>?_,h.i⟩];let⟨p,dx,j,e,q,o⟩:=h.s i v g d k;rwa[p,dx,j,e,⟨f _ _ o q.ins,ft^q.wo⟩,o]
def cq.keep (h:cq CG CC H x r c gs ag W hd fp O)(f:∀b o,O b->H b\o->H' b\o)(ft:∀b a,H b\.tup a->H' b\.tup a):cq CG CC H' x r c gs ag W hd fp O:=by
 let⟨g,i,g2⟩:=h.hG;rwa[⟨f _ _ h.ox h.ins,⟨g,f _ _ h.oG i,g2.keep f ft⟩,f _ _ h.oA h.hA,h.wt.keep f,h.ne,h.ox,h.oG,h.oA,λb d=>?_⟩];let⟨o,e,q⟩:=h.th b d;rwa[o,f _ _ d e,q]
def cq.same (h:cq CG CC H x r c gs ag W hd fp O)(s:aq H H'):cq CG CC H' x r c gs ag W hd fp O:=h.keep (λb o _ e=>s b o e) (λb o e=>s^e)
def cq.jg (h:cq CG CC H x r c gs ag W hd fp O){b:Zs}{a:Zb}(e:H b\.tup a):¬O b:=λz=>by
 let⟨o,q,n,_⟩:=h.th b z
 cbv
def cq.IL (h:cq CG CC H x r c gs ag W hd fp O){b:Zs}{a:List (Zd×V)}(e:H b\.dT a):¬O b:=λz=>by
 let⟨o,q,_,n,_⟩:=h.th b z
 cbv
def cq.waits (h:cq CG CC H x r c gs ag W hd fp O){k:bI}{a:Zs->Prop}(f:∀b o,(∀j,o≠.dK j)->H b\o->H' b\o)(d:∀b,O b->a b)(w:oK H' c.aW k a)(th:∀b,a b->∃o,H' b\o/\(∀l,o≠.tup l)/\(∀j,o≠.dT j)/\(∀u v,o≠.cR u v)/\∀n,o≠.fE n):cq CG CC H' x r c gs ag k hd fp a:=by
 let⟨m,s,g2⟩:=h.hG;rwa[⟨f _ _ (by cbv) h.ins,⟨m,f _ _ (by cbv) s,g2.l,g2.n,λi v g y z=>?_,g2.i⟩,f _ _ (by cbv) h.hA,w,h.ne,d _ h.ox,d _ h.oG,d _ h.oA,th⟩];let⟨p,dx,t,e,q,o⟩:=g2.s i v g y z;rwa[p,dx,t,e,⟨f _ _ (by cbv) q.ins,f _ _ (by cbv) q.wo⟩,d _ o]
def cq.agenda (h:cq CG CC H x r c gs ag W hd fp O)(a:Zh):cq CG CC (upd H c.aA (.lst (ao (nI a)))) x r c gs a W hd fp O:=by
 let⟨j,l,g2⟩:=h.hG;let k:∀b o,b≠c.aA->H b\o->upd H c.aA (.lst (ao (nI a))) b\o:=λb o n e=>by rw[ak n];rwa[e]
 let kn:∀b o,(∀f,o≠.lst f)->H b\o->upd H c.aA (.lst (ao (nI a))) b\o:=λb o n e=>k b o (λz=>by rw[z,h.hA]at e;cbv) e
 rwa[⟨kn _ _ (by cbv) h.ins,⟨j,k _ _ h.ne l,g2.l,g2.n,λi v g s t=>?_,g2.i⟩,ah,5,h.ne,h.ox,h.oG,h.oA,λb d=>?_⟩]
 ·let⟨p,dx,m,e,q,o⟩:=g2.s i v g s t;rwa[p,dx,m,e,⟨kn _ _ (by cbv) q.ins,kn _ _ (by cbv) q.wo⟩,o]
 ·let⟨D,E,k1,k2⟩:=h.wt;rwa[D,E,k1.keep λb o d e=>by let⟨u,q⟩:=k1.there d;cbv,k2]
 ·by_cases e:b=c.aA
  ·rwa[_,[e]▸ah,(by cbv),(by cbv),(by cbv),by cbv]
  ·let⟨o,q,n⟩:=h.th b d;rwa[o,k _ _ e q,n]
end
def Bt (O:Zs->Prop)(H a:Hp):Prop:=∀b o,¬O b->H b\o->a b\o
def Bt.trans {O a:Zs->Prop}(h:Bt O H I)(c:Bt a I J)(f:∀b,a b->O b\/H b=none):Bt O H J:=λb o n e=>c b o (λz=>(f b z).elim n λq=>by cbv) (h b o n e)
def Bt.of {O:Zs->Prop}(s:aq H I):Bt O H I:=λb o _ e=>s b o e
inductive IQ (CR CG CC:Zs) (vs:Zb) (H:Hp) (Q:VK) (E_:XK):Prop
 |mk (x r:Zs) (c:KA) (gs:Zf) (ag:Zh) (W:bI) (hd:Nat) (fp:List (Zg×Nat)) (O:Zs->Prop) (n m:Nat) (s:Int):vs=[↑x,.int n,.int m,.int s]->cq CG CC H x r c gs ag W hd fp O->m<100000->n<100000->(-1000<=s/\s<=1000)->(∀O' H',Bt O H H'->(∀b o,(∀kv,o≠.dK kv)->H b\o->H' b\o)->(∀b,O b->O' b)->(∀b,O' b->O b\/H b=none)->cq CG CC H' x r c gs ag (addW W m s n) hd fp O'->Q .non H')->IQ CR CG CC vs H Q E_
structure j1 (H:Hp) (O:Zs->Prop) (H1:Hp) (O1:Zs->Prop):Prop where
 f:∀b o,(∀kv,o≠.dK kv)->H b\o->H1 b\o
 bt:Bt O H H1
 le:∀b,O b->O1 b
 nw:∀b,O1 b->O b\/H b=none
 th:∀b,O1 b->∃o,H1 b\o/\(∀xs,o≠.tup xs)/\(∀kv,o≠.dT kv)/\(∀u v,o≠.cR u v)/\∀ps,o≠.fE ps
def j1.new {O c:Zs->Prop}(h:j1 H O I c){p:Zs}{a:List (Key×V)}(f:I p=none):j1 H O (upd I p (.dK a)) c:=by
 let s:=aq.upd (o:=.dK a) f;rwa[⟨λb o n e=>s^h.f b o n e,λb o n e=>s^h.bt b o n e,h.le,h.nw,λb d=>?_⟩];let⟨o,e,q⟩:=h.th b d;rwa[o,s^e,q]
def j1.put {O a:Zs->Prop}(h:j1 H O I a){d:Zs}(hd:a d){c kv':List (Key×V)}(ed:I d\.dK c):j1 H O (upd I d (.dK kv')) a:=by
 let k:∀b o,b≠d->I b\o->upd I d (.dK kv') b\o:=λb o n e=>by rw[ak n];rwa[e]
 rwa[⟨λb o n e=>k _ _ (λz=>by have:=h.f b o n e;cbv) (h.f b o n e),λb o n e=>k _ _ (λz=>?_) (h.bt b o n e),h.le,h.nw,λb f=>?_⟩]
 ·rcases h.nw d hd with q|q
  ·cbv
  cbv
 ·by_cases e:b=d
  ·rwa[⟨_,by rw[e];rwa[ah],(by cbv),(by cbv),(by cbv),by cbv⟩]
  ·let⟨o,q,m⟩:=h.th b f;rwa[o,k _ _ e q,m]
def j1.Xt {O a:Zs->Prop}(h:j1 H O I a){p:Zs}(e:H p=none){o:HO}(k:I p\o)(j:∀c,o≠.tup c)(i:∀f,o≠.dT f)(l:∀u v,o≠.cR u v)(d:∀g,o≠.fE g):j1 H O I (HG a p):=by
 rwa[⟨h.f,h.bt,λb z=>.inl (h.le b z),λb z=>z.elim (h.nw b) λq=>.inr ([q]▸e),λb z=>?_⟩];rcases z with z|z
 ·rwa[h.th b z]
 ·rw[z];rwa[o,k,j,i,l,d]
def j1.no {O b:Zs->Prop}(h:j1 H O I b){p:Zs}(a:I p=none):H p=none:=by
 cases e:H p with
 |none=>rfl
 |some o=>
  by_cases q:O p
  ·let⟨d,c,_⟩:=h.th p (h.le p q);cbv
  ·rw[h.bt p o q e]at a;ext a
def cq.mid {x r:Zs}{c:KA}{gs:Zf}{W:bI}{hd:Nat}{d:List (Zg×Nat)}{O:Zs->Prop}(h:cq a b H x r c gs B W hd d O):j1 H O H O:=⟨λ_ _ _ e=>e,λ_ _ _ e=>e,λ_ z=>z,λ_ z=>.inl z,h.th⟩
def nX (T:Txt K mg A):T.jY.Ok mg P w base 1 (IQ A.az A.aJ A.aF):=by
 rwa[T.jY.on j0 (λY AA F s H vs Q E X h=>?_)]
 ·let⟨x,r,c,gs,ag,W,J,fp,O,n,m,s,rfl,h,hm,hn,V,k⟩:=h;let G:=ig X
  erw[_,(aj (bP (bJ 4 j0.nd (nk (aH (pv 0) rfl) (pv 2) fP ⟨2222⟩)))
   (aj (bP (bJ 5 j0.nd (nk (pv 4) (pv 3) fP ⟨2222⟩)))
   (av (sT G (pv 5) (pv 1) kA rfl))))]
  rwa[fS ?_];intro R Z;erw[λ b B=>∃d y,b=#v[↑x,.int (n:Int),.int (m:Int),.int s,↑d,none]/\j1 H O B y/\fI B c.aW W y m d,5]
  ·rwa[⟨12,x,_,c.dx,112,h.ins,aL T,T.jZ,lU^_,c.aW,2,h.wt.qv,12,λp a=>?_⟩];let⟨f,g,l,q,C⟩:=h.wt.room a (c:=(m:Int)) ∅;rwa[⟨f,Sum.inl (m:Int),g,2,l,λv j=>?_,λj=>?_⟩]
   ·let⟨d,rfl,w⟩:=q v j;rwa[d,O,2,h.mid.new a,w]
   ·let w:=C j;let N:O c.aW:=by let⟨D,E,_,z⟩:=h.wt;rwa[z.o _ (.inl rfl)]
    rwa[p,12,((h.mid.new a).put N g).Xt a ([ak (λz=>by rw[z]at a;let⟨o,e,_⟩:=h.th _ N;cbv)]▸ah) (by cbv) (by cbv) (by cbv) (by cbv),w]
  rintro b B ⟨d,y,rfl,t,I⟩;erw[λ b L=>∃e u,b=#v[↑x,.int (n:Int),.int (m:Int),.int s,↑d,↑e]/\j1 H O L u/\pU L c.aW W u m s e,5]
  ·rwa[⟨12,d,2,I.qv,12,λp a=>?_⟩];let⟨f,g,l,q,C⟩:=I.cell a V;rwa[⟨f,Sum.inl s,g,2,l,λv j=>?_,λj=>?_⟩]
   ·let⟨e,rfl,w⟩:=q v j;rwa[e,y,2,t.new a,w]
   ·let w:=C j;let J:=I.own;rwa[p,12,((t.new a).put J g).Xt (t.no a) ([ak (λz=>by rw[z]at a;let⟨o,e,_⟩:=t.th _ J;cbv)]▸ah) (by cbv) (by cbv) (by cbv) (by cbv),w]
  rintro b L ⟨e,u,rfl,U,M⟩;let⟨f,g,l,q⟩:=M.put (n:=(n:Int)) ∅;erw[1212,e,12,qY.k (k:=Sum.inl (n:Int)) g l];let i:=U.put (kv':=putK f (Sum.inl (n:Int)) (.bl true)) M.own g;rwa[k u _ i.bt i.f i.le i.nw (h.waits i.f i.le q i.th)]
inductive IU (CR CG CC:Zs) (vs:Zb) (H:Hp) (Q:VK) (E_:XK):Prop
 |mk (x r:Zs) (c:KA) (gs:Zf) (ag:Zh) (W:bI) (hd:Nat) (fp:List (Zg×Nat)) (O:Zs->Prop) (m:Nat) (s:Int):vs=[↑x,.int m,.int s]->cq CG CC H x r c gs ag W hd fp O->(∀ns:Zh,ns.Nodup->(∀n:Nat,n∈ns↔W m s n=true)->⇑ag+ ⇑ns<=1000000)->(∀ns H',Bt O H H'->ns.Nodup->(∀n:Nat,n∈ns↔W m s n=true)->cq CG CC H' x r c gs (ag++ns) (gx W m s) hd fp O->Q .non H')->IU CR CG CC vs H Q E_
def fM (T:Txt K mg A):T.fb.Ok mg P w base 1 (IU A.az A.aJ A.aF):=by
 rwa[T.fb.on wI (λcu AA G s H vs Q E hr h=>?_)]
 ·let⟨x,r,c,gs,X,W,hd,fp,O,m,s,rfl,h,hz,k⟩:=h;let I:=ig hr;erw[_,(av (aV (cO agY PySem.F.slot_list_extend PySem.F.type_list_extend yz (aH (pv 0) rfl) (ae (c9 (jU rfl) rfl T.fe ahB (ae (uC (my I (aH (pv 0) rfl) (pv 1) fP ⟨2222⟩) (pv 2) fP ⟨2222⟩) ai)) ai))))]
  let rest:∀{j:Hp} {M:bI} {l:Zs} {ns:Zh},cq A.aJ A.aF j x r c gs X M hd fp O->Bt O H j->j l=none->ns.Nodup->(∀n:Nat,n∈ns↔W m s n=true)->M=gx W m s->xD (V.ref c.aA) [V.ref l] (upd j l (.lst (ao (nI ns)))) (λ_ H'=>Q .non H'):=λ{j M l ns} p b2 g S U eW=>by
   subst eW;let D:=aq.upd (o:=.lst (ao (nI ns))) g;erw[c.aA,l,1122,D^p.hA,ah,5]
   ·rw[aM,aM,b6,b6];rwa[ag3 (hz ns S U) ⋯]
   ·rw[<-ints_app,<-i3];rwa[k ns _ (λb o n e=>[ak (λz=>n ([z]▸h.oA))]▸D^b2 b o n e) S U ((p.same D).agenda (X++ns))]
  rwa[⟨12,x,_,c.dx,112,h.ins,aL T,T.kZ,nV^_,.inl ⟨21,aD.of h.hA⟩,12,x,_,c.dx,112,h.ins,aL T,T.jZ,lU^_,c.aW,2,h.wt.qv,12,λB R=>?_⟩];let s1:=aq.upd (o:=.dK []) R;let N:upd H B (.dK []) B\(.dK []):=ah;generalize upd H B (.dK [])=y at s1 N ⊢;let J:=h.same s1;let⟨o,g1,g2⟩:=J.wt.get (c:=(m:Int));erw[o,g1];rcases g2 with ⟨rfl,no⟩|⟨d,rfl,w⟩
  ·rwa[⟨B,rfl,.inl ⟨_,.inl N⟩,_,rfl,λf i=>?_⟩];let a:=aq.upd (o:=.dK []) i;let t:upd y f (.dK []) f\(.dK []):=ah;generalize upd y f (.dK [])=j at a t ⊢;rwa[⟨[],Sum.inl s,a^N,2,(λv q=>by ext q),λ_=>⟨f,[],2,t,λl g=>?_⟩⟩];rwa[rest (ns:=[]) (J.same a) (.of (s1.trans a)) g aix (λn=>⟨(λz=>by ext z),λz=>by rw[no]at z;ext z⟩) (xQ (no s)).symm]
  ·rwa[⟨d,2,w.qv,12,λf i=>?_⟩];let a:=aq.upd (o:=.dK []) i;let t:upd y f (.dK []) f\(.dK []):=ah;generalize upd y f (.dK [])=j at a t ⊢;let p:=J.same a;let⟨u,Y,Z,e3⟩:=(w.same a).pop s;rwa[⟨u,Sum.inl s,Y,2,λv q=>?_,λq=>⟨f,[],2,t,λl g=>?_⟩⟩]
   ·let⟨e,F,ns,rfl,L,f1,f2,f3,f4,f5⟩:=e3 v q;rwa[⟨e,F,2,[ak L]▸f1,λl g=>?_⟩];let C:=(p.mid.put (kv':=fj u (Sum.inl s)) w.own Y);rw[f2];rwa[rest (p.waits C.f C.le f5 C.th) (Bt.trans (.of (s1.trans a)) C.bt λb z=>.inl z) g f3 f4 rfl]
   ·rwa[rest (ns:=[]) p (.of (s1.trans a)) g aix (λn=>⟨(λz=>by ext z),λz=>by rw[Z q]at z;ext z⟩) (xQ (Z q)).symm]
def _root_.Lake.L2.CI.Tw {bs:List (Nat×Zg×Nat)}{gs:Zf}{W:bI}{f:Nat->Int->Prop}{x:Zi}(h:CI S bs gs B W f x){m:Nat}{s:Int}{ns:Zh}(nd:ns.Nodup)(c:∀n:Nat,n∈ns↔W m s n=true):⇑ns+ vI S.made ⇑gs (gx W m s)<=vI S.made ⇑gs W:=by
 cases ns with
 |nil=>
  have:∀n,W m s n=false:=λn=>by
   cases q:W m s n with
   |false=>rfl
   |true=>
    let⟨_,b,_,e,_⟩:=h.en _ _ _ q
    cbv
  rw[xQ this,aio,akl];rwa[agQ _]
 |cons n r=>
  let⟨g,b,k,_,a,_,d,_⟩:=h.en _ _ _ ((c n).mp (ag2 ..));let a:m<S.made:=∅
  let j:=O8 (G:=⇑gs) (W:=W) a d
  let i:=HJ (P:=λn:Nat=>W m s n) (G:=⇑gs) nd λn a=>by
   let w:=(c n).mp a;let⟨_,b,_,e,_,l,_⟩:=h.en _ _ _ w;rwa[3,w]
  ext
def _root_.Lake.L2.CI.two {bs:List (Nat×Zg×Nat)}{gs:Zf}{W:bI}{a:Nat->Int->Prop}{x:Zi}(h:CI S bs gs B W a x):vI S.made ⇑gs W<=2* ⇑gs:=Pa λn=>by
 let⟨p,q,e,_⟩:=h.sl n;rwa[p,q,e]
def _root_.Lake.L2.fI.keys {k:Zs}{W:bI}{O:Zs->Prop}(h:fI H k W O z d):∃(a:List (Key×V)) (zs:Zg),H d\.dK a/\a.map (λb=>kV b.1)=ao zs/\⇑zs<=2001/\∀s n,W z s n=true->s∈zs:=by
 let⟨D,E,l,p,hd⟩:=h;let⟨a,o,j,g,c⟩:=l.Ku hd
 let q:⇑a<=2001:=vH (n:=2001) (lo:=-1000) j g c λi v m=>by
  cases e:E z i with
  |none=>rw[e]at m;ext m
  |some x=>have:=p.e z i x e;ext
 let ex:∃zs:Zg,a.map (·.1)=zs.map Sum.inl:=by
  clear o j c q
  induction a with
  |nil=>rwa[[],2]
  |cons b r t=>
   let⟨zs,e⟩:=t λx f=>g x (ahm _ f)
   let⟨i,u⟩:=g b (ag2 ..);rwa[i::zs,by cbv]
 let⟨zs,e⟩:=ex;rwa[⟨a,zs,o,55,λs n w=>?_⟩]
 ·rw[show (λb:Key×V=>kV b.1)=kV ∘ (·.1) from rfl,<-ahE,e,ahE];rfl
 ·have:=ahZ List.length e;rw[agO,agO]at this;ext
 ·let⟨x,f⟩:=l.se _ _ _ w;have:Sum.inl s∈a.map (·.1):=Ec (v:=↑x) (by rw[c,f];rfl)
  cbv
structure lg (CG CC:Zs) (S:RS) (bs:List (Nat×Zg×Nat)) (gs:Zf) (W0:bI) (Ex:Nat->Int->Prop) (B:Nat) (x r:Zs) (c:KA) (hd:Nat) (fp:List (Zg×Nat)) (O:Zs->Prop) (H:Hp) (ag:Zh) (W:bI):Prop where
 c:cq CG CC H x r c gs ag W hd fp O
 i:CI S bs gs ag W Ex none
 s:∀r s n,W r s n=true->W0 r s n=true
 b:⇑ag+ vI S.made ⇑gs W<=B
def lg.wake {bs:List (Nat×Zg×Nat)}{gs:Zf}{f:bI}{i:Nat->Int->Prop}{x r:Zs}{c:KA}{hd:Nat}{e:List (Zg×Nat)}{O:Zs->Prop}{W:bI}(h:lg a b S bs gs f i n x r c hd e O H B W){m:Nat}{s:Int}{ns:Zh}(nd:ns.Nodup)(g:∀d:Nat,d∈ns↔W m s d=true)(q:cq a b I x r c gs (B++ns) (gx W m s) hd e O):lg a b S bs gs f i n x r c hd e O I (B++ns) (gx W m s):=
 ⟨q,h.i.wake g,λr s d w=>h.s _ _ _ (dk.mp w).1,by have:=h.i.Tw nd g;have:=h.b;rw[agN];ext⟩
def lg.fits {bs:List (Nat×Zg×Nat)}{gs:Zf}{e:bI}{i:Nat->Int->Prop}{x r:Zs}{c:KA}{hd:Nat}{f:List (Zg×Nat)}{O:Zs->Prop}{W:bI}(h:lg a b S bs gs e i n x r c hd f O H B W)(j:n<=1000000){m:Nat}{s:Int}:∀ns:Zh,ns.Nodup->(∀d:Nat,d∈ns↔W m s d=true)->⇑B+ ⇑ns<=1000000:=λns nd g=>by have:=h.i.Tw nd g;have:=h.b;ext
inductive EC (CR CG CC:Zs) (vs:Zb) (H:Hp) (Q:VK) (E_:XK):Prop
 |mk (x r:Zs) (c:KA) (S:RS) (a:RA) (bs:List (Nat×Zg×Nat)) (gs:Zf) (ag:Zh) (W:bI) (Ex:Nat->Int->Prop) (B hd:Nat) (fp:List (Zg×Nat)) (O:Zs->Prop) (m:Nat):vs=[↑x,.int m]->lg CG CC S bs gs W Ex B x r c hd fp O H ag W->B<=1000000->ay CR H r S a->S.Wf->(∀b,a.own r b->¬O b)->m<S.made->S.aw m<S.made->(∀iV W' H',Bt O H H'->lg CG CC S bs gs W Ex B x r c hd fp O H' iV W'->(∀s n,W' m s n=false)->(∀s n,W' (S.aw m) s n=true->S.by (S.aw m) s=none)->Q .non H')->EC CR CG CC vs H Q E_
def qP (T:Txt K mg A):T.jm.Ok mg P w base 2 (EC A.az A.aJ A.aF):=by
 rwa[T.jm.on fq (λcu AA outer s H vs Q E hr h=>?_)]
 ·let⟨x,r,c,S,a,bs,gs,ag,W,Ex,B,hd,X,O,m,rfl,h,hB,hR,wf,dj,hm,he,k⟩:=h;let m2:=ig hr
  erw[_,(aj (ck ahe rfl (cP (c9 (jU rfl) rfl T.fe ahB (ae (my m2 (aH (pv 0) rfl) (pv 1) fP ⟨2222⟩) ai))) (di 2 fq.nd)
   (av (aV (pm (pv 0) (aL T) T.fb (fM T) hr (ae (pv 1) (ae (pv 2) ai))))))
   (aj (bJ 3 fq.nd (pm (aH (pv 0) rfl) (aI T) T.ia (iQ T) hr (ae (pv 1) ai)))
   (av (ck ahe rfl (cP (c9 (jU rfl) rfl T.fe ahB (ae (my m2 (aH (pv 0) rfl) (pv 3) fP ⟨2222⟩) ai))) (di 2 fq.nd)
    (av (bP (bH (aX lY (pm (aH (pv 0) rfl) (aI T) T.iE (ic T) hr (ae (pv 3) (ae (pv 2) ai))) dm (aY _))
     (av (aV (pm (pv 0) (aL T) T.fb (fM T) hr (ae (pv 3) (ae (pv 2) ai)))))
     bp)))))))]
  rwa[fS ?_];intro hM fx;let rk:∀{D:Hp},Bt O H D->ay A.az D r S a:=λ{D} b=>hR.keep (λb' o hb e=>b b' o (dj b' hb) e) (λb' xs e=>b b' _ (h.c.jg e) e)
  let get:∀{R:Hp} {Xu:Zh} {W1:bI} (m1:Nat),lg A.aJ A.aF S bs gs W Ex B x r c hd X O R Xu W1->∀L,R L=none->∃(o:Zc) (d:Zs) (t:List (Key×V)) (G:Zg),gq (upd R L (.dK [])) c.aW (.int (m1:Int)) o/\o.getD ↑L=↑d/\upd R L (.dK []) d\.dK t/\t.map (λkv=>kV kv.1)=ao G/\∀s n,W1 m1 s n=true->s∈G:=λ{R Xu W1} m1 h1 L I=>by
   let s1:=aq.upd (o:=.dK []) I;let⟨o,N,g2⟩:=(h1.c.same s1).wt.get (c:=(m1:Int));rcases g2 with ⟨rfl,no⟩|⟨d,rfl,w⟩
   ·rwa[⟨none,L,[],[],N,rfl,ah,rfl,λs n z=>by cbv⟩]
   ·let⟨t,G,e1,e2,_,e4⟩:=w.keys;rwa[_,d,t,G,N,2,e1,e2,e4]
  rwa[⟨12,x,_,c.dx,112,h.c.ins,aL T,T.jZ,lU^_,c.aW,2,h.c.wt.qv,12,λL I=>?_⟩];let⟨o,d,t,G,N,g2,g3,g4,Xv⟩:=get m h L I;rwa[⟨o,N,d,t,(by rw[g2]),g3,λl nl=>?_⟩];rw[g4];let s1:=(aq.upd (o:=.dK []) I).trans (aq.upd (o:=.lst (ao G)) nl);let hl:upd (upd H L (.dK [])) l (.lst (ao G)) l\(.lst (ao G)):=ah;replace nl:=same_none (aq.upd (o:=.dK []) I) nl;generalize upd (upd H L (.dK [])) l (.lst (ao G))=R at s1 hl ⊢;clear N g2 g3 g4;let Xw:¬O l:=λz=>by let⟨o,e,_⟩:=h.c.th l z;cbv
  let h1:lg A.aJ A.aF S bs gs W Ex B x r c hd X O R ag W:=⟨h.c.same s1,h.i,h.s,h.b⟩;erw[l,2,⟨_,aD.of hl⟩]
  refine eX (K:=K) (a:=l) (xs:=ao G) (λi M D=>∃y F v2,M=#v[↑x,.int (m:Int),v2,none]/\Bt O R D/\lg A.aJ A.aF S bs gs W Ex B x r c hd X O D y F/\∀(j:Nat) (s:Int),j<i->G[j]?\s->∀n,F m s n=false)
   ⟨ag,W,none,2,λ_ _ _ e=>e,h1,λj s C=>absurd C ∅⟩ (λi M D _ q0=>by let⟨_,_,_,_,b2,_⟩:=q0;rwa[aD.of (b2 _ _ Xw hl)]) ?_ ?_
  ·rintro i v M D hi ⟨y,F,v2,rfl,b2,g,C⟩;let⟨s,rfl,hs⟩:=cw hi;rwa[⟨12,x,c.dx,12,g.c.ins,fu ⋯,1212,x,r,c,gs,y,F,hd,X,O,m,s,2,g.c,g.fits hB,λns H3 b3 nd hn h3=>?_⟩];rwa[⟨1112,b2.trans b3 λb z=>.inl z,g.wake nd hn h3,λj s' f e n=>?_⟩]
   cases q:gx F m s m s' n with
   |false=>rfl
   |true=>
    let⟨q1,q2⟩:=dk.mp q
    cbv
  rintro M D ⟨y,F,v2,rfl,b2,g,C⟩;rw[aM]at C;let Y:Bt O H D:=Bt.trans (.of s1) b2 λb z=>.inl z
  let off:∀s n,F m s n=false:=λs n=>by
   cases q:F m s n with
   |false=>rfl
   |true=>
    let⟨j,f,e⟩:=aiG.mp (Xv s n (g.s _ _ _ q));rw[C j s f (by rw[agJ f,e]) n]at q;ext q
  clear C Xv hl Xw h1;let R2:=rk Y;erw[12,x,_,c.dx,112,g.c.ins,aL T,T.fi,fX^_,r,a.dx,12,R2.ins,cK _ _ _ ⋯,12,r,S,a,m,S.aw m,2,R2,m3 ([wf.e]▸hm)];generalize S.aw m=e at he k ⊢;rwa[⟨12,x,_,c.dx,112,g.c.ins,aL T,T.jZ,lU^_,c.aW,2,g.c.wt.qv,12,λp2 wR=>?_⟩];let⟨o2,d2,aal,u,N,g2,g3,g4,aam⟩:=get e g p2 wR;rwa[⟨o2,N,d2,aal,(by rw[g2]),g3,λl2 Ey=>?_⟩];rw[g4];let s3:=(aq.upd (o:=.dK []) wR).trans (aq.upd (o:=.lst (ao u)) Ey);let Z:upd (upd D p2 (.dK [])) l2 (.lst (ao u)) l2\(.lst (ao u)):=ah;replace Ey:=same_none (aq.upd (o:=.dK []) wR) Ey;generalize upd (upd D p2 (.dK [])) l2 (.lst (ao u))=H3 at s3 Z ⊢;clear N g2 g3 g4;let aan:¬O l2:=λz=>by let⟨o,e,_⟩:=g.c.th l2 z;cbv
  let h3:lg A.aJ A.aF S bs gs W Ex B x r c hd X O H3 y F:=⟨g.c.same s3,g.i,g.s,g.b⟩;erw[l2,2,⟨_,aD.of Z⟩]
  refine eX (K:=K) (a:=l2) (xs:=ao u) (λi M H4=>∃J W4 v2,M=#v[↑x,.int (m:Int),v2,.int (e:Int)]/\Bt O H3 H4/\lg A.aJ A.aF S bs gs W Ex B x r c hd X O H4 J W4/\(∀r s n,W4 r s n=true->F r s n=true)/\∀(j:Nat) (s:Int),j<i->u[j]?\s->∀n,W4 e s n=true->S.by e s=none)
   ⟨y,F,12,λ_ _ _ q=>q,h3,λ_ _ _ q=>q,λj s C=>absurd C ∅⟩ (λi M H4 _ q0=>by let⟨_,_,_,_,b4,_⟩:=q0;rwa[aD.of (b4 _ _ aan Z)]) ?_ ?_
  ·rintro i v M H4 hi ⟨J,W4,v4,rfl,b4,U,p,C⟩;let⟨s,rfl,hs⟩:=cw hi;let b04:Bt O H H4:=Y.trans (Bt.trans (.of s3) b4 λb z=>.inl z) λb z=>.inl z
   let R4:=rk b04;rwa[⟨15,λ_ _ z=>z⟩];erw[12,x,_,c.dx,112,U.c.ins,aL T,T.fi,fX^_,r,a.dx,12,R4.ins,cK _ _ _ ⋯,1212,r,S,a,e,s,2,R4,[wf.w]▸he]
   cases eb:S.by e s with
   |none=>
    erw[212];rwa[bU (λz=>absurd z ⋯) (λ_=>?_)];rwa[⟨1112,b4,U,p,λj s' f q n w=>?_⟩]
    cbv
   |some d=>
    rw[show (Option.map (λn:Nat=>V.int (n:Int)) (some d)).getD V.non=V.int (d:Int) from rfl];erw[212];rwa[bU (λ_=>?_) (λz=>absurd rfl z)];rwa[⟨12,x,c.dx,12,U.c.ins,fu ⋯,1212,x,r,c,gs,J,W4,hd,X,O,e,s,2,U.c,U.fits hB,λns H5 b5 nd hn h5=>?_⟩];rwa[⟨1112,b4.trans b5 λb z=>.inl z,U.wake nd hn h5,λr s n w=>p _ _ _ (dk.mp w).1,λj s' f q n w=>?_⟩];let⟨w1,w2⟩:=dk.mp w
    cbv
  rintro M H4 ⟨J,W4,v4,rfl,b4,U,p,C⟩;rw[aM]at C;rwa[k J W4 H4 (Y.trans (Bt.trans (.of s3) b4 λb z=>.inl z) λb z=>.inl z) U (λs n=>?_) λs n w=>?_]
  ·cbv
  ·let⟨j,f,q⟩:=aiG.mp (aam s n (p _ _ _ w));rwa[C j s f (by rw[agJ f,q]) n w]
def cq.V5 {x r:Zs}{c:KA}{gs:Zf}{W:bI}{hd:Nat}{l:List (Zg×Nat)}{O:Zs->Prop}(h:cq a b H x r c gs B W hd l O)(y:∀(n:Nat) (g:Gg) (p dx j:Zs),gs[n]?\some g->dY a H p dx j g->p≠x)(n:Nat):cq a b (upd H x (.ins b c.dx (pk r c n))) x r c gs B W n l O:=by
 let kn:∀f o,(∀C d fs,o≠.ins C d fs)->H f\o->upd H x (.ins b c.dx (pk r c n)) f\o:=λf o q e=>by rw[ak (λz=>by rw[z,h.ins]at e;cbv)];rwa[e]
 let⟨t,u,g2⟩:=h.hG;rwa[⟨ah,⟨t,kn _ _ (by cbv) u,g2.l,g2.n,λi v g F s=>?_,g2.i⟩,kn _ _ (by cbv) h.hA,5,h.ne,h.ox,h.oG,h.oA,λf k=>?_⟩]
 ·let⟨p,dx,j,e,q,o⟩:=g2.s i v g F s;rwa[p,dx,j,e,⟨[ak (y i g p dx j s q)]▸q.ins,kn _ _ (by cbv) q.wo⟩,o]
 ·let⟨D,E,k1,k2⟩:=h.wt;rwa[D,E,k1.keep λf o k e=>by let⟨G,q⟩:=k1.there k;rw[q]at e;ext e;rwa[kn _ _ (by cbv) q],k2]
 ·by_cases e:f=x
  ·rwa[_,[e]▸ah,(by cbv),(by cbv),(by cbv),by cbv]
  ·let⟨o,q,m⟩:=h.th f k;rwa[o,[ak e]▸q,m]
def Ci {x r:Zs}{c:KA}{i:Zf}{W:bI}{f:List (Zg×Nat)}{O:Zs->Prop}(h:cq a b H x r c i B W n f O){p d j:Zs}{g:Gg}(q:dY a H p d j g):p≠x:=λz=>by
 have:=q.ins;rw[z,h.ins]at this;let e:=ahZ (λo:Option HO=>match o with|some (.ins _ _ fs)=>⇑fs|_=>0) this;rwa[absurd (show 6=7 from e) ⋯]
def Nt (S:RS)(a:Nat):Nat->Int->Prop:=λr _=>∃m∈S.aZ.drop a,r=m\/r=S.aw m
inductive IV (CR CG CC:Zs) (vs:Zb) (H:Hp) (Q:VK) (E_:XK):Prop
 |mk (x r:Zs) (c:KA) (S:RS) (a:RA) (R:Za2) (bs:List (Nat×Zg×Nat)) (gs:Zf) (ag:Zh) (W:bI) (B hd:Nat) (fp:List (Zg×Nat)) (O:Zs->Prop):vs=[↑x]->lg CG CC S bs gs W (Nt S hd) B x r c hd fp O H ag W->B<=1000000->hd<=⇑S.aZ->ay CR H r S a->Good S [] R->(∀m∈S.aZ,m<S.made)->(∀b,a.own r b->¬O b)->(∀iV W' H',Bt O H H'->lg CG CC S bs gs W fT B x r c ⇑S.aZ fp O H' iV W'->Q .non H')->IV CR CG CC vs H Q E_
def wW (T:Txt K mg A):T.mU.Ok mg P w base 3 (IV A.az A.aJ A.aF):=by
 rwa[T.mU.on wJ (λcu AA N s H vs Q E U h=>?_)]
 ·let⟨x,r,c,S,a,R,bs,gs,ag,W,B,hd,fp,O,rfl,h,hB,M,hR,L,X,Z,k⟩:=h
  refine⟨_,(av (bP (gP ahe (aX pG (aH (pv 0) rfl) (bq bz rfl T.dB ahu (ae (aH (aH (pv 0) rfl) rfl) ai)) (aY _))
   (aj (aV (pm (pv 0) (aL T) T.jm (qP T) U (ae (bC bF (aH (aH (pv 0) rfl) rfl) (aH (pv 0) rfl) (λ_ _=>rfl)) ai)))
   (av (bY (pv 0) (aK cI (aH (pv 0) rfl) au) rfl)))))),?_⟩
  let rk:∀{v:Hp},Bt O H v->ay A.az v r S a:=λ{v} b=>hR.keep (λG o hb e=>b G o (Z G hb) e) (λG xs e=>b G _ (h.c.jg e) e)
  rwa[⟨λ gI H'=>Q .non H',5,λ_ _ q=>q⟩];erw[λm σ v=>∃d l F,m=⇑S.aZ - d/\σ=#v[↑x]/\d<=⇑S.aZ/\Bt O H v/\lg A.aJ A.aF S bs gs W (Nt S d) B x r c d fp O v l F,⟨_,hd,ag,W,22,M,λ_ _ _ e=>e,h⟩];rintro m σ v ⟨d,l,F,rfl,rfl,Mz,I,i⟩;let R2:=rk I;let u:=R2.ins;erw[12,x,_,c.dx,112,i.c.ins,aL T,T.mW,vh^_,12,x,_,c.dx,112,i.c.ins,aL T,T.fi,fX^_,r,_,a.dx,112,u,aI T,T.sx,sZ^_,a.aN,12,.inl (aD.of R2.hN),112212];rwa[bU (λq=>?_) (λq=>?_)]
  ·let q:(d:Int)<(⇑(ao (nI S.aZ)):Int):=ahq q;rw[aM,b6]at q;let f:d<⇑S.aZ:=∅
   let D:S.aZ[d]?\(S.aZ[d]'f):=agJ f
   generalize S.aZ[d]'f=m at D;let y:=X m (agK D);erw[_,λ_ _ z=>z];erw[12,x,c.dx,12,i.c.ins,fu ⋯,12,x,_,c.dx,112,i.c.ins,aL T,T.fi,fX^_,r,_,a.dx,112,u,aI T,T.sx,sZ^_,12,x,_,c.dx,112,i.c.ins,aL T,T.mW,vh^_,a.aN,11,.int (m:Int),22,aD.of R2.hN,da (cC (jT D))];rwa[⟨x,r,c,S,a,bs,gs,l,F,Nt S d,B,d,fp,O,m,2,⟨i.c,i.i,λ_ _ _ z=>z,i.b⟩,hB,R2,L.wf,Z,y,L.lt y,λY W3 H3 b3 t w1 w2=>?_⟩];erw[12,x,_,c.dx,112,t.c.ins,aL T,T.mW,vh^_,112212,x,_,c.dx,12,t.c.ins,aL T,T.mW,(by show 6<1000;decide)];rw[show V.int ((d:Int)+ 1)=V.int ((d+ 1:Nat):Int) from rfl,LW];let c4:=t.c.V5 (λn g p dx wa _ z=>Ci t.c z) (d+ 1);rwa[⟨⇑S.aZ - (d+ 1),3,d+ 1,Y,W3,22,f,5,c4,t.i.ex λr' s n w U ex=>?_,λr s n w=>i.s _ _ _ (t.s _ _ _ w),t.b⟩]
   ·rwa[(I.trans b3 λb z=>.inl z).trans (λb o n e=>by rw[ak (λz=>n ([z]▸t.c.ox))];rwa[e]:Bt O H3 _) λb z=>.inl z]
   ·let⟨J,j,C⟩:=ex;rw[ajL f]at j;rcases ag4.mp j with z|z
    ·let em:J=m:=by rw[z];rw[agJ f]at D;rwa[Za0 D]
     subst em;rcases C with C|C
     ·rw[C,w1]at w;ext w
     ·subst C;rwa[.inl ⟨(L.el _ y).2,w2 s n w⟩]
    ·rwa[.inr ⟨J,z,C⟩]
  ·let q:¬(d:Int)<(⇑(ao (nI S.aZ)):Int):=λz=>q (ahp z)
   rw[aM,b6]at q;let e:d=⇑S.aZ:=∅
   subst e;rwa[k l F v I ⟨i.c,i.i.ex λr' s n w U ex=>?_,i.s,i.b⟩];let⟨J,j,_⟩:=ex;rw[List.drop_length]at j;ext j
def zb {h:Ze}(g:Good S h R)(r:∀a z b,R a z b->z∈l)(s:S.made<=100000)(p:⇑l<=100000)(t:⇑S.rows<=1000000)(m:⇑S.aZ<=1000000):wQ S:=by
 rwa[⟨g.wf,λc i=>g.lt i,λc z d e=>(g.st c z d e).2.1,λc n o=>g.cb c n o,λc _=>⟨g.kn c,λq j=>(g.st c q.1 q.2 (jy (g.kn c) j)).2.1,λq j _=>?_⟩,⟨s,λf k=>?_,t,m,λf k=>?_⟩⟩]
 ·rw[g.sy c q.1 q.2 (jy (g.kn c) j)];rfl
 ·let⟨c,i⟩:=ahF k;have:S.way c=f:=by unfold RS.way;rw[agT,i];rfl
  rw[<-this];rwa[ag3 (g.Hu r c) p]
 ·let⟨c,i⟩:=ahF k;have:S.b9 c=f:=by unfold RS.b9;rw[agT,i];rfl
  rw[<-this];rwa[ag3 (g.RC c) ∅]
def Cj (S:RS):S.stand<=S.made:=by
 unfold RS.stand;rwa[ag3 List.countP_le_length (by cbv)]
def Tx (R:Za2)(m L B d M:Nat)(e:Zg)(c:RS)(f:Ze)(S:RS)(a:Ze):Prop:=Good S a R/\S.made=m/\S.L=L/\⇑S.rows+ S.stand<=B/\⇑S.aZ+ S.stand<=d/\mu ⇑e S a<=M/\∀b,kh S a b->kh c f b
theorem LX {M:Nat}{r:Ze}(q:∀a z b,R a z b->z∈l)(L:m<=100000)(C:⇑l<=100000)(N:i<=1000000)(I:j<=1000000)(J:M<=1000000)(S:RS)(pend:Ze)(w:Way)(h:Tx R m n i j M l T r S (pend++[w])):
 wQ S/\w.1<S.made/\w.2.2<S.made/\⇑pend<=1000000/\Tx R m n i j M l T r (S.takeIn pend w).1 (S.takeIn pend w).2/\mu ⇑l (S.takeIn pend w).1 (S.takeIn pend w).2<mu ⇑l S (pend++[w]):=by
 let⟨g,G,H,t,B,p,s⟩:=h;let⟨D,F,u,v,o⟩:=g.take q;let hw:=g.pl w (agS _ ag2);rwa[⟨zb g q ∅ C ∅ ∅,hw.1,hw.2,5,⟨D,by rw[u,G],by rw[v,H],553,λE d=>s E (.take d)⟩,F⟩]
 ·unfold mu at p;rw[agN]at p;ext
 ·rcases o with ⟨k,e,f⟩|⟨k,c,z,x,y,_,_,_,_,_,e,f,_⟩
  ·rw[k,e];rwa[t]
  ·rw[e,agN];have:⇑([hX c z (min x y) (max x y)]:List Dt)=1:=rfl;ext
 ·rcases o with ⟨k,e,f⟩|⟨k,c,z,x,y,_,_,_,_,_,e,f,_⟩
  ·rw[k,f];rwa[B]
  ·rw[f,agN];have:⇑([max x y]:Zh)=1:=rfl;ext
def iR:z∈bA (2* n)↔z≠0/\z.natAbs<=n:=by
 unfold bA;rw[ahO];constructor
 ·rintro ⟨i,a,rfl⟩;rwa[M12.VX (ahG.mp a)]
 ·rintro ⟨c,b⟩;by_cases d:0<z
  ·erw[2* (z.toNat - 1),ahG.mpr ∅];unfold M12.st;rw[ahf ∅];ext
  ·erw[2* (z.natAbs - 1)+ 1,ahG.mpr ∅];unfold M12.st;rw[ahc ∅];ext
structure iW (CR:Zs) (H:Hp) (r:Zs) (S:RS) (a:RA) (R:Za2) (ks:Zg) (B:Nat):Prop where
 at_:ay CR H r S a
 g:Good S [] R
 w:fH S
 k:∀a z b,R a z b->z∈ks
 m:S.made<=2000
 l:⇑ks<=400
 rb:⇑S.rows+ S.stand<=B
 wb:⇑S.aZ+ S.stand<=900000
def iW.keep {CR:Zs}{r:Zs}(h:iW CR H r S O R l n)(k:∀b o,O.own r b->H b\o->I b\o)(c:∀b a,H b\.tup a->I b\.tup a):iW CR I r S O R l n:=⟨h.at_.keep k c,h.g,h.w,h.k,h.m,h.l,h.rb,h.wb⟩
def iW.same {CR:Zs}{r:Zs}(h:iW CR H r S O R l n)(s:aq H I):iW CR I r S O R l n:=h.keep (λb o _ e=>s^e) (λb o e=>s^e)
def yh {r:Zs}(h:ay a H r S O){b:Zs}{d:List (Zd×V)}(e:H b\.dT d):¬O.own r b:=λz=>by
 rcases z with z|z|z
 ·rw[z,h.ins]at e;ext e
 ·let⟨c,q⟩:=h.MB z;cbv
 ·let⟨c,q⟩:=h.qv z;cbv
def LY (w:Nat)(p:Zh)(k:Nat)(h:⇑p<=100000):mB (lZ w p k):=by
 rwa[.t (by show 4<=100000;decide) λd a=>?_]
 simp only[ag4,ahy,aiY]at a;rcases a with rfl|rfl|rfl|rfl
 ·rwa[.s]
 ·rwa[.i]
 ·rwa[.t (by rw[agO];rwa[h]) λd a=>?_]
  let⟨c,_,rfl⟩:=ahO.mp a;rwa[.i]
 ·rwa[.i]
inductive IW (CR CG CC:Zs) (vs:Zb) (H:Hp) (Q:VK) (E_:XK):Prop
 |mk (x r p dx wa:Zs) (c:KA) (S:RS) (a:RA) (R:Za2) (ks:Zg) (B:Nat) (ws:Za3) (nr:Nat) (bs:List (Nat×Zg×Nat)) (gs:Zf) (ag:Zh) (W:bI) (fp:List (Zg×Nat)) (O:Zs->Prop) (n:Nat) (g:Gg):vs=[↑x,↑p]->cq CG CC H x r c gs ag W ⇑S.aZ fp O->iW CR H r S a R ks B->B<900000->(∀b,a.own r b->¬O b)->CI S bs gs ag W fT (some n)->gs[n]?\none->bs[n]?\(g.which,g.word,g.start)->dY CG H p dx wa g->¬O p->¬a.own r p->GI S g->g.first=g.last->S.aw g.start=g.start->S.aw g.front=g.front->S.aw g.bu=g.bu->ws[g.which]?\g.word->(g.which<nr\/g.start=0)->(∀z∈g.word,z∈ks/\-z∈ks)->⇑g.word<=1000->⇑ag+ 2* ⇑gs<=1000000->(∀S' a' R' iV W' H',(∀b o,¬O b->¬a.own r b->H b\o->H' b\o)->cq CG CC H' x r c gs iV W' ⇑S'.aZ fp O->iW CR H' r S' a' R' ks (B+ 1)->(∀b,a'.own r b->a.own r b\/H b=none)->CI S' bs gs iV W' fT none->⇑iV<=⇑ag+ 2* ⇑gs->(∀a z b,R a z b->R' a z b)->S'.made=S.made->S'.L=S.L->Tr ws nr S S'->Q .non H')->IW CR CG CC vs H Q E_
def yi (T:Txt K mg A):T.nZ.Ok mg P w base 6 (IW A.az A.aJ A.aF):=by
 rwa[T.nZ.on o8 (λcu AA outer s H vs Q E U h=>?_)]
 ·let⟨x,r,p,v,wa,c,S,a,R,Z,B,ws,nr,bs,J,X,W,fp,O,n,g,rfl,hc,f,hB,dj,ci,Xx,IX,j,npO,npo,i,F,es,ef,er,Nu,hnr,hks,EA,L,k⟩:=h
  refine⟨_,(aj (bJ 2 o8.nd (bC dJ (aH (pv 1) rfl) (aH (pv 1) rfl) (λ_ _=>rfl)))
   (aj (bH (aX eh (pm (aH (pv 0) rfl) (aI T) T.iE (ic T) U (ae (aH (pv 1) rfl) (ae (pv 2) ai))) (aH (pv 1) rfl) (aY _))
    (av xo)
    bp)
   (aj (aV (pm (aH (pv 0) rfl) (aI T) T.sk (B9 T) U (ae (aH (pv 1) rfl) (ae (pv 2) (ae (aH (pv 1) rfl) (ae (pm (pv 1) (aT T) T.sj (Ce T) U (ae (aH (pv 0) rfl) ai)) ai))))))
   (aj (aV (pm (pv 0) (aL T) T.fb (fM T) U (ae (aH (pv 1) rfl) (ae (pv 2) ai))))
   (aj (aV (pm (pv 0) (aL T) T.fb (fM T) U (ae (aH (pv 1) rfl) (ae (fY eJ (pv 2)) ai))))
   (av (aV (vQ (pv 0) (aL T) T.mU (wW T) U)))))))),?_⟩
  rwa[mD ?_];intro nU lJ jG hM fx;let hz:=Gg.qy (g:=g) ([F]▸i.ll);let qy:j4 (ao g.word) (g.first:Int)\(.int g.z1):=da (cC hz);let gd:=f.g;erw[12,p,_,v,112,j.ins,aT T,T.jE,kr _ _,12,p,_,v,112,j.ins,aT T,T.fh,gX _ _,wa,11,.int g.z1,22,bG.of j.wo,qy];erw[12,x,_,c.dx,112,hc.ins,aL T,T.fi,fX^_,r,a.dx,12,f.at_.ins,cK _ _ _ ⋯,12,p,_,v,112,j.ins,aT T,T.gU,ku _ _,12,r,S,a,g.front,g.z1,2,f.at_,[gd.wf.w]▸i.f,12,p,_,v,112,j.ins,aT T,T.ib,kx _ _]
  let fin:S.by g.front g.z1=some g.bu->Q .non H:=λt=>by
   rwa[k S a R X W H (λ_ _ _ _ e=>e) hc ⟨f.at_,f.g,f.w,f.k,f.m,f.l,by have:=f.rb;ext,f.wb⟩ (λb z=>.inl z) (ci.done Xx λb eb=>?_) ∅ (λ_ _ _ z=>z) rfl rfl (.refl S)];rw[IX]at eb;obtain rfl:=Za0 eb;rwa[.inr (i.whole F es ef er t)]
  by_cases t:S.by g.front g.z1=some g.bu
  ·rw[t];erw[212];rwa[bU (λ_=>fin t) (λz=>absurd (ahp rfl) z)]
  let N:JN (((S.by g.front g.z1).map λn:Nat=>V.int (n:Int)).getD .non) (.int (g.bu:Int))=true/\decide ((((S.by g.front g.z1).map λn:Nat=>V.int (n:Int)).getD .non)=V.int (g.bu:Int))=false:=by
   cases q:S.by g.front g.z1 with
   |none=>rwa[2,ahA f!""]
   |some d=>rwa[2,ahA (λz=>t (by rw[q];have:=V.int.inj z;congr 1;omega))]
  erw[N.1,12];rw[N.2];rwa[dv ?_];clear fin N;rwa[⟨12,x,_,c.dx,112,hc.ins,aL T,T.fi,fX^_,r,a.dx,12,f.at_.ins,cK _ _ _ ⋯,12,p,_,v,112,j.ins,aT T,T.gU,ku _ _,1212,p,_,v,112,j.ins,aT T,T.ib,kx _ _,12,p,v,12,j.ins,Ni ⋯,12,x,_,c.dx,112,hc.ins,aL T,T.fi,fX^_,p,v,wa,r,g,S,a,R,2,j,f.at_,gd,i.s,i.r,i.ll,EA,λq H1 s1 dt=>?_⟩];let lx:=pj (by_:=S.by) (ws:=g.word.take g.first) (r:=g.start);let ly:=pj (by_:=S.by) (ws:=g.word.drop (g.last+ 1)) (r:=g.bu);rw[ahr]at lx;rw[ahP]at ly;let f1:=i.wf;let f2:=i.wr;rw[es,ef]at f1;rw[es,er,<-F]at f2;rw[<-F]at dt ly;let ra:AZ ws nr S g.which g.word g.start g.first g.front g.bu g.z1:=⟨Nu,hnr,⟨i.s,es⟩,hz,f1,f2,⟨i.f,ef⟩,⟨i.r,er⟩,t⟩
  let D:∀a y b,fQ R g.front g.z1 g.bu a y b->y∈Z:=by
   have:=hks g.z1 (agK hz);rintro a y b (z|⟨_,e,_⟩|⟨_,e,_⟩)
   ·rwa[f.k _ _ _ z]
   ·rw[e];rwa[this.1]
   ·rw[e];rwa[this.2]
  let stl:=Cj S
  let Nh:mu ⇑Z (pT S g.which g.word g.start g.first g.bu) [(g.front,g.z1,g.bu)]<=1000000:=by
   unfold mu;let h1:(pT S g.which g.word g.start g.first g.bu).stand=S.stand:=rfl;have:S.stand* (⇑Z+ 1)<=2000* 401:=ajN (by have:=f.m;omega) (by have:=f.l;omega);rw[h1];show S.stand* (⇑Z+ 1)+ 1<=_;ext
  let gl:=gd.lay g.z1 i.f i.r (pT S g.which g.word g.start g.first g.bu).rows;rwa[⟨r,q,S,a,g.front,g.bu,g.z1,_,Tx (fQ R g.front g.z1 g.bu) S.made S.L (B+ 1) 900000 1000000 Z (pT S g.which g.word g.start g.first g.bu) [(g.front,g.z1,g.bu)],mu ⇑Z,2,f.at_.same s1,by have:=f.rb;ext,dt,LY _ _ _ (by rw[agN,ahi,ahi];omega),⟨gl,225,f.wb,Nh,λ_ z=>z⟩,LX D (by have:=f.m;omega) (by have:=f.l;omega) ∅ ⋯ ⋯,λu a' H2 b2 h2 i2 o2=>?_⟩]
  ·show ⇑(S.rows++[_])+ S.stand<=_;rw[agN];have:=f.rb;show _+ 1+ _<=_;ext
  let⟨g2,em,eL,rb2,wb2,_,re⟩:=i2;let lay:=re u (.nil u);let⟨_,w2,_,_,l,el⟩:=lay.all gl D (⟨f.w.a,f.w.b,f.w.c⟩:fH (pT S g.which g.word g.start g.first g.bu));let el:u.aZ=S.aZ++l:=el;let C:∀b o,¬a.own r b->H b\o->H2 b\o:=λb o nb e=>b2 b o nb (s1^e)
  let Xy:∀b,a'.own r b->a.own r b\/H b=none:=λb z=>(o2 b z).imp id (same_none s1)
  let I:∀b,a'.own r b->¬O b:=λb z y=>by
   rcases Xy b z with q|q
   ·rwa[dj b q y]
   ·let⟨o,e,_⟩:=hc.th b y;cbv
  let c2:cq A.aJ A.aF H2 x r c J X W ⇑S.aZ fp O:=hc.keep (λb o t e=>C b o (λz=>dj b z t) e) (λb xs e=>C b _ (f.at_.tf e) e);let p2:dY A.aJ H2 p v wa g:=⟨C _ _ npo j.ins,C _ _ (f.at_.tf j.wo) j.wo⟩;let lt:=Later.of gd g2 iB (ajT em.symm)
  let Ck:=ci.lay Xx gd g2 em f.w w2 el i.f ef i.r er λb eb=>by
   rw[IX]at eb;obtain rfl:=Za0 eb;show u.aw g.start≠g.start\/wk u.by g.start g.word=some g.start;by_cases Y:u.aw g.start=g.start
   ·right
    let h1:=lt.wk f1;let h3:=lt.wk f2;let hbb:=g2.rF.mpr ⟨g.front,g.bu,kg,22⟩;rw[Y]at h1 h3;have:g.word=g.word.take g.first++(g.z1::g.word.drop (g.first+ 1)):=by rw[<-drop_cons hz,aiC]
    rw[this,oJ h1,hY hbb];rwa[h3]
   ·rwa[.inl Y]
  let IY:lg A.aJ A.aF u bs J W _ (⇑X+ 2* ⇑J) x r c ⇑S.aZ fp O H2 X W:=⟨c2,Ck,λ_ _ _ z=>z,by have:=Ck.two;ext⟩;rwa[⟨12,x,c.dx,12,c2.ins,fu ⋯,12,p,_,v,112,p2.ins,aT T,T.gU,ku _ _,12,x,r,c,J,X,W,⇑S.aZ,fp,O,g.front,g.z1,2,c2,IY.fits L,λns H3 b3 nd hn c3=>?_⟩];let Xz:=IY.wake nd hn c3;let p3:dY A.aJ H3 p v wa g:=⟨b3 _ _ npO p2.ins,b3 _ _ (c2.jg p2.wo) p2.wo⟩;rwa[⟨12,x,c.dx,12,c3.ins,fu ⋯,12,p,_,v,112,p3.ins,aT T,T.ib,kx _ _,1212,x,r,c,J,11,⇑S.aZ,fp,O,g.bu,-g.z1,2,c3,Xz.fits L,λns2 H4 b4 nd2 XA c4=>?_⟩];let XB:=Xz.wake nd2 XA c4;let M:Bt O H2 H4:=b3.trans b4 λb z=>.inl z
  let R4:ay A.az H4 r u a':=h2.keep (λb o t e=>M b o (I b t) e) (λb xs e=>M b _ (c2.jg e) e)
  let i4:CI u bs J (X++ns++ns2) (gx (gx W g.front g.z1) g.bu (-g.z1)) (Nt u ⇑S.aZ) none:=XB.i.ex λr' s n' w U ex=>by
   let⟨w1,n1⟩:=dk.mp w;let⟨w2,n2⟩:=dk.mp w1;rcases ex with ⟨Y,e2⟩|⟨Y,e2⟩|⟨m,hm,e⟩
   ·rwa[absurd ⟨by rw[Y],e2⟩ n2]
   ·rwa[absurd ⟨by rw[Y],e2⟩ n1]
   ·rwa[.inr ⟨m,by cbv,e⟩]
  rwa[⟨_,rfl,x,c.dx,_,rfl,c4.ins,fu (by decide),x,r,c,u,a',_,bs,J,_,_,_,⇑S.aZ,fp,O,rfl,⟨c4,i4,λ_ _ _ z=>z,XB.b⟩,L,by rw[el,agN];ext,R4,g2,w2.c,I,λTz W5 H5 b5 h5=>?_⟩];let G:Bt O H2 H5:=M.trans b5 λb z=>.inl z
  rwa[k u a' _ Tz W5 H5 (λb o n1 n2 e=>G b o n1 (C b o n2 e)) h5.c ⟨h2.keep (λb o t e=>G b o (I b t) e) (λb xs e=>G b _ (c2.jg e) e),g2,w2,D,[em]▸f.m,f.l,rb2,wb2⟩ Xy h5.i (by have:=h5.b;omega) iB em eL (.step (.refl S) ra lay)]
def V6 {x:V}{A B:Prop}(h:x=q)(k:B):if (!decide (x=q))=true then A else B:=by cbv
section
variable {CG CC:Zs}{H H':Hp}{x r:Zs}{c:KA}{gs:Zf}{ag:Zh}{W:bI}{hd:Nat}{fp:List (Zg×Nat)}{O:Zs->Prop}{gv:Zb}{n:Nat}{p dx wa:Zs}{g g':Gg}
theorem cq.V7 (h:cq CG CC H x r c gs ag W hd fp O)(hG:H c.aG\.lst gv)(j:qj CG H gv gs O)(G:gv[n]?\↑p)(M:O p)(q:dY CG H p dx wa g)(f:∀b o,b≠p->H b\o->H' b\o)(L:dY CG H' p dx wa g'):cq CG CC H' x r c (gs.set n (some g')) ag W hd fp O/\qj CG H' gv (gs.set n (some g')) O:=by
 let kn:∀b o,(∀C d fs,o≠.ins C d fs)->H b\o->H' b\o:=λb o w e=>f b o (λz=>by rw[z,q.ins]at e;cbv) e
 let a:qj CG H' gv (gs.set n (some g')) O:=by
  rwa[⟨[ahj]▸j.l,λi v t y=>?_,λi v u t y=>?_,j.i⟩]
  ·rcases fG y with ⟨_,z⟩|⟨_,z⟩
   ·ext z
   ·rwa[j.n i v t z]
  ·rcases fG y with ⟨z1,z⟩|⟨z1,z⟩
   ·cbv
   ·let⟨B,s,k,e,F,J⟩:=j.s i v u t z;let I:B≠p:=λz=>z1 (j.i i n p (by cbv) G)
    rwa[B,s,k,e,⟨f _ _ I F.ins,kn _ _ (by cbv) F.wo⟩,J]
 rwa[⟨⟨f _ _ (Ci h q).symm h.ins,⟨gv,kn _ _ (by cbv) hG,a⟩,kn _ _ (by cbv) h.hA,5,h.ne,h.ox,h.oG,h.oA,λb l=>?_⟩,a⟩]
 ·let⟨D,E,k1,k2⟩:=h.wt;rwa[D,E,k1.keep λb o l e=>by let⟨N,q⟩:=k1.there l;cbv,k2]
 ·by_cases e:b=p
  ·rwa[_,[e]▸L.ins,(by cbv),(by cbv),(by cbv),by cbv]
  ·let⟨o,q,m⟩:=h.th b l;rwa[o,f _ _ e q,m]
def cq.ED (h:cq CG CC H x r c gs ag W hd fp O)(hG:H c.aG\.lst gv)(d:qj CG H gv gs O)(L:gv[n]?\↑p)(q:dY CG H p dx wa g):cq CG CC (upd H c.aG (.lst (gv.set n .non))) x r c (gs.set n none) ag W hd fp (λb=>O b/\b≠p):=by
 let k:∀b o,b≠c.aG->H b\o->upd H c.aG (.lst (gv.set n .non)) b\o:=λb o n e=>by rw[ak n];rwa[e]
 let kn:∀b o,(∀s,o≠.lst s)->H b\o->upd H c.aG (.lst (gv.set n .non)) b\o:=λb o w e=>k b o (λz=>by cbv) e
 let I:∀{b s},H b\.lst s->b≠p:=λ{b s} e z=>by rw[z,q.ins]at e;ext e
 rwa[⟨kn _ _ (by cbv) h.ins,⟨_,ah,[ahj,ahj]▸d.l,λi v f l=>?_,λi v u f l=>?_,λi j N f l=>?_⟩,k _ _ h.ne.symm h.hA,5,h.ne,⟨h.ox,(Ci h q).symm⟩,⟨h.oG,I hG⟩,⟨h.oA,I h.hA⟩,λb a=>?_⟩]
 ·rcases fG f with ⟨z1,z⟩|⟨z1,z⟩
  ·rwa[z]
  ·rcases fG l with ⟨C,_⟩|⟨_,y⟩
   ·rwa[absurd C z1]
   ·rwa[d.n i v z y]
 ·rcases fG l with ⟨_,z⟩|⟨z1,z⟩
  ·ext z
  ·rcases fG f with ⟨C,_⟩|⟨_,y⟩
   ·rwa[absurd C z1]
   ·let⟨G,B,t,e,J,R⟩:=d.s i v u y z;let M:G≠p:=λw=>z1 (d.i i n p (by cbv) L)
    rwa[G,B,t,e,⟨kn _ _ (by cbv) J.ins,kn _ _ (by cbv) J.wo⟩,R,M]
 ·rcases fG f with ⟨_,z⟩|⟨_,z⟩
  ·ext z
  ·rcases fG l with ⟨_,y⟩|⟨_,y⟩
   ·ext y
   ·rwa[d.i i j N z y]
 ·let⟨D,E,k1,k2⟩:=h.wt;rwa[⟨D,E,k1.keep λb o a e=>by let⟨Q,q⟩:=k1.there a;cbv,λb a=>⟨k2.o b a,λz=>?_⟩,k2.d,k2.e,k2.w⟩];let⟨Q,F⟩:=k1.there a;rw[z,q.ins]at F;ext F
 ·by_cases e:b=c.aG
  ·rwa[_,[e]▸ah,(by cbv),(by cbv),(by cbv),by cbv]
  ·let⟨o,q,m⟩:=h.th b a.1;rwa[o,k _ _ e q,m]
end
structure Cm (ws:Za3) (nr:Nat) (ks:Zg) (bs:List (Nat×Zg×Nat)):Prop where
 w:∀b∈bs,ws[b.1]?\b.2.1
 n:∀b∈bs,b.1<nr\/b.2.2=0
 l:∀b∈bs,⇑b.2.1<=1000
 k:∀b∈bs,∀z∈b.2.1,z∈ks/\-z∈ks
 c:⇑bs<100000
noncomputable def live (a:Zf):Nat:=a.countP (·.isSome)
def Cp {a:Zf}{g:Gg}(h:a[n]?\some g):(∀u:Gg,live (a.set n (some u))=live a)/\live (a.set n none)+ 1=live a:=by
 unfold live
 induction a generalizing n with
 |nil=>simp at h
 |cons y r c=>
  cases n with
  |zero=>
   have:y\g:=by simpa using h
   subst this;simp[List.countP_cons]
  |succ n=>
   let⟨b,d⟩:=c (n:=n) (by simpa using h);simp only[List.set_cons_succ,List.countP_cons];rwa[λu=>by rw[b u],3]
inductive IZ (CR CG CC:Zs) (vs:Zb) (H:Hp) (Q:VK) (E_:XK):Prop
 |mk (x r:Zs) (c:KA) (S:RS) (a:RA) (R:Za2) (ks:Zg) (B:Nat) (ws:Za3) (nr:Nat) (bs:List (Nat×Zg×Nat)) (gs:Zf) (ag:Zh) (W:bI) (fp:List (Zg×Nat)) (O:Zs->Prop) (n:Nat):vs=[↑x,.int n]->cq CG CC H x r c gs ag W ⇑S.aZ fp O->iW CR H r S a R ks B->B<900000->(∀b,a.own r b->¬O b)->CI S bs gs (ag++[n]) W fT none->Cm ws nr ks bs->⇑ag+ 2* ⇑gs<=1000000->(∀S' a' R' i9 iV W' O' B' H',(∀b o,¬O b->¬a.own r b->H b\o->H' b\o)->cq CG CC H' x r c i9 iV W' ⇑S'.aZ fp O'->iW CR H' r S' a' R' ks B'->(∀b,a'.own r b->a.own r b\/H b=none)->(∀b,O' b->O b\/H b=none)->(∀b,a'.own r b->¬O' b)->CI S' bs i9 iV W' fT none->(∀a z b,R a z b->R' a z b)->S'.made=S.made->S'.L=S.L->Tr ws nr S S'->(live i9=live gs/\⇑iV=⇑ag/\B'=B)\/(live i9+ 1=live gs/\⇑iV<=⇑ag+ 2* ⇑gs/\B'<=B+ 1)->Q .non H')->IZ CR CG CC vs H Q E_
theorem vi (T:Txt K mg A):T.lB.Ok mg P w base 7 (IZ A.az A.aJ A.aF):=by
 rwa[T.lB.on mY (λcu AA outer s H vs Q E hr h=>?_)]
 ·let⟨x,r,c,S,a,R,ks,B,ws,nr,bs,G,ag,W,fp,O,n,rfl,h,I,hB,V,ci,u,XC,k⟩:=h
  refine⟨_,(aj (bJ 2 mY.nd (bC bF (aH (pv 0) rfl) (pv 1) (λ_ _=>rfl)))
   (aj (bH (aX qU (pv 2) dm (aY _))
    (av xo)
    bp)
   (aj (bH (aX jK (pm (aH (pv 0) rfl) (aI T) T.ia (iQ T) hr (ae (aH (pv 2) rfl) ai)) (aH (pv 2) rfl) (aY _))
    (aj (mh dm (vo (aH (pv 0) rfl) (pv 1) set_list))
    (av xo))
    bp)
   (aj (aV (pm (pv 2) (aT T) T.lA (vg T) hr (ae (aH (pv 0) rfl) ai)))
   (av (bP (bH (aX pG (aH (pv 2) rfl) (aH (pv 2) rfl) (aY _))
    (aj (aV (pm (pv 0) (aL T) T.jY (nX T) hr (ae (pv 1) (ae (aH (pv 2) rfl) (ae (bC dJ (aH (pv 2) rfl) (aH (pv 2) rfl) (λ_ _=>rfl)) ai)))))
    (av (aV (pm (pv 0) (aL T) T.jY (nX T) hr (ae (pv 1) (ae (aH (pv 2) rfl) (ae (fY eJ (bC dJ (aH (pv 2) rfl) (aH (pv 2) rfl) (λ_ _=>rfl))) ai)))))))
    (aj (mh dm (vo (aH (pv 0) rfl) (pv 1) set_list))
    (av (aV (pm (pv 0) (aL T) T.nZ (yi T) hr (ae (pv 2) ai)))))))))))),?_⟩
  rwa[uG ?_];intro lJ jG hM fx;let J:n<⇑G:=ci.ab n (agS _ (agR.mpr rfl));let⟨F,hG,hs⟩:=h.hG;let X:F[n]?\(F[n]'([hs.l]▸J)):=agJ _
  generalize F[n]'(by cbv)=v at X;let gd:=I.g;erw[12,x,_,c.dx,112,h.ins,aL T,T.jF,lb^_,12,c.aG,11,v,22,aD.of hG,da X];let f:G[n]?\(G[n]'J):=agJ J
  generalize G[n]'J=og at f
  cases og with
  |none=>
   obtain rfl:=hs.n n v X f;rwa[⟨12212,jj ?_⟩];rwa[k S a R G ag W O B H (λ_ _ _ _ e=>e) h I (λb z=>.inl z) (λb z=>.inl z) V (ci.pop.done f λb eb=>ci.de n b f (by cbv) eb) (λ_ _ _ z=>z) rfl rfl (.refl S) (.inl ⟨222⟩)]
  |some g=>
   let⟨p,i,wa,rfl,M,op⟩:=hs.s n v g X f;let⟨IX,gi,_⟩:=ci.al n g f;let t:=agK IX;let EA:⇑g.word<=1000:=u.l _ t;let Y:¬a.own r p:=λz=>V p z op
   rwa[⟨12212,dv ?_⟩];erw[12,x,_,c.dx,112,h.ins,aL T,T.fi,fX^_,r,a.dx,12,I.at_.ins,cK _ _ _ ⋯,12,p,_,i,112,M.ins,aT T,T.qg,ve _ _,r,S,a,g.start,S.aw g.start,2,I.at_,m3 ([gd.wf.e]▸gi.s),12,p,_,i,112,M.ins,aT T,T.qg,ve _ _,212];let Z:∀b,a.own r b->¬(O b/\b≠p):=λb z y=>V b z y.1
   by_cases es:S.aw g.start=g.start
   ·rwa[V6 (by rw[es]) ?_];rwa[⟨12,p,i,12,M.ins,Ni ⋯,12,x,_,c.dx,112,h.ins,aL T,T.fi,fX^_,p,i,wa,r,g,S,a,R,2,M,I.at_,gd,gi,Y,EA,λd j f1 l ad=>?_⟩];let R1:iW A.az j r S a R ks B:=I.keep (λb o hb e=>f1 b o (λz=>Y (z ▸ hb)) e) (λb xs e=>f1 b _ (bW e M.ins (by cbv)) e);let⟨c1,gs1⟩:=h.V7 hG hs X op M f1 l;let XE:j c.aG\(.lst F):=f1 _ _ (bW hG M.ins (by cbv)) hG;let C:=ad.gi;let Xs:=C.ll;let Nv:=C.fl;let aao:⇑d.word<=1000:=by rw[ad.wo];rwa[EA]
    let z1:=Gg.qy (g:=d) ∅;let z2:=Gg.at2 (g:=d) Xs;let afu:(G.set n (some d))[n]?\(some d):=ahH J
    let lv:=Cp f;let lm:=I.m;rwa[⟨λ_ H'=>Q .non H',5,λ_ _ q=>q⟩];erw[12,p,_,i,112,l.ins,aT T,T.fh,gX _ _,12,p,_,i,112,l.ins,aT T,T.iP,ky _ _,112212];rwa[bU (λq=>?_) (λq=>?_)]
    ·let q:(d.first:Int)<(d.last:Int):=ahq q;let bw:∀z∈d.word,-1000<=z/\z<=1000:=λz hz=>ci.bd _ t z (by rw[<-ad.wo];rwa[hz])
     let b1:=bw _ (agK z1);let b2:=bw _ (agK z2);let hf:=C.f;let hrr:=C.r;let XF:n<100000:=by have:=ci.len;have:=u.c;ext
     rwa[⟨12,x,c.dx,12,c1.ins,fu ⋯,1212,p,_,i,112,l.ins,aT T,T.gU,ku _ _,12,p,_,i,112,l.ins,aT T,T.jE,kr _ _,12,p,_,i,112,l.ins,aT T,T.fh,gX _ _,wa,11,.int d.z1,22,bG.of l.wo,da (cC z1),x,r,c,_,ag,W,⇑S.aZ,fp,O,n,d.front,d.z1,2,c1,3,XF,b1,λO2 H2 XG f2 Nw Cq D=>?_⟩];let N:dY A.aJ H2 p i wa d:=⟨f2 _ _ (by cbv) l.ins,f2 _ _ (by cbv) l.wo⟩;rwa[⟨12,x,c.dx,12,D.ins,fu ⋯,1212,p,_,i,112,N.ins,aT T,T.ib,kx _ _,12,p,_,i,112,N.ins,aT T,T.jE,kr _ _,12,p,_,i,112,N.ins,aT T,T.iP,ky _ _,wa,11,.int (-d.z2),22,bG.of N.wo,da (cC z2),12,x,r,c,_,ag,_,⇑S.aZ,fp,O2,n,d.bu,d.z2,(by cbv),D,3,XF,3,λO3 H3 bt3 f3 XH nw3 c3=>?_⟩]
     let aap:∀b,O3 b->O b\/j b=none:=λb z=>by
      rcases nw3 b z with y|y
      ·rwa[Cq b y]
      ·by_cases w:O b
       ·rwa[.inl w]
       ·rwa[.inr ?_]
        cases e:j b with
        |none=>rfl
        |some o=>rw[XG b o w e]at y;ext y
     let nw:∀b,O3 b->O b\/H b=none:=λb z=>by
      rcases aap b z with y|y
      ·rwa[.inl y]
      ·by_cases w:b=p
       ·cbv
       ·rwa[.inr ?_]
        cases e:H b with
        |none=>rfl
        |some o=>rw[f1 b o w e]at y;ext y
     let m:Bt O j H3:=XG.trans bt3 Cq
     let dj3:∀b,a.own r b->¬O3 b:=λb z y=>by
      rcases nw b y with w|w
      ·rwa[V b z w]
      ·let⟨o,e⟩:=I.at_.there z;cbv
     rwa[k S a R _ ag _ O3 B H3 (λb o L _ e=>m b o L (f1 b o (λz=>L ([z]▸op)) e)) c3 (R1.keep (λb o hb e=>m b o (V b hb) e) (λb xs e=>m b _ (c1.jg e) e)) (λb z=>.inl z) nw dj3 (ci.pop.waits f ad ∅) (λ_ _ _ z=>z) rfl rfl (.refl S) (.inl ⟨lv.1 d,22⟩)]
    ·let q:¬(d.first:Int)<(d.last:Int):=λz=>q (ahp z)
     let efl:d.first=d.last:=∅
     erw[12,x,_,c.dx,112,c1.ins,aL T,T.jF,lb^_,12,c.aG,11,n,22,XE,ph ([hs.l]▸J)];let D:=c1.ED XE gs1 X l;let kn:∀b o,(∀xs,o≠.lst xs)->j b\o->upd j c.aG (.lst (F.set n .non)) b\o:=λb o w e=>by rw[ak (λz=>by cbv)];rwa[e]
     let N:dY A.aJ (upd j c.aG (.lst (F.set n .non))) p i wa d:=⟨kn _ _ (by cbv) l.ins,kn _ _ (by cbv) l.wo⟩;let TB:¬a.own r c.aG:=λz=>V _ z h.oG
     let R2:iW A.az (upd j c.aG (.lst (F.set n .non))) r S a R ks B:=R1.keep (λb o hb e=>[ak (λz=>TB (by cbv))]▸e) (λb xs e=>kn _ _ (by cbv) e);let ess:(G.set n (some d)).set n none=G.set n none:=List.set_set ..;rw[ess]at D;let TC:∀b o,¬O b->H b\o->upd j c.aG (.lst (F.set n .non)) b\o:=λb o L e=>by rw[ak (λz=>L ([z]▸h.oG))];cbv
     let U:∀b,upd j c.aG (.lst (F.set n .non)) b=none->H b=none:=λb z=>by
      cases e:H b with
      |none=>rfl
      |some o=>
       by_cases w:O b
       ·by_cases y:b=p
        ·rw[y,N.ins]at z;ext z
        ·let⟨o2,e2,_⟩:=D.th b ⟨w,y⟩;cbv
       ·rw[TC b o w e]at z;ext z
     generalize upd j c.aG (.lst (F.set n .non))=H2 at D N R2 TC U ⊢;rwa[⟨12,x,c.dx,12,D.ins,fu ⋯,12,x,r,p,i,wa,c,S,a,R,ks,B,ws,nr,bs,G.set n none,ag,W,fp,_,n,d,2,D,R2,hB,Z,ci.pop.kill,ahH J,by rw[IX,ad.wh,ad.wo,ad.st],N,(λz=>z.2 rfl),Y,C,efl,[ad.st]▸es,ad.ef,ad.er,[ad.wh,ad.wo]▸u.w _ t,[ad.wh,ad.st]▸u.n _ t,[ad.wo]▸u.k _ t,aao,[ahj]▸XC,λS' a' R' iV W' H' f3 c3 R3 o3 TF la rr em eL tr=>?_⟩];let o03:∀b,a'.own r b->a.own r b\/H b=none:=λb z=>(o3 b z).imp id (U b)
     rw[ahj]at la;rwa[k S' a' R' _ iV W' _ (B+ 1) H' (λb o L n2 e=>f3 b o (λz=>L z.1) n2 (TC b o L e)) c3 R3 o03 (λb z=>.inl z.1) (λb z y=>?_) TF rr em eL tr (.inr ⟨lv.2,la,agQ _⟩)];rcases o3 b z with w|w
     ·rwa[Z b w y]
     ·let⟨o2,e2,_⟩:=D.th b y;cbv
   ·rwa[bU (λ_=>?_) (λz=>absurd (by cbv) z)];erw[12,x,_,c.dx,112,h.ins,aL T,T.jF,lb^_,12,c.aG,11,n,22,hG,ph ([hs.l]▸J)];let D:=h.ED hG hs X M;let TB:¬a.own r c.aG:=λz=>V _ z h.oG
    rwa[k S a R _ ag W _ B _ (λb o L _ e=>[ak (λz=>L ([z]▸h.oG))]▸e) D (I.keep (λb o hb e=>[ak (λz=>TB (by cbv))]▸e) (λb xs e=>[ak (λz=>by cbv)]▸e)) (λb z=>.inl z) (λb z=>.inl z.1) Z (ci.pop.kill.done (ahH J) λb eb=>?_) (λ_ _ _ z=>z) rfl rfl (.refl S) (.inr ⟨(Cp f).2,33⟩)]
    cbv
def _root_.Lake.L2.Tr.trans {ws:Za3}{c:RS}(h:Tr ws n S T)(k:Tr ws n T c):Tr ws n S c:=by
 induction k with
 |refl=>exact h
 |step _ a b d=>exact .step d a b
inductive Cr (CR CG CC:Zs) (vs:Zb) (H:Hp) (Q:VK) (E_:XK):Prop
 |mk (x r:Zs) (c:KA) (S:RS) (a:RA) (R:Za2) (ks:Zg) (B:Nat) (ws:Za3) (nr:Nat) (bs:List (Nat×Zg×Nat)) (gs:Zf) (ag:Zh) (W:bI) (fp:List (Zg×Nat)) (O:Zs->Prop):vs=[↑x]->cq CG CC H x r c gs ag W ⇑S.aZ fp O->iW CR H r S a R ks B->B+ live gs<900000->(∀b,a.own r b->¬O b)->CI S bs gs ag W fT none->Cm ws nr ks bs->live gs* (2* ⇑bs+ 1)+ ⇑ag+ 2* ⇑bs<=1000000->(∀S' a' R' i9 W' O' B' H',(∀b o,¬O b->¬a.own r b->H b\o->H' b\o)->cq CG CC H' x r c i9 [] W' ⇑S'.aZ fp O'->iW CR H' r S' a' R' ks B'->(∀b,a'.own r b->a.own r b\/O b\/H b=none)->(∀b,O' b->O b\/a.own r b\/H b=none)->(∀b,a'.own r b->¬O' b)->CI S' bs i9 [] W' fT none->(∀a z b,R a z b->R' a z b)->S'.made=S.made->S'.L=S.L->Tr ws nr S S'->B'+ live i9<=B+ live gs->Q .non H')->Cr CR CG CC vs H Q E_
def lK (T:Txt K mg A):T.iN.Ok mg P w base 8 (Cr A.az A.aJ A.aF):=by
 rwa[T.iN.on tJ (λcu AA outer s H vs Q E hr h=>?_)]
 ·let⟨x,r,c,S,a,R,ks,B,ws,nr,bs,gs,ag,W,fp,O,rfl,h,hR,hB,dj,ci,hbs,hm,k⟩:=h
  refine⟨_,(av (bP (gP ahe (Ab (aH (pv 0) rfl) (λ_=>rfl))
   (av (aV (pm (pv 0) (aL T) T.lB (vi T) hr (ae (GY agY PySem.F.slot_list_pop PySem.F.type_list_pop GZ (aH (pv 0) rfl)) ai))))))),?_⟩
  let hgl:=ci.len;rwa[⟨λ_ H'=>Q .non H',5,λ_ _ q=>q⟩];erw[λm σ g=>∃j a2 R2 f d G F D,m=live f* (2* ⇑bs+ 1)+ ⇑d/\σ=#v[↑x]/\(∀b o,¬O b->¬a.own r b->H b\o->g b\o)/\cq A.aJ A.aF g x r c f d G ⇑j.aZ fp F/\iW A.az g r j a2 R2 ks D/\(∀b,a2.own r b->a.own r b\/O b\/H b=none)/\(∀b,F b->O b\/a.own r b\/H b=none)/\(∀b,a2.own r b->¬F b)/\CI j bs f d G fT none/\(∀a z b,R a z b->R2 a z b)/\j.made=S.made/\j.L=S.L/\Tr ws nr S j/\D+ live f<=B+ live gs/\live f* (2* ⇑bs+ 1)+ ⇑d+ 2* ⇑bs<=1000000,⟨_,S,a,R,gs,ag,W,O,B,22,λ_ _ _ _ e=>e,h,hR,λb z=>.inl z,λb z=>.inl z,dj,ci,λ_ _ _ z=>z,22,.refl S,agQ _,hm⟩];rintro m σ g ⟨j,a2,R2,f,d,G,F,D,rfl,rfl,f2,i,r2,M,u,l,y,L,J,N,I,X,B1⟩;erw[12,x,_,c.dx,112,i.ins,aL T,T.kZ,nV^_,!(ao (nI d)).isEmpty,.inl ⟨_,aD.of i.hA,2⟩];by_cases C:d=[]
  ·subst C;rwa[dv ?_];rwa[k j a2 R2 f G F D g f2 i r2 M u l y L J N I X]
  ·let t:=aiI C;generalize d.getLast C=n at t;generalize d.dropLast=pre at t;subst t;rw[show (!(ao (nI (pre++[n]))).isEmpty)=true by unfold ao nI;simp];rwa[jj ?_];erw[_,λ_ _ z=>z];erw[12,x,c.dx,12,i.ins,fu ⋯,12,x,_,c.dx,112,i.ins,aL T,T.kZ,nV^_,.inl ⟨21,aD.of i.hA⟩,c.aA,_,.int (n:Int),22,i.hA,5]
   ·rw[aM,b6,agN];rwa[cC (jT (by show (pre++[n])[⇑pre+ 1 - 1]?\n;rw[Nat.add_sub_cancel,agW (agQ _),aiL];rfl))]
   let Tt:(ao (nI (pre++[n]))).dropLast=ao (nI pre):=by rw[i3,ints_app];rwa[List.dropLast_concat]
   rw[Tt];let c3:=i.agenda pre;let noA:¬a2.own r c.aA:=λz=>l _ z i.oA
   let Y:∀b o,b≠c.aA->g b\o->upd g c.aA (.lst (ao (nI pre))) b\o:=λb o Z e=>by rw[ak Z];rwa[e]
   let r3:iW A.az (upd g c.aA (.lst (ao (nI pre)))) r j a2 R2 ks D:=r2.keep (λb o hb e=>Y b o (λz=>noA (by cbv)) e) (λb xs e=>Y b _ (λz=>by rw[z,i.hA]at e;ext e) e)
   let V:∀b,upd g c.aA (.lst (ao (nI pre))) b=none->g b=none:=λb z=>by
    by_cases e:b=c.aA
    ·rw[e,ah]at z;ext z
    ·rw[ak e]at z;rwa[z]
   generalize upd g c.aA (.lst (ao (nI pre)))=H3 at c3 Y r3 V ⊢;let ln2:=y.len;rw[agN]at B1;have:⇑([n]:Zh)=1:=rfl
   let th2:∀b,g b=none->a.own r b\/O b\/H b=none:=λb z=>by
    by_cases w:a.own r b
    ·rwa[.inl w]
    ·by_cases w2:O b
     ·rwa[.inr (.inl w2)]
     ·rwa[.inr (.inr ?_)]
      cases e:H b with
      |none=>rfl
      |some o=>rw[f2 b o w2 w e]at z;ext z
   rwa[⟨x,r,c,j,a2,R2,ks,D,ws,nr,bs,f,pre,G,fp,F,n,2,c3,r3,3,l,y,hbs,3,λS4 a4 R4 v U W4 O4 B4 H4 f4 c4 r4 ow4 oo4 dj4 EE rr4 em4 eL4 tr4 ms=>?_⟩];let ow:∀b,a4.own r b->a.own r b\/O b\/H b=none:=λb z=>(ow4 b z).elim (M b) λw=>th2 b (V b w)
   let oo:∀b,O4 b->O b\/a.own r b\/H b=none:=λb z=>(oo4 b z).elim (u b) λw=>by
    cbv
   let p:B4+ live v<=B+ live gs/\live v* (2* ⇑bs+ 1)+ ⇑U<live f* (2* ⇑bs+ 1)+ ⇑(pre++[n]):=by
    rw[agN];rcases ms with ⟨e1,e2,e3⟩|⟨e1,e2,e3⟩
    ·rw[e1,e2,e3];rwa[X,3]
    ·rw[<-e1,ajo];rwa[33]
   rwa[⟨_,p.2,S4,a4,R4,v,U,W4,O4,B4,22,λb o Z n2 e=>?_,c4,r4,ow,oo,dj4,EE,λa z b q=>rr4 _ _ _ (L _ _ _ q),em4.trans J,eL4.trans N,I.trans tr4,p.1,by have:=p.2;rw[agN]at this;ext⟩];rwa[f4 b o (λz=>?_) (λz=>?_) (Y b o (λz=>Z ?_) (f2 b o Z n2 e))]
   ·cbv
   ·cbv
   ·subst z;rcases u c.aA i.oA with w|w|w
    ·rwa[w]
    ·cbv
    cbv
def _root_.Lake.L2.CI.begin {bs:List (Nat×Zg×Nat)}{gs:Zf}{W:bI}{o:Nat->Int->Prop}(h:CI S bs gs B W o none){which m:Nat}{word:Zg}(E:word≠[])(i:m<S.made)(v:∀z∈word,-1000<=z/\z<=1000):CI S (bs++[(which,word,m)]) (gs++[some (za which word m)]) (B++[⇑gs]) W o none:=by
 let G:=List.length_pos_iff.mpr E
 let old:∀{k:Nat} {y:Option Gg},(gs++[some (za which word m)])[k]?\y->(k<⇑gs/\gs[k]?\y)\/(k=⇑gs/\y\za which word m):=λ{k y} e=>by
  by_cases a:k<⇑gs
  ·rw[agV a]at e;rwa[.inl ⟨a,e⟩]
  ·rw[agW ∅]at e;have:=(agM.mp e).1;let n:k=⇑gs:=by simp at this;ext
   subst n;rw[aiL]at e;rwa[.inr ⟨2,(Za0 e).symm⟩]
 let c:∀{k:Nat},k<⇑gs->(bs++[(which,word,m)])[k]?=bs[k]?:=λ{k} a=>agV (by rw[<-h.len];rwa[a])
 rwa[⟨by rw[agN,agN,h.len];rfl,λk g e=>?_,λk b e C t=>?_,λk a=>?_,λr s k q=>?_,λk=>?_,λb d=>?_⟩]
 ·rcases old e with ⟨a,e⟩|⟨a,e⟩
  ·let⟨l,j,H⟩:=h.al k g e;rwa[[c a]▸l,j,H.imp (ahd _) id]
  ·ext e;rwa[⟨5,⟨ahg _,by show ⇑word - 1<⇑word;ext,i,i,i,25⟩,.inl (agS _ (agR.mpr a))⟩]
   ·rw[agW ([a,h.len]▸agQ _),a,h.len,aiL];rfl
   ·show wk S.by _ (word.drop (⇑word - 1+ 1))=_;rw[show ⇑word - 1+ 1=⇑word by ext,List.drop_length];rfl
 ·rcases old e with ⟨a,e⟩|⟨a,e⟩
  ·rw[c a]at t;rwa[h.de k b e C t]
  ·ext e
 ·rw[agN];rcases agX.mp a with q|q
  ·have:=h.ab k q;show k<_+ 1;ext
  ·rw[agR.mp q];show _<_+ 1;ext
 ·let⟨D,f,F,I,u,J,x⟩:=h.en r s k q;rwa[D,f,F,I,u,by rw[agN];show f<_+ 1;ext,x]
 ·by_cases a:k<⇑gs
  ·let⟨p,q,l,j⟩:=h.sl k;rwa[⟨p,q,l,λg e=>j g ?_⟩];rw[agV a]at e;rwa[e]
  ·rwa[⟨((za which word m).front,(za which word m).z1),((za which word m).bu,(za which word m).z2),λr s w=>?_,λg e=>?_⟩]
   ·let⟨_,f,_,e,_,G,_⟩:=h.en r s k w;ext
   cbv
 ·rcases agX.mp d with q|q
  ·rwa[h.bd b q]
  ·rw[agR.mp q];rwa[v]
def cq.V8 {x r:Zs}{l:KA}{gs:Zf}{W:bI}{hd:Nat}{S:List (Zg×Nat)}{O:Zs->Prop}{dx:Zs}{g:Gg}(h:cq a b H x r l gs B W hd S O)(hG:H l.aG\.lst L)(p:qj a H L gs O)(np:H c=none)(s:aq H I)(q:dY a I c dx d g):cq a b (upd I l.aG (.lst (L++[↑c]))) x r l (gs++[some g]) B W hd S (HG O c):=by
 let k:∀f o,f≠l.aG->I f\o->upd I l.aG (.lst (L++[↑c])) f\o:=λf o n e=>by rw[ak n];rwa[e]
 let kn:∀f o,(∀Y,o≠.lst Y)->I f\o->upd I l.aG (.lst (L++[↑c])) f\o:=λf o w e=>k f o (λz=>by rw[z,s^hG]at e;cbv) e
 let fresh:∀(i:Nat),L[i]?≠some ↑c:=λi e=>by
  let C:i<⇑gs:=by rw[<-p.l];rwa[(agM.mp e).1]
  cases R:gs[i]? with
  |none=>cbv
  |some y=>
   cases y with
   |none=>cases p.n i _ e R
   |some u=>
    let⟨T,_,_,G,J,_⟩:=p.s i _ u e R;ext G;have:=J.ins;cbv
 let old:∀{i:Nat} {v:V},(L++[↑c])[i]?\v->(i<⇑L/\L[i]?\v)\/(i=⇑L/\v=↑c):=λ{i v} e=>by
  by_cases U:i<⇑L
  ·rw[agV U]at e;rwa[.inl ⟨U,e⟩]
  ·rw[agW ∅]at e;have:=(agM.mp e).1;let Q:i=⇑L:=by simp at this;ext
   subst Q;rw[aiL]at e;rwa[.inr ⟨2,(Za0 e).symm⟩]
 rwa[⟨kn _ _ (by cbv) (s^h.ins),⟨_,ah,by rw[agN,agN,p.l];rfl,λi v G t=>?_,λi v u G t=>?_,λi j p' G t=>?_⟩,k _ _ h.ne.symm (s^h.hA),5,h.ne,.inl h.ox,.inl h.oG,.inl h.oA,λf F=>?_⟩]
 ·rcases old G with ⟨C,e⟩|⟨C,e⟩
  ·rw[agV (by rw[<-p.l];rwa[C])]at t;rwa[p.n i v e t]
  ·rw[C,p.l,agW (agQ _),aiL]at t;cases Za0 t
 ·rcases old G with ⟨C,e⟩|⟨C,e⟩
  ·rw[agV (by rw[<-p.l];rwa[C])]at t;let⟨T,N,M,Z,J,o1⟩:=p.s i v u e t;rwa[T,N,M,Z,⟨kn _ _ (by cbv) (s^J.ins),kn _ _ (by cbv) (s^J.wo)⟩,.inl o1]
  ·rw[C,p.l,agW (agQ _),aiL]at t;cases Za0 t;rwa[c,dx,d,e,⟨kn _ _ (by cbv) q.ins,kn _ _ (by cbv) q.wo⟩,.inr rfl]
 ·rcases old G with ⟨C,e⟩|⟨C,e⟩
  ·rcases old t with ⟨hj,X⟩|⟨hj,X⟩
   ·rwa[p.i i j p' e X]
   cbv
  cbv
 ·let⟨D,E,k1,k2⟩:=h.wt;rwa[D,E,(k1.same s).keep λf o F e=>by let⟨kv,q⟩:=(k1.same s).there F;cbv,λf F=>.inl (k2.o f F),k2.d,k2.e,k2.w]
 ·rcases F with F|F
  ·by_cases e:f=l.aG
   ·rwa[⟨_,by rw[e];rwa[ah],(by cbv),(by cbv),(by cbv),by cbv⟩]
   ·let⟨o,q,m⟩:=h.th f F;rwa[o,k _ _ e (s^q),m]
  ·rw[F];rwa[_,kn _ _ (by cbv) q.ins,(by cbv),(by cbv),(by cbv),by cbv]
noncomputable def nz (b:Nat)(a:Zg)(m:Nat):List (Nat×Zg×Nat):=if a=[] then [] else [(b,a,m)]
inductive EF (CR CG CC:Zs) (vs:Zb) (H:Hp) (Q:VK) (E_:XK):Prop
 |mk (x r wa:Zs) (c:KA) (S:RS) (bs:List (Nat×Zg×Nat)) (gs:Zf) (ag:Zh) (W:bI) (hd:Nat) (fp:List (Zg×Nat)) (O:Zs->Prop) (Ex:Nat->Int->Prop) (which m:Nat) (word:Zg):vs=[↑x,.int which,↑wa,.int m]->cq CG CC H x r c gs ag W hd fp O->CI S bs gs ag W Ex none->H wa\.tup (ao word)->⇑word<=1000->(∀z∈word,-1000<=z/\z<=1000)->m<S.made->⇑bs<100000->⇑ag<=⇑bs->(∀i9 iV O' H',Bt O H H'->(∀b,O b->O' b)->(∀b,O' b->O b\/H b=none)->cq CG CC H' x r c i9 iV W hd fp O'->CI S (bs++nz which word m) i9 iV W Ex none->⇑iV<=⇑(bs++nz which word m)->Q .non H')->EF CR CG CC vs H Q E_
def m4 (T:Txt K mg A):T.jc.Ok mg P w base 3 (EF A.az A.aJ A.aF):=by
 rwa[T.jc.on u6 (λcu AA L s H vs Q E hr h=>?_)]
 ·let⟨x,r,X,c,S,bs,j,g,W,hd,fp,O,Ex,d,m,a,rfl,h,ci,i,R,J,hm,Ct,F,k⟩:=h
  refine⟨_,(av (bP (bH (aX sP (bq bz rfl T.dB ahu (ae (pv 2) ai)) au (aY _))
   (aj (aV (cO agY aha ahb bN (aH (pv 0) rfl) (ae (bq bz rfl T.dB ahu (ae (aH (pv 0) rfl) ai)) ai)))
   (av (aV (cO agY aha ahb bN (aH (pv 0) rfl) (ae (xu (uZ T) (tN T) hr.Za5 rfl T.PL T.gA.b .nil gy (ae (pv 1) (ae (pv 2) (ae (pv 3) ai)))) ai)))))
   bp))),?_⟩
  let hgl:=ci.len;rwa[⟨λ_ H'=>Q .non H',5,λ_ _ q=>q⟩];erw[12,X,12,.inr (bG.of i),112212];rwa[bU (λq=>?_) (λq=>?_)]
  ·let q:(0:Int)<(⇑(ao a):Int):=ahq q;rw[aM]at q;let f:a≠[]:=λz=>by cbv
   let⟨gv,hG,hs⟩:=h.hG;erw[12,x,_,c.dx,112,h.ins,aL T,T.kZ,nV^_,.inl ⟨21,aD.of h.hA⟩,12,x,_,c.dx,112,h.ins,aL T,T.jF,lb^_,c.aG,12,.inl (aD.of hG),c.aA,1122,h.hA,5]
   ·rw[aM,b6];rwa[agU (show ⇑g<=100000 by omega) ⋯]
   let ea:ao (nI g)++[V.int (⇑gv:Int)]=ao (nI (g++[⇑j])):=by rw[i3,ints_app,hs.l];rfl
   rw[ea];let B:=h.agenda (g++[⇑j]);let G:∀b o,b≠c.aA->H b\o->upd H c.aA (.lst (ao (nI (g++[⇑j])))) b\o:=λb o n e=>by rw[ak n];rwa[e]
   let U:∀b,upd H c.aA (.lst (ao (nI (g++[⇑j])))) b=none->H b=none:=λb z=>by
    by_cases e:b=c.aA
    ·rw[e,ah]at z;ext z
    ·rw[ak e]at z;rwa[z]
   generalize upd H c.aA (.lst (ao (nI (g++[⇑j]))))=D at B G U ⊢;let u:=G _ _ (bW i h.hA (by cbv)) i;let⟨gv1,l,t⟩:=B.hG;rwa[⟨12,x,_,c.dx,112,B.ins,aL T,T.jF,lb^_,.inl ⟨21,aD.of l⟩,121212,λp M y I N=>?_⟩];let Y:aq D (upd (upd D M (.own p)) p (.ins A.aJ M [])):=(aq.upd I).trans (aq.upd ([ak N.symm]▸y));rwa[⟨p,M,X,d,m,a,2,ah,Y^u,3,R,λH3 f3 Z=>⟨25⟩⟩];let C:aq D H3:=λb o e=>f3 b o (Y^e) (ax e y)
   erw[c.aG,1122,C^l,([t.l]▸agU (show ⇑j<=100000 by omega) ⋯)];let v:nz d a m=[(d,a,m)]:=ahc f;rwa[k _ _ (HG O p) _ (λb o n e=>?_) (λb z=>.inl z) (λb z=>z.imp id λw=>[w]▸U p y) (B.V8 l t y C Z) ([v]▸ci.begin f hm J) (by rw[v,agN,agN];show _+ 1<=_+ 1;omega)];rw[ak (λz=>n ([z]▸h.oG))];rwa[C^(G b o (λz=>n ([z]▸h.oA)) e)]
  ·let q:¬(0:Int)<(⇑(ao a):Int):=λz=>q (ahp z)
   rw[aM]at q;let f:a=[]:=List.length_eq_zero_iff.mp ∅;let v:nz d a m=[]:=ahf f;rwa[k j g O H (λ_ _ _ e=>e) (λb z=>z) (λb z=>.inl z) h ([v,ahl]▸ci) ([v,ahl]▸F)]
def gG (a:List (Zg×Nat))(m:Nat):List (Nat×Zg×Nat):=a.flatMap λp=>nz p.2 p.1 m
def Nx (w:Nat)(u:Zg)(m:Nat):⇑(nz w u m)<=1:=by
 unfold nz;split
 ·rwa[ahg _]
 ·rwa[agQ _]
theorem qk (m:Nat):∀a:List (Zg×Nat),⇑(gG a m)<=⇑a
 |[]=>agQ _
 |p::l=>by
  have:=qk m l;have:=Nx p.2 p.1 m;unfold gG at *;rw[List.flatMap_cons,agN,ahi];ext
def I0 {a:List (Zg×Nat)}{p:Zg×Nat}(h:a[i]?\p)(m:Nat):gG (a.take (i+ 1)) m=gG (a.take i) m++nz p.2 p.1 m:=by
 unfold gG;rw[aim,h,ajQ];show _++(nz p.2 p.1 m++[])=_;rw[ahl]
def TK {a:List (Zg×Nat)}{b:Zd×V}(h:(iU a)[i]?\b):∃p,a[i]?\p/\b=(p.1.map Sum.inl,.int p.2):=by
 unfold iU at h
 cbv
inductive I7 (CR CG CC:Zs) (vs:Zb) (H:Hp) (Q:VK) (E_:XK):Prop
 |mk (x r:Zs) (c:KA) (S:RS) (bs:List (Nat×Zg×Nat)) (gs:Zf) (ag:Zh) (W:bI) (hd:Nat) (fp:List (Zg×Nat)) (O:Zs->Prop) (Ex:Nat->Int->Prop) (m:Nat):vs=[↑x,.int m]->cq CG CC H x r c gs ag W hd fp O->H c.aQ\.dT (iU fp)->CI S bs gs ag W Ex none->(∀p∈fp,⇑p.1<=1000/\∀z∈p.1,-1000<=z/\z<=1000)->m<S.made->⇑bs+ ⇑fp<100000->⇑ag<=⇑bs->(∀i9 iV O' H',Bt O H H'->(∀b,O b->O' b)->(∀b,O' b->O b\/H b=none)->cq CG CC H' x r c i9 iV W hd fp O'->CI S (bs++gG fp m) i9 iV W Ex none->⇑iV<=⇑(bs++gG fp m)->Q .non H')->I7 CR CG CC vs H Q E_
def ja (T:Txt K mg A):T.fk.Ok mg P w base 4 (I7 A.az A.aJ A.aF):=by
 rwa[T.fk.on fW (λcu AA outer s H vs Q E hr h=>?_)]
 ·let⟨x,r,c,S,bs,gs,ag,W,hd,f,O,Ex,m,rfl,h,I,ci,hfp,hm,Ct,TL,k⟩:=h
  refine⟨_,(av (DZ (ck ahe rfl (VC (aH (pv 0) rfl)) (kM rfl (cF (di 2 fW.nd) (cF (di 3 fW.nd) jr)))
   (av (aV (pm (pv 0) (aL T) T.jc (m4 T) hr (ae (pv 3) (ae (pv 2) (ae (pv 1) ai))))))))),?_⟩
  let nQ:¬O c.aQ:=h.IL I;let nxQ:x≠c.aQ:=bW h.ins I (by cbv);rwa[⟨c.aQ,_,I,trivial,12,x,_,c.dx,112,h.ins,aL T,T.BG,LV^_,c.aQ,iU f,2,I,λM=>?_⟩];let Z:∀b o,b≠c.aQ->H b\o->upd H c.aQ (.cR M (.dT (iU f))) b\o:=λb o n e=>by rw[ak n];rwa[e]
  let h0:cq A.aJ A.aF (upd H c.aQ (.cR M (.dT (iU f)))) x r c gs ag W hd f O:=h.keep (λb o U e=>Z b o (λz=>nQ (by cbv)) e) (λb xs e=>Z b _ (bW e I (by cbv)) e)
  refine RG (d:=c.aQ) (o:=M) (kvs:=iU f) (λi R B=>∃j a v v2 Y,R=#v[↑x,.int (m:Int),v2,Y]/\B c.aQ\.cR M (.dT (iU f))/\(∀b o,b≠c.aQ->¬O b->H b\o->B b\o)/\(∀b,O b->v b)/\(∀b,v b->O b\/H b=none)/\cq A.aJ A.aF B x r c j a W hd f v/\CI S (bs++gG (f.take i) m) j a W Ex none/\⇑a<=⇑(bs++gG (f.take i) m))
   ⟨gs,ag,O,none,none,2,ah,λb o n _ e=>Z b o n e,λb z=>z,λb z=>.inl z,h0,by rw[List.take_zero];show CI S (bs++[]) _ _ _ _ _;rw[ahl];rwa[ci],by cbv⟩ (λi R B _ q0=>by let⟨_,_,_,_,_,_,q,_⟩:=q0;rwa[q]) ?_ ?_
  ·rintro i kv R B t kp hkv nt G ⟨j,a,v,v2,Y,rfl,V,X,F,g,c5,u,l⟩;let⟨p,hp,rfl⟩:=TK hkv;let hi:=(agM.mp hp).1
   replace G:B kp\(.tup (ao p.1)):=by
    rw[G];show some (HO.tup (((p.1.map (Sum.inl:Int->Key)).map kV)))=_;rw[ahE];rfl
   let C:=aq.upd (o:=.tup [↑kp,.int (p.2:Int)]) nt;erw[t,12,bG.of ah,21121122];generalize upd B t (.tup [↑kp,.int (p.2:Int)])=H6 at C ⊢;let U:=hfp p (agK hp);let bl:=qk m (f.take i);rw[ahr]at bl;let c6:=c5.same C;rwa[⟨12,x,c.dx,12,c6.ins,fu ⋯,121212,x,r,kp,c,S,_,j,a,W,hd,f,v,Ex,p.2,m,p.1,2,c6,u,C^G,U.1,U.2,hm,by rw[agN];ext,l,λgs7 ag7 O7 H7 L le7 nw7 c7 N J=>?_⟩];let D:¬v c.aQ:=λz=>(g _ z).elim nQ λq=>by cbv
   rw[ahJ,<-I0 hp]at N J;rwa[⟨gs7,ag7,O7,112,L _ _ D (C^V),λb o n1 n2 e=>L b o (λz=>(g b z).elim n2 λq=>by cbv) (C^X b o n1 n2 e),λb z=>le7 b (F b z),λb z=>?_,c7,N,J⟩];rcases nw7 b z with w|w
   ·rwa[g b w]
   ·by_cases y:O b
    ·rwa[.inl y]
    ·rwa[.inr ?_]
     cases e:H b with
     |none=>rfl
     |some o=>
      by_cases y2:b=c.aQ
      ·rw[y2,C^V]at w;ext w
      ·rw[C^X b o y2 y e]at w;ext w
  ·rintro R B ⟨j,a,v,v2,Y,rfl,V,X,F,g,c5,u,l⟩;rw[show ⇑(iU f)=⇑f by unfold iU;cbv,aid]at u l;let D:¬v c.aQ:=λz=>(g _ z).elim nQ λq=>by cbv
   rwa[⟨M,V,k j a v _ (λb o n e=>?_) F g (c5.keep (λb o U e=>[ak (λz=>D (by cbv))]▸e) (λb xs e=>[ak (λz=>by cbv)]▸e)) u l⟩];by_cases z:b=c.aQ
   ·rw[z,ah,<-I,<-z];rwa[e]
   ·rw[ak z];rwa[X b o z n e]
noncomputable def Ny (r:Zs):List (Str×V):=[("rooms",↑r)]
noncomputable def Nz (r q:Zs):List (Str×V):=[("rooms",↑r),("rules",↑q)]
noncomputable def NB (r q g:Zs):List (Str×V):=[("rooms",↑r),("rules",↑q),("goings",↑g)]
noncomputable def NC (r q g e:Zs):List (Str×V):=[("rooms",↑r),("rules",↑q),("goings",↑g),("agenda",↑e)]
noncomputable def ND (r q g e w:Zs):List (Str×V):=[("rooms",↑r),("rules",↑q),("goings",↑g),("agenda",↑e),("waiting",↑w)]
noncomputable def TN (r q g e w:Zs)(n:Int):List (Str×V):=[("rooms",↑r),("rules",↑q),("goings",↑g),("agenda",↑e),("waiting",↑w),("heard",.int n)]
def cz2 (r q:Zs):bL "rules" ↑q (Ny r)=Nz r q:=dM (by kernel_rfl)
def cz3 (r q g:Zs):bL "goings" ↑g (Nz r q)=NB r q g:=dM (by kernel_rfl)
def cz4 (r q g e:Zs):bL "agenda" ↑e (NB r q g)=NC r q g e:=dM (by kernel_rfl)
def cz5 (r q g e w:Zs):bL "waiting" ↑w (NC r q g e)=ND r q g e w:=dM (by kernel_rfl)
def cz6 (r q g e w:Zs)(n:Int):bL "heard" (.int n) (ND r q g e w)=TN r q g e w n:=dM (by kernel_rfl)
def kat_nil {k:Zs}(h:H k\.dK []):dS H k (λ_=>none) (λ_ _=>none) (λ_ _ _=>false):=⟨⟨[],h,by simp,(λa z=>by ext z),λ_=>rfl⟩,(λ_ _ z=>by ext z),(λ_ _ _ z=>by ext z),(λ_ _ _ z=>by ext z),(λ_ _ _ z=>by ext z),(λ_ _ z=>by ext z),(λ_ _ _ z=>by ext z),(λ_ _ _ z=>by ext z),(λ_ _ _ _ z=>by ext z),(λ_ _ _ _ _ z=>by ext z)⟩
noncomputable def dh (S:RS):Zh:=(List.range S.made).filter λc=>decide (S.aU[c]?\c)
def dD (a:List (Zg×Nat))(st:Zh):List (Nat×Zg×Nat):=st.flatMap λm=>gG a m
def fN (a:Za3)(b i:Nat):List (Nat×Zg×Nat):=(List.range i).flatMap λj=>nz (b+ j) (a.getD j []) 0
theorem lV (a:List (Zg×Nat)):∀st:Zh,⇑(dD a st)<=⇑st* ⇑a
 |[]=>ahg _
 |m::st=>by
  have:=lV a st;have:=qk m a;unfold dD at *;rw[List.flatMap_cons,agN,ahi,ajo];ext
theorem sG (a:Za3)(b:Nat):∀i,⇑(fN a b i)<=i
 |0=>agQ _
 |i+ 1=>by
  have:=sG a b i;have:=Nx (b+ i) (a.getD i []) 0;unfold fN at *;rw[aib,ajQ,agN];show _+ ⇑(nz _ _ 0++[])<=_;rw[ahl];ext
noncomputable def sH:bI:=λ_ _ _=>false
def TQ:CI S [] [] [] sH fT none:=⟨2,(λn g e=>by simp at e),(λn b e=>by simp at e),(λn z=>by ext z),(λr s n z=>by ext z),λn=>⟨(0,0),(0,0),(λr s z=>by ext z),λg e=>by simp at e⟩,(λb z=>by ext z)⟩
inductive I8 (CR CG CC:Zs) (vs:Zb) (H:Hp) (Q:VK) (E_:XK):Prop
 |mk (x dx r ru pa:Zs) (S:RS) (a:RA) (R:Za2) (rs ps:Za3):vs=[↑x,↑r,↑ru,↑pa]->H x\.ins CC dx []->ay CR H r S a->Good S [] R->0<S.made->S.made<=2000->¬a.own r x->bR H ru rs->bR H pa ps->⇑rs<=400->⇑ps<=400->(∀u∈rs++ps,⇑u<=1000/\∀z∈u,-1000<=z/\z<=1000)->(∀fp,yg rs fp->S.made* ⇑fp+ ⇑ps<50000)->(∀c gs ag fp O H',(∀b o,H b\o->b≠x->H' b\o)->cq CG CC H' x r c gs ag sH ⇑S.aZ fp O->H' c.aQ\.dT (iU fp)->(∀b,O b->b=x\/H b=none)->CI S (dD fp (dh S)++fN ps ⇑rs ⇑ps) gs ag sH fT none->⇑ag<=⇑(dD fp (dh S)++fN ps ⇑rs ⇑ps)->yg rs fp->Q .non H')->I8 CR CG CC vs H Q E_
def qQ (T:Txt K mg A):T.e8.Ok mg P w base 5 (I8 A.az A.aJ A.aF):=by
 rwa[T.e8.on fm (λcu AA outer s H vs Q E hr h=>?_)]
 ·let⟨x,B,r,ru,pa,S,a,R,rs,ps,rfl,hx,hR,gd,hm0,hm,Cu,I9,Ja,wO,oM,XI,LZ,k⟩:=h
  refine⟨_,(aj (bY (pv 0) (pv 1) rfl)
   (aj (bY (pv 0) (pc T.mP (wV T) hr (ae (pv 2) ai)) rfl)
   (aj (bY (pv 0) (bT ai) rfl)
   (aj (bY (pv 0) (bT ai) rfl)
   (aj (bY (pv 0) fP rfl)
   (aj (bY (pv 0) (bq bz rfl T.dB ahu (ae (aH (pv 1) rfl) ai)) rfl)
   (aj (ck ahe rfl (cP (vQ (pv 1) (aI T) T.eR (gj T) hr)) (di 4 fm.nd)
    (av (aV (pm (pv 0) (aL T) T.fk (ja T) hr (ae (pv 4) ai)))))
   (av (ck ahe rfl (HF rfl T.kK (pv 3) (bq bz rfl T.dB ahu (ae (pv 2) ai))) (kM rfl (cF (di 5 fm.nd) (cF (di 6 fm.nd) jr)))
    (av (aV (pm (pv 0) (aL T) T.jc (m4 T) hr (ae (pv 5) (ae (pv 6) (ae au ai))))))))))))))),?_⟩
  rwa[AQ ?_];intro M0 y7 nU lJ jG hM fx;let⟨TR,NF,EG⟩:=id I9;let⟨G,NK,TV⟩:=id Ja
  let st:∀{H0:Hp} {fs gs:List (Str×V)},H0 x\.ins A.aF B fs->(∀b o,H b\o->b≠x->H0 b\o)->upd H0 x (.ins A.aF B gs) x\.ins A.aF B gs/\(∀b o,H b\o->b≠x->upd H0 x (.ins A.aF B gs) b\o)/\(∀b o,b≠x->H0 b\o->upd H0 x (.ins A.aF B gs) b\o)/\∀b,upd H0 x (.ins A.aF B gs) b=none->H0 b=none:=λ_ h=>⟨ah,λb o e n=>[ak n]▸h b o e n,λb o n e=>[ak n]▸e,λb z=>by
   by_cases e:b=x
   ·rw[e,ah]at z;ext z
   ·rw[ak e]at z;rwa[z]⟩
  let o0:∀b o,H b\o->b≠x->H b\o:=λb o e _=>e
  let TX:ru≠x:=bW NF hx (by cbv);let TY:pa≠x:=bW NK hx (by cbv);erw[1212,x,_,B,12,hx,aL T,T.fi,(by show 0<1000;decide)];rw[show bL "rooms" ↑r []=Ny r from rfl];obtain⟨x1,o1,-,n1⟩:=st (gs:=Ny r) hx o0;generalize upd H x (.ins A.aF B (Ny r))=H1 at x1 o1 n1 ⊢;let XJ:bR H1 ru rs:=⟨TR,o1 _ _ NF TX,EG.1,λi q u e1 e2=>o1 _ _ (EG.2 i q u e1 e2) (bW (EG.2 i q u e1 e2) hx (by cbv))⟩;rwa[⟨12,ru,rs,2,XJ,3,λq d H2 s2 nq hq T1=>?_⟩];let x2:=s2^x1;let o2:∀b o,H b\o->b≠x->H2 b\o:=λb o e n=>s2^o1 b o e n
  let n2:∀b,H2 b=none->H b=none:=λb z=>n1 b (same_none s2 z)
  erw[12,x,_,B,12,x2,aL T,T.BG,(by show 1<1000;decide)];rw[cz2];let Jb:q≠x:=bW hq x2 (by cbv);let⟨x3,o3,k3,n3⟩:=st (gs:=Nz r q) x2 o2;generalize upd H2 x (.ins A.aF B (Nz r q))=Y at x3 o3 k3 n3 ⊢;let q3:=k3 _ _ Jb hq;rwa[⟨ahg _,λg ng=>?_⟩];let M:=aq.upd (o:=.lst []) ng;let g4:upd Y g (.lst []) g\(.lst []):=ah;let n4:∀b,upd Y g (.lst []) b=none->H b=none:=λb z=>n2 b (n3 b (same_none M z))
  let ng0:=n2 g (n3 g ng);generalize upd Y g (.lst [])=H4 at M g4 n4 ⊢;erw[12,x,_,B,12,M^x3,aL T,T.jF,(by show 2<1000;decide)];rw[cz3];let⟨x5,o5,k5,n5⟩:=st (gs:=NB r q g) (M^x3) (λb o e n=>M^o3 b o e n);generalize upd H4 x (.ins A.aF B (NB r q g))=H5 at x5 o5 k5 n5 ⊢;let Jc:g≠x:=bW g4 (M^x3) (by cbv);let q5:=k5 _ _ Jb (M^q3);let g5:=k5 _ _ Jc g4;rwa[⟨ahg _,λe ne=>?_⟩];let s6:=aq.upd (o:=.lst []) ne;let e6:upd H5 e (.lst []) e\(.lst []):=ah;let n6:∀b,upd H5 e (.lst []) b=none->H b=none:=λb z=>n4 b (n5 b (same_none s6 z))
  let Jd:=n4 e (n5 e ne);let XM:g≠e:=ax g5 ne;generalize upd H5 e (.lst [])=H6 at s6 e6 n6 ⊢;erw[12,x,_,B,12,s6^x5,aL T,T.kZ,(by show 3<1000;decide)];rw[cz4];let⟨x7,o7,k7,n7⟩:=st (gs:=NC r q g e) (s6^x5) (λb o e n=>s6^o5 b o e n);generalize upd H6 x (.ins A.aF B (NC r q g e))=H7 at x7 o7 k7 n7 ⊢;let vN:e≠x:=bW e6 (s6^x5) (by cbv);let q7:=k7 _ _ Jb (s6^q5);let g7:=k7 _ _ Jc (s6^g5);let e7:=k7 _ _ vN e6;rwa[λw nw=>?_]
  let X:=aq.upd (o:=.dK []) nw;let w8:upd H7 w (.dK []) w\(.dK []):=ah;let n8:∀b,upd H7 w (.dK []) b=none->H b=none:=λb z=>n6 b (n7 b (same_none X z))
  let nw0:=n6 w (n7 w nw);generalize upd H7 w (.dK [])=H8 at X w8 n8 ⊢;erw[12,x,_,B,12,X^x7,aL T,T.jZ,(by show 4<1000;decide)];rw[cz5];let⟨x9,o9,k9,n9⟩:=st (gs:=ND r q g e w) (X^x7) (λb o e n=>X^o7 b o e n);generalize upd H8 x (.ins A.aF B (ND r q g e w))=H9 at x9 o9 k9 n9 ⊢;let T2:w≠x:=bW w8 (X^x7) (by cbv);let R9:ay A.az H9 r S a:=hR.keep (λb o hb e=>o9 b o e (λz=>Cu (by cbv))) (λb xs e=>o9 b _ e (bW e hx (by cbv)));erw[12,r,_,a.dx,112,R9.ins,aI T,T.sx,sZ^_,a.aN,12,.inl (aD.of R9.hN),12,x,_,B,12,x9,aL T,T.mW,(by show 5<1000;decide)];rw[aM,b6,cz6];let⟨xa,oa,ka,na⟩:=st (gs:=TN r q g e w ⇑S.aZ) x9 o9;generalize upd H9 x (.ins A.aF B (TN r q g e w ⇑S.aZ))=Ha at xa oa ka na ⊢;let up:∀b o,b≠x->H8 b\o->Ha b\o:=λb o n z=>ka b o n (k9 b o n z)
  let cA:cq A.aJ A.aF Ha x r ⟨B,q,g,e,w⟩ [] [] sH ⇑S.aZ d (λb=>b=x\/b=g\/b=e\/b=w):=by
   rwa[⟨xa,⟨[],up _ _ Jc (X^g7),2,(λi v z=>by simp at z),(λi v u z=>by simp at z),(λi j p z=>by simp at z)⟩,up _ _ vN (X^e7),⟨11,kat_nil (up _ _ T2 w8),⟨λb hb=>?_,(λ_ _ z=>by ext z),(λ_ _ _ z=>by ext z),(λ_ _ _ z=>by ext z)⟩⟩,XM,.inl rfl,.inr (.inl rfl),.inr (.inr (.inl rfl)),λb hb=>?_⟩]
   ·rcases hb with z|⟨_,z⟩|⟨_,_,z⟩
    ·rwa[.inr (.inr (.inr z))]
    ·ext z
    ·ext z
   ·rcases hb with z|z|z|z
    ·rw[z];rwa[_,xa,(by cbv),(by cbv),(by cbv),by cbv]
    ·rw[z];rwa[_,up _ _ Jc (X^g7),(by cbv),(by cbv),(by cbv),by cbv]
    ·rw[z];rwa[_,up _ _ vN (X^e7),(by cbv),(by cbv),(by cbv),by cbv]
    ·rw[z];rwa[_,up _ _ T2 w8,(by cbv),(by cbv),(by cbv),by cbv]
  let qa:=up _ _ Jb (X^q7)
  let Oa:∀b,(b=x\/b=g\/b=e\/b=w)->b=x\/H b=none:=λb z=>by
   cbv
  let Ra:ay A.az Ha r S a:=hR.keep (λb o hb e=>oa b o e (λz=>Cu (by cbv))) (λb xs e=>oa b _ e (bW e hx (by cbv)));let nA:∀b,Ha b=none->H b=none:=λb z=>n8 b (n9 b (na b z))
  obtain⟨O,eO⟩:∃O:Zs->Prop,O=λb=>b=x\/b=g\/b=e\/b=w:=⟨12⟩
  rw[<-eO]at cA;replace Oa:∀b,O b->b=x\/H b=none:=by rw[eO];rwa[Oa]
  clear eO;generalize ec:(⟨B,q,g,e,w⟩:KA)=c at cA;let qa:Ha c.aQ\(.dT (iU d)):=by rw[<-ec];rwa[qa]
  clear g7 e7 w8 x9 o9 k9 n9 X n8 x7 o7 k7 n7 s6 n6 e6 x5 o5 k5 n5 M g4 n4 x3 o3 k3 n3 x1 o1 n1 x2 o2 n2 up ka q7 q5 q3 g5 xa na R9 nw0 Jd ng0 nw ne ng XM vN Jc T2 hq nq s2 Jb XJ;let hfb:∀p∈d,⇑p.1<=1000/\∀z∈p.1,-1000<=z/\z<=1000:=λp hp=>XI _ (ahd _ (agK (T1.a p hp)))
  let LZ:=LZ d T1;rwa[⟨12,r,a.dx,12,Ra.ins,cK _ _ _ ⋯,r,S,a,2,Ra,gd.wf,3,λl nl=>?_⟩];let sl:⇑(dh S)<=S.made:=ag3 (aiV _ _) (by cbv);let stm:∀m∈dh S,m<S.made:=λm hm=>ahG.mp (aiy.mp hm).1
  let XQ:⇑(dh S)* ⇑d<=S.made* ⇑d:=air _ sl;let sb:=aq.upd (o:=.lst (ao (nI (dh S)))) nl;let hl:upd Ha l (.lst (ao (nI (dh S)))) l\(.lst (ao (nI (dh S)))):=ah;show ∃a_1,_;rw[show (List.range S.made).filter (λc=>decide (S.aU[c]?\c))=dh S from rfl];let nl0:=nA l nl;let nlO:¬O l:=λz=>by let⟨o,e,_⟩:=cA.th l z;cbv
  generalize upd Ha l (.lst (ao (nI (dh S))))=Hb at sb hl ⊢;let cB:=cA.same sb;erw[l,2,⟨_,aD.of hl⟩]
  refine eX (K:=K) (a:=l) (xs:=ao (nI (dh S))) (λi σ H2=>∃U J O2 v4,σ=#v[↑x,↑r,↑ru,↑pa,v4,none,none]/\(∀b o,¬O b->Hb b\o->H2 b\o)/\(∀b,O b->O2 b)/\(∀b,O2 b->O b\/Hb b=none)/\cq A.aJ A.aF H2 x r c U J sH ⇑S.aZ d O2/\CI S (dD d ((dh S).take i)) U J sH fT none/\⇑J<=⇑(dD d ((dh S).take i)))
   ⟨[],[],O,none,2,λ_ _ _ e=>e,λb z=>z,λb z=>.inl z,cB,TQ,agQ _⟩ (λi σ H2 _ q0=>by let⟨_,_,_,_,_,f,_⟩:=q0;rwa[aD.of (f _ _ nlO hl)]) ?_ ?_
  ·rintro i v σ H2 hi ⟨U,J,O2,v4,rfl,f2,Nw,Cq,c2,Ck,Je⟩;let⟨z,rfl,hz⟩:=cw hi
   obtain⟨m,T3,rfl⟩:∃m,(dh S)[i]?\m/\z=(m:Int):=by
    unfold nI at hz
    cbv
   let I:=(agM.mp T3).1;let nQ:¬O c.aQ:=cA.IL qa;let q2:=f2 _ _ nQ (sb^qa);let ll:=lV d ((dh S).take i);rw[ahr,aji ∅]at ll;let li:(i+ 1)* ⇑d<=⇑(dh S)* ⇑d:=air _ I;rw[ajo]at li;rwa[⟨12,x,c.dx,12,c2.ins,fu ⋯,12,x,r,c,S,_,U,J,sH,⇑S.aZ,d,O2,fT,m,2,c2,q2,Ck,hfb,stm m (agK T3),3,Je,λD C O3 Y b3 XH N c3 L F=>?_⟩]
   let es:dD d ((dh S).take (i+ 1))=dD d ((dh S).take i)++gG d m:=by
    unfold dD;rw[aim,T3,ajQ];show _++(gG d m++[])=_;rw[ahl]
   rw[<-es]at L F;rwa[⟨D,C,O3,12,λb o n e=>b3 b o (λz=>(Cq b z).elim n λy=>by cbv) (f2 b o n e),λb z=>XH b (Nw b z),λb z=>?_,c3,L,F⟩];rcases N b z with y|y
   ·rwa[Cq b y]
   ·by_cases y2:O b
    ·rwa[.inl y2]
    ·rwa[.inr ?_]
     cases e:Hb b with
     |none=>rfl
     |some o=>rw[f2 b o y2 e]at y;ext y
  rintro σ H2 ⟨U,J,O2,v4,rfl,f2,Nw,Cq,c2,Ck,Je⟩;rw[aM,b6,aid]at Ck Je;let ll:=lV d (dh S);let T4:Hb pa\(.lst (G.map V.ref)):=sb^oa _ _ NK TY;let Z:∀{b o},H b\o->b≠x->¬O b:=λ{b o} e n z=>(Oa b z).elim n λy=>by cbv
  let aaq:=f2 _ _ (Z NK TY) T4;let aar:=f2 _ _ (Z NF TX) (sb^oa _ _ NF TX);let lr:⇑(TR.map V.ref)=⇑rs:=by rw[agO,EG.1]
  erw[1212,ru,12,.inl (aD.of aar),pa,(⇑(TR.map V.ref):Int),2233,⟨_,aD.of aaq⟩];rw[lr]
  refine Fx (K:=K) (a:=pa) (xs:=G.map V.ref) (λi σ Y=>∃D C O3 v5 v6,σ=#v[↑x,↑r,↑ru,↑pa,v4,v5,v6]/\(∀b o,¬O b->Hb b\o->Y b\o)/\(∀b,O3 b->O b\/Hb b=none)/\cq A.aJ A.aF Y x r c D C sH ⇑S.aZ d O3/\CI S (dD d (dh S)++fN ps ⇑rs i) D C sH fT none/\⇑C<=⇑(dD d (dh S)++fN ps ⇑rs i))
   ⟨U,J,O2,none,none,2,f2,Cq,c2,by show CI S (_++[]) _ _ _ _ _;rw[ahl];rwa[Ck],by show _<=⇑(_++[]);rw[ahl];rwa[Je]⟩ (λi σ Y _ q0=>by let⟨_,_,_,_,_,_,f,_⟩:=q0;rwa[aD.of (f _ _ (Z NK TY) T4)]) ?_ ?_
  ·rintro i v σ Y t hi nt ⟨D,C,O3,v5,v6,rfl,f3,N,c3,L,F⟩
   let I:i<⇑G:=by
    have:=(agM.mp hi).1;rw[agO]at this;rwa[this]
   let T5:i<⇑ps:=by rw[<-TV.1];rwa[I]
   let g1:G[i]?\(G[i]'I):=agJ I
   let g2:ps[i]?\(ps[i]'T5):=agJ T5
   rw[ag0,g1]at hi;obtain rfl:V.ref (G[i]'I)=v:=Za0 hi;generalize G[i]'I=wa at g1;generalize ps[i]'T5=u at g2;let lh:=TV.2 i wa u g1 g2;let XS:wa≠x:=bW lh hx (by cbv);let aas:=f3 _ _ (Z lh XS) (sb^oa _ _ lh XS);let M:=aq.upd (o:=.tup [.int ((⇑rs:Int)+ (i:Int)),↑wa]) nt;erw[t,12,bG.of ah,21121122];generalize upd Y t (.tup [.int ((⇑rs:Int)+ (i:Int)),↑wa])=H4 at M ⊢;let c4:=c3.same M;let pl:=sG ps ⇑rs i;let XT:=XI u (agS _ (agK g2));rwa[⟨12,x,c.dx,12,c4.ins,fu ⋯,1212,x,r,wa,c,S,_,D,C,sH,⇑S.aZ,d,O3,fT,⇑rs+ i,(0),u,2,c4,L,M^aas,XT.1,XT.2,hm0,by rw[agN];ext,F,λgs5 Tz O5 H5 b5 le5 nw5 c5 Jf XU=>?_⟩]
   let ep:fN ps ⇑rs (i+ 1)=fN ps ⇑rs i++nz (⇑rs+ i) u 0:=by
    unfold fN;rw[aib,ajQ];show _++(nz (⇑rs+ i) (ps.getD i []) 0++[])=_;rw[ahl,agT,g2];rfl
   rw[ahJ,<-ep]at Jf XU;rwa[⟨gs5,Tz,O5,112,λb o n e=>b5 b o (λz=>(N b z).elim n λy=>by cbv) (M^f3 b o n e),λb z=>?_,c5,Jf,XU⟩];rcases nw5 b z with y|y
   ·rwa[N b y]
   ·by_cases y2:O b
    ·rwa[.inl y2]
    ·rwa[.inr ?_]
     cases e:Hb b with
     |none=>rfl
     |some o=>rw[M^f3 b o y2 e]at y;ext y
  ·rintro σ Y ⟨D,C,O3,v5,v6,rfl,f3,N,c3,L,F⟩;rw[agO,TV.1]at L F;rwa[k c D C d O3 Y (λb o e n=>f3 b o (Z e n) (sb^oa b o e n)) c3 (f3 _ _ (cA.IL qa) (sb^qa)) (λb z=>?_) L F T1];rcases N b z with y|y
   ·rwa[Oa b y]
   ·rwa[.inr (nA b (same_none sb y))]
def Cv {rs:Za3}{a:List (Zg×Nat)}(h:yg rs a):⇑a<=⇑rs:=by
 let c:(a.map (·.2)).Nodup:=by
  have:=h.n;unfold List.Nodup at this ⊢;rw[aiv]at this ⊢
  exact this.imp_of_mem λ{p q} b d n e=>n (by
   let i:=h.a p b;let g:=h.a q d
   cbv)
 have:=lO ⇑rs _ c λn f=>by
  let⟨p,b,rfl⟩:=ahO.mp f;rwa[(agM.mp (h.a p b)).1]
 rw[agO]at this;rwa[this]
def wX {b:Nat×Zg×Nat}{w:Nat}(h:b∈nz w l m):b=(w,l,m)/\l≠[]:=by
 unfold nz at h
 cbv
def Gq {w:Nat}(h:l≠[]):(w,l,m)∈nz w l m:=by
 unfold nz;cbv
def PZ {c:List (Zg×Nat)}{st:Zh}{a:Za3}{b:Nat×Zg×Nat}(h:b∈dD c st++fN a n ⇑a):(∃p∈c,b.1=p.2/\b.2.1=p.1/\b.2.2∈st)\/∃j u,a[j]?\u/\b=(n+ j,u,0):=by
 rcases agX.mp h with q|q
 ·let⟨m,d,q⟩:=ais.mp q;let⟨p,e,q⟩:=ais.mp q;let⟨rfl,_⟩:=wX q;rwa[.inl ⟨p,e,22,d⟩]
 ·let⟨j,f,q⟩:=ais.mp q;let⟨rfl,_⟩:=wX q
  cbv
def ends {bs:List (Nat×Zg×Nat)}{f:Zf}{W:bI}(ci:CI S bs f [] W fT none)(x:Good S [] R){b:Nat×Zg×Nat}(m:b∈bs)(a:S.aw b.2.2=b.2.2):HC S b.2.2 b.2.1:=by
 let⟨n,d⟩:=ahF m;let B:n<⇑f:=by rw[ci.len];rwa[(agM.mp d).1]
 cases q:f[n]? with
 |none=>cbv
 |some y=>
  cases y with
  |none=>
   rcases ci.de n b q (by cbv) d with z|z
   ·rwa[absurd a z]
   ·rwa[.inl z]
  |some g=>
   let⟨e,c,z⟩:=ci.al n g q;rw[d]at e;obtain rfl:=Za0 e;rcases z with z|z|⟨lt,t,p⟩
   ·ext z
   ·ext z
   ·let⟨v,_,j,_,_,_,_,f1⟩:=ci.en _ _ _ t;let⟨o,_,k,_,_,_,_,f2⟩:=ci.en _ _ _ p;let j:v=g.front:=∅
    let k:o=g.bu:=∅
    subst j k;rcases f1 with ⟨r,u⟩|f1
    ·rcases f2 with ⟨s,l⟩|f2
     ·let i:=c.wf;let h:=c.wr;let a:S.aw g.start=g.start:=a;rw[a,r]at i;rw[a,s]at h;rwa[.inr ⟨g.first,g.last,g.front,g.bu,g.z1,-g.z2,lt,Gg.qy (by have:=c.ll;omega),Gg.at2 c.ll,i,u,h,[aiF]▸l⟩]
     ·rwa[f2.elim]
    ·rwa[f1.elim]
inductive P0 (CR CG CC:Zs) (vs:Zb) (H:Hp) (Q:VK) (E_:XK):Prop
 |mk (r ru pa:Zs) (S:RS) (a:RA) (R:Za2) (ks:Zg) (B:Nat) (rs ps:Za3):vs=[↑r,↑ru,↑pa]->iW CR H r S a R ks B->0<S.made->B<800000->bR H ru rs->bR H pa ps->⇑rs<=400->⇑ps<=400->S.made* ⇑rs+ ⇑ps<=700->(∀u∈rs++ps,⇑u<=1000/\∀z∈u,(-1000<=z/\z<=1000)/\z∈ks/\-z∈ks)->(∀S' a' R' B' H',(∀b o,¬a.own r b->H b\o->H' b\o)->iW CR H' r S' a' R' ks B'->(∀b,a'.own r b->a.own r b\/H b=none)->(∀a z b,R a z b->R' a z b)->S'.made=S.made->S'.L=S.L->Tr (rs++ps) ⇑rs S S'->uJ rs ps S'->B'<=B+ 700->Q .non H')->P0 CR CG CC vs H Q E_
noncomputable def eK (z:Int):Int:=if z > 0 then 2* z - 2 else -2* z - 1
def Jg (k:Nat):eK (M12.st k)=k:=by
 unfold eK M12.st;by_cases h:k % 2=0
 ·rw[ahf h,ahf ∅];ext
 ·rw[ahc h,ahc ∅];ext
def yj (h:eK z=eK y):z=y:=by
 unfold eK at h;split at h <;> split at h <;> ext
def P1:Sp:=λa H Q _=>∃z:Int,a=[.int z]/\Q (.int (eK z)) H
noncomputable def pz (l:Zg):V:=(l.head?.map V.int).getD .non
inductive T6 (C:Zs) (vs:Zb) (H:Hp) (Q:VK) (E_:XK):Prop
 |mk (r:Zs) (S:RS) (a:RA) (c:Nat):vs=[↑r,.int c]->ay C H r S a->c<⇑S.gaps->Q (pz (S.gap c)) H->T6 C vs H Q E_
def Du (T:Txt K mg A):T.mQ.Ok P w base 1 P1:=by
 rwa[T.mQ.on Dm (λb e a s H f Q E d h=>?_) (len:=by rintro _ _ _ _ ⟨z,rfl,_⟩;rfl)]
 ·let⟨z,rfl,k⟩:=h
  refine⟨_,(aj (bH (aX sP (pv 0) au (aY _))
   (av (bh (aK g6 (aK iz au (pv 0)) au)))
   bp)
   (av (bh (aK g6 (aK iz (fY eJ au) (pv 0)) au)))),?_⟩
  rwa[iC ?_];intro c;erw[12112212];unfold eK at k;rwa[bU (λh=>?_) (λh=>?_)]
  ·rw[ahf (ahq h)]at k;rwa[121122,.inl ⟨44⟩,1122,k]
  ·rw[ahc (λq=>h (ahp q))]at k;rwa[12121122,.inl ⟨44⟩,1122,k]
def iF (T:Txt K mg A):T.fJ.Ok mg P w base 1 (T6 A.az):=by
 rwa[T.fJ.on k8 (λB G m s H J Q E I h=>?_)]
 ·let⟨r,S,a,c,rfl,h,y,k⟩:=h
  erw[_,(aj (DZ (ck ahe rfl (VA (bC bF (aH (pv 0) rfl) (pv 1) (λ_ _=>rfl))) (di 2 k8.nd)
   (av (bh (pv 2)))))
   (av (bh dm)))]
  rwa[iC ?_];intro C;let F:=wN y;let⟨p,u,n⟩:=h.rG.at F;erw[p,.dK (gK (S.gap c)),n,True.intro];rwa[⟨12,r,_,a.dx,112,h.ins,aI T,T.sv,sY^_,12,a.aG,11122,aD.of h.hG,dC u,p,gK (S.gap c),2,n,λo=>?_⟩]
  let back:upd (upd H p (.cR o (.dK (gK (S.gap c))))) p (.dK (gK (S.gap c)))=H:=by
   rw[N7]
   funext b
   by_cases t:b=p
   ·rw[t,ah,n]
   ·rw[ak t]
  rwa[RD (d:=p) (o:=o) (kvs:=gK (S.gap c)) (λi j g=>j=#v[↑r,.int c,none]/\g=upd H p (.cR o (.dK (gK (S.gap c))))/\i=0) ⟨222⟩ (λi j g _ q=>[q.2.1]▸ah) ?_ ?_]
  ·rintro i v j g f ⟨rfl,rfl,rfl⟩
   let e:∃z,(S.gap c).head?\z/\kV v.1=.int z:=by
    unfold gK at f;rw[ag0]at f
    cases q:(S.gap c)[0]? with
    |none=>rw[q]at f;ext f
    |some z=>
     rw[q]at f;erw[z,[List.head?_eq_getElem?]▸q];rw[<-Za0 f];rfl
   let⟨z,D,l⟩:=e;rw[l];erw[12,o,ah];rw[back];have:pz (S.gap c)=.int z:=by unfold pz;rw[D];rfl
   rw[<-this];rwa[k]
  ·rintro j g ⟨rfl,rfl,e⟩;erw[o,ah];rw[back];have:S.gap c=[]:=aie (by unfold gK at e;cbv);let l:pz (S.gap c)=.non:=by rw[this];rfl
   show Q V.non H;rw[<-l];rwa[k]
noncomputable def dZ:Pos:=⟨(167),(29),(167),(57)⟩
def iG:Str:=(PyProof.Rows.envOfC "ByLetters.gap" (aB jV) 0 0 .none).qual++"<lambda>"
def Kp (c:Zs)(H a:Hp):Prop:=∀b u,b≠c->H b\u->a b\u
def Kp.trans (c:Kp a H I)(b:Kp a I J):Kp a H J:=λx u n e=>b x u n (c x u n e)
def Kp.same (b:aq H I):Kp a H I:=λx u _ e=>b x u e
def _root_.Lake.L2.df.same {pos:Pos}(h:df a pos x H)(s:aq H I):df a pos x I:=h.keep λb u e _=>s b u e
def dq (S:RS)(L c:Nat)(z:Int):Prop:=c<S.made/\S.aU[c]?\c/\z∈bA (2* L)/\S.by c z=none
def rk (w c:Nat)(z:Int):Zg:=if w=0 then [(c:Int),eK z] else if w=1 then [eK z,(c:Int)] else [-(c:Int),eK z]
def jf (w:Nat)(S:RS)(L c:Nat)(z:Int):Prop:=dq S L c z/\∀b a,dq S L b a->HT.lexLt (rk w b a) (rk w c z)=false
structure GL (S:RS) (L:Nat):Prop where
 wf:S.Wf
 m:S.made<=100000
 l2:L<=200
 gp:∀c,c<S.made->S.aU[c]?\c->S.gap c=(bA (2* L)).filter λz=>(S.by c z).isNone
inductive j2 (C Pt D:Zs) (w:Nat) (vs:Zb) (H:Hp) (Q:VK) (E_:XK):Prop
 |mk (o dx r:Zs) (S:RS) (a:RA) (L:Nat):vs=[↑o,↑r]->H o\.ins D dx []->ay C H r S a->GL S L->df Pt dZ iG H->((∀c z,¬dq S L c z)->∀H',Kp Pt H H'->df Pt dZ iG H'->Q .non H')->(∀(c:Nat) (z:Int),jf w S L c z->∀t H',Kp Pt H H'->df Pt dZ iG H'->H' t\.tup [.int (c:Int),.int z]->Q ↑t H')->j2 C Pt D w vs H Q E_
noncomputable def cf (S:RS):Zh:=(List.range S.made).filter λc=>decide (S.aU[c]?\c)
def gY:n∈cf S↔n<S.made/\S.aU[n]?\n:=by
 unfold cf;rw[aiy,ahG];simp
def yk (S:RS):(cf S).Pairwise (·< ·):=List.Pairwise.filter _ akd
def V9 (n:Nat):(bA n).Pairwise λa b=>eK a<eK b:=by
 unfold bA;rw[aiv];rwa[List.Pairwise.imp (λh=>?_) (akd (n:=n))];rw[Jg,Jg];ext
def Gr (pw:l.Pairwise λa b=>eK a<eK b){z:Int}(h:l.head?\z):z∈l/\∀y∈l,eK z<=eK y:=by
 cases l with
 |nil=>ext h
 |cons x l=>
  let e:x=z:=Za0 h;subst e;rwa[⟨ag2,λy c=>?_⟩];rcases ag4.mp c with rfl|c
  ·rwa[Int.le_refl _]
  ·rwa[Int.le_of_lt ((List.pairwise_cons.mp pw).1 y c)]
def GL.head (g:GL S n)(hc:m<S.made)(h:S.aU[m]?\m):(∀z,(S.gap m).head?\z->dq S n m z/\∀y,dq S n m y->eK z<=eK y)/\((S.gap m).head?=none->∀y,¬dq S n m y):=by
 let e:=g.gp m hc h
 let mem:∀y,dq S n m y↔y∈S.gap m:=λy=>by
  rw[e,aiy];constructor
  ·rintro ⟨_,_,d,c⟩;rwa[d,by rw[c];rfl]
  ·rintro ⟨d,c⟩;rwa[hc,h,d,by simpa using c]
 let pw:(S.gap m).Pairwise λa b=>eK a<eK b:=by rw[e];rwa[(V9 _).filter _]
 rwa[⟨λz hz=>?_,λi y f=>?_⟩]
 ·let⟨d,c⟩:=Gr pw hz;rwa[(mem z).mpr d,λy f=>c y ((mem y).mp f)]
 cbv
def eM (S:RS)(cs:Zh):Option (Nat×Int):=cs.findSome? λc=>(S.gap c).head?.map λz=>(c,z)
theorem Dv (h:eM S B=none):∀c∈B,(S.gap c).head?=none:=λc a=>by
 unfold eM at h;rw[List.findSome?_eq_none_iff]at h;have:=h c a
 cases q:(S.gap c).head? with
 |none=>rfl
 |some z=>cbv
theorem uj {S:RS}:∀{cs:Zh} {c:Nat} {z:Int},eM S cs\(c,z)->∃i:Nat,cs[i]?\c/\(S.gap c).head?\z/\∀j b:Nat,j<i->cs[j]?\b->(S.gap b).head?=none
 |[],_,_,h=>by ext h
 |x::cs,c,z,h=>by
  unfold eM at h;rw[List.findSome?_cons]at h
  cases q:(S.gap x).head? with
  |some y=>
   rw[q]at h;let h:(x,y)=(c,z):=Za0 h;injection h with d a
   subst d a;rwa[(0),2,q,λj b e=>absurd e (Nat.not_lt_zero _)]
  |none=>
   rw[q]at h;let⟨i,d,a,g⟩:=uj (cs:=cs) h;rwa[⟨i+ 1,d,a,λj b e f=>?_⟩]
   cases j with
   |zero=>rw[<-Za0 f];rwa[q]
   |succ j=>exact g j b ∅ f
inductive EH (C:Zs) (vs:Zb) (H:Hp) (Q:VK) (E_:XK):Prop
 |mk (r l:Zs) (S:RS) (a:RA) (cs:Zh):vs=[↑r,↑l]->ay C H r S a->H l\.lst (ao (nI cs))->(∀c∈cs,c<⇑S.gaps)->(eM S cs=none->Q .non H)->(∀(c:Nat) (z:Int),eM S cs\(c,z)->∀t,H t=none->Q ↑t (upd H t (.tup [.int (c:Int),.int z])))->EH C vs H Q E_
def Dw {cs:Zh}(d:cs[i]?\n)(a:eM S (cs.take i)=none):(∀z,(S.gap n).head?\z->eM S cs\(n,z))/\((S.gap n).head?=none->eM S (cs.take (i+ 1))=none):=by
 let e:cs.take (i+ 1)=cs.take i++[n]:=by rw[List.take_add_one,d];rfl
 constructor
 ·intro z b;let c:cs=cs.take (i+ 1)++cs.drop (i+ 1):=(aiC _ _).symm;unfold eM at a ⊢;rw[c,e,ahJ,List.findSome?_append,a,Option.none_or,ajp,List.findSome?_cons,b];rfl
 ·intro b;unfold eM at a ⊢
  cbv
def uk (T:Txt K mg A):T.mz.Ok P w base 2 (EH A.az):=by
 rwa[T.mz.on oj (λD M m s H N Q E q h=>?_)]
 ·let⟨r,l,S,a,cs,rfl,h,n,o,C,I⟩:=h
  erw[_,(aj (ck ahe rfl (cP (pv 1)) (di 2 oj.nd)
   (aj (bJ 3 oj.nd (pm (pv 0) (aI T) T.fJ (iF T) q (ae (pv 2) ai)))
   (av (bH (aX lY (pv 3) dm (aY _))
    (av (bh (cJ (ae (pv 2) (ae (pv 3) ai)))))
    bp))))
   (av (bh dm)))]
  rwa[iC ?_];intro F;erw[12,l,2,⟨_,aD.of n⟩];rwa[eX (K:=K) (a:=l) (xs:=ao (nI cs)) (λi j f=>∃v k,j=#v[↑r,↑l,v,k]/\f=H/\eM S (cs.take i)=none) ⟨none,none,222⟩ (λi j f _ ⟨111,e,_⟩=>[e]▸aD.of n) ?_ ?_]
  ·rintro i x j f p ⟨v,k,rfl,rfl,d⟩;let⟨z,rfl,u⟩:=cw p
   obtain⟨c,b,rfl⟩:∃c:Nat,cs[i]?\c/\z=(c:Int):=by
    unfold nI at u
    cbv
   let⟨J,B⟩:=Dw b d;erw[12,r,a.dx,12,h.ins,212,r,S,a,c,2,h,o c (agK b)];erw[12212]
   cases g:(S.gap c).head? with
   |none=>
    let e:pz (S.gap c)=.non:=by unfold pz;rw[g];rfl
    rw[e];rwa[some (.int c),some .non,22,B g]
   |some y=>
    let e:pz (S.gap c)=.int y:=by unfold pz;rw[g];rfl
    rw[e];rwa[1212,by show 2<=sizeLine;decide,λt G=>I c y (J y g) t G]
  ·rintro j f ⟨v,k,rfl,rfl,d⟩;rw[aM,b6,aid]at d;rwa[C d]
def Cw {a a' b b':Int}(h:a<a'\/a'=a/\b<=b'):HT.lexLt [a',b'] [a,b]=false:=by
 rw[HT.lL,HT.lL,HT.qp]
 cbv
def yl {b a:Int}(d:HT.lexLt [y,a] [z,b]=false)(c:HT.lexLt [z,b] [y,a]=false):y=z/\a=b:=by
 rw[HT.lL,HT.lL,HT.qp]at d c
 cbv
def FQ {c:Type}{R:c->c->Prop}{l:List c}(pw:l.Pairwise R){i j:Nat}{a b:c}(d:i<j)(e:l[i]?\a)(g:l[j]?\b):R a b:=by
 let⟨h,rfl⟩:=agM.mp e;let⟨f,rfl⟩:=agM.mp g;rwa[List.pairwise_iff_getElem.mp pw i j h f d]
def Cy (g:GL S n)(b:∀c,c∈cf S->c∈B)(h:eM S B=none):∀c z,¬dq S n c z:=λc z a=>(g.head a.1 a.2.1).2 (Dv h c (b c (gY.mpr ⟨a.1,a.2.1⟩))) z a
def um {w:Nat}{cs:Zh}(R:Nat->Nat->Prop)(g:GL S n)(e:∀m,m∈cs↔m∈cf S)(pw:cs.Pairwise R)(s:∀a b,R a b->∀y,HT.lexLt (rk w b y) (rk w a z)=false)(u:∀y,eK z<=eK y->HT.lexLt (rk w m y) (rk w m z)=false)(h:eM S cs\(m,z)):jf w S n m z:=by
 let⟨i,l,p,t⟩:=uj h;let k:=gY.mp ((e m).mp (agK l));let⟨r,v⟩:=(g.head k.1 k.2).1 z p;rwa[⟨r,λd o c=>?_⟩];let⟨j,f⟩:=ahF ((e d).mpr (gY.mpr ⟨c.1,c.2.1⟩));rcases Nat.lt_trichotomy i j with q|q|q
 ·rwa[s m d (FQ pw q l f) o]
 ·cbv
 ·rwa[absurd c ((g.head c.1 c.2.1).2 (t j d q f) o)]
def T7 (g:GL S n)(h:eM S (cf S)\(m,z)):jf 0 S n m z:=
 um (·< ·) g (λ_=>Iff.rfl) (yk S) (λa b d y=>Cw (.inl (by omega))) (λy c=>Cw (.inr ⟨rfl,c⟩)) h
def T8 (g:GL S n)(h:eM S (cf S).reverse\(m,z)):jf 2 S n m z:=
 um (λa b=>b<a) g (λm=>List.mem_reverse) (List.pairwise_reverse.mpr (yk S)) (λa b d y=>Cw (.inl (by omega))) (λy c=>Cw (.inr ⟨rfl,c⟩)) h
def sI (T:Txt K mg A):T.jD.Ok mg P w base 3 (j2 A.az A.eG A.cQ 0):=by
 rwa[T.jD.on BR (λv C f s H G Q E j h=>?_)]
 ·let⟨o,F,r,S,a,L,rfl,D,h,g,i,q,y⟩:=h;erw[_,(av (bh (pc T.mz (uk T) j (ae (pv 1) (ae (vQ (pv 1) (aI T) T.eR (gj T) j) ai)))))];rwa[⟨1212,r,a.dx,12,h.ins,2,r,S,a,2,h,g.wf,g.m,λl B=>?_⟩];let d:aq H (upd H l (.lst (ao (nI (cf S))))):=aq.upd B;rwa[⟨r,l,S,a,cf S,2,h.same d,ah,λc n=>[g.wf.g]▸(gY.mp n).1,λm=>q (Cy g (λ_ h=>h) m) _ (.same d) (i.same d),λc z p t x=>?_⟩];let k:=aq.upd (o:=.tup [.int (c:Int),.int z]) x;rwa[y c z (T7 g p) t _ (.same λb u e=>k b u (d b u e)) ((i.same d).same k) ah]
def qL (T:Txt K mg A):T.iO.Ok mg P w base 3 (j2 A.az A.eG A.cD 2):=by
 rwa[T.iO.on zF (λC J i s H O Q E m h=>?_)]
 ·let⟨o,N,r,S,a,L,rfl,M,h,g,j,B,F⟩:=h;erw[_,(av (bh (pc T.mz (uk T) m (ae (pv 1) (ae (FI rfl rfl T.fe rfl T.F8 (ae (vQ (pv 1) (aI T) T.eR (gj T) m) ai)) ai)))))];rwa[⟨1212,r,a.dx,12,h.ins,2,r,S,a,2,h,g.wf,g.m,λl G=>?_⟩];let p:aq H (upd H l (.lst (ao (nI (cf S))))):=aq.upd G;rwa[⟨l,12,aD.of ah,λn f=>?_⟩];let I:=aq.upd (o:=.lst (ao (nI (cf S))).reverse) f;let d:aq H (upd (upd H l (.lst (ao (nI (cf S))))) n (.lst (ao (nI (cf S))).reverse)):=λb u e=>I b u (p b u e)
  let q:(ao (nI (cf S))).reverse=ao (nI (cf S).reverse):=by unfold ao nI;rw[List.map_reverse,List.map_reverse]
  rwa[⟨r,n,S,a,(cf S).reverse,2,h.same d,by rw[<-q];rwa[ah],λc x=>[g.wf.g]▸(gY.mp (List.mem_reverse.mp x)).1,λv=>B (Cy g (λ_ h=>List.mem_reverse.mpr h) v) _ (.same d) (j.same d),λc z y t D=>?_⟩];let k:=aq.upd (o:=.tup [.int (c:Int),.int z]) D;rwa[F c z (T8 g y) t _ (.same λb u e=>k b u (d b u e)) ((j.same d).same k) ah]
def j6 (S:RS)(cs:Zh):List (Nat×Int):=cs.filterMap λc=>(S.gap c).head?.map λz=>(c,z)
def ym:(n,z)∈j6 S B↔n∈B/\(S.gap n).head?\z:=by
 unfold j6;rw[aj1];constructor
 ·rintro ⟨b,a,e⟩
  cases q:(S.gap b).head? with
  |none=>rw[q]at e;ext e
  |some y=>
   cbv
 cbv
def T9 {cs:Zh}(h:cs.Pairwise (·< ·)):(j6 S cs).Pairwise λp q=>p.1<q.1:=by
 unfold j6;rwa[List.pairwise_filterMap.mpr (h.imp λ{a b} e p d q c=>?_)]
 cases f:(S.gap a).head? with
 |none=>rw[f]at d;ext d
 |some y=>
  cases g:(S.gap b).head? with
  |none=>rw[g]at c;ext c
  |some x=>
   rw[f]at d;rw[g]at c;rw[<-Za0 d,<-Za0 c];rwa[e]
def L0 {cs:Zh}(a:cs[i]?\n):j6 S (cs.take (i+ 1))=j6 S (cs.take i)++((S.gap n).head?.map λz=>(n,z)).toList:=by
 unfold j6;rw[show cs.take (i+ 1)=cs.take i++[n] by rw[List.take_add_one,a];rfl,List.filterMap_append,List.filterMap_cons,List.filterMap_nil];cases (S.gap n).head? <;> rfl
def Ua (g:GL S n)(o:(j6 S (cf S))[i]?\(m,z))(r:∀j d c,(j6 S (cf S))[j]?\(d,c)->eK z<=eK c/\(j<i->eK z<eK c)):jf 1 S n m z:=by
 let⟨t,s⟩:=ym.mp (agK o);let l:=gY.mp t;rwa[⟨((g.head l.1 l.2).1 z s).1,λd c f=>?_⟩];let hd:=g.head f.1 f.2.1
 cases q:(S.gap d).head? with
 |none=>exact absurd f (hd.2 q c)
 |some y=>
  let B:=(hd.1 y q).2 c f;let⟨j,h⟩:=ahF (ym.mpr ⟨gY.mpr ⟨f.1,f.2.1⟩,q⟩);let⟨x,p⟩:=r j d y h;rwa[Cw (a:=eK z) (b:=(m:Int)) (a':=eK c) (b':=(d:Int)) ?_];by_cases e:eK z<eK c
  ·rwa[.inl e]
  ·rwa[.inr ⟨35⟩];rcases Nat.lt_trichotomy i j with k|k|k
   ·have:m<d:=FQ (T9 (yk S)) k o h;ext
   ·cbv
   ·have:=p k;ext
theorem Ub (g:GL S n)(h:j6 S (cf S)=[]):∀c z,¬dq S n c z:=λc z a=>by
 let hd:=g.head a.1 a.2.1
 cases q:(S.gap c).head? with
 |none=>exact hd.2 q z a
 |some y=>
  have:=ym.mpr ⟨gY.mpr ⟨a.1,a.2.1⟩,q⟩
  cbv
def m5 (T:Txt K mg A)(Ct:ki mg base):du P w K mg base (cZ P w) 6 A.nL A.jX ["self","rooms"] (j2 A.az A.eG A.bM 1):=by
 rwa[T.hH.F.okT T.lam.code mZ (λvs H Q E h=>?_) (λAA outer s H vs Q E hr h=>?_)]
 ·let⟨o,dx,r,S,a,L,rfl,_⟩:=h;rfl
 ·let⟨o,dx,r,S,a,L,rfl,ho,h,g,hT,kn,ks⟩:=h
  erw[_,(aj (zp (iy:=2) mZ.nd rfl (Or.inl rfl) (fns:=["rooms"]) (ixs:=[1]) (cl:=_) rfl (cP (vQ (pv 1) (aI T) T.eR (gj T) hr)) (pK rfl rfl ⋯ rfl ⋯ rfl ⋯ ⋯ rfl rfl rfl rfl) (λC s H ex=>(aX lY (pm (pv 1) (aI T) T.fJ (iF T) hr (ae (pv 0) ai)) dm (aY _))) (λC s H ex=>(cJ (ae (pv 0) (ae (pm (pv 1) (aI T) T.fJ (iF T) hr (ae (pv 0) ai)) ai)))))
   (av (bh (Pj (x:="gap") (k:=2) rfl rfl T.MV (pv 2) rfl T.lam.hd rfl rfl Ct hr.Za5 (by ac_rfl) (λ_ _ _ _=>rfl) (λ_ _ _ _ _ _ EG=>xt (Du T) (EG.mono ⋯) rfl T.mQ.m T.mQ.F.kp T.mQ.b .nil gy (ae (bC (Oz (K:=K) rfl) (pv 0) au (λ_ _=>rfl)) ai))))))]
  rwa[iC ?_];intro fx;rwa[⟨12,r,a.dx,12,h.ins,2,r,S,a,2,h,g.wf,g.m,λl hl=>?_⟩];let s1:aq H (upd H l (.lst (ao (nI (cf S))))):=aq.upd hl;let R:upd H l (.lst (ao (nI (cf S)))) l\(.lst (ao (nI (cf S)))):=ah;rw[show ((List.range S.made).filter λc=>decide (S.aU[c]?\c))=cf S from rfl];generalize upd H l (.lst (ao (nI (cf S))))=H1 at s1 R;let h1:=h.same s1;let O:=hT.same s1;let hsl:⇑(cf S)<=S.made:=ag3 (aiV _ _) (by cbv);let hgm:=g.m;let el:⇑(ao (nI (cf S)))=⇑(cf S):=by rw[aM,b6]
  erw[l,2,⟨_,aD.of R⟩];erw[λi m ys H2=>m=⇑(cf S) - i/\i<=⇑(cf S)/\aq H1 H2/\∃d:Zn,ys=d.map V.ref/\⇑d<=i/\Each (λt (p:Nat×Int)=>H2 t\.tup [.int (p.1:Int),.int p.2]) d (j6 S ((cf S).take i)),⟨⇑(cf S),by simp,ahg _,λ_ _ e=>e,[],2,agQ _,2,λi p x e=>by simp at e⟩];rintro i m ys H2 ⟨rfl,hi,G,d,rfl,X,B⟩;let I:=G^R;let h2:=h1.same G;by_cases lG:i<⇑(cf S)
  ·rwa[.inr ⟨jQ (aD.of I) i ∅,[agO]▸agU (ag3 X (show i<=100000 by omega)) ⋯,λx H3 Uc=>?_⟩];let⟨rfl,hx⟩:=iJ (aD.of I) i x H3 ∅ Uc;let⟨z,rfl,hz⟩:=cw hx
   obtain⟨c,XW,rfl⟩:∃c:Nat,(cf S)[i]?\c/\z=(c:Int):=by
    unfold nI at hz
    cbv
   let Z:c<⇑S.gaps:=by rw[g.wf.g];rwa[(gY.mp (agK XW)).1]
   let et:=L0 (S:=S) XW;erw[12,r,a.dx,12,h2.ins,212,r,S,a,c,2,h2,Z,212]
   cases hg:(S.gap c).head? with
   |none=>
    let e:pz (S.gap c)=.non:=by unfold pz;rw[hg];rfl
    rw[e];erw[⇑(cf S) - (i+ 1),32,lG,G,d,23];rw[et,hg];simpa using B
   |some y=>
    let e:pz (S.gap c)=.int y:=by unfold pz;rw[hg];rfl
    rw[e];rwa[⟨1212,r,a.dx,12,h2.ins,212,r,S,a,c,2,h2,Z,by show 2<=sizeLine;decide,λt hnt=>?_⟩];let v:=aq.upd (o:=.tup [.int (c:Int),pz (S.gap c)]) hnt;erw[⇑(cf S) - (i+ 1),32,lG,λb u q=>v b u (G b u q),d++[t],by cbv,by rw[agN,ahX];ext];rw[et,hg];rwa[(B.imp λp x _ _ q=>v^q).snoc ?_];show upd H3 t _ t=_;rw[ah,e]
  ·let e:i=⇑(cf S):=∅
   subst e;rw[aid]at B;rwa[.inl ⟨by rw[<-el];rwa[gR (aD.of I)],[agO]▸ag3 X (ag3 (show ⇑(cf S)<=100000 by omega) ⋯),λD hD=>?_⟩];let v:=aq.upd (o:=.lst (d.map V.ref)) hD;let XX:upd H2 D (.lst (d.map V.ref)) D\(.lst (d.map V.ref)):=ah;generalize upd H2 D (.lst (d.map V.ref))=H3 at v XX;let U:aq H H3:=λb u q=>v b u (G b u (s1 b u q))
   rwa[⟨12,D,d.map V.ref,λj=>eK ((j6 S (cf S)).getD j (0,0)).2,2,aD.of XX,(O.same G).same v,λH4 Y k4=>⟨λj y N=>?_,λe=>?_,λj y N hb=>?_⟩⟩]
   ·let M:j<⇑(j6 S (cf S)):=by rw[<-B.1,<-agO (f:=V.ref)];rwa[(agM.mp N).1]
    let⟨t,J,q⟩:=B.at (agJ M);rw[ag0,J]at N;let e:=Za0 N;subst e
    let q4:H4 t=_:=k4 t _ (λz=>by
     let q3:=v^q;rcases (O.same G).same v with w|⟨_,_,_,_,w,_⟩
     ·rw[z,w]at q3;ext q3
     cbv) (v^q)
    rwa[⟨12,t,11122,bG.of q4,21252⟩]
    cbv
   ·have:d=[]:=List.map_eq_nil_iff.mp e;let e2:j6 S (cf S)=[]:=aie (by rw[<-B.1,this];rfl);rwa[kn (Ub g e2) H4 (λb u n q=>k4 b u n (U b u q)) Y]
   ·let M:j<⇑(j6 S (cf S)):=by rw[<-B.1,<-agO (f:=V.ref)];rwa[(agM.mp N).1]
    let F:=agJ M;generalize (j6 S (cf S))[j]=p at F;let⟨t,J,q⟩:=B.at F;rw[ag0,J]at N;let e:=Za0 N;subst e;let q3:=v^q
    let q4:H4 t=_:=k4 t _ (λz=>by
     rcases (O.same G).same v with w|⟨_,_,_,_,w,_⟩
     ·cbv
     cbv) q3
    let kv:∀{n:Nat} {x:Nat×Int},(j6 S (cf S))[n]?\x->eK ((j6 S (cf S)).getD n (0,0)).2=eK x.2:=λ{n x} hx=>by cbv
    rwa[ks p.1 p.2 (Ua g F λn c' z' hn=>?_) t H4 (λb u n q=>k4 b u n (U b u q)) Y q4];have:=hb n ([agO,B.1]▸(agM.mp hn).1);dsimp only at this;rw[kv F,kv hn]at this;rwa[this]
noncomputable def Ud:Zh:=[114,111,111,109,115]
noncomputable def L7:Zh:=[108,101,116,116,101,114,115]
noncomputable def Ue:Zh:=[110,101,119,101,115,116]
def New (C:Zs)(H:Hp)(Q:VK):Prop:=∀x d,H x=none->H d=none->d≠x->Q ↑x (upd (upd H d (.own x)) x (.ins C d []))
def Jh (e b a d:Zs):Sp:=λc H Q E=>∃t:Zh,c=[.str (tx t)]/\(t=Ud\/t=L7\/t=Ue)/\(t=Ud->New b H Q)/\(t=L7->New a H Q)/\(t=Ue->New d H Q)
def jI {b:Zh}:(V.str (tx B)=V.str (tx b))↔B=b:=⟨λh=>QZ (V.str.inj h),λh=>by rw[h]⟩
def Dx (T:Txt K mg A):du P w K mg base (cZ P w) 1 A.wg A.wj ["name"] (Jh A.nM A.cQ A.bM A.cD):=by
 rwa[T.p5.F.Sx Dq (λo H Q E h=>?_) (λk p a s H o Q E r h=>?_)]
 ·let⟨t,rfl,_⟩:=h;rfl
 ·let⟨t,rfl,f,e,d,n⟩:=h
  erw[_,(aj (bH (aX eh (pv 0) (fD (l:=[114,111,111,109,115]) rfl) (aY _))
   (av (bh (uK T.Li T.Lk T.Lj rfl T.PF)))
   bp)
   (aj (bH (aX eh (pv 0) (fD (l:=[108,101,116,116,101,114,115]) rfl) (aY _))
    (av (bh (uK T.BL T.BO T.BM rfl T.Dl)))
    bp)
   (aj (bH (aX eh (pv 0) (fD (l:=[110,101,119,101,115,116]) rfl) (aY _))
    (av (bh (uK T.Ip T.Ir T.Iq rfl T.K3)))
    bp)
   (av JH))))]
  rwa[gT ?_];intro i c m;erw[12212];rwa[bU (λh=>?_) (λb=>?_)]
  ·rwa[e (jI.mp (ahq h))]
  erw[12212];rwa[bU (λh=>?_) (λj=>?_)]
  ·rwa[d (jI.mp (ahq h))]
  erw[12212];rwa[bU (λh=>?_) (λg=>?_)]
  ·rwa[n (jI.mp (ahq h))]
  rwa[f.elim (λz=>b (ahp (jI.mpr z))) λq=>q.elim (λz=>j (ahp (jI.mpr z))) λz=>g (ahp (jI.mpr z))]
def qm {r:Zs}(h:ay a H r S O){d:Zs}{o:HO}(k:H d\o)(j:∀p q f,o≠.ins p q f)(g:∀b,o≠.lst b)(i:∀b,o≠.dK b):¬O.own r d:=λc=>by
 rcases c with q|q|q
 ·have:=h.ins;cbv
 ·let⟨b,e⟩:=h.MB q;cbv
 ·let⟨b,e⟩:=h.qv q;cbv
def P8 {r:Zs}(h:ay a H r S O){p:Zs}{b:Zb}(c:H p\.tup b):¬O.own r p:=qm h c (by cbv) (by cbv) (by cbv)
def P9 {C:Zs}{x:Zs}(nx:H x=none)(d:H a=none)(c:a≠x)(k:∀b o,upd (upd H a (.own x)) x (.ins C a []) b\o->b≠x->I b\o)(g:∀b,O.own x b->b=x\/upd (upd H a (.own x)) x (.ins C a []) b=none):aq H I/\∀b,O.own x b->H b=none:=by
 let f:aq H (upd (upd H a (.own x)) x (.ins C a [])):=(aq.upd d).trans (aq.upd ([ak c.symm]▸nx));rwa[λb o e=>k b o (f^e) (ax e nx),λb z=>(g b z).elim (λe=>[e]▸nx) (same_none f)]
def Qa {w:Zg}{k:Nat}(h:H a\.tup (ao w)):bK H (k+ 1) ↑a (.t (w.map Dt.i)):=by
 rwa[.t h (by rw[aM,agO]) λj v d c b=>?_]
 let⟨z,rfl,e⟩:=cw c;rw[ag0,e]at b;rw[<-Za0 b];rwa[.i]
def qo {ws:Za3}(h:bR H a ws):bK H 4 ↑a (.l (ws.map λw=>Dt.t (w.map Dt.i))):=by
 let⟨k,i,e⟩:=h;rwa[.l i (by rw[agO,agO,e.1]) λj v d b c=>?_]
 rw[ag0]at b c
 cases g:k[j]? with
 |none=>cbv
 |some p=>
  cases f:ws[j]? with
  |none=>cbv
  |some w=>
   rw[g]at b;rw[f]at c;rw[<-Za0 b,<-Za0 c];rwa[Qa (e.2 j p w g f)]
def Ji {x y:Dt}(h:H a\.lst [↑b,↑c])(i:bK H 7 ↑b x)(g:bK H 7 ↑c y):bK H 8 ↑a (.l [x,y]):=by
 rwa[.l h rfl λj v d e f=>?_]
 match j,e,f with
 |0,e,f=>ext e;ext f;rwa[i]
 |1,e,f=>ext e;ext f;rwa[g]
 |j+ 2,e,f=>simp at e
def NM (p:Zs)(H a:Hp):Prop:=∀q o,q≠p->H q\o->a q\o
def NM.upd {o:HO}:NM a H (upd H a o):=λq u n e=>[ak n]▸e
def _root_.Lake.L2.dc.but {rs:Zn}{rows:Za3}{w:Zs}(h:dc H rs rows)(b:NM w H I)(d:w∉rs):dc I rs rows:=⟨h.1,λi r ns a c=>b _ _ (λz=>d (by rw[<-z];rwa[agK a])) (h.2 i r ns a c)⟩
def L1 {rows:Za3}(h:dc H F rows){r:Zs}(c:r∈F):∃d,H r\(.lst (ao d)):=by
 let⟨i,b,e⟩:=aiG.mp c;let a:i<⇑rows:=by rw[<-h.1];rwa[b]
 rwa[_,h.2 i r _ (by rw[agJ b,e]) (agJ a)]
def _root_.Lake.L2.dc.snoc {rs:Zn}{rows:Za3}{r:Zs}{ns:Zg}(h:dc H rs rows)(d:H r\.lst (ao ns)):dc H (rs++[r]) (rows++[ns]):=by
 rwa[⟨by rw[agN,agN,h.1];rfl,λi q e b a=>?_⟩];by_cases c:i<⇑rs
 ·rw[agV c]at b;rw[agV (by rw[<-h.1];rwa[c])]at a;rwa[h.2 i q e b a]
 ·rw[agW ∅]at b;rw[agW (by rw[<-h.1];omega)]at a;rw[agR.mp (agK b),agR.mp (agK a)];rwa[d]
def bB (S:RS)(k c:Nat):Nat:=(S.by c (M12.st k)).getD 0
inductive wY (C:Zs) (vs:Zb) (H:Hp) (Q:VK) (E_:XK):Prop
 |mk (r:Zs) (S:RS) (a:RA) (Z:Nat->Prop):vs=[↑r]->ay C H r S a->1<=S.L->S.L<=40->S.made<=300->⇑S.ways=S.made->Z 0->(∀c,Z c->c<S.made/\∀k,k<2* S.L->∃d,S.by c (M12.st k)=some d/\Z d)->(∀l N H',aq H H'->H l=none->TabAt H' l (M24.fB (bB S) (2* S.L) (M24.bf (bB S) (2* S.L) 0 N))->⇑(M24.bf (bB S) (2* S.L) 0 N)=N->Q ↑l H')->wY C vs H Q E_
def vj (a:List (Key×V))(found:Zh):Prop:=⇑a<=⇑found/\∀c:Nat,bD a (Sum.inl (c:Int))=if c∈found then some (V.int (M24.ix found c:Int)) else none
def vj.one:vj [(Sum.inl 0,.int 0)] [0]:=⟨agQ _,λc=>by
 by_cases h:c=0
 ·subst h;rfl
 ·rw[ahc (λq=>h (agR.mp q))];show bD (putK [] (Sum.inl 0) (.int 0)) (Sum.inl (c:Int))=none;rw[pL,ahc (λq=>by injection q with q;omega)];rfl⟩
def vj.put {c:List (Key×V)}{found:Zh}(h:vj c found)(nd:found.Nodup)(hc:n∉found):vj (putK c (Sum.inl (n:Int)) (.int (⇑found:Int))) (found++[n]):=by
 let g:(found++[n]).Nodup:=by
  rw[ahK];rwa[nd,by simp,λa i b j=>by cbv]
 rwa[⟨5,λf=>?_⟩]
 ·have:=hV c (Sum.inl (n:Int)) (.int (⇑found:Int));have:=h.1;rw[agN,ahX];ext
 rw[pL];by_cases e:f=n
 ·subst e;rw[ahf rfl,ahf (agS _ ag2),M24.Ib hc]
 ·rw[ahc (λq=>e (by injection q with q;omega)),h.2];by_cases d:f∈found
  ·rw[ahf d,ahf (ahd _ d),M24.vU g d]
  cbv
structure NS (H0 H:Hp) (lf d lr:Zs) (ts:Zn) (kvs:List (Key×V)) (found:Zh) (Tb:Za3):Prop where
 same:aq H0 H
 f1:H lf\(.lst (ao (nI found)))
 d1:H d\(.dK kvs)
 nm:vj kvs found
 r1:H lr\(.lst (ts.map V.ref))
 r2:dc H ts Tb
 un:(lf::lr::ts).Nodup
 new:∀x∈lf::lr::ts,H0 x=none
 dn:H0 d=none
section
variable {H0 H H':Hp}{lf d lr:Zs}{ts:Zn}{kvs:List (Key×V)}{found:Zh}{Tb:Za3}
def NS.more (h:NS H0 H lf d lr ts kvs found Tb)(s:aq H H'):NS H0 H' lf d lr ts kvs found Tb:=
 ⟨h.same.trans s,s^h.f1,s^h.d1,h.nm,s^h.r1,h.r2.same s,h.un,h.new,h.dn⟩
def NS.ne (h:NS H0 H lf d lr ts kvs found Tb):lf≠lr/\lf∉ts/\lr∉ts/\ts.Nodup:=by
 let a:=ahs.mp h.un
 cbv
def NS.add (h:NS H0 H lf d lr ts kvs found Tb)(nd:found.Nodup){c:Nat}(hc:c∉found):NS H0 (upd (upd H d (.dK (putK kvs (Sum.inl (c:Int)) (.int (⇑found:Int))))) lf (.lst (ao (nI found)++[.int (c:Int)]))) lf d lr ts (putK kvs (Sum.inl (c:Int)) (.int (⇑found:Int))) (found++[c]) Tb:=by
 let⟨j,l,m,n⟩:=h.ne;let dl:∀b a,H b\.lst a->b≠d:=λb a e=>bW e h.d1 (by cbv)
 rwa[⟨λb o e=>?_,55,h.nm.put nd hc,5,⟨h.r2.1,λi q ns g k=>?_⟩,h.un,h.new,h.dn⟩]
 ·rw[ak (ax e (h.new lf ag2)),ak (ax e h.dn)];rwa[h.same^e]
 ·rw[ah,i3,ints_app];rfl
 ·rw[ak (ah5 (dl lf _ h.f1)),ah]
 ·rw[ak (ah5 j),ak (dl lr _ h.r1)];rwa[h.r1]
 ·let f:=h.r2.2 i q ns g k;rw[ak (λe=>l (by rw[<-e];rwa[agK g])),ak (dl q _ f)];rwa[f]
def NS.row (h:NS H0 H lf d lr ts kvs found Tb){q:Zs}{row:Zg}(g:H q\.lst (ao row))(l:H0 q=none)(c:q∉lf::lr::ts):NS H0 (upd H lr (.lst ((ts++[q]).map V.ref))) lf d lr (ts++[q]) kvs found (Tb++[row]):=by
 let⟨f,p,m,n⟩:=h.ne;simp only[ag4,not_or]at c;let⟨i,k,j⟩:=c;rwa[⟨λb o e=>?_,55,h.nm,ah,55,λx a=>?_,h.dn⟩]
 ·rw[ak (ax e (h.new lr (ahm _ ag2)))];rwa[h.same^e]
 ·rw[ak f];rwa[h.f1]
 ·rw[ak (bW h.d1 h.r1 (by cbv))];rwa[h.d1]
 ·rwa[dc.but (w:=lr) (h.r2.snoc g) NM.upd ?_]
  cbv
 ·cbv
 ·rw[<-ajp,<-ajp]at a;rcases agX.mp a with a|a
  ·rwa[h.new x a]
  cbv
end
def Dy (T:Txt K mg A):T.numbered.Ok P w base 2 (wY A.az):=by
 rwa[T.numbered.on fV (λcu AA outer s H vs Q E hr h=>?_)]
 ·let⟨r,S,a,Z,rfl,hR,j5,qK,hm,hw,hZ0,hZ,k⟩:=h;let m2:=ig hr
  erw[_,(aj (bJ 1 fV.nd (pc T.p1 (uh T) hr (ae (aH (pv 0) rfl) ai)))
   (aj (bJ 2 fV.nd (bT (ae au ai)))
   (aj (bJ 3 fV.nd (Ot (Ke au au Oq) rfl rfl (by simp) ⋯))
   (aj (bJ 4 fV.nd (bT ai))
   (aj (bP (gP ahe (aX pG (bq bz rfl T.dB ahu (ae (pv 4) ai)) (bq bz rfl T.dB ahu (ae (pv 2) ai)) (aY _))
    (aj (i5 (iy:=5) fV.nd rfl (Or.inl rfl) (fns:=["rows","rooms","found"]) (ixs:=[4,0,2]) (cl:=_) rfl (cP (pv 1)) (FE rfl rfl rfl rfl ⋯ rfl ⋯ rfl ⋯ ⋯ rfl rfl rfl rfl rfl rfl rfl rfl rfl rfl) (λC s H ex=>(pm (pv 2) (aI T) T.iE (ic T) hr (ae (bC (Ay (K:=K) rfl) (pv 3) (bq (zk (K:=K) rfl) rfl T.dB ahu (ae (pv 1) ai)) (λ_ _=>rfl)) (ae (pv 0) ai)))))
    (aj (ck ahe rfl (cP (pv 5)) (di 6 fV.nd)
     (av (bP (bH (Qq (Hf m2 (pv 6) (pv 3)))
      (aj (sT m2 (pv 3) (pv 6) (bq bz rfl T.dB ahu (ae (pv 2) ai)) rfl)
      (av (aV (cO agY aha ahb bN (pv 2) (ae (pv 6) ai)))))
      bp))))
    (av (aV (cO agY aha ahb bN (pv 4) (ae (jl (fns:=["numbers"]) (ixs:=[3]) (cl:=_) rfl (cP (pv 5)) (pK rfl rfl ⋯ rfl ⋯ rfl ⋯ ⋯ rfl rfl rfl rfl) (λC s H ex=>(DR m2 (pv 1) (pv 0) (λ_ _=>rfl)))) ai))))))))
   (av (bh (pv 4))))))))]
  rwa[mD ?_];intro nU lJ jG hM fx;rwa[⟨12,r,_,a.dx,112,hR.ins,aI T,T.sr,vF^_,S.L,2,j5,3,λsl H1 s1 hs1=>?_⟩];rwa[⟨by show 1<=sizeLine;decide,λp Cz=>?_⟩];let s2:=aq.upd (o:=.lst [.int 0]) Cz;let Jj:upd H1 p (.lst [.int 0]) p\(.lst (ao (nI [0]))):=ah;generalize upd H1 p (.lst [.int 0])=H2 at s2 Jj ⊢;intro d hd;erw[ah,[(Sum.inl 0,.int 0)],2,by show 1<=15;decide];generalize A8:upd (upd H2 d (.dK [])) d _=H3;let XY:H3 d\(.dK [(Sum.inl 0,.int 0)]):=by rw[<-A8,ah];rfl
  let s3:aq H2 H3:=λb o e=>by rw[<-A8,ak (ax e hd),ak (ax e hd)];rwa[e]
  clear A8;rwa[⟨ahg _,λl Ug=>?_⟩];let s4:=aq.upd (o:=.lst []) Ug;let Uh:upd H3 l (.lst []) l\(.lst (([]:Zn).map V.ref)):=ah;generalize upd H3 l (.lst [])=H4 at s4 Uh ⊢
  let B4:NS H1 H4 p d l [] [(Sum.inl 0,.int 0)] (M24.bf (bB S) (2* S.L) 0 0) (M24.km (bB S) (2* S.L) 0 0):=by
   let nlr:H2 l=none:=s3.free Ug;let e:p≠l:=λz=>by cbv
   rwa[⟨(s2.trans s3).trans s4,(s3.trans s4) _ _ Jj,s4^XY,vj.one,Uh,⟨2,λi r ns h1=>by simp at h1⟩,by simp[e],λx hx=>?_,s2.free hd⟩];simp only[ag4,ahy,aiY]at hx;rcases hx with e|e
   ·rw[e];rwa[Cz]
   ·rw[e];rwa[s2.free nlr]
  clear s2 s3 s4 Jj XY Uh Cz hd Ug
  let A5:∀y i,Z y->i<2* S.L->Z (bB S i y):=λy i hy B=>by
   let⟨d,e1,e2⟩:=(hZ y hy).2 i B;unfold bB;rw[e1];rwa[e2]
  let oZ:∀n,∀z∈M24.bf (bB S) (2* S.L) 0 n,Z z:=M24.oN hZ0 A5;let Y:∀n,⇑(M24.bf (bB S) (2* S.L) 0 n)<=300:=λn=>ag3 (M11.jA S.made _ (M24.iD _ _ _ n) λz X=>(hZ z (oZ n z X)).1) hm
  erw[λ gI H'=>∃(N:Nat) (G:Zn) (f:List (Key×V)) (v5 O:Zc),gI=#v[↑r,↑sl,↑p,↑d,↑l,v5,O]/\NS H1 H' p d l G f (M24.bf (bB S) (2* S.L) 0 N) (M24.km (bB S) (2* S.L) 0 N)/\⇑(M24.bf (bB S) (2* S.L) 0 N)=N,5]
  ·erw[λm σ H'=>∃(n:Nat) (G:Zn) (f:List (Key×V)) (v5 O:Zc),m=300 - n/\σ=#v[↑r,↑sl,↑p,↑d,↑l,v5,O]/\NS H1 H' p d l G f (M24.bf (bB S) (2* S.L) 0 n) (M24.km (bB S) (2* S.L) 0 n)/\n<=⇑(M24.bf (bB S) (2* S.L) 0 n),⟨_,(0),[],_,none,none,22,B4,ahg _⟩];rintro m σ H5 ⟨n,G,f,v5,O,rfl,rfl,M,hn⟩;let hop:=Y n
   let R:⇑G=n:=by
    rw[M.r2.1];unfold M24.km;rw[agO,ahr];ext
   erw[12,l,12,.inl (aD.of M.r1),12,p,12,.inl (aD.of M.f1),112212];rwa[bU (λh=>?_) (λh=>?_)]
   ·let lG:n<⇑(M24.bf (bB S) (2* S.L) 0 n):=by
     let h':(⇑(G.map V.ref):Int)<(⇑(ao (nI (M24.bf (bB S) (2* S.L) 0 n))):Int):=ahq h;rw[aM,b6,agO,R]at h';ext
    clear h;let I:=agJ lG;generalize (M24.bf (bB S) (2* S.L) 0 n)[n]=c at I;let Ui:=oZ n c (agK I);let hcm:=(hZ c Ui).1;erw[_,λ gI H' h=>h];let R5:ay A.az H5 r S a:=hR.same (s1.trans M.same);let D:=M.same^hs1;erw[12,sl,2,⟨_,aD.of D⟩];rwa[kQ (ao ((List.range (2* S.L)).map M12.st)) (λv=>match v with|.int z=>.int (((S.by c z).getD 0:Nat):Int)|v=>v) (jQ (aD.of D)) (iJ (aD.of D)) (gR (aD.of D)) ([aM,agO,ahw]▸ag3 (show 2* S.L<=1000 by omega) ⋯) (λi v hv Rr J=>?_) (λlo Uj=>?_)]
    ·let⟨z,rfl,X⟩:=cw hv
     let B:i<2* S.L:=by
      have:=(agM.mp X).1;rw[agO,ahw]at this;rwa[this]
     let ez:M12.st i=z:=Za0 ((sE B).symm.trans X);let⟨dd,e1,e2⟩:=(hZ c Ui).2 i B;rw[ez]at e1;erw[12,r,a.dx,12,R5.ins,cK _ _ _ ⋯,1212,l,12,.inl (aD.of M.r1),p,11122,aD.of M.f1,([agO,R]▸da (cC (jT I))),12,r,S,a,c,z,2,R5,[hw]▸hcm]
     cbv
    let eo:(ao ((List.range (2* S.L)).map M12.st)).map (λv=>match v with|.int z=>V.int (((S.by c z).getD 0:Nat):Int)|v=>v)=ao (nI ((List.range (2* S.L)).map λi=>bB S i c)):=by
     unfold ao nI;rw[ahE,ahE,ahE,ahE];rfl
    rw[eo];clear eo;let s6:=aq.upd (o:=.lst (ao (nI ((List.range (2* S.L)).map λi=>bB S i c)))) Uj;let Uk:upd H5 lo (.lst (ao (nI ((List.range (2* S.L)).map λi=>bB S i c)))) lo\(.lst (ao (nI ((List.range (2* S.L)).map λi=>bB S i c)))):=ah;generalize upd H5 lo (.lst (ao (nI ((List.range (2* S.L)).map λi=>bB S i c))))=H6 at s6 Uk ⊢;let n1:lo≠p:=λz=>by rw[z,M.f1]at Uj;ext Uj
    let Sd:∀i,i<2* S.L->((List.range (2* S.L)).map λi=>bB S i c)[i]?\(bB S i c):=λi B=>by rw[ag0,aiP B];rfl
    erw[12,lo,2,⟨_,aD.of Uk⟩];rwa[eX (K:=K) (a:=lo) (xs:=ao (nI ((List.range (2* S.L)).map λi=>bB S i c))) (λi σ U=>∃(f:List (Key×V)) (O:Zc),σ=#v[↑r,↑sl,↑p,↑d,↑l,↑lo,O]/\NS H1 U p d l G f (M24.dN (bB S) c (M24.bf (bB S) (2* S.L) 0 n) i) (M24.km (bB S) (2* S.L) 0 n)/\U lo\.lst (ao (nI ((List.range (2* S.L)).map λi=>bB S i c)))) ⟨f,O,2,M.more s6,Uk⟩ (λi σ U _ ⟨1111,h⟩=>aD.of h) ?_ ?_]
    ·rintro i y σ U B ⟨f,O,rfl,g,u⟩
     let Ul:i<2* S.L:=by
      have:=(agM.mp B).1;rw[aM,b6,agO,ahw]at this;rwa[this]
     rw[cC (jT (Sd i Ul))]at B;let ey:=Za0 B;subst ey
     let TL:⇑(M24.dN (bB S) c (M24.bf (bB S) (2* S.L) 0 n) i)<=300:=ag3 (M11.jA S.made _ (M24.tq (M24.iD _ _ _ n) i) λz X=>by
      rcases M24.kl.mp X with q|⟨j,hj,rfl⟩
      ·rwa[(hZ z (oZ n z q)).1]
      ·rwa[(hZ _ (A5 c j Ui (by omega))).1]) hm
     let XZ:(M24.dN (bB S) c (M24.bf (bB S) (2* S.L) 0 n) i).Nodup:=M24.tq (M24.iD _ _ _ n) i;let Um:=M24.jB (bB S) c (M24.bf (bB S) (2* S.L) 0 n) i;generalize M24.dN (bB S) c (M24.bf (bB S) (2* S.L) 0 n) i=come at Um g TL XZ;rw[Um];clear Um;generalize bB S i c=o;rwa[⟨15,λ_ _ h=>h⟩];erw[1212,d,12,gq.k (k:=Sum.inl (o:Int)) g.d1,12];rw[g.nm.2 o];by_cases L:o∈come
     ·rw[ahf L];rwa[dv ⟨f,125,u⟩];unfold M24.add;rw[ahf L];rwa[g]
     ·rw[ahc L];rwa[jj ?_];let B8:=g.add XZ L;let aat:(⇑(ao (nI come)):Int)=(⇑come:Int):=by rw[aM,b6]
      erw[12,p,12,.inl (aD.of g.f1),1212,d,12,qY.k (k:=Sum.inl (o:Int)) g.d1 (agU (show ⇑f<=300 by have:=g.nm.1;omega) ⋯)];let X1:upd U d (.dK (putK f (Sum.inl (o:Int)) (.int (⇑(ao (nI come)):Int)))) p\(.lst (ao (nI come))):=by rw[ak (bW g.f1 g.d1 (by cbv))];rwa[g.f1]
      erw[12,.inl ⟨21,aD.of X1⟩,12,p,1122,X1,5]
      ·rw[aM,b6];rwa[agU TL ⋯]
      rw[aat];erw[putK f (Sum.inl (o:Int)) (.int (⇑come:Int)),125]
      ·unfold M24.add;rw[ahc L];rwa[B8]
      ·rw[ak n1,ak (bW u g.d1 (by cbv))];rwa[u]
    ·rintro σ U ⟨f,O,rfl,g,u⟩;rw[aM,b6,agO,ahw,<-M24.fU I]at g;let afk:=Y (n+ 1);let⟨t,ht⟩:=M24.uN (bB S) (2* S.L) 0 n;let Ez:n+ 1<=⇑(M24.bf (bB S) (2* S.L) 0 (n+ 1)):=by rw[ht,agN];ext
     let hin:∀i,i<2* S.L->bB S i c∈M24.bf (bB S) (2* S.L) 0 (n+ 1):=λi B=>by rw[M24.fU I];rwa[M24.kl.mpr (.inr ⟨i,B,2⟩)]
     erw[12,.inl ⟨21,aD.of g.r1⟩,12,lo,2,⟨_,aD.of u⟩];rwa[kQ (ao (nI ((List.range (2* S.L)).map λi=>bB S i c))) (λv=>match v with|.int z=>.int ((M24.ix (M24.bf (bB S) (2* S.L) 0 (n+ 1)) z.toNat:Nat):Int)|v=>v) (jQ (aD.of u)) (iJ (aD.of u)) (gR (aD.of u)) ([aM,b6,agO,ahw]▸ag3 (show 2* S.L<=1000 by omega) ⋯) (λi v hv Rr J=>?_) (λlq F=>?_)]
     ·let⟨z,rfl,X⟩:=cw hv
      let B:i<2* S.L:=by
       have:=(agM.mp X).1;rw[b6,agO,ahw]at this;rwa[this]
      let ez:((bB S i c:Nat):Int)=z:=Za0 ((jT (Sd i B)).symm.trans X);subst ez;let J:Rr (.int ((M24.ix (M24.bf (bB S) (2* S.L) 0 (n+ 1)) (((bB S i c:Nat):Int)).toNat:Nat):Int)) U:=J;rw[ahn]at J;rwa[⟨1212,d,125,J⟩];have:=gq.k (k:=Sum.inl ((bB S i c:Nat):Int)) g.d1;rw[g.nm.2,ahf (hin i B)]at this;rwa[this]
     let eo:(ao (nI ((List.range (2* S.L)).map λi=>bB S i c))).map (λv=>match v with|.int z=>V.int ((M24.ix (M24.bf (bB S) (2* S.L) 0 (n+ 1)) z.toNat:Nat):Int)|v=>v)=ao ((List.range (2* S.L)).map λi=>((M24.ix (M24.bf (bB S) (2* S.L) 0 (n+ 1)) (bB S i c):Nat):Int)):=by
      unfold ao nI;rw[ahE,ahE,ahE,ahE];rfl
     rw[eo];clear eo;let s8:=aq.upd (o:=.lst (ao ((List.range (2* S.L)).map λi=>((M24.ix (M24.bf (bB S) (2* S.L) 0 (n+ 1)) (bB S i c):Nat):Int)))) F;let X2:upd U lq (.lst (ao ((List.range (2* S.L)).map λi=>((M24.ix (M24.bf (bB S) (2* S.L) 0 (n+ 1)) (bB S i c):Nat):Int)))) lq\(.lst (ao ((List.range (2* S.L)).map λi=>((M24.ix (M24.bf (bB S) (2* S.L) 0 (n+ 1)) (bB S i c):Nat):Int)))):=ah;generalize upd U lq (.lst (ao ((List.range (2* S.L)).map λi=>((M24.ix (M24.bf (bB S) (2* S.L) 0 (n+ 1)) (bB S i c):Nat):Int))))=H8 at s8 X2 ⊢
     let nq:lq∉p::l::G:=by
      simp only[ag4,not_or];rwa[⟨λz=>?_,λz=>?_,λz=>?_⟩]
      ·rw[z,g.f1]at F;ext F
      ·rw[z,g.r1]at F;ext F
      ·let⟨ns,e⟩:=L1 g.r2 z
       cbv
     let B8:=(g.more s8).row X2 (g.same.free F) nq;rw[<-M24.yZ I]at B8;erw[l,1122,s8^g.r1,5]
     ·rw[agO,R];rwa[agU (show n<=300 by omega) ⋯]
     rw[aho]at B8;rwa[300 - (n+ 1),3,n+ 1,G++[lq],f,1122,B8,Ez]
   ·erw[n,G,f,112,M];let h':¬(⇑(G.map V.ref):Int)<(⇑(ao (nI (M24.bf (bB S) (2* S.L) 0 n))):Int):=λq=>h (ahp q)
    rw[aM,b6,agO,R]at h';ext
  rintro gI H' ⟨N,G,f,v5,O,rfl,B',hN⟩;rwa[⟨12,k l N H' (s1.trans B'.same) (s1.free (B'.new l (ahm _ ag2))) ⟨G,B'.r1,5⟩ hN⟩];rw[<-M24.Bf hN];rwa[B'.r2]
inductive Jk (K:Za1) (vs:Zb) (H:Hp) (Q:VK) (E_:XK):Prop
 |mk (a:Zs) (ns:Zg) (k:Nat):vs=[↑a,.int k]->aD K H a (ao ns)->k<=1000->(∀z,Q (.int z) H)->Jk K vs H Q E_
def bj (T:Txt K mg A):T.bx.Ok P w base 1 (Jk K):=by
 rwa[T.bx.on wG (λg l c s H o Q E m h=>?_)]
 ·let⟨a,b,n,rfl,d,j,k⟩:=h
  refine⟨_,(aj (bH (aX pG (pv 1) (bq bz rfl T.dB ahu (ae (pv 0) ai)) (aY _))
   (av (bh (bC bF (pv 0) (pv 1) (λ_ _=>rfl))))
   bp)
   (av (bh au))),?_⟩
  rwa[iC ?_];intro i;erw[1212,a,12,.inl d,112212];rwa[bU (λh=>?_) (λh=>?_)]
  ·let f:(n:Int)<(⇑(ao b):Int):=ahq h;rw[aM]at f;let e:b[n]?=some b[n]:=agJ ∅
   rwa[1212,a,11122,d,da (cC e),k _]
  ·rwa[k _]
def Qb:Sp:=λa H Q _=>∃n:Int,a=[.int n]/\Q (.bl true) H
def zI (T:Txt K mg A):T.p7.Ok P w base 1 Qb:=by
 rwa[T.p7.on zE (λb d a s H e Q E c h=>?_) (len:=by rintro _ _ _ _ ⟨n,rfl,_⟩;rfl)]
 ·let⟨n,rfl,k⟩:=h;erw[_,(av (bh (zZ (bq eY rfl T.cV aht (ae (pv 0) (ae (gk (v:=.ty "int") rfl T.zR ajE rfl) ai))) (GC (Qr (bq eY rfl T.cV aht (ae (pv 0) (ae (gk (v:=.ty "bool") rfl T.SX PyProof.Rows.boot_bool rfl) ai))))))))];rwa[⟨1211112,.int n,mq K "int",12,jj ?_⟩];rwa[1211112,.int n,Ak K,12,k]
structure CS (CR CG CC:Zs) (H:Hp) (x r:Zs) (q:KA) (S:RS) (a:RA) (R:Za2) (ks:Zg) (B:Nat) (rs ps:Za3) (fp:List (Zg×Nat)) (bs:List (Nat×Zg×Nat)) (gs:Zf) (ag:Zh) (W:bI) (O:Zs->Prop):Prop where
 c:cq CG CC H x r q gs ag W ⇑S.aZ fp O
 q:H q.aQ\(.dT (iU fp))
 rm:iW CR H r S a R ks B
 dj:∀b,a.own r b->¬O b
 ci:CI S bs gs ag W fT none
 bo:Cm (rs++ps) ⇑rs ks bs
 pl:yg rs fp
 br:∀b∈bs,b.2.2<S.made
 ra:∀w∈rs,w≠[]->∀c,c<S.made->S.aw c=c->∃n,(n,w,c)∈bs
 pa:∀w∈ps,w≠[]->∃n,(n,w,0)∈bs
 ln:⇑bs<=S.made* ⇑fp+ ⇑ps
 wb:∀u∈rs++ps,⇑u<=1000/\∀z∈u,(-1000<=z/\z<=1000)/\z∈ks/\-z∈ks
def CS.Uo {CR:Zs}{x r:Zs}{q:KA}{rs m:Za3}{o:List (Zg×Nat)}{bs:List (Nat×Zg×Nat)}{gs:Zf}{W:bI}{e:Zs->Prop}(h:CS CR a b H x r q S O R l n rs m o bs gs [] W e)(p:0<S.made):uJ rs m S:=by
 rwa[⟨λw j c hc k=>?_,λw j=>?_⟩]
 ·by_cases g:w=[]
  ·rw[g];rwa[.inl rfl]
  ·let⟨f,i⟩:=h.ra w j g c hc k;rwa[ends (b:=(f,w,c)) h.ci h.rm.g i k]
 ·by_cases g:w=[]
  ·rw[g];rwa[.inl rfl]
  ·let⟨f,i⟩:=h.pa w j g;rwa[ends (b:=(f,w,0)) h.ci h.rm.g i (by have:=(h.rm.g.el 0 p).1;rwa[Nat.le_zero.mp this])]
inductive EI (CR CG CC:Zs) (vs:Zb) (H:Hp) (Q:VK) (E_:XK):Prop
 |mk (x r:Zs) (q:KA) (S:RS) (a:RA) (R:Za2) (B:Nat) (rs ps:Za3) (fp:List (Zg×Nat)) (bs:List (Nat×Zg×Nat)) (gs:Zf) (W:bI) (O:Zs->Prop) (c:Nat) (z:Int):vs=[↑x,.int c,.int z]->CS CR CG CC H x r q S a R (bA (2* S.L)) B rs ps fp bs gs [] W O->1<=S.L->S.L<=200->c<S.made->S.aw c=c->S.by c z=none->z∈bA (2* S.L)-> -z∈bA (2* S.L)->S.made<1000->(S.made+ 1)* ⇑fp+ ⇑ps<=700->B<800000->⇑S.aZ+ S.stand<=800000->(∀S' a' R' bs' i9 W' O' B' H',(∀b o,¬O b->¬a.own r b->H b\o->H' b\o)->CS CR CG CC H' x r q S' a' R' (bA (2* S.L)) B' rs ps fp bs' i9 [] W' O'->(∀b,a'.own r b\/O' b->a.own r b\/O b\/H b=none)->Tr (rs++ps) ⇑rs (S.make c z (bA (2* S.L))) S'->S'.made=S.made+ 1->S'.L=S.L->B'<=B+ 702->Q .non H')->EI CR CG CC vs H Q E_
def wZ (T:Txt K mg A):T.mS.Ok mg P w base 9 (EI A.az A.aJ A.aF):=by
 rwa[T.mS.on wH (λcu AA outer s H vs Q E hr h=>?_)]
 ·let⟨x,r,q,S,a,R,B,rs,ps,i,bs,gs,W,O,c,z,rfl,h,j5,qK,hc,ec,d,hz,F,hm,V,hB,hwn,k⟩:=h
  refine⟨_,(aj (aV (pm (pv 0) (aL T) T.fk (ja T) hr (ae (pm (aH (pv 0) rfl) (aI T) T.qf (zH T) hr (ae (pv 1) (ae (pv 2) ai))) ai)))
   (aj (aV (pm (pv 0) (aL T) T.fb (fM T) hr (ae (pv 1) (ae (pv 2) ai))))
   (av (aV (vQ (pv 0) (aL T) T.iN (lK T) hr))))),?_⟩
  rwa[fS ?_];intro hM fx;let l:=h.rm.g;let rb:=h.rm.rb;let ok:=zb l h.rm.k ∅ (by have:=h.rm.l;omega) ∅ ∅;rwa[⟨12,x,q.dx,12,h.c.ins,fu ⋯,12,x,_,q.dx,112,h.c.ins,aL T,T.fi,fX^_,r,a.dx,12,h.rm.at_.ins,cK _ _ _ ⋯,1212,r,S,a,c,z,2,h.rm.at_,l.wf,j5,qK,hc,33,ok.sm.w,λa1 H1 b1 qy X3=>?_⟩];let oth:∀b,O b->∃o,H b\o:=λb y=>by let⟨o,e,_⟩:=h.c.th b y;rwa[o,e]
  let tno:∀b N,H b\.tup N->H1 b\(.tup N):=λb N e=>b1 b _ (λy=>P8 h.rm.at_ e y) e
  let c1:=h.c.keep (λb o y e=>b1 b o (λw=>h.dj b w y) e) tno;let q1:H1 q.aQ=_:=b1 _ _ (yh h.rm.at_ h.q) h.q;let ci1:=h.ci.make l hc ec d h.br (bA (2* S.L))
  let Z:∀b,a1.own r b->¬O b:=λb y w=>by
   rcases X3 b y with v|v
   ·rwa[h.dj b v w]
   cbv
  let Nv:⇑bs+ ⇑i<=700:=by have:=h.ln;rw[ajo,Nat.one_mul]at V;ext
  rwa[⟨x,r,q,S.make c z (bA (2* S.L)),bs,gs,[],W,⇑S.aZ,i,O,_,S.made,2,c1,q1,ci1,λp hp=>?_,aic _,3,ahg _,λf j I H2 t Nw J c2 L Je=>?_⟩]
  ·have:=h.wb p.1 (ahd _ (agK (h.pl.a p hp)));rwa[this.1,λy hy=>(this.2 y hy).1]
  let bl:=qk S.made i;let l2:⇑(bs++gG i S.made)<=700:=by rw[agN];ext
  let X:Cm (rs++ps) ⇑rs (bA (2* S.L)) (bs++gG i S.made):=by
   let nw:∀b∈gG i S.made,(rs++ps)[b.1]?\b.2.1/\b.1<⇑rs:=λb d=>by
    let⟨p,hp,d⟩:=ais.mp d;let⟨rfl,_⟩:=wX d;let h1:=h.pl.a p hp
    cbv
   rwa[⟨λb d=>?_,λb d=>?_,λb d=>?_,λb d=>?_,3⟩]
   ·rwa[(agX.mp d).elim (h.bo.w b) λy=>(nw b y).1]
   ·rwa[(agX.mp d).elim (h.bo.n b) λy=>.inl (nw b y).2]
   ·rwa[(agX.mp d).elim (h.bo.l b) λy=>(h.wb _ (agK (nw b y).1)).1]
   ·rwa[(agX.mp d).elim (h.bo.k b) λy z' F=>((h.wb _ (agK (nw b y).1)).2 z' F).2]
  let g2:⇑f<=700:=by rw[L.len];rwa[l2]
  let IY:lg A.aJ A.aF (S.make c z (bA (2* S.L))) (bs++gG i S.made) f W (λr s=>r=c/\s=z) (⇑j+ 2* ⇑f) x r q ⇑S.aZ i I H2 j W:=⟨c2,L,λ_ _ _ z=>z,by have:=L.two;ext⟩;rwa[⟨12,x,q.dx,12,c2.ins,fu ⋯,1212,x,r,q,f,j,W,⇑S.aZ,i,I,c,z,2,c2,IY.fits ∅,λns H3 m nd3 Uq c3=>?_⟩];let X4:=IY.wake nd3 Uq c3;let TF:CI (S.make c z (bA (2* S.L))) (bs++gG i S.made) f (j++ns) (gx W c z) fT none:=X4.i.ex λr' s' n' w' _ e=>absurd ⟨ahZ Nat.cast e.1,e.2⟩ (dk.mp w').2
  let U:∀b,a1.own r b->¬I b:=λb y w=>by
   rcases J b w with v|v
   ·rwa[Z b y v]
   ·let⟨o,e⟩:=qy.there y;cbv
  let X5:iW A.az H1 r (S.make c z (bA (2* S.L))) a1 (fQ R c z S.made) (bA (2* S.L)) (B+ 2):=by
   let es:=FP (c:=c) (z:=z) (g:=bA (2* S.L)) l.wf;let M:(S.make c z (bA (2* S.L))).aZ=S.aZ:=rfl;rwa[⟨qy,l.make hc ec d _,yW h.rm.w l.wf _ _ _,λa y b e=>?_,by show S.made+ 1<=_;ext,h.rm.l,5,by rw[M];ext⟩]
   ·rcases e with e|⟨_,e,_⟩|⟨_,e,_⟩
    ·rwa[h.rm.k _ _ _ e]
    ·rw[e];rwa[hz]
    ·rw[e];rwa[F]
   ·show ⇑(S.rows++[_])+ _<=_;rw[agN,es];show ⇑S.rows+ 1+ _<=_;ext
  let rm3:=(X5.keep (λb o y e=>t b o (Z b y) e) (λb N e=>t b _ (c1.jg e) e)).keep (λb o y e=>m b o (U b y) e) (λb N e=>m b _ (c2.jg e) e);let lv:live f<=700:=ag3 List.countP_le_length g2;let hmul:live f* (2* ⇑(bs++gG i S.made)+ 1)<=700* 1401:=ajN lv ∅;let XC:⇑(j++ns)<=2100:=by have:=X4.b;ext
  rwa[⟨12,x,q.dx,12,c3.ins,fu ⋯,x,r,q,S.make c z (bA (2* S.L)),a1,fQ R c z S.made,bA (2* S.L),B+ 2,rs++ps,⇑rs,bs++gG i S.made,f,j++ns,gx W c z,i,I,2,c3,rm3,3,U,TF,X,3,λS' a' R' i9 W' O' B' H' f' c' r' ow oo dj' ci' rr em eL tr A4=>?_⟩];let G:S'.made=S.made+ 1:=em
  let out:∀{b o},¬O b->¬a.own r b->H b\o->H' b\o:=λ{b o} C D e=>by
   let e1:=b1 b o D e;let e2:=t b o C e1;let Y:¬I b:=λy=>(J b y).elim C λv=>by cbv
   rwa[f' b o Y (λy=>(X3 b y).elim D λv=>by cbv) (m b o Y e2)]
  let non:∀b,a1.own r b\/I b\/H3 b=none->a.own r b\/O b\/H b=none:=λb y=>by
   by_cases D:a.own r b
   ·rwa[.inl D]
   by_cases C:O b
   ·rwa[.inr (.inl C)]
   rwa[.inr (.inr ?_)]
   cases e:H b with
   |none=>rfl
   |some o=>
    exfalso
    let e1:=b1 b o D e;let Y:¬I b:=λy=>(J b y).elim C λv=>by cbv
    rcases y with y|y|y
    ·cbv
    ·rwa[Y y]
    ·rw[m b o Y (t b o C e1)]at y;ext y
  let lt:=Later.of l (l.make hc ec d (bA (2* S.L))) iB (aiZ _);let lt2:=Later.of X5.g r'.g rr (ajT em.symm);let el1:∀b,b<S.made->(S.make c z (bA (2* S.L))).aw b=S.aw b:=λb lG=>(fF l.wf c z (bA (2* S.L)) b).trans (ahc ∅)
  rwa[k S' a' R' (bs++gG i S.made) i9 W' O' B' H' (λb o C D e=>out C D e) ⟨c',out (h.c.IL h.q) (yh h.rm.at_ h.q) h.q,r',dj',ci',X,h.pl,λb d=>?_,λw M u b d eb=>?_,λw M u=>?_,5,h.wb⟩ (λb y=>?_) tr G (eL.trans rfl) ∅]
  ·rw[G];rcases agX.mp d with y|y
   ·have:=h.br b y;ext
   ·let⟨p,_,d⟩:=ais.mp y;let⟨rfl,_⟩:=wX d;rwa[aic _]
  ·by_cases e:b<S.made
   ·let e1:=lt2.el b (by show b<S.made+ 1;omega);rw[el1 b e,eb]at e1;let l1:=(l.el b e).1;let l2:=(r'.g.el (S.aw b) ∅).1;let⟨n,hn⟩:=h.ra w M u b e ∅
    cbv
   ·let e:b=S.made:=∅
    subst e;let⟨n,hn⟩:=h.pl.b w M;rwa[n,agS _ (ais.mpr ⟨(w,n),hn,Gq u⟩)]
  ·let⟨n,hn⟩:=h.pa w M u
   cbv
  ·have:=h.ln;rw[agN,G,ajo,Nat.one_mul];ext
  cbv
def NP (T:Txt K mg A):Bb K A.bE:=⟨T.Gi,T.Gj,T.Gk,T.Gm,T.Gn,T.Gp⟩
noncomputable def Jl (n:Nat)(l:Zs):List (Str×V):=[("made",.int n),("rows",↑l)]
inductive NQ (C:Zs) (vs:Zb) (H:Hp) (Q:VK) (E_:XK):Prop
 |mk (x l:Zs) (n:Nat) (xs:Zb):vs=[↑x,.int n,↑l]->H x\XO x C none true->n<100000->H l\.lst xs->⇑xs<=1000000->(∀d l2 H',H d=none->H l2=none->d≠x->(∀b o,b≠x->H b\o->H' b\o)->H' x\XO x C (some d) true->H' d\XD d (Jl n l2)->H' l2\.lst xs->l2≠x->Q .non H')->NQ C vs H Q E_
def qR (T:Txt K mg A):T.dO.Ok mg P w base 1 (NQ A.bE):=by
 rwa[T.dO.on qO (λO U D s H vs Q E X h=>?_)]
 ·let⟨x,l,n,p,rfl,B,S,J,N,k⟩:=h
  refine⟨_,(aj (aV (KY (Eh T.wF T.dO.m.at_) ⟨T.Y8,T.Y9,T.aac⟩ rfl T.Dj (ae (pv 0) (ae (Hg (DU (Ov (pv 1)) (DU (fD (l:=[32,114,111,111,109,115,32,119,101,114,101,32,109,97,100,101,44,32,97,110,100,32,116,104,101,114,101,32,97,114,101,32,103,97,112,115,32,108,101,102,116]) rfl) Rl))) ai))))
   (aj (Ee (pv 0) (pv 1) rfl)
   (av (Ee (pv 0) (c9 (jN) rfl T.fe ahB (ae (pv 2) ai)) rfl)))),?_⟩
  rwa[fS ?_];intro L R;let Y:=Ka (n:=(n:Int)) ∅ ∅;erw[1212,(n:Int),2312,by show 0+ _<=1000000;ext,1255,x,none,12,B]
  ·rw[ajx];let e:∀m:Nat,m<=100->⇑(Ao (n:Int))+ m<=1000000:=λm M=>∅
   rwa[e _ ⋯]
  ·rw[ajx,agN];let e:∀m:Nat,m<=100->⇑(Ao (n:Int))+ m<=1000000:=λm M=>∅
   rwa[e _ ⋯]
  rwa[⟨1212,x,A.bE,none,true,2,B,NP T,T.PN,λd j=>?_⟩];let a:d≠x:=(ax B j).symm;let c:upd (upd H d (XD d [("made",V.int n)])) x (XO x A.bE (some d) true) x\(XO x A.bE (some d) true):=ah;let i:upd (upd H d (XD d [("made",V.int n)])) x (XO x A.bE (some d) true) d\(XD d [("made",V.int n)]):=by rw[ak a,ah]
  let F:∀b o,b≠x->H b\o->upd (upd H d (XD d [("made",V.int n)])) x (XO x A.bE (some d) true) b\o:=λb o y e=>by rw[ak y,ak (ax e j)];rwa[e]
  let y:∀b,upd (upd H d (XD d [("made",V.int n)])) x (XO x A.bE (some d) true) b=none->H b=none:=λb e=>by
   by_cases q:b=x
   ·cbv
   ·rw[ak q]at e;by_cases G:b=d
    ·rw[G];rwa[j]
    ·rw[ak G]at e;rwa[e]
  generalize upd (upd H d (XD d [("made",V.int n)])) x (XO x A.bE (some d) true)=I at c i F y ⊢;let C:l≠x:=bW J B f!"";rwa[⟨12,l,p,2,.inl (aD.of (F _ _ C J)),λg f=>?_⟩];let v:=aq.upd (o:=.lst p) f;let t:upd I g (.lst p) g\(.lst p):=ah;let r:g≠x:=(ax c f).symm;let u:g≠d:=(ax i f).symm;generalize upd I g (.lst p)=Z at v t ⊢;erw[12,x,A.bE,some d,true,2,v^c,NP T,T.PQ,_,a,v^i,by show 1<1000;decide];rw[show bL "rows" (V.ref g) [("made",V.int n)]=Jl n g from dM (by kernel_rfl)];rwa[k d g _ j (y _ f) a (λb o q e=>?_) ?_ ah ?_ r]
  ·rw[ak (ax e j)];rwa[v^F b o q e]
  ·rw[ak a.symm];rwa[v^c]
  ·rw[ak u];rwa[t]
inductive Fl (rs ps:Za3) (L w lim:Nat):RS->Prop
 |start {S:RS}:Tr (rs++ps) ⇑rs (RS.new L (bA (2* L))) S->uJ rs ps S->Fl rs ps L w lim S
 |next {S S':RS} {c:Nat} {z:Int}:Fl rs ps L w lim S->S.made<lim->jf w S L c z->Tr (rs++ps) ⇑rs (S.make c z (bA (2* L))) S'->uJ rs ps S'->Fl rs ps L w lim S'
def Jm (L:Nat)(u:Zg):Prop:=⇑u<=1000/\∀z∈u,z≠0/\z.natAbs<=L
def sJ (d:n<=200){u:Zg}(h:Jm n u):⇑u<=1000/\∀z∈u,(-1000<=z/\z<=1000)/\z∈bA (2* n)/\-z∈bA (2* n):=by
 rwa[⟨h.1,λz b=>?_⟩];let⟨c,a⟩:=h.2 z b;rwa[3,iR.mpr ⟨c,a⟩,iR.mpr ⟨33⟩]
def lj (h:S.aU[n]?\n):S.aw n=n:=by unfold RS.aw;rw[agT,h];rfl
def Fl.ys {rs a:Za3}{w:Nat}(h:Fl rs a n w m S)(b:∀u∈rs++a,∀z∈u,z∈bA (2* n)/\-z∈bA (2* n)):∃R,YS S n (bA (2* n)) R:=by
 induction h with
 |start t _=>
  let⟨R,y,_⟩:=YS.new.tr t b;rwa[R,y]
 |next _ _ l t _ j=>
  let⟨R,y⟩:=j;let⟨i,g,c,d⟩:=l.1;let⟨k,o⟩:=iR.mp c;let⟨f,e,_⟩:=(y.make i (lj g) d c (iR.mpr ⟨33⟩)).tr t b;rwa[f,e]
def _root_.Lake.L2.YS.gl (y:YS S n (bA (2* n)) R)(d:S.made<=100000)(b:n<=200):GL S n:=⟨y.g.wf,d,b,λc hc a=>y.gi.fin y.g (Iv _) hc (lj a)⟩
def Kp.at {pos:Pos}(k:Kp a H I)(t:df a pos x H){b:Zs}{u:HO}(e:H b\u)(n:∀c,u≠.fE c):I b\u:=k b u (λz=>by
 rcases t with w|⟨_,_,_,_,w,_⟩
 ·cbv
 cbv) e
def NR (S:RS)(L w:Nat)(H:Hp)(v:V):Prop:=(v=.non/\∀c z,¬dq S L c z)\/∃(c:Nat) (z:Int) (t:Zs),v=↑t/\jf w S L c z/\H t\(.tup [.int (c:Int),.int z])
def w9 (b a c:Zs)(H:Hp)(o:Zs)(w:Nat):Prop:=∃d,(w=0/\H o\.ins b d [])\/(w=1/\H o\.ins a d [])\/(w=2/\H o\.ins c d [])
def w9.keep {w:Nat}(h:w9 a b c H d w)(k:∀C e,H d\.ins C e []->I d\.ins C e []):w9 a b c I d w:=by
 obtain⟨e,h|h|h⟩:=h
 ·rwa[e,.inl ⟨h.1,k^h.2⟩]
 ·rwa[e,.inr (.inl ⟨h.1,k^h.2⟩)]
 ·rwa[e,.inr (.inr ⟨h.1,k^h.2⟩)]
def CB {f r:Zs}{w:Nat}{Q:VK}{E:XK}(p:H d\.ins c f [])(h:ay a H r S O)(g:GL S n)(m:df b dZ iG H)(k:∀v i,Kp b H i->df b dZ iG i->NR S n w i v->Q v i):j2 a b c w [↑d,↑r] H Q E:=
 ⟨d,f,r,S,O,n,2,p,h,g,m,λo i j l=>k _ i j l (.inl ⟨2,o⟩),λe z s t i j l q=>k _ i j l (.inr ⟨e,z,t,2,s,q⟩)⟩
theorem Qc {r:Zs}{w:Nat}{Q:VK}{E:XK}(i:D[5]?\some ↑a)(c:D[6]?\some ↑r)(j:w9 A.cQ A.bM A.cD H a w)(h:ay A.az H r S O)(g:GL S n)(f:df A.eG dZ iG H)(k:∀v b,Kp A.eG H b->df A.eG dZ iG b->NR S n w b v->Q v b):
 A6 (kD A.cQ "gap" (j2 A.az A.eG A.cQ 0) [] E (ji 5) (jM (ji 6) j8)) (A6 (kD A.bM "gap" (j2 A.az A.eG A.bM 1) [] E (ji 5) (jM (ji 6) j8)) (kD A.cD "gap" (j2 A.az A.eG A.cD 2) [] E (ji 5) (jM (ji 6) j8))) D H Q:=by
 obtain⟨d,⟨rfl,e⟩|⟨rfl,e⟩|⟨rfl,e⟩⟩:=j
 ·rwa[.inl ⟨_,i,a,d,12,e,21,c,CB e h g f k⟩]
 ·rwa[.inr (.inl ⟨_,i,a,d,12,e,21,c,CB e h g f k⟩)]
 ·rwa[.inr (.inr ⟨_,i,a,d,12,e,21,c,CB e h g f k⟩)]
def lW (w:Nat):Zh:=if w=0 then Ud else if w=1 then L7 else Ue
def lX (H:Hp)(l:Zs)(S:RS):Prop:=∃a:Zn,H l\.lst (a.map V.ref)/\Each (λp d=>bK H 4 ↑p d) a S.rows/\⇑S.rows<=1000000
inductive Jn (Pt cN cT:Zs) (vs:Zb) (H:Hp) (Q:VK) (E:XK):Prop
 |mk (ru pa:Zs) (L lim w:Nat) (rs ps:Za3):vs=[.int L,↑ru,↑pa,.int lim,.str (tx (lW w))]->w<3->1<=L->L<=40->1<=lim->lim<=300->bR H ru rs->bR H pa ps->(∀u∈rs++ps,Jm L u)->lim* ⇑rs+ ⇑ps<=700->⇑rs<=400->⇑ps<=400->df Pt dZ iG H->(∀t tb pp S N H',Kp Pt H H'->df Pt dZ iG H'->Fl rs ps L w lim S->(∀c z,¬dq S L c z)->H' t\.tup [↑tb,↑pp]->TabAt H' tb (M24.fB (bB S) (2* S.L) (M24.bf (bB S) (2* S.L) 0 N))->⇑(M24.bf (bB S) (2* S.L) 0 N)=N->lX H' pp S->Q ↑t H')->(∀d pp S H',Kp Pt H H'->df Pt dZ iG H'->Fl rs ps L w lim S->S.made=lim->(∃c z,jf w S L c z)->H' d\XD d (Jl S.made pp)->lX H' pp S->E ↑cT (some d) H')->Jn Pt cN cT vs H Q E
section
variable {CR CG CC:Zs}{H H':Hp}{x r:Zs}{q:KA}{S:RS}{a:RA}{R:Za2}{ks:Zg}{B:Nat}{rs ps:Za3}{fp:List (Zg×Nat)}{bs:List (Nat×Zg×Nat)}{gs:Zf}{ag:Zh}{W:bI}{O:Zs->Prop}
def CS.keep (h:CS CR CG CC H x r q S a R ks B rs ps fp bs gs ag W O)(f:∀b o,H b\o->(∀ps,o≠.fE ps)->H' b\o):CS CR CG CC H' x r q S a R ks B rs ps fp bs gs ag W O:=
 ⟨h.c.keep (λb o c e=>f b o e (by let⟨i,g,n⟩:=h.c.th b c;cbv)) (λb d e=>f b _ e (by cbv)),f _ _ h.q (by cbv),h.rm.keep (λb o c e=>f b o e (by
  intro ps z;rw[z]at e;rwa[qm h.rm.at_ e (by cbv) (by cbv) (by cbv) c])) (λb d e=>f b _ e (by cbv)),h.dj,h.ci,h.bo,h.pl,h.br,h.ra,h.pa,h.ln,h.wb⟩
def CS.tab (h:CS CR CG CC H x r q S a R ks B rs ps fp bs gs ag W O){c:Zs}{pos:Pos}{d:Str}(t:df c pos d H)(f:∀b o,¬O b->¬a.own r b->H b\o->H' b\o):df c pos d H':=by
 rwa[t.keep λb u e k=>f b u (λz=>?_) (λz=>?_) e]
 ·let⟨o,g,n⟩:=h.c.th b z
  cbv
 ·rcases k with ⟨ps,rfl⟩|⟨o,v,rfl⟩
  ·rwa[qm h.rm.at_ e (by cbv) (by cbv) (by cbv) z]
  ·rwa[qm h.rm.at_ e (by cbv) (by cbv) (by cbv) z]
end
structure xc (A:qH) (H0 H:Hp) (x r:Zs) (L lim w:Nat) (rs ps:Za3) (S:RS):Prop where
 k:Kp A.eG H0 H
 t:df A.eG dZ iG H
 cs:∃q a R B fp bs gs W O,CS A.az A.aJ A.aF H x r q S a R (bA (2* L)) B rs ps fp bs gs [] W O/\(∀b,a.own r b\/O b->H0 b=none)/\B<=702* S.made
 f:Fl rs ps L w lim S
 m:S.made<=lim
 l:S.L=L
def xc.kp {H0:Hp}{x r:Zs}{w:Nat}{rs d:Za3}(h:xc A H0 H x r n m w rs d S)(k:Kp A.eG H I)(t:df A.eG dZ iG I):xc A H0 I x r n m w rs d S:=by
 let⟨q,a,R,B,f,bs,gs,W,O,cs,g,i⟩:=h.cs;rwa[h.k.trans k,t,⟨q,a,R,B,f,bs,gs,W,O,cs.keep λb o e c=>k.at h.t e c,g,i⟩,h.f,h.m,h.l]
theorem EJ (T:Txt K mg A)(Y:ki mg base):du P w K mg base (cZ P w) 11 A.Ig A.Ih ["letters","rules","part","limit","order"] (Jn A.eG A.nM A.bE):=by
 rwa[T.fill.Sx l0 (λvs H Q E h=>?_) (λcu AA outer s H vs Q E M h=>?_)]
 ·let⟨ru,pa,L,i,I,rs,f,rfl,_⟩:=h;rfl
 ·let⟨ru,pa,L,i,I,rs,f,rfl,Xr,j5,qK,hl1,Mz,I9,Ja,aO,LZ,wO,oM,hT,kq,ke⟩:=h
  erw[_,(aj (bJ 5 l0.nd (xt (Dx T) (M.mono ⋯) rfl T.p5.m T.p5.F.kp T.p5.b .nil VL (ae (pv 4) ai)))
   (aj (bJ 6 l0.nd (xu (uY T) (tM T) (M.mono ⋯) rfl T.PH T.gB.b .nil gy (ae (pv 0) ai)))
   (aj (bJ 7 l0.nd (xu (qh T) (qQ T) (M.mono ⋯) rfl T.Ii T.e8.b .nil gy (ae (pv 6) (ae (pv 1) (ae (pv 2) ai)))))
   (aj (aV (vQ (pv 7) (aL T) T.iN (lK T) M))
   (aj (bJ 8 l0.nd (vK (j9 (pv 5) (BP T) T.jD.m (sI T) (M.mono ⋯) T.jD.b .nil gy (ae (pv 6) ai)) (vK (j9 (pv 5) (sC T) T.hH.m (m5 T Y) (M.mono ⋯) T.hH.b .nil gy (ae (pv 6) ai)) (j9 (pv 5) (y4 T) T.iO.m (qL T) (M.mono ⋯) T.iO.b .nil gy (ae (pv 6) ai)))))
   (aj (bP (gP PassesOwn.leaving (aX lY (pv 8) dm (aY _))
    (aj (bH (aX E9 (aH (pv 6) rfl) (pv 3) (aY _))
     (av (HW (E:=E) (qR T) (M.mono ⋯) T.dO.b rfl rfl T.y3 (Eh T.wF T.dO.m.at_) T.dO.m.fn T.Gh (ae (aH (pv 6) rfl) (ae (vQ (pv 6) (aI T) T.kJ (pf T) M) ai)) lvD))
     bp)
    (aj (aV (pm (pv 7) (aL T) T.mS (wZ T) M (ae (bC dJ (pv 8) au (λ_ _=>rfl)) (ae (bC dJ (pv 8) au (λ_ _=>rfl)) ai))))
    (av (bJ 8 l0.nd (vK (j9 (pv 5) (BP T) T.jD.m (sI T) (M.mono ⋯) T.jD.b .nil gy (ae (pv 6) ai)) (vK (j9 (pv 5) (sC T) T.hH.m (m5 T Y) (M.mono ⋯) T.hH.b .nil gy (ae (pv 6) ai)) (j9 (pv 5) (y4 T) T.iO.m (qL T) (M.mono ⋯) T.iO.b .nil gy (ae (pv 6) ai))))))))))
   (av (bh (cJ (ae (pc T.numbered (Dy T) M (ae (pv 6) ai)) (ae (vQ (pv 6) (aI T) T.kJ (pf T) M) ai)))))))))))]
  rwa[pO ?_];intro y7 nU lJ jG hM fx;let NT:∀u∈rs++f,∀z∈u,z∈bA (2* L)/\-z∈bA (2* L):=λu hu z hz=>((sJ ∅ (aO u hu)).2 z hz).2
  suffices main:∀o J,aq H J->w9 A.cQ A.bM A.cD J o I->fx { nx:=λ_ H'=>Q .non H',rt:=Q } #v[.int L,↑ru,↑pa,.int i,.str (tx (lW I)),↑o,none,none,none] J by
   let sm:∀{C x d:Zs},H x=none->H d=none->d≠x->aq H (upd (upd H d (.own x)) x (.ins C d [])):=λ{C x d} nx nd G=>(aq.upd nd).trans (aq.upd ([ak G.symm]▸nx))
   rwa[⟨12,lW I,25,λe x d nx nd G=>main x _ (sm nx nd G) ⟨d,.inl ⟨5,ah⟩⟩,λe x d nx nd G=>main x _ (sm nx nd G) ⟨d,.inr (.inl ⟨5,ah⟩)⟩,λe x d nx nd G=>main x _ (sm nx nd G) ⟨d,.inr (.inr ⟨5,ah⟩)⟩⟩]
   all_goals rcases (show I=0\/I=1\/I=2 by omega) with rfl|rfl|rfl
   all_goals first|rfl|decide|rwa[absurd e (by decide)]
  intro o J s1 ho;let X6:=hT.same s1;replace I9:=I9.same s1;replace Ja:=Ja.same s1;rwa[⟨12,λr dx nx Z G=>⟨r,dx,L,2,ah,j5,3,λra H2 k2 h2 Ur=>⟨25⟩⟩⟩];let⟨s2,Us⟩:=P9 (C:=A.az) nx Z G k2 Ur;clear k2 Ur nx Z G;rwa[⟨121212,λx dx nx Z G=>?_⟩];let s0:aq H2 (upd (upd H2 dx (.own x)) x (.ins A.aF dx [])):=(aq.upd Z).trans (aq.upd ([ak G.symm]▸nx));let NV:upd (upd H2 dx (.own x)) x (.ins A.aF dx []) x\(.ins A.aF dx []):=ah;let Cu:¬ra.own r x:=λz=>by let⟨o,e⟩:=h2.there z;rw[nx]at e;ext e
  let n0:∀b,upd (upd H2 dx (.own x)) x (.ins A.aF dx []) b=none->H2 b=none:=λb z=>same_none s0 z
  generalize upd (upd H2 dx (.own x)) x (.ins A.aF dx [])=H3 at s0 NV n0 ⊢;let gd:=uF L (bA (2* L))
  let fit:∀D,yg rs D->1* ⇑D+ ⇑f<=700:=λD h=>by
   have:=air ⇑rs hl1;have:=Cv h;ext
  let sl:0+ (RS.new L (bA (2* L))).stand<=1:=by rw[akl];rwa[Cj (RS.new L (bA (2* L)))]
  let y0:=YS.new (L:=L) (ks:=bA (2* L));let xg:iW A.az H2 r (RS.new L (bA (2* L))) ra (λ_ _ _=>False) (bA (2* L)) 1:=⟨h2,gd,y0.w,y0.k,by show 1<=2000;decide,by rw[tE];ext,sl,ag3 sl ⋯⟩;rwa[⟨x,dx,r,ru,pa,RS.new L (bA (2* L)),ra,λ_ _ _=>False,rs,f,2,NV,h2.same s0,gd,Nat.one_pos,by show 1<=2000;decide,Cu,(I9.same s2).same s0,(Ja.same s2).same s0,wO,oM,λu hu=>⟨(sJ ∅ (aO u hu)).1,λz hz=>((sJ ∅ (aO u hu)).2 z hz).1⟩,λD h=>by have:=fit D h;show 1* ⇑D+ ⇑f<50000;ext,λq gs ag D O H4 f4 c4 q4 o4 EE X7 hp=>⟨25⟩⟩];let hf:=fit D hp;let sd:⇑(dh (RS.new L (bA (2* L))))<=1:=ag3 (aiV _ _) ([ahw]▸agQ _);let XQ:⇑(dh (RS.new L (bA (2* L))))* ⇑D<=1* ⇑D:=air _ sd;let l1:=lV D (dh (RS.new L (bA (2* L))));let l2:=sG f ⇑rs ⇑f;let Y:⇑(dD D (dh (RS.new L (bA (2* L))))++fN f ⇑rs ⇑f)<=1* ⇑D+ ⇑f:=by rw[agN];ext
  let X8:live gs<=⇑(dD D (dh (RS.new L (bA (2* L))))++fN f ⇑rs ⇑f):=by rw[<-EE.len];rwa[List.countP_le_length]
  let r4:iW A.az H4 r (RS.new L (bA (2* L))) ra (λ_ _ _=>False) (bA (2* L)) 1:=(xg.same s0).keep (λb o hb e=>f4 b o e (λz=>Cu (by rw[<-z];rwa[hb]))) (λb xs e=>f4 b _ e (bW e NV f!""))
  let dj:∀b,ra.own r b->¬O b:=λb z y=>by
   let⟨o,e⟩:=(h2.same s0).there z;rcases o4 b y with w|w
   ·rwa[Cu (by rw[<-w];rwa[z])]
   ·rw[w]at e;ext e
  let bin:∀b∈dD D (dh (RS.new L (bA (2* L))))++fN f ⇑rs ⇑f,((rs++f)[b.1]?\b.2.1/\(b.1<⇑rs\/b.2.2=0))/\b.2.2<1:=λb hb=>by
   rcases PZ hb with ⟨p,Sj,e1,U,e3⟩|⟨j,u,hj,rfl⟩
   ·let h1:=hp.a p Sj;let h2:=(agM.mp h1).1;rw[e1,U,agV h2];rwa[⟨h1,.inl h2⟩,ahG.mp (aiy.mp e3).1]
   ·rwa[⟨by show (rs++f)[⇑rs+ j]?=_;rw[agW ∅,Nat.add_sub_cancel_left];rwa[hj],.inr rfl⟩,Nat.one_pos]
  let X:Cm (rs++f) ⇑rs (bA (2* L)) (dD D (dh (RS.new L (bA (2* L))))++fN f ⇑rs ⇑f):=
   ⟨λb hb=>(bin b hb).1.1,λb hb=>(bin b hb).1.2,λb hb=>(aO _ (agK (bin b hb).1.1)).1,λb hb z hz=>NT _ (agK (bin b hb).1.1) z hz,3⟩
  let Ut:∀w∈rs,w≠[]->∃n,(n,w,0)∈dD D (dh (RS.new L (bA (2* L))))++fN f ⇑rs ⇑f:=λw hw lH=>by
   let⟨n,hn⟩:=hp.b w hw;let hcs:0∈dh (RS.new L (bA (2* L))):=aiy.mpr ⟨ahG.mpr Nat.one_pos,ahp rfl⟩;rwa[n,ahd _ (ais.mpr ⟨(0),hcs,ais.mpr ⟨(w,n),hn,Gq lH⟩⟩)]
  let Uu:∀w∈f,w≠[]->∃n,(n,w,0)∈dD D (dh (RS.new L (bA (2* L))))++fN f ⇑rs ⇑f:=λw hw lH=>by
   let⟨j,hj⟩:=ahF hw;rwa[⟨⇑rs+ j,agS _ (ais.mpr ⟨j,ahG.mpr (agM.mp hj).1,5⟩)⟩];rw[agT,hj];rwa[Gq lH]
  generalize dD D (dh (RS.new L (bA (2* L))))++fN f ⇑rs ⇑f=bs at EE X7 Y X8 bin X Ut Uu;let hmul:live gs* (2* ⇑bs+ 1)<=700* 1401:=ajN ∅ ∅;clear l1 l2 XQ sd;rwa[⟨12,x,q.dx,12,c4.ins,fu ⋯,x,r,q,RS.new L (bA (2* L)),ra,λ_ _ _=>False,bA (2* L),(1),rs++f,⇑rs,bs,gs,ag,sH,D,O,2,c4,r4,3,dj,EE,X,3,λS' a' R' i9 W' O' B' H5 f5 c5 r5 ow oo X9 Jf rr em eL tr hb5=>?_⟩];let NW:S'.made=1:=em
  let HQ:∀b o,J b\o->H5 b\o:=λb o e=>by
   let U:=s2^e
   let nO:¬O b:=λy=>by
    rcases o4 b y with w|w
    ·rw[w,nx]at U;ext U
    ·rw[s0^U]at w;ext w
   rwa[f5 b o nO (λy=>by rw[Us b y]at e;ext e) (f4 b o (s0^U) (ax U nx))]
  let U5:∀b,a'.own r b\/O' b->J b=none:=λb y=>by
   let nn:ra.own r b\/O b\/H4 b=none->J b=none:=λy=>by
    rcases y with y|y|y
    ·rwa[Us b y]
    ·cases e:J b with
     |none=>rfl
     |some u=>
      let U:=s2^e;rcases o4 b y with w|w
      ·rw[w,nx]at U;ext U
      ·rw[s0^U]at w;ext w
    ·cases e:J b with
     |none=>rfl
     |some u=>
      let U:=s2^e;rw[f4 b u (s0^U) (ax U nx)]at y;ext y
   rcases y with y|y
   ·rwa[nn (ow b y)]
   ·rcases oo b y with v|v|v
    ·rwa[nn (.inr (.inl v))]
    ·rwa[nn (.inl v)]
    ·rwa[nn (.inr (.inr v))]
  let Uv:CS A.az A.aJ A.aF H5 x r q S' a' R' (bA (2* L)) B' rs f D bs i9 [] W' O':=by
   rwa[⟨c5,f5 _ _ (c4.IL q4) (yh r4.at_ q4) q4,r5,X9,Jf,X,hp,λb hb=>by rw[NW];rwa[(bin b hb).2],λw hw lH c hc _=>?_,Uu,by rw[NW];rwa[Y],λu hu=>sJ (by omega) (aO u hu)⟩];have:c=0:=∅
   subst this;rwa[Ut w hw lH]
  let Ya:xc A J H5 x r L i I rs f S':=⟨λb u _ e=>HQ b u e,X6.same HQ,⟨q,a',R',B',D,bs,i9,W',O',Uv,U5,by rw[NW];ext⟩,.start tr (Uv.Uo ∅),3,eL.trans rfl⟩;clear Uv U5 HQ hmul Uu Ut X bin dj r4 X8 Y hf xg y0 sl c5 r5 ow oo X9 Jf rr f5 hb5 NW em eL tr c4 q4 o4 EE X7 hp f4 NV Cu n0 s0 gd fit
  let look:∀{H5:Hp} {S:RS} {σ:St} {Qv:VK},xc A J H5 x r L i I rs f S->σ[5]?\some ↑o->σ[6]?\some ↑r->(∀v H6,xc A J H6 x r L i I rs f S->NR S L I H6 v->Qv v H6)->(A6 (kD A.cQ "gap" (j2 A.az A.eG A.cQ 0) [] (λ_ _ _=>False) (ji 5) (jM (ji 6) j8)) (A6 (kD A.bM "gap" (j2 A.az A.eG A.bM 1) [] (λ_ _ _=>False) (ji 5) (jM (ji 6) j8)) (kD A.cD "gap" (j2 A.az A.eG A.cD 2) [] (λ_ _ _=>False) (ji 5) (jM (ji 6) j8)))) σ H5 Qv:=λ{H5 S σ Qv} F e5 e6 kk=>by
   let⟨Ry,y⟩:=F.f.ys NT;let⟨q,a,R,B,D,bs,gs,W,O,cs,_⟩:=F.cs;rwa[Qc e5 e6 (ho.keep λC d e=>F.k.at X6 e s!"") cs.rm.at_ (y.gl (by have:=F.m;omega) ∅) F.t λv H6 k6 t6 an=>kk v H6 (F.kp k6 t6) an]
  rwa[look Ya rfl rfl λv H6 Yb an=>?_]
  clear Ya;erw[λ gI H'=>∃S,gI=#v[.int L,↑ru,↑pa,.int i,.str (tx (lW I)),↑o,↑r,↑x,some .non]/\xc A J H' x r L i I rs f S/\∀c z,¬dq S L c z,5]
  ·erw[λm σ H'=>∃S v,m=i+ 1 - S.made/\σ=#v[.int L,↑ru,↑pa,.int i,.str (tx (lW I)),↑o,↑r,↑x,some v]/\xc A J H' x r L i I rs f S/\NR S L I H' v,⟨_,S',v,22,Yb,an⟩];clear Yb an;rintro m σ H7 ⟨S,v,rfl,rfl,F,an⟩;erw[12212];rcases an with ⟨rfl,hn⟩|⟨c,z,t,rfl,hl,ht⟩
   ·rwa[jO rfl ⟨S,rfl,F,hn⟩]
   rwa[bU (λ_=>?_) (λh=>absurd rfl h)];erw[_,λ gI H' h=>h];let⟨Ry,y⟩:=F.f.ys NT;let⟨q,a,R,B,D,bs,gs,W,O,cs,n0,hB⟩:=F.cs;let hm:=F.m;let eL:=F.l;let rb:=cs.rm.rb;let wr:=y.wr;let hBm:B<=702* 300:=ag3 hB (Nat.mul_le_mul_left _ ∅);erw[12,r,_,a.dx,112,cs.rm.at_.ins,aI T,T.o6,sW^_,12112212];rwa[bU (λh=>?_) (λh=>?_)]
   ·let h:(i:Int)<=(S.made:Int):=ahq h;rwa[⟨12,r,_,a.dx,112,cs.rm.at_.ins,aI T,T.o6,sW^_,12,r,a.dx,12,cs.rm.at_.ins,cK _ _ _ ⋯,r,S,a,2,cs.rm.at_,3,λp d hd e=>(y.d d hd).low e,λl qs H8 s8 nl hl8 Bd=>?_⟩];intro xx Yc;let s9:=aq.upd (o:=XO xx A.bE none true) Yc;let eln:⇑(qs.map V.ref)<=1000000:=by rw[agO,Bd.1];ext
    rwa[⟨xx,l,S.made,qs.map V.ref,2,ah,3,s9^hl8,eln,λd l2 H9 nd Ey Z f9 hx9 hd9 NX nlx=>⟨2,some d,hx9,5⟩⟩]
    let Uw:aq H8 (del H9 xx):=λb u e=>by
     let nb:=ax e Yc;rw[rM nb];rwa[f9 b u nb (s9^e)]
    rwa[ke d l2 S _ (λb u nb e=>Uw^(s8^(F.k b u nb (s1^e)))) ((F.t.same s8).same Uw) F.f ∅ ⟨c,z,hl⟩ ([rM Z]▸hd9) ⟨qs,[rM nlx]▸NX,Bd.imp (λp d _ _ e=>e.same Uw),3⟩]
   let h:S.made<i:=Nat.lt_of_not_le λw=>h (ahp ∅)
   let⟨g1,g2,g3,g4⟩:=hl.1;let⟨z1,z2⟩:=iR.mp g3;let Nv:⇑D<=⇑rs:=Cv cs.pl;let Nh:(S.made+ 1)* ⇑D<=i* ⇑rs:=ajN h Nv;rw[<-eL]at cs;rwa[⟨12,x,q.dx,12,cs.c.ins,fu ⋯,12,t,11122,bG.of ht,212,t,11122,bG.of ht,2,x,r,q,S,a,R,B,rs,f,D,bs,gs,W,O,c,z,2,cs,33,g1,lj g2,g4,[eL]▸g3,iR.mpr ⟨33⟩,3333,λS2 a2 R2 bs2 gs2 W2 O2 B2 H8 f8 Ux ow8 Yd em8 el8 hb8=>?_⟩]
   let fl8:xc A J H8 x r L i I rs f S2:=by
    rw[eL]at Ux Yd;rwa[⟨λb u nb e=>f8 b u (λw=>by rw[n0 b (.inr w)]at e;ext e) (λw=>by rw[n0 b (.inl w)]at e;ext e) (F.k b u nb e),cs.tab F.t f8,⟨q,a2,R2,B2,D,bs2,gs2,W2,O2,Ux,λb w=>?_,by rw[em8];ext⟩,.next F.f h hl Yd (Ux.Uo ∅),3,el8.trans eL⟩];rcases ow8 b w with v|v|v
    ·rwa[n0 b (.inl v)]
    ·rwa[n0 b (.inr v)]
    ·cases e:J b with
     |none=>rfl
     |some u=>
      let nP:b≠A.eG:=λw=>by
       rcases F.t with p|⟨_,_,_,_,p,_⟩
       ·rw[w,p]at v;ext v
       ·rw[w,p]at v;ext v
      rw[F.k b u nP e]at v;ext v
   rwa[look fl8 rfl rfl λv H9 fl9 an=>⟨i+ 1 - S2.made,3,S2,v,22,fl9,an⟩]
  rintro σ H7 ⟨S,rfl,F,hn⟩;let⟨Ry,y⟩:=F.f.ys NT;let⟨q,a,R,B,D,bs,gs,W,O,cs,n0,hB⟩:=F.cs;let hm:=F.m;let eL:=F.l;let rb:=cs.rm.rb;let g:=y.g;let hBm:B<=702* 300:=ag3 hB (Nat.mul_le_mul_left _ ∅);rwa[⟨12,r,S,a,λc=>c<S.made/\S.aw c=c,2,cs.rm.at_,333,g.wf.w,⟨y.m,by have:=(g.el 0 y.m).1;ext⟩,λc hc=>⟨hc.1,λk hk=>?_⟩,λtb N H8 s8 nt h8 hN=>?_⟩]
  ·cases e:S.by c (M12.st k) with
   |some d=>
    let⟨_,d2,_,d4⟩:=g.st _ _ _ e;rwa[d,2,d2,d4]
   |none=>
    rw[eL]at hk;rwa[absurd ⟨hc.1,5,agK (sE hk),e⟩ (hn c _)];rw[m3 ([g.wf.e]▸hc.1),hc.2]
  rwa[⟨12,r,a.dx,12,(cs.rm.at_.same s8).ins,cK _ _ _ ⋯,r,S,a,2,cs.rm.at_.same s8,3,λp d hd e=>(y.d d hd).low e,λpp qs H9 s9 np hp9 Bd=>?_⟩];rwa[⟨by show 2<=sizeLine;decide,λt nt=>?_⟩];let sA:=aq.upd (o:=.tup [↑tb,↑pp]) nt;rwa[kq t tb pp S N _ (λb u nb e=>sA^(s9^(s8^(F.k b u nb (s1^e))))) (((F.t.same s8).same s9).same sA) F.f hn ah ((h8.same s9).same sA) hN ⟨qs,sA^hp9,Bd.imp (λp d _ _ e=>e.same sA),3⟩]
theorem words_of {H:Hp}{P:Zg->Prop}:∀{ps:Zn},(∀(i:Nat) (p:Zs),ps[i]?\p->∃w,H p\.tup (ao w)/\P w)->∃a,bZ H ps a/\∀w∈a,P w
 |[],_=>⟨[],⟨2,(λi p w e=>by simp at e)⟩,(λw j=>by ext j)⟩
 |p::ps,h=>by
  let⟨a,f,g⟩:=words_of (ps:=ps) λi q e=>h (i+ 1) q (by simpa using e)
  let⟨w,k,l⟩:=h 0 p rfl;rwa[⟨w::a,⟨by rw[ahi,ahi,f.1],λi q u d c=>?_⟩,λu b=>?_⟩]
  ·cases i with
   |zero=>ext d;ext c;rwa[k]
   |succ i=>exact f.2 i q u (by simpa using d) (by simpa using c)
  ·rcases ag4.mp b with rfl|b
   ·rwa[l]
   ·rwa[g u b]
def Uy:Sp:=λa H Q _=>∃(z:Int) (L:Nat),a=[.int z,.int L]/\1<=L/\L<=200/\∀s:Int,s≠0->s.natAbs<=L->Q (.int s) H
def sL (T:Txt K mg A):T.nS.Ok P w base 1 Uy:=by
 rwa[T.nS.on BQ (λe g a s H l Q E i h=>?_) (len:=by rintro _ _ _ _ ⟨z,L,rfl,_⟩;rfl)]
 ·let⟨z,L,rfl,b,d,k⟩:=h
  erw[_,(aj (bH (aX eh (aK bO (pv 0) au) au (aY _))
   (av (bh (fY eJ (aK cI au (aK bO (aK cX (pv 0) au) (pv 1))))))
   bp)
   (av (bh (aK cI au (aK bO (aK cX (pv 0) au) (pv 1))))))]
  rwa[iC ?_];intro f;let c:∀y:Int,0<=y % (L:Int)/\y % (L:Int)<L:=λy=>⟨ain _ ∅,ah9 _ ∅⟩
  let j:=c (z / 2);rwa[⟨121122,(by show (0:Int)<2;decide),212,bU (λh=>?_) (λh=>?_)⟩]
  ·refine⟨121122,⟨44⟩,121122,(by show (0:Int)<(L:Int);omega),112212,k _ ?_ ?_⟩ <;> ext
  ·refine⟨121122,⟨44⟩,121122,(by show (0:Int)<(L:Int);omega),1122,k _ ?_ ?_⟩ <;> ext
noncomputable def sM (n:Nat):Zb:=(List.range n).map λi:Nat=>V.int (i:Int)
def m6 (n:Nat):⇑(sM n)=n:=by unfold sM;rw[agO,ahw]
def EK (h:i<n):(sM n)[i]?\(V.int (i:Int)):=by
 unfold sM;rw[ag0,aiP h];rfl
def Qd {x:V}(h:(sM n)[i]?\x):i<n/\x=V.int (i:Int):=by
 let a:i<n:=by
  have:=(agM.mp h).1;rw[m6]at this;rwa[this]
 rw[EK a]at h;rwa[a,(Za0 h).symm]
def xh {c:TE}{Q:VK}(g:Nat->Int)(j:n<=1000)(k:∀i:Nat,i<n->∀R:VK,R (.int (g i)) H->c (some (.int (i:Int))::D) H R)(m:∀a,H a=none->Q ↑a (upd H a (.lst (ao ((List.range n).map g))))):oz c D Q (vq 0 n) H:=by
 rwa[kQ (sM n) (λv=>match v with|.int z=>.int (g z.toNat)|v=>v) (λi b=>by rw[m6]at b;rwa[b]) (λi x p b y=>?_) ([m6]▸agQ _) ([m6]▸ag3 j ⋯) (λi x l R h=>?_) (λa o=>?_)]
 ·rw[m6]at b;let⟨d,f⟩:=y;erw[by first|rwa[d]|rwa[f]];rw[EK b]
  congr 1
  first
  |(rw[f,akm])
  |(rw[d,akm])
 ·let⟨b,rfl⟩:=Qd l;rwa[k i b R ?_];have:R (V.int (g ((i:Int)).toNat)) H:=h;rw[ahn]at this;rwa[this]
 ·let e:((sM n).map λv=>match v with|.int z=>V.int (g z.toNat)|v=>v)=ao ((List.range n).map g):=by
   unfold sM ao;rw[ahE,ahE];rfl
  rw[e];rwa[m a o]
def vk {a:Za3}(h:bZ H F a){w:Zs}{c:Zb}{o:HO}(b:H w\.lst c):bZ (upd H w o) F a:=h.keep λp d e=>by
 rw[ak (bW e b f!"")];rwa[e]
noncomputable def sf (rows:Za3)(x:Nat)(s:Int):Nat:=if 0<s then ((rows.getD (s.natAbs - 1) []).getD x 0).toNat else (rows.getD (s.natAbs - 1) []).findIdx (λz=>z==(x:Int))
inductive yn (vs:Zb) (H:Hp) (Q:VK) (E_:XK):Prop
 |mk (a wa:Zs) (rows:Za3) (p x:Nat) (w:Zg):vs=[↑a,.int x,↑wa]->TabAt H a rows->(∀r∈rows,M11.Pm p r)->x<p->p<=1000->H wa\.tup (ao w)->M11.dG ⇑rows w->⇑rows<=1000->Q (.int ((w.foldl (sf rows) x:Nat):Int)) H->yn vs H Q E_
theorem EL:∀{r:Zg} {i:Nat} {x:Int},r.Nodup->r[i]?\x->r.findIdx (λz=>z==x)=i
 |[],i,x,_,h=>by simp at h
 |a::r,0,x,_,h=>by
  let e:a=x:=Za0 h;rw[akj,e];simp
 |a::r,i+ 1,x,c,h=>by
  let b:a≠x:=λz=>(ahs.mp c).1 ([z]▸agK (l:=r) (i:=i) h)
  rw[akj,show (a==x)=false from ag9.mpr b,EL (ahs.mp c).2 h];rfl
def CD {rows:Za3}{x:Nat}{r:Zg}(h:0<z)(b:rows[z.natAbs - 1]?\r)(a:r[x]?\(n:Int)):sf rows x z=n:=by
 unfold sf;rw[ahf h,agT,agT,b,Option.getD_some,a,Option.getD_some];rfl
def CF {rows:Za3}{x:Nat}{r:Zg}(h:¬ 0<z)(b:rows[z.natAbs - 1]?\r)(c:r.Nodup)(a:r[n]?\(x:Int)):sf rows x z=n:=by
 unfold sf;rw[ahc h,agT,b,Option.getD_some];rwa[EL c a]
def qM (T:Txt K mg A):T.lS.Ok P w base 1 yn:=by
 rwa[T.lS.on jd (λcu AA G s H vs Q E hr h=>?_)]
 ·let⟨a,M,rows,p,x,w,rfl,I,R,hx,hp,o,J,Z,k⟩:=h
  erw[_,(aj (ck ahe rfl (vt (pv 2)) (di 3 jd.nd)
   (av (bP (bH (aX sP (pv 3) au (aY _))
    (av (bJ 1 jd.nd (bC bF (bC bF (pv 0) (aK g6 (pv 3) au) (λ_ _=>rfl)) (pv 1) (λ_ _=>rfl))))
    (av (bJ 1 jd.nd (cO agY PySem.F.slot_list_index PySem.F.type_list_index zl (bC bF (pv 0) (aK g6 (fY eJ (pv 3)) au) (λ_ _=>rfl)) (ae (pv 1) ai))))))))
   (av (bh (pv 1))))]
  rwa[iC ?_];intro fx;let⟨rs,l,r⟩:=id I;erw[12,M,2,⟨_,bG.of o⟩];rwa[xr (K:=K) (a:=M) (xs:=ao w) (λn C D=>∃v:Zc,C=#v[↑a,.int (((w.take n).foldl (sf rows) x:Nat):Int),↑M,v]/\D=H/\(w.take n).foldl (sf rows) x<p) ⟨none,22,hx⟩ (λn C D _ ⟨11,e,_⟩=>[e]▸bG.of o) ?_ ?_]
  ·rintro n y C D Y ⟨v,rfl,rfl,b⟩;let⟨z,rfl,U⟩:=cw Y;let hs:=J z (agK U)
   let d:(w.take (n+ 1)).foldl (sf rows) x=sf rows ((w.take n).foldl (sf rows) x) z:=by
    rw[aim,U,ajf];rfl
   rw[d];generalize (w.take n).foldl (sf rows) x=pt at b ⊢;let S:z.natAbs - 1<⇑rows:=∅
   let m:rows[z.natAbs - 1]?=some rows[z.natAbs - 1]:=agJ S
   let O:z.natAbs - 1<⇑rs:=by rw[r.1];rwa[S]
   let B:rs[z.natAbs - 1]?=some rs[z.natAbs - 1]:=agJ O
   generalize rows[z.natAbs - 1]=row at m;generalize rs[z.natAbs - 1]=f at B;let c:=r.2 _ _ _ B m;let t:=R row (agK m);rwa[⟨15,λ_ _ h=>h⟩];erw[12112212];rwa[bU (λh=>?_) (λh=>?_)]
   ·let L:(0:Int)<z:=ahq h;let⟨j,u,g⟩:=t.at b
    let N:j4 (rs.map V.ref) (z - 1)\↑f:=by
     rw[show z - 1=((z.natAbs - 1:Nat):Int) by ext];rwa[dC B]
    erw[12121122,a,11,↑f,22,aD.of l,N,12,f,11122,aD.of c,da (cC u)];rw[CD L m u];rwa[122,g]
   ·let L:¬(0:Int)<z:=λq=>h (ahp q)
    let⟨j,u,g⟩:=t.SN b
    let N:j4 (rs.map V.ref) (-z - 1)\↑f:=by
     rw[show -z - 1=((z.natAbs - 1:Nat):Int) by ext];rwa[dC B]
    rwa[⟨1212121122,a,11,↑f,22,aD.of l,N,.inl ⟨21,aD.of c⟩,12,f,row,(pt:Int),22,c,agK u,λi X _=>?_⟩];rw[CF L m t.nd X]
    let F:i<p:=by
     have:=(agM.mp X).1;rw[t.len]at this;rwa[this]
    rwa[122,F]
  ·rintro C D ⟨v,rfl,rfl,b⟩;rw[aM,aid];rwa[12,k]
def Gs {rows:Za3}{x:Nat}(d:∀r∈rows,M11.Pm n r)(e:x<n)(f:z≠0)(i:z.natAbs<=⇑rows):sf rows x z<n/\sf rows (sf rows x z) (-z)=x:=by
 let g:rows[z.natAbs - 1]?\(rows[z.natAbs - 1]'∅):=agJ ∅
 generalize rows[z.natAbs - 1]'∅=r at g;let c:=d r (agK g);by_cases h:0<z
 ·let⟨j,a,b⟩:=c.at e;rw[CD h g a];rwa[b,CF ∅ ([Int.natAbs_neg]▸g) c.nd a]
 ·let⟨j,a,b⟩:=c.SN e;rw[CF h g c.nd a];rwa[b,CD ∅ ([Int.natAbs_neg]▸g) a]
def xi {w:Zg}(h:M11.dG n (z::w)):(z≠0/\z.natAbs<=n)/\M11.dG n w:=⟨h z (ag2 ..),λx a=>h x (ahm _ a)⟩
theorem Gu {rows:Za3}{p:Nat}(a:∀r∈rows,M11.Pm p r):∀{w:Zg} {x:Nat},M11.dG ⇑rows w->x<p->w.foldl (sf rows) x<p
 |[],x,_,b=>b
 |s::w,x,e,b=>by
  let⟨d,c⟩:=xi e;rwa[Gu a (w:=w) c (Gs a b d.1 d.2).1]
theorem CH {rows:Za3}{p:Nat}(a:∀r∈rows,M11.Pm p r):∀{w:Zg} {x y:Nat},M11.dG ⇑rows w->x<p->y<p->w.foldl (sf rows) x=w.foldl (sf rows) y->x=y
 |[],x,y,_,_,_,e=>e
 |s::w,x,y,d,g,f,e=>by
  let⟨b,c⟩:=xi d;let a1:=Gs a g b.1 b.2;let a2:=Gs a f b.1 b.2;have:=CH a (w:=w) c a1.1 a2.1 e;rw[<-a1.2,<-a2.2,this]
def Uz:M11.Pm n (eU 0 n):=by
 rwa[⟨oC 0 n,5,λz d=>?_⟩]
 ·unfold eU;rwa[List.Pairwise.map _ (λa b (c:a≠b) (z:(0:Int)+ (a:Int)=0+ (b:Int))=>c ∅) ako]
 ·unfold eU at d;let⟨i,e,rfl⟩:=ahO.mp d;have:=ahG.mp e;ext
def UA {f:Nat->Nat}{xs:Zh}(h:∀x∈xs,x<n)(a:∀x,x<n->M17.it f 60 x=x):xs.map (M17.it f 60)=xs.map (M17.it f 0):=ahS λx b=>a x (h x b)
noncomputable def gH (xs:Zh):Zg:=xs.map λx:Nat=>(x:Int)
def Qe (xs:Zh):⇑(gH xs)=⇑xs:=by unfold gH;rw[agO]
theorem ER:∀{a ys:Zh},gH a=gH ys->a=ys
 |[],[],_=>rfl
 |[],_::_,h=>by ext h
 |_::_,[],h=>by ext h
 |x::a,y::ys,h=>by
  let c:(x:Int)::gH a=(y:Int)::gH ys:=h;injection c with d b
  rw[show x=y by ext,ER b]
def UB (h:(gH B)[i]?\z):∃x,B[i]?\x/\z=(x:Int):=by
 unfold gH at h;rw[ag0]at h
 cases q:B[i]? with
 |none=>rw[q]at h;ext h
 |some x=>rw[q]at h;rwa[x,2,(Za0 h).symm]
noncomputable def zT (f:Nat->Nat):V->V
 |.int z=>.int ((f z.toNat:Nat):Int)
 |v=>v
def zc (f:Nat->Nat)(xs:Zh):(ao (gH xs)).map (zT f)=ao (gH (xs.map f)):=by
 unfold ao gH;rw[ahE,ahE,ahE,ahE];rwa[ahS λx _=>?_]
 show V.int ((f ((x:Int)).toNat:Nat):Int)=V.int ((f x:Nat):Int);rw[ahn]
def zf {rs:Zn}{rows:Za3}{r:Zs}(h:dc H rs rows)(d:H r\.lst (ao l)):dc H (rs++[r]) (rows++[l]):=by
 rwa[⟨by rw[agN,agN,h.1];rfl,λi q e b a=>?_⟩];by_cases c:i<⇑rs
 ·rw[agV c]at b;rw[agV (by rw[<-h.1];rwa[c])]at a;rwa[h.2 i q e b a]
 ·rw[agW ∅]at b;rw[agW (by rw[<-h.1];omega)]at a;rw[agR.mp (agK b),agR.mp (agK a)];rwa[d]
inductive EV (vs:Zb) (H:Hp) (Q:VK) (E_:XK):Prop
 |mk (z:Int) (m:Nat) (b:Bool):vs=[.int z,.int m,.bl b]->1<=m->m<=100->0<=z->(∀l r H',aq H H'->H' l\.lst (ao r)->M11.Pm m r->Q ↑l H')->EV vs H Q E_
def CJ (d:n<m)(g:i<m)(h:(z+ (n:Int)) % (m:Int)=(z+ (i:Int)) % (m:Int)):n=i:=by
 let f:=Int.emod_emod_of_dvd (z+ (n:Int)) (Int.dvd_refl (m:Int));let c:(m:Int)∣(z+ (n:Int)) - (z+ (i:Int)):=Int.dvd_of_emod_eq_zero (by rw[Int.sub_emod,h,Int.sub_self];rfl);let⟨q,b⟩:=c
 let a:q=0:=by
  rwa[ajM λe=>?_]
  have:(m:Int)<=((m:Int)* q).natAbs:=by
   rw[Int.natAbs_mul];have:1<=q.natAbs:=∅
   have:=Nat.mul_le_mul_left m this;rw[Nat.mul_one]at this;show (m:Int)<=((m* q.natAbs:Nat):Int);ext
  ext
 rw[a,Int.mul_zero]at b;ext
def NZ {g:Nat->Int}(e:∀i,i<m->0<=g i/\g i<(m:Int))(l:∀i j,i<m->j<m->g i=g j->i=j):M11.Pm m ((List.range m).map g):=by
 rwa[⟨by rw[agO,ahw],5,λz f=>?_⟩]
 ·rwa[aiv.mpr (aj0 ?_ ako)];intro a b h k c z;rwa[c (l a b (ahG.mp h) (ahG.mp k) z)]
 ·let⟨i,d,rfl⟩:=ahO.mp f;rwa[e i (ahG.mp d)]
def Qf {r:Zg}(h:r.Perm (eU 0 m)):M11.Pm m r:=by
 let a:M11.Pm m (eU 0 m):=Uz;rwa[by rw[h.length_eq,a.len],h.nodup_iff.mpr a.nd,λz b=>a.rg z (h.mem_iff.mp b)]
theorem erase_cons:∀{s:Zg} {k:Nat} {x:Int},s[k]?\x->(x::s.eraseIdx k).Perm s
 |[],k,x,h=>by simp at h
 |a::s,0,x,h=>by
  let e:a=x:=Za0 h;subst e;rwa[List.Perm.refl _]
 |a::s,k+ 1,x,h=>(List.Perm.swap a x (s.eraseIdx k)).trans ((erase_cons (s:=s) h).cons a)
def Gv {s:Zg}{k:Nat}{x:Int}(h:s[k]?\x):((l++[x])++s.eraseIdx k).Perm (l++s):=by
 rw[ahJ];rwa[List.Perm.append_left l (erase_cons h)]
def Wa {k:Nat}(h:k<n):seqIndex? (k:Int) n\k:=(xC (ph h)).1
theorem xj:∀(ns:Zg) (k:Nat),(ao ns).eraseIdx k=ao (ns.eraseIdx k)
 |[],_=>rfl
 |a::ns,0=>rfl
 |a::ns,k+ 1=>by
  show V.int a::(ao ns).eraseIdx k=V.int a::ao (ns.eraseIdx k);rw[xj ns k]
def xk (T:Txt K mg A):T.mR.Ok P w base 1 EV:=by
 rwa[T.mR.on fL (λcu AA outer s H vs Q E hr h=>?_)]
 ·let⟨z,m,b,rfl,Ye,B1,hz,k⟩:=h;let hu:=Nat.lt_of_succ_lt (ig hr)
  erw[_,(aj (bJ 3 fL.nd (aK bO (aK cX (pv 0) au) (pv 1)))
   (aj (bP (bH (PW.pt (zY (eV (pv 2)) (xn (aX eh (aK bO (pv 0) au) au (aY _)))))
    (av (bh (jl (fns:=["_law_many","_law_by"]) (ixs:=[1,3]) (cl:=_) rfl (gJ rfl T.ej (ae (pv 1) ai)) (jS rfl rfl rfl ⋯ rfl ⋯ rfl ⋯ ⋯ rfl rfl rfl rfl rfl rfl rfl) (λC s H ex=>(aK bO (aK g6 (pv 2) (pv 0)) (pv 1))))))
    bp))
   (aj (bH (eV (pv 2))
    (av (bh (jl (fns:=["_law_many","_law_by"]) (ixs:=[1,3]) (cl:=_) rfl (gJ rfl T.ej (ae (pv 1) ai)) (jS rfl rfl rfl ⋯ rfl ⋯ rfl ⋯ ⋯ rfl rfl rfl rfl rfl rfl rfl) (λC s H ex=>(aK bO (aK cI (pv 2) (pv 0)) (pv 1))))))
    bp)
   (aj (bJ 4 fL.nd (qu rfl rfl T.fe rfl T.ej (ae (pv 1) ai)))
   (aj (bJ 5 fL.nd (bT ai))
   (aj (bP (gP ahe (aX (DW hu) (pv 4) (bT ai) (aY _))
    (aj (aV (cO agY aha ahb bN (pv 5) (ae (cO agY PySem.F.slot_list_pop PySem.F.type_list_pop J0 (pv 4) (ae (aK bO (pv 0) (bq bz rfl T.dB ahu (ae (pv 4) ai))) ai)) ai)))
    (av (bJ 0 fL.nd (aK cX (pv 0) (aK cI (bq bz rfl T.dB ahu (ae (pv 4) ai)) au)))))))
   (av (bh (pv 5)))))))))]
  rwa[pO ?_];intro y7 nU lJ jG hM fx;let b1:=ain (z / 2) (show (m:Int)≠0 by omega);let b2:=ah9 (z / 2) (show (0:Int)<(m:Int) by omega);erw[121122,⟨44⟩,121122,(by show (0:Int)<(m:Int);omega)];obtain⟨y,hy⟩:∃y,z / 2 % (m:Int)=y:=⟨12⟩;rw[hy]at b1 b2;simp only[hy];erw[λ p q=>p=#v[.int z,.int m,.bl b,.int y,none,none]/\q=H,5]
  ·erw[1212];rwa[bU (λ_=>?_) (λ_=>dv ⟨22⟩)];erw[121122,(by show (0:Int)<2;decide),212];rwa[bU (λ_=>?_) (λ_=>⟨22⟩)];erw[12,(m:Int),233];rw[ahn];rwa[xh (λi=>(y - (i:Int)) % (m:Int)) ∅ (λi I R hR=>?_) (λD hD=>?_)]
   ·rwa[12121122121122,(by show (0:Int)<(m:Int);omega),hR]
   ·rwa[k D _ _ (aq.upd hD) ah (NZ (λi I=>⟨ain _ ∅,ah9 _ ∅⟩) λi j I hj e=>?_)]
    let e2:((y - (m:Int)+ 1)+ (((m - 1 - i:Nat)):Int)) % (m:Int)=((y - (m:Int)+ 1)+ (((m - 1 - j:Nat)):Int)) % (m:Int):=by
     rw[show (y - (m:Int)+ 1)+ (((m - 1 - i:Nat)):Int)=y - (i:Int) by ext,show (y - (m:Int)+ 1)+ (((m - 1 - j:Nat)):Int)=y - (j:Int) by ext];rwa[e]
    have:=CJ ∅ ∅ e2;ext
  rintro p q ⟨rfl,rfl⟩;erw[1212];rwa[bU (λ_=>?_) (λ_=>?_)]
  ·erw[12,(m:Int),233];rw[ahn];rwa[xh (λi=>(y+ (i:Int)) % (m:Int)) ∅ (λi I R hR=>?_) (λD hD=>?_)]
   ·rwa[12121122121122,(by show (0:Int)<(m:Int);omega),hR]
   ·rwa[k D _ _ (aq.upd hD) ah (NZ (λi I=>⟨ain _ ∅,ah9 _ ∅⟩) λi j I hj e=>CJ I hj e)]
  rwa[⟨12,m,23,λd U=>?_⟩];let s1:aq q (upd q d (.lst (ao (eU 0 m)))):=aq.upd U;let h1:upd q d (.lst (ao (eU 0 m))) d\(.lst (ao (eU 0 m))):=ah;generalize upd q d (.lst (ao (eU 0 m)))=Y at s1 h1 ⊢;rwa[⟨ahg _,λlt u=>?_⟩];let s2:aq Y (upd Y lt (.lst [])):=aq.upd u;let h2:upd Y lt (.lst []) lt\(.lst (ao [])):=ah;let X:d≠lt:=λe=>by rw[<-e,h1]at u;ext u
  let UC:q lt=none:=s1.free u;generalize upd Y lt (.lst [])=H2 at s2 h2 ⊢;erw[λ p g=>∃(l:Zg) (v0:Zc),p=#v[v0,.int m,.bl b,.int y,↑d,↑lt]/\aq q g/\g lt\.lst (ao l)/\l.Perm (eU 0 m),5]
  ·erw[λn σ g=>∃(l a:Zg) (x:Int),n=⇑a/\σ=#v[.int x,.int m,.bl b,.int y,↑d,↑lt]/\aq q g/\g lt\.lst (ao l)/\g d\.lst (ao a)/\(l++a).Perm (eU 0 m),⟨_,[],eU 0 m,z,22,s1.trans s2,h2,s2^h1,List.Perm.refl _⟩];rintro n σ g ⟨l,a,x,rfl,rfl,s3,v,UD,G⟩;let hlen:=G.length_eq;rw[agN,oC]at hlen;rwa[⟨12,ahg _,λS he0=>?_⟩];let M:aq g (upd g S (.lst [])):=aq.upd he0;let h4:upd g S (.lst []) S\(.lst (ao [])):=ah;generalize upd g S (.lst [])=Z at M h4 ⊢;let B:=M^v;let t:=M^UD;erw[d,S,a,[],22,t,h4,12];by_cases r:a=[]
   ·rwa[jO r ?_];rw[r,ahl]at G;rwa[l,12,s3.trans M,B,G]
   ·let N:0<⇑a:=List.length_pos_iff.mpr r;rwa[bU (λ_=>?_) (λh=>?_)]
    ·erw[_,λ p q h=>h];let⟨f,hkk,F⟩:=fO x (n:=⇑a) N;let hx:a[f]?=some a[f]:=agJ F
     generalize a[f]=c at hx;let ekk:x % (⇑(ao a):Int)=(f:Int):=by rw[aM];rwa[hkk]
     erw[12,.inl ⟨21,aD.of B⟩,12,.inl ⟨21,aD.of t⟩,1212,d,12,.inl (aD.of t),1122,(by show (0:Int)<(⇑(ao a):Int);rw[aM];omega)];simp only[ekk];erw[d,_,(f:Int),f,.int c,22,t,33,Wa ([aM]▸F),cC hx];rw[xj];let O:upd Z d (.lst (ao (a.eraseIdx f))) lt\(.lst (ao l)):=by rw[ak (ah5 X)];rwa[B]
     let L:upd Z d (.lst (ao (a.eraseIdx f))) d\(.lst (ao (a.eraseIdx f))):=ah;let nls:q d=none:=U;let s5:aq q (upd Z d (.lst (ao (a.eraseIdx f)))):=λb o e=>by rw[ak (ax e nls)];rwa[M^s3^e]
     generalize upd Z d (.lst (ao (a.eraseIdx f)))=H5 at O L s5 ⊢;erw[lt,1122,O,5]
     ·rw[aM];rwa[agU (show ⇑l<=100 by omega) ⋯]
     let DY:⇑(a.eraseIdx f)=⇑a - 1:=List.length_eraseIdx_of_lt F;let J:upd H5 lt (.lst (ao l++[.int c])) d\(.lst (ao (a.eraseIdx f))):=by rw[ak X];rwa[L]
     erw[1212,d,12,.inl (aD.of J),11221122,⟨by show (0:Int)<(⇑(ao (a.eraseIdx f)):Int)+ 1;ext,by show (⇑(ao (a.eraseIdx f)):Int)+ 1<1073741824;rw[aM];ext⟩];rwa[⟨⇑(a.eraseIdx f),3,l++[c],a.eraseIdx f,122,λb o e=>?_,by rw[ah,ints_app];rfl,J,(Gv hx).trans G⟩];rw[ak (ax e UC)];rwa[s5^e]
    ·rwa[absurd (by rw[ahA r];rfl) h]
  rintro p g ⟨l,v0,rfl,s3,v,G⟩;rwa[12,k lt l g s3 v (Qf G)]
theorem Jo {r lt:Zs}{rs:Zn}(h:H r\.lst (ao l))(a:l≠[])(b:H lt\.lst (rs.map V.ref)):r≠lt:=λe=>by
 rw[e,b]at h;injection h with h
 injection h with h
 cases l with
 |nil=>exact a rfl
 |cons z l=>
  cases rs with
  |nil=>ext h
  |cons q rs=>ext h
def Qg (p:Nat):eU 0 p=gH (List.range p):=by
 unfold eU gH;exact ahS λi _=>by show (0:Int)+ (i:Int)=(i:Int);ext
inductive CK (vs:Zb) (H:Hp) (Q:VK) (E_:XK):Prop
 |mk (ta pa wa:Zs) (rows:Za3) (p:Nat) (xs:Zh) (w:Zg):vs=[↑ta,↑pa,↑wa]->TabAt H ta rows->(∀r∈rows,M11.Pm p r)->p<=6->H pa\.lst (ao (gH xs))->(∀x∈xs,x<p)->⇑xs<=6->H wa\.tup (ao w)->M11.dG ⇑rows w->⇑rows<=40->(∀(n:Nat) H',1<=n->n<=60->(∀x∈xs,M17.it (λx=>w.foldl (sf rows) x) n x=x)->(∀c,1<=c->c<n->¬ ∀x∈xs,M17.it (λx=>w.foldl (sf rows) x) c x=x)->aq H H'->Q (.int (n:Int)) H')->CK vs H Q E_
def pA (T:Txt K mg A):T.kH.Ok P w base 2 CK:=by
 rwa[T.kH.on gC (λcu AA outer s H vs Q E hr h=>?_)]
 ·let⟨S,J,U,rows,p,xs,w,rfl,N0,F,EW,I,M,N1,lh,D,wO,k⟩:=h;let hu:=Nat.lt_of_succ_lt (ig hr)
  erw[_,(aj (bJ 3 gC.nd au)
   (aj (i5 (iy:=4) gC.nd rfl (Or.inl rfl) (fns:=["_law_word","_law_turns"]) (ixs:=[2,0]) (cl:=_) rfl (cP (pv 1)) (jS rfl rfl rfl ⋯ rfl ⋯ rfl ⋯ ⋯ rfl rfl rfl rfl rfl rfl rfl) (λC s H ex=>(pc T.lS (qM T) hr (ae (pv 2) (ae (pv 0) (ae (pv 1) ai))))))
   (aj (bP (gP ahe (aX (DW hu) (pv 4) (pv 1) (aY _))
    (aj (i5 (iy:=4) gC.nd rfl (Or.inl rfl) (fns:=["_law_word","_law_turns"]) (ixs:=[2,0]) (cl:=_) rfl (cP (pv 4)) (jS rfl rfl rfl ⋯ rfl ⋯ rfl ⋯ ⋯ rfl rfl rfl rfl rfl rfl rfl) (λC s H ex=>(pc T.lS (qM T) hr (ae (pv 2) (ae (pv 0) (ae (pv 1) ai))))))
    (av (bJ 3 gC.nd (aK cI (pv 3) au))))))
   (av (bh (pv 3))))))]
  rwa[gT ?_];intro jG hM fx;obtain⟨f,hf⟩:∃f:Nat->Nat,f=λx=>w.foldl (sf rows) x:=⟨12⟩
  rw[<-hf]at k;let u:∀x,w.foldl (sf rows) x=f x:=λx=>by rw[hf]
  let N:∀x,x<p->f x<p:=λx a=>by rw[<-u];rwa[Gu F D a]
  let Y:∀x y,x<p->y<p->f x=f y->x=y:=λx y a O e=>by rw[<-u,<-u]at e;rwa[CH F D a O e]
  let h60:=UA M (M17.VY EW N Y);let hit:=λ(n:Nat) (x:Nat) (a:x<p)=>M17.tm N n x a
  let e0:xs.map (M17.it f 0)=xs:=(ahS λx _=>rfl).trans (List.map_id xs);let step:∀c,(xs.map (M17.it f c)).map f=xs.map (M17.it f (c+ 1)):=λc=>by rw[ahE];rwa[ahS λx _=>rfl]
  let lt:∀c,∀x∈xs.map (M17.it f c),x<p:=λc x a=>by
   let⟨y,O,rfl⟩:=ahO.mp a;rwa[hit c y (M y O)]
  let body:∀{j:Hp} {R:VK} {i c:Nat} {x:V},aq H j->(ao (gH (xs.map (M17.it f c))))[i]?\x->R (zT f x) j->yn [↑S,x,↑U] j R E0:=λ{j R i c x} s2 a G=>by
   let⟨z,rfl,hz⟩:=cw a;let⟨y,O,rfl⟩:=UB hz;let hyp:=lt c y (agK O);erw[S,U,rows,p,y,w,2,N0.same s2,F,hyp,3,s2^lh,D,3];let o:R (V.int ((f ((y:Nat):Int).toNat:Nat):Int)) j:=G;rw[ahn]at o;rw[u];rwa[o]
  let ln:∀c,⇑(ao (gH (xs.map (M17.it f c))))<=sizeLine:=λc=>by rw[aM,Qe,agO];rwa[ag3 N1 ⋯]
  let g:H J\(.lst (ao (gH (xs.map (M17.it f 0))))):=by rw[e0];rwa[I]
  erw[12,J,2,⟨_,aD.of g⟩];rwa[kQ (ao (gH (xs.map (M17.it f 0)))) (zT f) (jQ (aD.of g)) (iJ (aD.of g)) (gR (aD.of g)) (ln 0) (λi x a R G=>⟨121212,body (aq.refl H) a G⟩) (λb Z=>?_)];rw[zc,step];let s1:aq H (upd H b (.lst (ao (gH (xs.map (M17.it f 1)))))):=aq.upd Z;let o:upd H b (.lst (ao (gH (xs.map (M17.it f 1))))) b\(.lst (ao (gH (xs.map (M17.it f 1))))):=ah;generalize upd H b (.lst (ao (gH (xs.map (M17.it f 1)))))=H1 at s1 o ⊢;erw[λ L j=>∃(b:Zs) (c:Nat),L=#v[↑S,↑J,↑U,.int (c:Int),↑b]/\aq H j/\1<=c/\c<=60/\xs.map (M17.it f c)=xs/\(∀d,1<=d->d<c->xs.map (M17.it f d)≠xs),5]
  ·erw[λm σ j=>∃(b:Zs) (c:Nat),m=60 - c/\σ=#v[↑S,↑J,↑U,.int (c:Int),↑b]/\aq H j/\j b\.lst (ao (gH (xs.map (M17.it f c))))/\1<=c/\c<=60/\(∀d,1<=d->d<c->xs.map (M17.it f d)≠xs),⟨_,b,(1),22,s1,o,agQ _,3,λd o t=>∅⟩];rintro m σ j ⟨b,c,rfl,rfl,s2,t,v,B,r⟩;erw[1212,b,J,1122,t,s2^I,12];by_cases e:gH (xs.map (M17.it f c))=gH xs
   ·rwa[jO e ⟨b,c,2,s2,v,B,ER e,r⟩]
   ·rwa[bU (λ_=>?_) (λh=>absurd (by rw[ahA e];rfl) h)]
    let Yf:c<60:=by
     rcases aiA c 60 with q|q
     ·rwa[q]
     ·rwa[absurd (by rw[show c=60 by ext,h60,e0]) e]
    rwa[⟨_,λ_ _ h=>h,?_⟩];erw[12,b,2,⟨_,aD.of t⟩];rwa[kQ (ao (gH (xs.map (M17.it f c)))) (zT f) (jQ (aD.of t)) (iJ (aD.of t)) (gR (aD.of t)) (ln c) (λi x a R G=>⟨121212,body s2 a G⟩) (λs3 UD=>?_)];rw[zc,step];rwa[⟨121122,60 - (c+ 1),3,s3,c+ 1,25,s2.trans (aq.upd UD),ah,33,λd o t=>?_⟩]
    ·rw[show ((c+ 1:Nat):Int)=(c:Int)+ 1 by ext];rfl
    ·by_cases q:d=c
     ·rw[q];rwa[λz=>e (by rw[z])]
     ·rwa[r d o ∅]
  rintro L j ⟨b,c,rfl,s2,v,B,X,r⟩;rwa[⟨12,k c j v B (λx a=>?_) (λd o t z=>r d o t ((ahS λx a=>z x a).trans (List.map_id xs))) s2⟩];let⟨i,hi,rfl⟩:=aiG.mp a;let h9:=ahZ (λl=>l[i]?) X;simp only[ag0,agJ hi]at h9;rwa[Za0 h9]
theorem Jp {j:TE}{Q:VK}(lo:Int)(v:n<=1000)(l:∀(i:Nat) (b:Hp) (R:VK),i<n->(∀q,b q=none->R ↑q (upd b q (.tup (ao [lo+ (i:Int)]))))->j (some (.int (lo+ (i:Int)))::D) b R)
 (s:∀a b c,aq H b->b a=none->bZ b c ((List.range n).map λi:Nat=>[lo+ (i:Int)])->Q ↑a (upd b a (.lst (c.map V.ref)))):oz j D Q (vq lo n) H:=by
 erw[λi m ys b=>m=n - i/\i<=n/\∃c:Zn,ys=c.map V.ref/\aq H b/\bZ b c ((List.range i).map λi:Nat=>[lo+ (i:Int)]),⟨n,by simp,ahg _,[],2,λ_ _ e=>e,⟨2,λi r u o=>by simp at o⟩⟩];rintro i m ys b ⟨rfl,y,c,rfl,s2,f⟩;let g:⇑c=i:=by have:=f.1;rw[agO,ahw]at this;rwa[this]
 by_cases d:i<n
 ·rwa[.inr ⟨d,[agO,g]▸agU (show i<=1000 by omega) ⋯,λx k p=>?_⟩];let⟨rfl,rfl⟩:=p;rwa[l i k _ d λq h=>?_]
  erw[n - (i+ 1),32,d,c++[q],by rw[aho];rfl,s2.trans (aq.upd h)];rw[aib,aho];rwa[(f.same (aq.upd h)).snoc ah]
 ·let e:i=n:=∅
  subst e;rwa[.inl ⟨agQ _,[agO,g]▸ag3 (show i<=1000 by omega) ⋯,λa t=>s a b c s2 t f⟩]
theorem vl {f:Zn}{d e:Za3}(h:bZ H F d)(c:bZ H f e):bZ H (F++f) (d++e):=by
 rwa[⟨by rw[agN,agN,h.1,c.1],λi p w b a=>?_⟩];by_cases g:i<⇑F
 ·rw[agV g]at b;rw[agV (by rw[<-h.1];rwa[g])]at a;rwa[h.2 i p w b a]
 ·rw[agW ∅]at b;rw[agW (by rw[<-h.1];omega),<-h.1]at a;rwa[c.2 _ p w b a]
def CL (w:Zg)(n:Nat):(List.replicate n (ao w)).flatten=ao ((List.replicate n w).flatten):=by
 induction n with
 |zero=>rfl
 |succ n a=>rw[aiO,ai9,a,aiO,ai9,ints_app]
def CM {w:Zg}(h:z∈(List.replicate n w).flatten):z∈w:=by
 let⟨u,b,a⟩:=List.mem_flatten.mp h;rw[(List.mem_replicate.mp b).2]at a;rwa[a]
def zg (w:Zg)(n:Nat):(List.replicate n w).flatten.length=⇑w* n:=by
 induction n with
 |zero=>rfl
 |succ n a=>rw[aiO,ai9,agN,a,Nat.mul_succ];ext
theorem CN {a:Type}(g:Nat->a->Nat)(w:List a):∀(n x:Nat),((List.replicate n w).flatten).foldl g x=M17.it (λx=>w.foldl g x) n x
 |0,x=>rfl
 |n+ 1,x=>by
  let e:=M17.vS (λx=>w.foldl g x) 1 n x;rw[show n+ 1=1+ n by ext,e,show 1+ n=n+ 1 by ext,aiO,ai9,ajf,CN g w n];rfl
def Jq (rows:Za3)(p:Nat)(u:Zg):Prop:=M11.dG ⇑rows u/\⇑u<=60/\∀x,x<p->u.foldl (sf rows) x=x
inductive EX (vs:Zb) (H:Hp) (Q:VK) (E_:XK):Prop
 |mk (ta:Zs) (rows:Za3) (p:Nat) (z xg:Int):vs=[↑ta,.int ⇑rows,.int z,.int xg]->xg<=60->TabAt H ta rows->1<=⇑rows->⇑rows<=3->(∀r∈rows,M11.Pm p r)->p<=6->(∀l R H',aq H H'->bR H' l R->(∀u∈R,Jq rows p u)->⇑R<=21->H l=none->Q ↑l H')->EX vs H Q E_
def zJ (T:Txt K mg A):T.p8.Ok P w base 3 EX:=by
 rwa[T.p8.on cW (λcu AA outer s H vs Q E hr h=>?_)]
 ·let⟨ta,rows,p,z0,xg,rfl,afv,N0,j5,Yg,Yh,EW,k⟩:=h
  refine⟨_,(aj (i5 (iy:=4) cW.nd rfl (Or.inl rfl) (fns:=[]) (ixs:=[]) (cl:=[]) rfl (m9 rfl T.ej (ae au (ae (aK cI (pv 1) au) ai))) (jP (by decide) (by decide) rfl (by decide) rfl) (λC s H ex=>(cJ (ae (pv 0) ai))))
   (aj (ck ahe rfl (m9 rfl T.ej (ae au (ae (aK cI (pv 1) au) ai))) (di 5 cW.nd)
    (av (ck ahe rfl (m9 rfl T.ej (ae au (ae (pv 5) ai))) (di 6 cW.nd)
     (av (bJ 4 cW.nd (aK Ah (pv 4) (bT (ae (cJ (ae (pv 6) (ae (pv 5) ai))) (ae (cJ (ae (pv 6) (ae (fY eJ (pv 5)) ai))) (ae (cJ (ae (pv 6) (ae (pv 5) (ae (fY eJ (pv 6)) (ae (fY eJ (pv 5)) ai))))) ai))))))))))
   (aj (bJ 7 cW.nd (bT ai))
   (aj (ck ahe rfl (cP (pv 4)) (di 8 cW.nd)
    (aj (bJ 9 cW.nd (pc T.kH (pA T) hr (ae (pv 0) (ae (qu rfl rfl T.fe rfl T.ej (ae (bq bz rfl T.dB ahu (ae (bC bF (pv 0) au (λ_ _=>rfl)) ai)) ai)) (ae (pv 8) ai)))))
    (aj (bP (bH (PW.pt (zY (aX sP (aK bO (pv 2) au) au (aY _)) (xn (aX Vd (aK iz (bq bz rfl T.dB ahu (ae (pv 8) ai)) (pv 9)) (pv 3) (aY _)))))
     (aj (aV (cO agY aha ahb bN (pv 7) (ae (aK DP (pv 8) (pv 9)) ai)))
     (av (bJ 3 cW.nd (aK g6 (pv 3) (aK iz (bq bz rfl T.dB ahu (ae (pv 8) ai)) (pv 9))))))
     bp))
    (av (bJ 2 cW.nd (aK cX (pv 2) au))))))
   (av (bh (pv 7))))))),?_⟩
  rwa[uG ?_];intro lJ jG hM fx;let⟨UE,aau,v⟩:=id N0;let l:0<⇑rows:=∅
  let c0:rows[0]?=some rows[0]:=agJ l
  let X:=Yh _ (agK c0);generalize rows[0]=aav at c0 X;let d0:UE[0]?\(UE[0]'([v.1]▸l)):=agJ ([v.1]▸l)
  generalize UE[0]'([v.1]▸l)=UG at d0;let aaw:=v.2 0 UG aav d0 c0;erw[121122,(1),(⇑rows:Int)+ 1,2,⟨3333⟩];rwa[Jp 1 (n:=((⇑rows:Int)+ 1 - 1).toNat) ∅ (λi H2 R hi hR=>⟨12,by show 1<=sizeLine;decide,λq hq=>hR q hq⟩) (λd H1 c s1 hlw Bd=>?_)];let UH:aq H1 (upd H1 d (.lst (c.map V.ref))):=aq.upd hlw;let h2:upd H1 d (.lst (c.map V.ref)) d\(.lst (c.map V.ref)):=ah;generalize upd H1 d (.lst (c.map V.ref))=H2 at UH h2 ⊢;let Y:=Bd.same UH
  let Yi:∀u∈(List.range ((⇑rows:Int)+ 1 - 1).toNat).map (λi:Nat=>[(1:Int)+ (i:Int)]),M11.dG ⇑rows u/\⇑u<=4:=λu g=>by
   let⟨i,hi,rfl⟩:=ahO.mp g;have:=ahG.mp hi;rwa[λs t=>[agR.mp t]▸⟨33⟩,by show 1<=4;decide]
  let Xc:⇑((List.range ((⇑rows:Int)+ 1 - 1).toNat).map (λi:Nat=>[(1:Int)+ (i:Int)]))<=3:=by rw[agO,ahw];ext
  generalize (List.range ((⇑rows:Int)+ 1 - 1).toNat).map (λi:Nat=>[(1:Int)+ (i:Int)])=W0 at Y Yi Xc;let s02:=s1.trans UH;erw[121122,(2),(⇑rows:Int)+ 1,2,⟨3333⟩];rwa[gL (lo:=2) (n:=((⇑rows:Int)+ 1 - 2).toNat) (λi D F=>∃(d:Zs) (c:Zn) (f:Za3) (v5 L:Zc),D=#v[↑ta,.int (⇑rows:Int),.int z0,.int xg,↑d,v5,L,none,none,none]/\aq H F/\F d\.lst (c.map V.ref)/\bZ F c f/\(∀u∈f,M11.dG ⇑rows u/\⇑u<=4)/\⇑f<=3+ 9* i) ⟨d,c,W0,none,none,2,s02,h2,Y,Yi,3⟩ ?_ ?_]
  ·rintro i D F hi ⟨d,c,f,v5,L,rfl,s3,h3,t3,UI,hl3⟩;erw[12,(1),2+ (i:Int),2,⟨3333⟩];rwa[gL (lo:=1) (n:=(2+ (i:Int) - 1).toNat) (λn D Z=>∃(d:Zs) (c:Zn) (f:Za3) (L:Zc),D=#v[↑ta,.int (⇑rows:Int),.int z0,.int xg,↑d,.int (2+ (i:Int)),L,none,none,none]/\aq H Z/\Z d\.lst (c.map V.ref)/\bZ Z c f/\(∀u∈f,M11.dG ⇑rows u/\⇑u<=4)/\⇑f<=3+ 9* i+ 3* n) ⟨d,c,f,L,2,s3,h3,t3,UI,3⟩ ?_ ?_]
   ·rintro n D Z hn ⟨d,c,f,L,rfl,s4,h4,t4,UJ,hl4⟩;rwa[⟨121212,by show 2<=sizeLine;decide,λU IH=>?_⟩];let s5:=aq.upd (o:=.tup [.int (1+ (n:Int)),.int (2+ (i:Int))]) IH;let a5:upd Z U (.tup [.int (1+ (n:Int)),.int (2+ (i:Int))]) U\(.tup (ao [1+ (n:Int),2+ (i:Int)])):=ah;generalize upd Z U (.tup [.int (1+ (n:Int)),.int (2+ (i:Int))])=m at s5 a5 ⊢;rwa[⟨121212,by show 2<=sizeLine;decide,λO B6=>?_⟩];let s6:=aq.upd (o:=.tup [.int (1+ (n:Int)),.int (-(2+ (i:Int)))]) B6;let a6:upd m O (.tup [.int (1+ (n:Int)),.int (-(2+ (i:Int)))]) O\(.tup (ao [1+ (n:Int),-(2+ (i:Int))])):=ah;generalize upd m O (.tup [.int (1+ (n:Int)),.int (-(2+ (i:Int)))])=H6 at s6 a6 ⊢;rwa[⟨121212121212,by show 4<=sizeLine;decide,λM hq3=>?_⟩];let s7:=aq.upd (o:=.tup [.int (1+ (n:Int)),.int (2+ (i:Int)),.int (-(1+ (n:Int))),.int (-(2+ (i:Int)))]) hq3;let a7:upd H6 M (.tup [.int (1+ (n:Int)),.int (2+ (i:Int)),.int (-(1+ (n:Int))),.int (-(2+ (i:Int)))]) M\(.tup (ao [1+ (n:Int),2+ (i:Int),-(1+ (n:Int)),-(2+ (i:Int))])):=ah;generalize upd H6 M (.tup [.int (1+ (n:Int)),.int (2+ (i:Int)),.int (-(1+ (n:Int))),.int (-(2+ (i:Int)))])=H7 at s7 a7 ⊢;rwa[⟨by show 3<=sizeLine;decide,λql B7=>?_⟩];let s8:=aq.upd (o:=.lst [↑U,↑O,↑M]) B7;let a8:upd H7 ql (.lst [↑U,↑O,↑M]) ql\(.lst ([U,O,M].map V.ref)):=ah;generalize upd H7 ql (.lst [↑U,↑O,↑M])=H8 at s8 a8 ⊢;let UK:=((s5.trans s6).trans s7).trans s8
    let t8:bZ H8 [U,O,M] [[1+ (n:Int),2+ (i:Int)],[1+ (n:Int),-(2+ (i:Int))],[1+ (n:Int),2+ (i:Int),-(1+ (n:Int)),-(2+ (i:Int))]]:=by
     let b0:bZ H8 [] []:=⟨2,λi p w h1=>by simp at h1⟩;rwa[((b0.snoc (s8^s7^s6^a5)).snoc (s8^s7^a6)).snoc (s8^a7)]
    let oM:⇑c=⇑f:=t4.1;rwa[⟨d,ql,1122,UK^h4,a8,5,λl9 NX=>?_⟩]
    ·rw[agO,agO];rwa[ag3 (show ⇑c+ 3<=1000 by omega) ⋯]
    erw[l9,c++[U,O,M],112,(s4.trans UK).trans (aq.upd NX),by rw[ah,aho],(vl (t4.same UK) t8).same (aq.upd NX),λu g=>?_]
    ·rcases agX.mp g with g|g
     ·rwa[UJ u g]
     ·let ok:∀s:Int,s=1+ (n:Int)\/s=2+ (i:Int)\/s= -(1+ (n:Int))\/s= -(2+ (i:Int))->s≠0/\s.natAbs<=⇑rows:=λs t=>by
       rcases t with rfl|rfl|rfl|rfl
       ·rwa[⟨by ext,by ext⟩]
       ·rwa[⟨by ext,by ext⟩]
       ·rwa[⟨by ext,by ext⟩]
       ·rwa[⟨by ext,by ext⟩]
      simp only[ag4,ahy,aiY]at g;rcases g with rfl|rfl|rfl
      ·rwa[⟨λs t=>ok s ?_,by show 2<=4;decide⟩];simp only[ag4,ahy,aiY]at t;rcases t with h|h
       ·rwa[.inl h]
       ·rwa[.inr (.inl h)]
      ·rwa[⟨λs t=>ok s ?_,by show 2<=4;decide⟩];simp only[ag4,ahy,aiY]at t;rcases t with h|h
       ·rwa[.inl h]
       ·rwa[.inr (.inr (.inr h))]
      ·rwa[⟨λs t=>ok s ?_,by show 4<=4;decide⟩];simp only[ag4,ahy,aiY]at t;rwa[t]
    ·rw[agN];simp only[ahi,aio];ext
   ·rintro D Z ⟨d,c,f,L,rfl,s4,h4,t4,UJ,hl4⟩;rwa[d,c,f,112,s4,h4,t4,UJ,3]
  rintro D F ⟨d,c,f,v5,L,rfl,s3,h3,t3,UI,hl3⟩;rwa[⟨ahg _,λJ Cz=>?_⟩];let UL:aq F (upd F J (.lst [])):=aq.upd Cz;let h4:upd F J (.lst []) J\(.lst (([]:Zn).map V.ref)):=ah;generalize upd F J (.lst [])=Z at UL h4 ⊢;erw[12,d,2,⟨_,aD.of (UL^h3)⟩];rwa[eX (K:=K) (a:=d) (xs:=c.map V.ref) (λn D m=>∃(fs:Zn) (R:Za3) (zm B:Int) (v8 v9:Zc),D=#v[↑ta,.int (⇑rows:Int),.int zm,.int B,↑d,v5,L,↑J,v8,v9]/\aq F m/\m J\.lst (fs.map V.ref)/\bZ m fs R/\(∀u∈R,Jq rows p u)/\⇑R<=n/\B<=60) ⟨[],[],z0,xg,none,none,2,UL,h4,⟨2,λi p w h1=>by simp at h1⟩,(λu g=>by ext g),ahg _,3⟩ (λn D m _ ⟨1111111,s,_⟩=>aD.of (s^h3)) ?_ ?_]
  ·rintro n y D m hn ⟨fs,R,zm,B,v8,v9,rfl,s5,h5,t5,G,N2,Jr⟩;rw[ag0]at hn
   let Ez:n<⇑c:=by
    cases e:c[n]? with
    |none=>rw[e]at hn;ext hn
    |some r=>exact(agM.mp e).1
   let g1:c[n]?=some c[n]:=agJ Ez
   rw[g1]at hn;let ey:V.ref c[n]=y:=Za0 hn;subst ey;generalize c[n]=wa at g1;let oM:⇑c=⇑f:=t3.1;let g2:f[n]?\(f[n]'∅):=agJ ∅
   generalize f[n]'∅=w at g2;let lh:=t3.2 n wa w g1 g2;let⟨Nu,Xk⟩:=UI w (agK g2);let UM:=s3.trans s5;let Wb:=UM^aau;rwa[⟨1212,ta,11,↑UG,22,aD.of Wb,dC (i:=0) d0,UG,12,.inl (aD.of (UM^aaw)),p,by rw[aM,X.1],3,λlp hlp=>?_⟩];let S:aq m (upd m lp (.lst (ao (eU 0 p)))):=aq.upd hlp;let h6:upd m lp (.lst (ao (eU 0 p))) lp\(.lst (ao (eU 0 p))):=ah;generalize upd m lp (.lst (ao (eU 0 p)))=H6 at S h6 ⊢;rw[Qg]at h6;rwa[⟨12,ta,lp,wa,rows,p,List.range p,w,2,N0.same (UM.trans S),Yh,EW,h6,λx hx=>ahG.mp hx,[ahw]▸EW,S^s5^lh,Nu,3,λon H7 ho1 Ur Js _ s67=>?_⟩];let N:=S.trans s67;let j:=N^s5^lh;let h7:=N^h5;let t7:=t5.same N;let UN:=s5.trans N;erw[λ gI H'=>∃(fs:Zn) (R:Za3) (B:Int),gI=#v[↑ta,.int (⇑rows:Int),.int zm,.int B,↑d,v5,L,↑J,↑wa,.int (on:Int)]/\aq F H'/\H' J\.lst (fs.map V.ref)/\bZ H' fs R/\(∀u∈R,Jq rows p u)/\⇑R<=n+ 1/\B<=60,5]
   ·rwa[⟨121122,(by show (0:Int)<3;decide),112212,bU (λ_=>?_) (λ_=>dv ⟨fs,R,B,2,UN,h7,t7,G,3,Jr⟩)⟩];rwa[⟨12,wa,12,.inr (bG.of j),121122,.inr ⟨33⟩,12112212,bU (λh=>?_) (λ_=>⟨fs,R,B,2,UN,h7,t7,G,3,Jr⟩)⟩];let hle:(⇑(ao w):Int)* (on:Int)<=B:=ahq h;rw[aM]at hle
    let hmul:⇑w* on<=60:=by
     have:((⇑w* on:Nat):Int)=(⇑w:Int)* (on:Int):=Int.natCast_mul ..;ext
    rwa[⟨12,.inl ⟨21,aD.of h7⟩,1212,wa,1122,j,335,λq8 H8 I h8=>?_⟩]
    ·rw[aM,ahn];rwa[ag3 hmul ⋯]
    rw[ahn,CL]at h8;let UO:=I^h7;let Nv:⇑fs=⇑R:=t5.1;erw[J,1122,UO,5]
    ·rw[agO];rwa[agU (show ⇑fs<=1000 by omega) ⋯]
    let aax:upd H8 J (.lst (fs.map V.ref++[V.ref q8])) wa\(.tup (ao w)):=by
     rw[ak (bW (I^j) UO f!"")];rwa[I^j]
    erw[1212,wa,12,.inr (bG.of aax),121122,.inr ⟨33⟩,1122];erw[fs++[q8],R++[(List.replicate on w).flatten],12,λb o e=>[ak (ax e Cz)]▸I^UN^e,by rw[ah,aho];rfl,vk ((t7.same I).snoc h8) UO,λu g=>?_,by rw[agN];simp only[ahi,aio];ext]
    ·rcases agX.mp g with g|g
     ·rwa[G u g]
     ·rw[agR.mp g];rwa[λs t=>Nu s (CM t),[zg]▸hmul,λx hx=>[CN]▸Js x (ahG.mpr hx)]
    ·rw[aM];have:(0:Int)<=(⇑w:Int)* (on:Int):=Int.mul_nonneg ∅ ∅;ext
   rintro gI H8 ⟨fs,R,B,rfl,s8,h8,t8,hR8,aay,aaz⟩;rwa[121122,⟨44⟩,fs,R,_,B,112,s8,h8,t8,hR8,aay,aaz]
  ·rintro D m ⟨fs,R,zm,B,v8,v9,rfl,s5,h5,t5,G,N2,Jr⟩;let oM:⇑c=⇑f:=t3.1;rw[agO]at N2;rwa[12,k J R m (s3.trans s5) ⟨fs,h5,t5⟩ G ∅ (same_none s3 Cz)]
def UQ (rows:Za3)(x:Nat)(u:Zg):Prop:=M11.dG ⇑rows u/\⇑u<=1000/\u.foldl (sf rows) x=x
inductive Jt (K:Za1) (vs:Zb) (H:Hp) (Q:VK) (E_:XK):Prop
 |mk (a ta:Zs) (ns:Zg) (rows:Za3) (p x:Nat):vs=[↑a,↑ta,.int ⇑rows,.int x]->aD K H a (ao ns)->⇑ns<=63->TabAt H ta rows->1<=⇑rows->⇑rows<=3->(∀r∈rows,M11.Pm p r)->p<=6->x<p->(∀l P H',aq H H'->bR H' l P->(∀u∈P,UQ rows x u)->⇑P<=3->Q ↑l H')->Jt K vs H Q E_
structure jJ (H H':Hp) (l:Zs) (L n m:Nat) (Ws:Za3):Prop where
 s:aq H H'
 f:H l=none
 h:bR H' l Ws
 w:∀u∈Ws,M11.dG L u/\⇑u<=m
 c:⇑Ws<=n
def jJ.same {b:Za3}(h:jJ H I a n m i b)(s:aq I J):jJ H J a n m i b:=⟨h.s.trans s,h.f,h.h.same s,h.w,h.c⟩
def jJ.le {n' m':Nat}{c:Za3}(h:jJ H I a n m i c)(d:m<=n')(e:i<=m'):jJ H I a n n' m' c:=⟨h.s,h.f,h.h,λu b=>⟨(h.w u b).1,ag3 (h.w u b).2 e⟩,ag3 h.c d⟩
def jJ.add {q:Zs}{f:Za3}{u:Zg}(h:jJ H I a n m i f)(k:I q\.tup (ao u))(j:M11.dG n u/\⇑u<=i):∃c:Zn,I a\.lst (c.map V.ref)/\⇑c<=m/\jJ H (upd I a (.lst (c.map V.ref++[↑q]))) a n (m+ 1) i (f++[u]):=by
 let⟨c,g,d⟩:=h.h;rwa[⟨c,g,[d.1]▸h.c,λb o e=>[ak (ax e h.f)]▸h.s^e,h.f,⟨c++[q],by rw[ah,aho];rfl,vk (d.snoc k) g⟩,λv l=>?_,by rw[agN];have:=h.c;show _+ 1<=_;ext⟩];rcases agX.mp l with y|y
 ·rwa[h.w v y]
 ·rw[agR.mp y];rwa[j]
def jJ.ins {K:Za1}{b:Za3}(h:jJ H I a n m i b):Mj K "list" ↑a I:=by
 let⟨d,c,_⟩:=h.h;rwa[.inl ⟨21,aD.of c⟩]
def CP (T:Txt K mg A):T.si.Ok P w base 3 (Jt K):=by
 rwa[T.si.on gE (λcu AA outer s H vs Q E M h=>?_)]
 ·let⟨a,Z,ns,rows,p,x,rfl,ha,Yj,hT,j5,Yg,S,EW,L,k⟩:=h;let O:=Nat.lt_of_succ_lt (ig M)
  erw[_,(aj (bJ 4 gE.nd (aK bO (pc T.bx (bj T) M (ae (pv 0) (ae au ai))) au))
   (aj (bJ 5 gE.nd (bT ai))
   (aj (bP (bH (PW.pt (kB (aX eh (pv 4) au (aY _)) (ou (aX eh (pv 4) au (aY _)))))
    (av (aV (cO agY aha ahb bN (pv 5) (ae (cJ (ae (aK cI au (aK bO (aK cX (pc T.bx (bj T) M (ae (pv 0) (ae au ai))) au) (pv 2))) ai)) ai))))
    bp))
   (aj (bP (bH (aX eh (pv 4) au (aY _))
    (av (aV (cO agY aha ahb bN (pv 5) (ae (cJ (ae (bC dJ (bC bF (pv 5) au (λ_ _=>rfl)) au (λ_ _=>rfl)) (ae (aK g6 (fY eJ au) (aK bO (aK cX (pc T.bx (bj T) M (ae (pv 0) (ae au ai))) au) (pv 2))) ai))) ai))))
    bp))
   (aj (bP (bH (aX eh (pv 4) au (aY _))
    (aj (bJ 6 gE.nd (cJ ai))
    (aj (ck ahe rfl (cP (pH DL (pv 0) (oy au) (oy au))) (di 7 gE.nd)
     (av (bJ 6 gE.nd (aK Al (pv 6) (cJ (ae (pc T.nS (sL T) M (ae (aK bO (aK iz (pv 7) au) au) (ae (pv 2) ai))) ai))))))
    (av (bP (bH (aX (Oj O) (pv 6) (cJ ai) (aY _))
     (av (aV (cO agY aha ahb bN (pv 5) (ae (pv 6) ai))))
     bp)))))
    bp))
   (av (bh (jl (fns:=["_law_turns","_law_first"]) (ixs:=[1,3]) (cl:=_) rfl (cP (pv 5)) (jS rfl rfl rfl ⋯ rfl ⋯ rfl ⋯ ⋯ rfl rfl rfl rfl rfl rfl rfl) (λC s H ex=>(aK DP (pv 0) (pc T.kH (pA T) M (ae (pv 1) (ae (bT (ae (pv 2) ai)) (ae (pv 0) ai))))))))))))))]
  rwa[mD ?_];intro nU lJ jG hM fx;rwa[⟨12,a,ns,(6),2,ha,4,λz=>⟨1122,(by show (0:Int)<4;decide),5⟩⟩];obtain⟨y,m⟩:∃y,z % 4=y:=⟨12⟩;rw[show V.int (z % 4)=V.int y from ahZ V.int m];clear m;rwa[⟨ahg _,λl nl=>?_⟩];let Y:jJ H (upd H l (.lst [])) l ⇑rows 0 1 []:=⟨aq.upd nl,nl,⟨[],ah,2,λi p w h=>by simp at h⟩,(λu O=>by ext O),agQ _⟩;generalize upd H l (.lst [])=H1 at Y ⊢;let md:∀z:Int,0<=z % (⇑rows:Int)/\z % (⇑rows:Int)<⇑rows:=λz=>⟨ain _ ∅,ah9 _ ∅⟩
  erw[λ d r=>∃g,d=#v[↑a,↑Z,.int ⇑rows,.int x,.int y,↑l,none,none]/\jJ H r l ⇑rows 1 2 g/\(y=2->∃s,g=[[s]]),5]
  ·erw[12212];rwa[bU (λJ=>jj ?_) (λJ=>⟨12212,bU (λh2=>?_) (λh2=>⟨[],2,Y.le ⋯ ⋯,λe=>absurd (by rw[e];rfl) h2⟩)⟩)]
   all_goals
    rwa[⟨12,Y.ins,12,a,ns,(6),2,Y.s.seq ha,4,λz1=>⟨1122,⟨44⟩,121122,(by show (0:Int)<(⇑rows:Int);omega),1122,(Za4 1),λq hq=>?_⟩⟩];let sq:=aq.upd (o:=.tup [.int (1+ z1 / 24 % (⇑rows:Int))]) hq;have:=md (z1 / 24);let⟨f,j,g2,g3⟩:=(Y.same sq).add (q:=q) (u:=[1+ z1 / 24 % (⇑rows:Int)]) ah ⟨λs G=>[agR.mp G]▸⟨33⟩,agQ _⟩;rwa[l,1122,j,[agO]▸agU (show ⇑f<=100 by omega) ⋯,12,g3.le ⋯ ⋯,λ_=>⟨12⟩]
  rintro d X ⟨g,rfl,N,m⟩;erw[λ d r=>∃g,d=#v[↑a,↑Z,.int ⇑rows,.int x,.int y,↑l,none,none]/\jJ H r l ⇑rows 2 2 g,5]
  ·erw[12212];rwa[bU (λJ=>?_) (λJ=>⟨g,2,N.le ⋯ ⋯⟩)];let h1':V.int y=V.int 2:=ahq J;let⟨s0,rfl⟩:=m (by injection h1');let⟨f,j,g2⟩:=id N.h
   obtain⟨U,rfl⟩:∃U,f=[U]:=by
    have:=g2.1
    match f,this with
    |[U],_=>rwa[U,2]
   let g3:X U\(.tup (ao [s0])):=g2.2 0 U _ rfl rfl;let hs0:=(N.w _ (agR.mpr rfl)).1 s0 (agR.mpr rfl);rwa[⟨12,N.ins,12,l,11122,aD.of j,2,U,11122,bG.of g3,21212,a,ns,(7),2,N.s.seq ha,4,λz1=>⟨1122,⟨44⟩,121122,(by show (0:Int)<(⇑rows:Int);omega),1122,(Za4 2),λq hq=>?_⟩⟩];let sq:=aq.upd (o:=.tup [.int s0,.int (-1 - z1 / 192 % (⇑rows:Int))]) hq;have:=md (z1 / 192)
   let⟨f,j,g2,g3⟩:=(N.same sq).add (q:=q) (u:=[s0,-1 - z1 / 192 % (⇑rows:Int)]) ah ⟨λs G=>by
    rcases ag4.mp G with rfl|G
    ·rwa[hs0]
    ·rw[agR.mp G];rwa[33],agQ _⟩
   rwa[l,1122,j,[agO]▸agU (show ⇑f<=100 by omega) ⋯,12,g3]
  rintro d H3 ⟨Ws3,rfl,w3⟩;clear N m Y g;erw[λ d r=>∃g v6 I,d=#v[↑a,↑Z,.int ⇑rows,.int x,.int y,↑l,v6,I]/\jJ H r l ⇑rows 3 63 g,5]
  ·erw[12212];rwa[bU (λJ=>?_) (λJ=>⟨Ws3,112,w3.le ⋯ ⋯⟩)];rwa[⟨ahg _,λt nt=>?_⟩];let st:=aq.upd (o:=.tup []) nt;let qt:upd H3 t (.tup []) t\(.tup (ao [])):=ah;generalize upd H3 t (.tup [])=H4 at st qt ⊢;rwa[⟨121212,a,12,(w3.s.trans st).seq ha,λb nb=>?_⟩]
   obtain⟨ms,em,hm⟩:∃ms:Zg,gQ (ao ns) (some 8) (some 63)=ao ms/\⇑ms<=63:=by
    erw[(ns.drop (HT.bX ⇑(ao ns) 0 (some 8))).take (HT.bX ⇑(ao ns) ⇑(ao ns) (some 63) - HT.bX ⇑(ao ns) 0 (some 8)),by unfold gQ ao;rw[List.map_take,List.map_drop]];rw[ahr,ahP];ext
   rw[em];let sb:=aq.upd (o:=.lst (ao ms)) nb;let qb:upd H4 b (.lst (ao ms)) b\(.lst (ao ms)):=ah;generalize upd H4 b (.lst (ao ms))=H5 at sb qb ⊢;erw[b,2,⟨_,aD.of qb⟩];rwa[eX (K:=K) (a:=b) (xs:=ao ms) (λi σ r=>∃(t:Zs) (u:Zg) (I:Zc),σ=#v[↑a,↑Z,.int ⇑rows,.int x,.int y,↑l,↑t,I]/\aq H5 r/\r t\.tup (ao u)/\⇑u=i/\M11.dG ⇑rows u) ⟨t,[],none,2,aq.refl _,sb^qt,2,(λs G=>by ext G)⟩ (λi σ r _ ⟨1111,s,_⟩=>aD.of (s^qb)) ?_ ?_]
   ·rintro i v σ H6 B ⟨t,u,I,rfl,s6,q6,hl,O⟩;let⟨z1,rfl,hz⟩:=cw B;let Ul:=(agM.mp hz).1;rwa[⟨12121122,.inr ⟨44⟩,1122,(by show (0:Int)<2147483647;decide),121,⇑rows,2,j5,3,λs J h2=>⟨(Za4 1),λu' nu=>?_⟩⟩];rwa[⟨t,u',1122,aq.upd nu _ _ q6,ah,5,λp' H7 s7 e7=>?_⟩]
    ·rw[aM];rwa[ag3 (show ⇑u+ 1<=100 by omega) ⋯]
    rwa[⟨p',u++[s],12,s6.trans ((aq.upd nu).trans s7),[ints_app]▸e7,by rw[agN,hl];rfl,λx L=>?_⟩];rcases agX.mp L with q|q
    ·rwa[O x q]
    ·rw[agR.mp q];rwa[J,h2]
   rintro σ H6 ⟨t,u,I,rfl,s6,q6,hl,O⟩;rw[aM]at hl;let w6:=w3.same ((st.trans sb).trans s6);rwa[⟨λ d r=>∃g v6 I,d=#v[↑a,↑Z,.int ⇑rows,.int x,.int y,↑l,v6,I]/\jJ H r l ⇑rows 3 63 g,5,λ_ _ z=>z⟩];rwa[⟨12,ahg _,λe0 Jd=>?_⟩];let se:=aq.upd (o:=.tup []) Jd;let w7:=(w6.same se).le (n':=2) (m':=63) ⋯ ⋯;erw[t,e0,u,[],22,bG.of (se^q6),bG.of ah,12];rwa[bU (λ_=>?_) (λ_=>⟨1112,w7.le ⋯ ⋯⟩)];let⟨f,j,g2,g3⟩:=w7.add (q:=t) (u:=u) (se^q6) ⟨O,3⟩;rwa[12,w7.ins,12,l,1122,j,[agO]▸agU (show ⇑f<=100 by omega) ⋯,1112,g3]
  rintro d H4 ⟨g,v6,I,rfl,w4⟩;let⟨f,j,g2⟩:=id w4.h;let B7:⇑f<=3:=by rw[g2.1];rwa[w4.c]
  erw[12,l,2,⟨_,aD.of j⟩];rwa[ni ⇑f (λi=>(f.map V.ref).getD i .non) (λX v i=>∃p,v=↑p/\∃w,X p\.tup (ao w)/\UQ rows x w) (λH1 X v i s ⟨p,e,w,q,o⟩=>⟨p,e,w,s^q,o⟩) (ag3 B7 ⋯) (λi X s2 B=>jQ (aD.of (s2^j)) i ([agO]▸B)) (λi v X H3 s2 B y=>?_) (λX s2=>?_) (λi H5 Rr B s5 kk=>?_) (λD H5 ys s5 hD Uc M=>?_)]
  ·let⟨e1,e2⟩:=iJ (aD.of (s2^j)) i v H3 ([agO]▸B) y;rwa[e1,by rw[agT,e2];rfl]
  ·have:=gR (K:=K) (aD.of (K:=K) (s2^j));rw[agO]at this;rwa[this]
  ·let e1:f[i]?=some f[i]:=agJ B
   let e2:g[i]?\(g[i]'(by rw[<-g2.1];rwa[B])):=agJ (by rw[<-g2.1];rwa[B])
   generalize f[i]=wa at e1;generalize g[i]'(by rw[<-g2.1];rwa[B])=u at e2;let lh:=g2.2 i wa u e1 e2;let⟨F,m2⟩:=w4.w u (agK e2);rw[show (f.map V.ref).getD i .non=V.ref wa by rw[agT,ag0,e1];rfl];rwa[⟨121212,(Za4 1),λl1 n1=>?_⟩];let s1:=aq.upd (o:=.lst [.int (x:Int)]) n1;let q1:upd H5 l1 (.lst [.int (x:Int)]) l1\(.lst (ao (gH [x]))):=ah;generalize upd H5 l1 (.lst [.int (x:Int)])=H6 at s1 q1 ⊢;let R:=s5.trans s1;rwa[⟨12,Z,l1,wa,rows,p,[x],u,2,(hT.same w4.s).same R,S,EW,q1,λy m=>[agR.mp m]▸L,by show 1<=6;decide,R^lh,F,3,λn H7 hn1 XA Uq hn4 s7=>?_⟩];let hf1:∀x,x<p->u.foldl (sf rows) x<p:=λx L=>Gu S F L
   let Jj:∀x y,x<p->y<p->u.foldl (sf rows) x=u.foldl (sf rows) y->x=y:=λx y L m e=>CH S F L m e
   let⟨c,MH,yF,Yf⟩:=M17.ring hf1 Jj L
   let hn6:n<=6:=by
    rcases aiA c n with q|q
    ·rwa[absurd (λy m=>by rw[agR.mp m];rwa[Yf]) (hn4 c MH q)]
    ·ext
   let hmul:⇑u* n<=1000:=ag3 (ajN m2 hn6) (by decide);rwa[⟨wa,1122,s7^R^lh,335,λq8 H8 s8 h8=>?_⟩]
   ·rw[aM,ahn];rwa[ag3 hmul ⋯]
   rw[ahn,CL]at h8;rwa[kk _ _ ((s1.trans s7).trans s8) ⟨q8,21,h8,λs G=>F s (CM G),[zg]▸hmul,[CN]▸Uq x (agR.mpr rfl)⟩]
  let⟨pP,rfl,UT⟩:=ti (P:=λ_ p=>∃w,H5 p\.tup (ao w)/\UQ rows x w) ys 0 (λi v hv=>M i v hv);let⟨ps,tP,oP⟩:=words_of λi p e=>UT i p e
  rwa[k D ps _ ((w4.s.trans s5).trans (aq.upd hD)) ⟨pP,ah,tP.same (aq.upd hD)⟩ oP (by rw[<-tP.1];rw[agO]at Uc;omega)]
inductive CQ (Pt cT:Zs) (vs:Zb) (H:Hp) (Q:VK) (E_:XK):Prop
 |mk (ru pa:Zs) (L lim w:Nat) (ot:Zh) (rs ps:Za3):vs=[.int L,↑ru,↑pa,.int lim,.str (tx ot)]->(ot=lW w\/ot=[]/\w=0)->w<3->1<=L->L<=40->1<=lim->lim<=300->bR H ru rs->bR H pa ps->(∀u∈rs++ps,Jm L u)->lim* ⇑rs+ ⇑ps<=700->⇑rs<=400->⇑ps<=400->df Pt dZ iG H->(∀q t tb pp S N H',Kp Pt H H'->df Pt dZ iG H'->Fl rs ps L w lim S->(∀c z,¬dq S L c z)->H' q\.tup [↑t,.non]->H' t\.tup [↑tb,↑pp]->TabAt H' tb (M24.fB (bB S) (2* S.L) (M24.bf (bB S) (2* S.L) 0 N))->⇑(M24.bf (bB S) (2* S.L) 0 N)=N->lX H' pp S->Q ↑q H')->(∀q x d pp S H',Kp Pt H H'->df Pt dZ iG H'->Fl rs ps L w lim S->S.made=lim->(∃c z,jf w S L c z)->H' q\.tup [.non,↑x]->H' x\XO x cT (some d) false->H' d\XD d (Jl S.made pp)->lX H' pp S->Q ↑q H')->CQ Pt cT vs H Q E_
def lX.same (h:lX H a S)(s:aq H I):lX I a S:=by
 let⟨g,f,b,c⟩:=h;rwa[g,s^f,b.imp (λp d _ _ e=>e.same s),c]
def kz (T:Txt K mg A)(X:ki mg base):T.i6.Ok P w base 12 (CQ A.eG A.bE):=by
 rwa[T.i6.on dQ (λcu AA outer s H vs Q E hr h=>?_)]
 ·let⟨ru,pa,L,f,n,ot,rs,ps,rfl,EY,B,C,U,Y,O,J,I,aO,p,Z,F,hT,kq,ke⟩:=h;let⟨tkd,hbd⟩:=T.fill.bd
  erw[_,(aj (bJ 5 dQ.nd dm)
   (aj (bJ 6 dQ.nd dm)
   (aj (bP (Pw rfl rfl (SD (aX eh (pv 4) (fD (l:=[]) rfl) (aY _)) (Eg (i:=5) dQ.nd rfl (Or.inl rfl) (Be (dvs:=[V.str (tx [114,111,111,109,115])]) (EJ T X) hr.Za5 rfl T.fill.m T.fill.kp hbd (.cons ⟨12⟩ .nil) (ae (pv 0) (ae (pv 1) (ae (pv 2) (ae (pv 3) ai)))))) (Eg (i:=5) dQ.nd rfl (Or.inl rfl) (Be (EJ T X) hr.Za5 rfl T.fill.m T.fill.kp T.fill.b .nil (ae (pv 0) (ae (pv 1) (ae (pv 2) (ae (pv 3) (ae (pv 4) ai))))))))
    (SF (i:=7) dQ.nd rfl rfl rfl T.y3 (λ_=>(av (bJ 6 dQ.nd (pv 7))))
    SG)))
   (av (bh (cJ (ae (pv 5) (ae (pv 6) ai))))))))]
  rwa[gT ?_];intro jG hM fx;erw[λ M g=>Kp A.eG H g/\df A.eG dZ iG g/\∃u vr,M=#v[.int L,↑ru,↑pa,.int f,.str (tx ot),some u,some vr,none]/\((∃t r b S N,u=↑t/\vr=.non/\Fl rs ps L n f S/\(∀c z,¬dq S L c z)/\g t\.tup [↑r,↑b]/\TabAt g r (M24.fB (bB S) (2* S.L) (M24.bf (bB S) (2* S.L) 0 N))/\⇑(M24.bf (bB S) (2* S.L) 0 N)=N/\lX g b S)\/∃x d b S,u=.non/\vr=↑x/\Fl rs ps L n f S/\S.made=f/\(∃c z,jf n S L c z)/\g x\XO x A.bE (some d) false/\g d\XD d (Jl S.made b)/\lX g b S),5]
  ·erw[12212];rwa[bU (λh=>?_) (λh=>?_)]
   ·let e:ot=[]:=jI.mp (ahq h)
    let ew:n=0:=by
     rcases EY with q|q
     ·rw[e]at q;rcases (show n=0\/n=1\/n=2 by omega) with rfl|rfl|rfl
      ·rfl
      ·rwa[absurd q (by decide)]
      ·rwa[absurd q (by decide)]
     ·rwa[q.2]
    subst ew;rwa[⟨12121212,ru,pa,L,f,(0),rs,ps,2,B,C,U,Y,O,J,I,aO,p,Z,F,hT,λt r b S N g m t1 k R j a2 D G=>?_,λd b S g m t1 k v y j a2=>?_⟩]
    ·rwa[m,t1,↑t,.non,2,.inl ⟨t,r,b,S,N,22,k,R,j,a2,D,G⟩]
    ·rwa[⟨12,true,T.WM,jj λx nx=>⟨125⟩⟩];let a:=aq.upd (o:=XO x A.bE (some d) false) nx;rwa[m.trans (.same a),t1.same a,.non,↑x,2,.inr ⟨x,d,b,S,22,k,v,y,ah,a^j,a2.same a⟩]
   ·let e:ot=lW n:=EY.elim id λq=>absurd (ahp (jI.mpr q.1)) h
    subst e;rwa[⟨1212121212,ru,pa,L,f,n,rs,ps,2,B,C,U,Y,O,J,I,aO,p,Z,F,hT,λt r b S N g m t1 k R j a2 D G=>?_,λd b S g m t1 k v y j a2=>?_⟩]
    ·rwa[m,t1,↑t,.non,2,.inl ⟨t,r,b,S,N,22,k,R,j,a2,D,G⟩]
    ·rwa[⟨12,true,T.WM,jj λx nx=>⟨125⟩⟩];let a:=aq.upd (o:=XO x A.bE (some d) false) nx;rwa[m.trans (.same a),t1.same a,.non,↑x,2,.inr ⟨x,d,b,S,22,k,v,y,ah,a^j,a2.same a⟩]
  rintro M H1 ⟨m,t1,u,vr,rfl,cs⟩;rwa[⟨1212,by show 2<=sizeLine;decide,λq nq=>?_⟩];let a:=aq.upd (o:=.tup [u,vr]) nq;rcases cs with ⟨t,r,b,S,N,rfl,rfl,k,R,j,a2,D,G⟩|⟨x,d,b,S,rfl,rfl,k,v,y,a0,j,a2⟩
  ·rwa[kq q t r b S N _ (m.trans (.same a)) (t1.same a) k R ah (a^j) (a2.same a) D (G.same a)]
  ·rwa[ke q x d b S _ (m.trans (.same a)) (t1.same a) k v y ah (a^a0) (a^j) (a2.same a)]
def EZ (K:Za1):Sp:=λf H Q _=>∃(a:Zs) (ns:Zg),f=[↑a]/\aD K H a (ao ns)/\⇑ns<=63/\∀(l e d c:Zs) (L x:Nat) (R P:Za3) b,aq H b->b l\.tup [.int L,↑e,↑d,↑c,.int x]->1<=L->L<=3->bR b d R->bR b c P->(∀u∈R++P,Jm L u)->⇑R<=23->⇑P<=3->Q ↑l b
inductive CT (vs:Zb) (H:Hp) (Q:VK) (E_:XK):Prop
 |mk (z:Int) (L m:Nat):vs=[.int z,.int L,.int m]->1<=L->L<=3->m<=12->(∀l w H',aq H H'->H' l\.tup (ao w)->Jm L w->Q ↑l H')->CT vs H Q E_
def UU (K:Za1):Sp:=EZ K
def UX (b:Bool):∃a:Int,j4 [V.int 36,V.int 60] (if b=true then 1 else 0)\.int a/\a<=60:=by
 ext b
 ·rwa[⟨(36),rfl,by decide⟩]
 ·rwa[⟨(60),rfl,by decide⟩]
def fO (z:Int){n:Nat}(h:0<n):∃x:Nat,z % (n:Int)=(x:Int)/\x<n:=by
 let b:=ain z (show (n:Int)≠0 by omega);let a:=ah9 z (show (0:Int)<(n:Int) by omega);rwa[(z % (n:Int)).toNat,33]
def pB (T:Txt K mg A):T.kI.Ok P w base 2 CT:=by
 rwa[T.kI.on dP (λJ X e s H vs Q E F h=>?_)]
 ·let⟨z,L,m,rfl,d,D,U,k⟩:=h
  erw[_,(aj (bJ 3 dP.nd (aK bO (pv 0) (aK cI (pv 2) au)))
   (aj (bJ 0 dP.nd (aK cX (pv 0) (aK cI (pv 2) au)))
   (aj (bJ 4 dP.nd (cJ ai))
   (aj (ck ahe rfl (gJ rfl T.ej (ae (pv 3) ai)) (di 5 dP.nd)
    (aj (bJ 4 dP.nd (aK Al (pv 4) (cJ (ae (pc T.nS (sL T) F (ae (aK bO (pv 0) (aK iz au (pv 1))) (ae (pv 1) ai))) ai))))
    (av (bJ 0 dP.nd (aK cX (pv 0) (aK iz au (pv 1)))))))
   (av (bh (pv 4)))))))]
  rwa[uG ?_];intro S G B N;let⟨n,C,R⟩:=fO z (n:=m+ 1) ∅;let O:z % ((m:Int)+ 1)=(n:Int):=C;erw[121211221122,(by show (0:Int)<(m:Int)+ 1;omega)];rw[O];erw[121211221122,⟨by show (0:Int)<(m:Int)+ 1;ext,3⟩];rwa[⟨ahg _,λl M=>?_⟩];erw[12,(n:Int),233];rw[ahn];rwa[gL (lo:=0) (n:=n) (λi r c=>∃(l:Zs) (y:Int) (w:Zg) (f:Zc),r=#v[.int y,.int L,.int m,.int n,↑l,f]/\aq H c/\c l\.tup (ao w)/\⇑w=i/\∀s∈w,s≠0/\s.natAbs<=L) ⟨l,_,[],none,2,aq.upd M,ah,2,λs j=>by ext j⟩ ?_ ?_]
  ·rintro i r c Y ⟨l,y,w,f,rfl,s2,o,b,p⟩;rwa[⟨1212121122,.inl ⟨44⟩,1122,(by show (0:Int)<2* (L:Int);omega),121,L,2,d,3,λs g j=>⟨by show 1<=sizeLine;decide,λq u=>?_⟩⟩];rwa[⟨l,q,1122,(aq.upd u) _ _ o,ah,ag3 (show ⇑(ao w)+ 1<=100 by rw[aM];omega) ⋯,λI Z x v=>?_⟩];rw[show [V.int s]=ao [s] from rfl,<-ints_app]at v;erw[12121122,.inl ⟨44⟩,1122,⟨by show (0:Int)<2* (L:Int);ext,3⟩];rwa[⟨I,_,w++[s],12,s2.trans ((aq.upd u).trans x),v,by rw[agN,b];rfl,λt a=>?_⟩];rcases agX.mp a with a|a
   ·rwa[p t a]
   ·rw[agR.mp a];rwa[g,j]
  ·rintro r c ⟨l,y,w,f,rfl,s2,o,b,p⟩;rwa[12,k l w c s2 o ⟨3,p⟩]
def tO (T:Txt K mg A):T.ko.Ok P w base 3 (UU K):=by
 rwa[T.ko.on dF (λcu AA O s H vs Q E m h=>?_) (len:=by rintro _ _ _ _ ⟨a,B,rfl,_⟩;rfl)]
 ·let⟨a,B,rfl,F,hlen,k⟩:=h
  erw[_,(aj (bJ 1 dF.nd (aK cI au (aK bO (aK cX (pc T.bx (bj T) m (ae (pv 0) (ae au ai))) au) au)))
   (aj (bJ 2 dF.nd (bT ai))
   (aj (ck ahe rfl (gJ rfl T.ej (ae (aK bO (aK cX (pc T.bx (bj T) m (ae (pv 0) (ae au ai))) au) au) ai)) (di 3 dF.nd)
    (av (aV (cO agY aha ahb bN (pv 2) (ae (pc T.kI (pB T) m (ae (pc T.bx (bj T) m (ae (pv 0) (ae (aK cI au (pv 3)) ai))) (ae (pv 1) (ae au ai)))) ai)))))
   (aj (bJ 4 dF.nd (bT ai))
   (aj (ck ahe rfl (gJ rfl T.ej (ae (aK bO (pc T.bx (bj T) m (ae (pv 0) (ae au ai))) au) ai)) (di 3 dF.nd)
    (av (aV (cO agY aha ahb bN (pv 4) (ae (pc T.kI (pB T) m (ae (pc T.bx (bj T) m (ae (pv 0) (ae (aK cI au (pv 3)) ai))) (ae (pv 1) (ae au ai)))) ai)))))
   (av (bh (cJ (ae (pv 1) (ae (bT ai) (ae (pv 2) (ae (pv 4) (ae au ai)))))))))))))]
  rwa[mD ?_];intro nU lJ jG hM fx;rwa[⟨12,a,B,(0),2,F,3,λz=>⟨1122,⟨44⟩,1122,(by show (0:Int)<3;decide),11225⟩⟩]
  obtain⟨L,hz,g,j⟩:∃L:Nat,1+ z / 12 % 3=(L:Int)/\1<=L/\L<=3:=by
   let⟨x,hx,N1⟩:=fO (z / 12) (n:=3) ⋯;rwa[1+ x,by rw[show z / 12 % 3=(x:Int) from hx];ext,33]
  rw[hz];rwa[⟨ahg _,λd I=>?_⟩];let Z:jJ H (upd H d (.lst [])) d L 0 1000 []:=⟨aq.upd I,I,⟨[],ah,2,λi p w h=>by simp at h⟩,(λu G=>by ext G),agQ _⟩;generalize upd H d (.lst [])=H1 at Z ⊢;rwa[⟨12,a,B,(1),2,Z.s.seq F,3,λz1=>?_⟩];let⟨n,hn,Ez⟩:=fO (z1 / 8) (n:=5) ⋯;erw[1122,⟨44⟩,1122,(by show (0:Int)<5;decide),(n:Int),ahZ (λv=>[V.int v]) hn,33];rw[ahn];rwa[gL (lo:=0) (n:=n) (λi t r=>∃C f,t=#v[↑a,.int L,↑d,f,none]/\jJ H r d L i 1000 C) ⟨[],none,2,Z⟩ ?_ ?_]
  ·rintro i t r hi ⟨C,f,rfl,c⟩;rwa[⟨12,c.ins,12121122,a,B,2+ i,5,c.s.seq F,3,λy=>⟨12,y,L,(12),2,g,j,4,λq w H3 s3 h3 hw=>?_⟩⟩]
   ·show [V.ref a,V.int (2+ (0+ (i:Int)))]=[V.ref a,V.int ((2+ i:Nat):Int)];rw[show (2:Int)+ (0+ (i:Int))=((2+ i:Nat):Int) by ext]
   let⟨Y,S,g2,M⟩:=(c.same s3).add h3 ⟨hw.2,hw.1⟩;rwa[d,1122,S,[agO]▸agU (show ⇑Y<=100 by omega) ⋯,112,M]
  rintro t r ⟨R,f,rfl,c⟩;rwa[⟨ahg _,λe D=>?_⟩];let b:jJ r (upd r e (.lst [])) e L 0 1000 []:=⟨aq.upd D,D,⟨[],ah,2,λi p w h=>by simp at h⟩,(λu G=>by ext G),agQ _⟩;generalize upd r e (.lst [])=H3 at b ⊢;rwa[⟨12,a,B,(6),2,(c.s.trans b.s).seq F,3,λz6=>?_⟩];let⟨n2,X,afw⟩:=fO z6 (n:=3) ⋯;erw[1122,(by show (0:Int)<3;decide),(n2:Int),ahZ (λv=>[V.int v]) X,33];rw[ahn];rwa[gL (lo:=0) (n:=n2) (λi t N=>∃C f,t=#v[↑a,.int L,↑d,f,↑e]/\jJ r N e L i 1000 C) ⟨[],f,2,b⟩ ?_ ?_]
  ·clear b;rintro i t N hi ⟨C,f,rfl,b⟩;rwa[⟨12,b.ins,12121122,a,B,8+ i,5,(c.s.trans b.s).seq F,3,λy=>⟨12,y,L,(8),2,g,j,4,λq w H5 J h5 hw=>?_⟩⟩]
   ·show [V.ref a,V.int (8+ (0+ (i:Int)))]=[V.ref a,V.int ((8+ i:Nat):Int)];rw[show (8:Int)+ (0+ (i:Int))=((8+ i:Nat):Int) by ext]
   let⟨Y,S,g2,M⟩:=(b.same J).add h5 ⟨hw.2,hw.1⟩;rwa[e,1122,S,[agO]▸agU (show ⇑Y<=100 by omega) ⋯,112,M]
  clear b;rintro t N ⟨P,f,rfl,b⟩;rwa[⟨12,ahg _,λlt U=>⟨1212,by show 5<=sizeLine;decide,λl nl=>?_⟩⟩];let J:=(aq.upd (o:=.lst []) U).trans (aq.upd (o:=.tup [.int L,↑lt,↑d,↑e,.int 0]) nl);let c2:=c.c;let c3:=b.c;rwa[k l lt d e L 0 R P _ ((c.s.trans b.s).trans J) ah g j ((c.h.same b.s).same J) (b.h.same J) (λu G=>(agX.mp G).elim (λh=>⟨(c.w u h).2,(c.w u h).1⟩) λh=>⟨(b.w u h).2,(b.w u h).1⟩) ∅ ∅]
theorem Qh:∀j:Nat,j<4->∃L:Nat,([V.int 2,V.int 1,V.int 2,V.int 3])[j]?\V.int (L:Int)/\1<=L/\L<=3
 |0,_=>⟨(2),244⟩
 |1,_=>⟨(1),244⟩
 |2,_=>⟨(2),244⟩
 |3,_=>⟨(3),244⟩
theorem vm {ws:Za3}(h:bZ H F ws)(k n:Nat):bZ H ((F.drop k).take n) ((ws.drop k).take n):=by
 rwa[⟨by rw[ahr,ahr,ahP,ahP,h.1],λi p w a b=>?_⟩];rw[List.getElem?_take]at a b;split at a
 ·rename_i c;rw[ahf c,aj8]at b;rw[aj8]at a;rwa[h.2 _ p w a b]
 ·ext a
theorem Ju {R:Za3}(e:H a\.lst (F.map V.ref))(c:bZ H F R)(d:H b\.tup (ao []))(i:Nat)(g:i<=⇑F):bR (upd H a (.lst ((F.map V.ref).take i++[↑b]++(F.map V.ref).drop i))) a (R.take i++[[]]++R.drop i):=by
 let t1:bZ H (F.take i) (R.take i):=by have:=vm c 0 i;rwa [List.drop_zero,List.drop_zero]at this
 let f:bZ H (F.drop i) (R.drop i):=by
  have:=vm c i (⇑F - i)
  rwa [aiR ([ahP]▸agQ _),aiR ([ahP,c.1]▸agQ _)]at this
 rwa[⟨F.take i++[b]++F.drop i,by rw[ah,aho,aho,List.map_take,List.map_drop];rfl,vk (vl (t1.snoc d) f) e⟩]
def zK (T:Txt K mg A):T.p9.Ok P w base 4 (EZ K):=by
 rwa[T.p9.on cx (λcu AA outer s H vs Q E t h=>?_) (len:=by rintro _ _ _ _ ⟨a,p,rfl,_⟩;rfl)]
 ·let⟨a,p,rfl,B,hlen,k⟩:=h
  erw[_,(aj (bH (aX eh (aK bO (aK cX (pc T.bx (bj T) t (ae (pv 0) (ae au ai))) au) au) au (aY _))
   (av (bh (pc T.ko (tO T) t (ae (pv 0) ai))))
   bp)
   (aj (bJ 1 cx.nd (iI eh (aK bO (pc T.bx (bj T) t (ae (pv 0) (ae au ai))) au) au (aY _)))
   (aj (bJ 2 cx.nd (aK cI au (aK bO (aK cX (pc T.bx (bj T) t (ae (pv 0) (ae au ai))) au) au)))
   (aj (bP (bH (eV (pv 1))
    (av (bJ 2 cx.nd (aK cI au (aK bO (aK cX (pc T.bx (bj T) t (ae (pv 0) (ae au ai))) au) au))))
    bp))
   (aj (bJ 3 cx.nd (bC bF (bT (ae au (ae au (ae au (ae au ai hJ) hJ) hJ) hJ)) (aK bO (pc T.bx (bj T) t (ae (pv 0) (ae au ai))) au) (λ_ _=>rfl)))
   (aj (bJ 4 cx.nd (bT ai))
   (aj (ck ahe rfl (gJ rfl T.ej (ae (pv 3) ai)) (di 5 cx.nd)
    (av (aV (cO agY aha ahb bN (pv 4) (ae (pc T.mR (xk T) t (ae (aK bO (pc T.bx (bj T) t (ae (pv 0) (ae (aK cI au (pv 5)) ai))) au) (ae (pv 2) (ae (pv 1) ai)))) ai)))))
   (aj (bJ 6 cx.nd (aK bO (pc T.bx (bj T) t (ae (pv 0) (ae au ai))) au))
   (aj (bP (bH (eV (pv 1))
    (av (bJ 6 cx.nd au))
    bp))
   (aj (bJ 7 cx.nd (aK bO (aK cX (pc T.bx (bj T) t (ae (pv 0) (ae au ai))) au) (pv 2)))
   (aj (bJ 8 cx.nd (pc T.p8 (zJ T) t (ae (pv 4) (ae (pv 3) (ae (pv 6) (ae (bC bF (bT (ae au (ae au ai))) (c9 rh rfl T.zR ajE (ae (iI eh (aK bO (pc T.bx (bj T) t (ae (pv 0) (ae au ai))) au) au (aY _)) ai)) (λ_ _=>rfl)) ai))))))
   (aj (bP (bH (aX eh (aK bO (pc T.bx (bj T) t (ae (pv 0) (ae au ai))) au) au (aY _))
    (av (aV (cO agY PySem.F.slot_list_insert PySem.F.type_list_insert xK (pv 8) (ae (aK bO (aK cX (pc T.bx (bj T) t (ae (pv 0) (ae au ai))) au) (aK cI (bq bz rfl T.dB ahu (ae (pv 8) ai)) au)) (ae (cJ ai) ai)))))
    bp))
   (aj (bP (bH (PW.pt (zY (aX eh (aK bO (pc T.bx (bj T) t (ae (pv 0) (ae au ai))) au) au (aY _)) (xn (aX jK (aK bO (pc T.bx (bj T) t (ae (pv 0) (ae au ai))) au) au (aY _)))))
    (av (bJ 8 cx.nd (aK Ah (pv 8) (pH DL (pv 8) xB (oy au)))))
    bp))
   (av (bh (cJ (ae (pv 3) (ae (pv 4) (ae (pv 8) (ae (pc T.si (CP T) t (ae (pv 0) (ae (pv 4) (ae (pv 3) (ae (pv 7) ai))))) (ae (pv 7) ai)))))))))))))))))))))]
  rwa[Hw ?_];intro afx aaA aaB aaC u_9 W8 M0 y7 nU lJ jG hM fx;rwa[⟨12,a,p,(1),2,B,3,λz=>⟨1122,⟨44⟩,1122,(by show (0:Int)<2;decide),212,bU (λ_=>⟨12,a,p,2,B,hlen,k⟩) λ_=>?_⟩⟩];rwa[⟨12,a,p,(0),2,B,3,λz0=>?_⟩];erw[1122,(by show (0:Int)<2;decide),2];rwa[⟨12,a,p,(0),2,B,3,λz1=>?_⟩];erw[1122,⟨44⟩,1122,(by show (0:Int)<4;decide),1122];let a1:=ain (z1 / 2) (show (4:Int)≠0 by decide);let a2:=ah9 (z1 / 2) (show (0:Int)<4 by decide);erw[λ f v=>∃(m:Nat) (pl:Bool),f=#v[↑a,.bl pl,.int m,none,none,none,none,none,none]/\v=H/\1<=m/\m<=6,5]
  ·erw[1212];rwa[bU (λ_=>?_) (λ_=>?_)]
   ·rwa[⟨12,a,p,(0),2,B,3,λz2=>?_⟩];erw[1122,⟨44⟩,1122,(by show (0:Int)<6;decide),1122];let c1:=ain (z2 / 2) (show (6:Int)≠0 by decide);let c2:=ah9 (z2 / 2) (show (0:Int)<6 by decide);rwa[⟨(1+ z2 / 2 % 6).toNat,decide (V.int (z0 % 2)=V.int 0),5233⟩];rw[show (((1+ z2 / 2 % 6).toNat:Nat):Int)=1+ z2 / 2 % 6 by ext];rfl
   ·rwa[⟨(2+ z1 / 2 % 4).toNat,decide (V.int (z0 % 2)=V.int 0),5233⟩];rw[show (((2+ z1 / 2 % 4).toNat:Nat):Int)=2+ z1 / 2 % 4 by ext];rfl
  rintro f v ⟨m,pl,rfl,rfl,Ye,B1⟩;rwa[⟨by show 4<=sizeLine;decide,λq hq=>?_⟩];let sq:aq v (upd v q (.lst [V.int 2,V.int 1,V.int 2,V.int 3])):=aq.upd hq;let Yk:upd v q (.lst [V.int 2,V.int 1,V.int 2,V.int 3]) q\(.lst [V.int 2,V.int 1,V.int 2,V.int 3]):=ah;generalize upd v q (.lst [V.int 2,V.int 1,V.int 2,V.int 3])=H1 at sq Yk ⊢;rwa[⟨12,a,p,(1),2,sq.seq B,3,λz2=>?_⟩];let⟨j,hj,Jv⟩:=fO z2 (n:=4) ⋯;let⟨L,hL,X,qK⟩:=Qh j Jv;erw[1122,(by show (0:Int)<4;decide),q,11,.int (L:Int),22,aD.of Yk,(by show j4 _ (z2 % 4)=_;rw[show z2 % 4=(j:Int) from hj];rwa[da hL])];rwa[⟨ahg _,λlt lG=>?_⟩];let s2:aq H1 (upd H1 lt (.lst [])):=aq.upd lG;let h2:upd H1 lt (.lst []) lt\(.lst (([]:Zn).map V.ref)):=ah;let UC:v lt=none:=sq.free lG;generalize upd H1 lt (.lst [])=H2 at s2 h2 ⊢;erw[12,(L:Int),233];rwa[gL (lo:=0) (n:=((L:Int)).toNat) (λi σ M=>∃(rs:Zn) (rows:Za3) (v5:Zc),σ=#v[↑a,.bl pl,.int m,.int L,↑lt,v5,none,none,none]/\aq v M/\M lt\.lst (rs.map V.ref)/\dc M rs rows/\⇑rows=i/\(∀r∈rows,M11.Pm m r)) ⟨[],[],none,2,sq.trans s2,h2,⟨2,λi r p h1=>by simp at h1⟩,2,by simp⟩ ?_ ?_]
  ·rintro i σ M hi ⟨rs,rows,v5,rfl,s3,h3,G,D,I⟩;let Ul:i<L:=∅
   rwa[⟨12,.inl ⟨21,aD.of h3⟩,12121122,a,p,2+ i,5,s3.seq B,3,λz3=>?_⟩]
   ·show [V.ref a,V.int (2+ (0+ (i:Int)))]=[V.ref a,V.int ((2+ i:Nat):Int)];rw[show (2:Int)+ (0+ (i:Int))=((2+ i:Nat):Int) by ext]
   let c1:=ain z3 (show (720:Int)≠0 by decide);rwa[⟨1122,(by show (0:Int)<720;decide),1212,z3 % 720,m,pl,2,Ye,3,c1,λr row H4 F h4 hP=>?_⟩];let U:=F^h3;let lH:r≠lt:=Jo h4 (λz=>by have:=hP.len;rw[z]at this;simp at this;omega) U;erw[lt,1122,U,5]
   ·rw[agO,G.1,D];rwa[agU (show i<=3 by omega) ⋯]
   rwa[⟨rs++[r],rows++[row],12,λb o e=>[ak (ax e UC)]▸F^s3^e,by rw[ah,aho];rfl,⟨(zf (G.same F) h4).1,λi' q' ms e1 e2=>?_⟩,by rw[agN,D];rfl,λr' hr'=>?_⟩]
   ·let Yl:=(zf (G.same F) h4).2 i' q' ms e1 e2
    let hnm:ms≠[]:=λz=>by
     let hmm:ms∈rows++[row]:=agK e2
     let hPm:M11.Pm m ms:=by
      rcases agX.mp hmm with y|y
      ·rwa[I ms y]
      ·rw[agR.mp y];rwa[hP]
     have:=hPm.len;rw[z]at this;simp at this;ext
    rw[ak (Jo Yl hnm U)];rwa[Yl]
   ·rcases agX.mp hr' with y|y
    ·rwa[I r' y]
    ·rw[agR.mp y];rwa[hP]
  rintro σ M ⟨rs,rows,v5,rfl,s3,h3,G,D,I⟩;rw[ahn]at D;subst D;let hT:TabAt M lt rows:=⟨rs,h3,G⟩;rwa[⟨12,a,p,(5),2,s3.seq B,3,λz5=>⟨1122,(by show (0:Int)<531441;decide),5⟩⟩];erw[λ f v=>∃mk:Int,f=#v[↑a,.bl pl,.int m,.int ⇑rows,↑lt,v5,.int mk,none,none]/\v=M,5]
  ·erw[1212];rwa[bU (λ_=>⟨122⟩) (λ_=>⟨122⟩)]
  rintro f H3' ⟨mk,rfl,e3⟩;replace e3:=e3.symm;subst e3;rwa[⟨12,a,p,(6),2,s3.seq B,3,λz6=>?_⟩];let⟨x,hx,N1⟩:=fO (z6 / 4) (n:=m) ∅;erw[1122,⟨44⟩,121122,(by show (0:Int)<(m:Int);omega)];rw[show V.int ((z6 / 4) % (m:Int))=V.int (x:Int) from ahZ V.int hx];rwa[⟨121212,by show 2<=sizeLine;decide,λq2 N=>⟨12,a,p,(7),2,(s3.trans (aq.upd N)).seq B,3,λz9=>⟨1122,(by show (0:Int)<8;decide),2125⟩⟩⟩];let⟨rm,hat,Jr⟩:=UX (decide (V.int (z9 % 8)=V.int 6));rwa[⟨q2,11122,aD.of ah,hat,lt,rows,m,mk,rm,2,Jr,hT.same (aq.upd N),X,qK,I,B1,λC R H4 F S d J Z=>?_⟩];replace Z:M C=none:=(aq.upd N).free Z;replace F:=(aq.upd N).trans F;erw[λ f v=>∃R,f=#v[↑a,.bl pl,.int m,.int ⇑rows,↑lt,v5,.int mk,.int x,↑C]/\aq M v/\bR v C R/\(∀u∈R,Jq rows m u)/\⇑R<=22,5]
  ·rwa[⟨12,a,p,(5),2,(s3.trans F).seq B,3,λz7=>⟨1122,(by show (0:Int)<4;decide),212,bU (λ_=>?_) (λ_=>⟨R,2,F,S,d,3⟩)⟩⟩];let⟨g,Y,g2⟩:=S;let B7:⇑g<=21:=by rw[g2.1];rwa[J]
   rwa[⟨12,.inl ⟨21,aD.of Y⟩,12,a,p,(6),2,(s3.trans F).seq B,3,λz8=>⟨1122,⟨44⟩,12,C,12,.inl (aD.of Y),11221122,(by show (0:Int)<(⇑(g.map V.ref):Int)+ 1;omega),ahg _,λe0 Jd=>?_⟩⟩];let⟨i,hi,Wm⟩:=fO (z8 / 24) (n:=⇑g+ 1) ∅;let se:=aq.upd (o:=.tup []) Jd;erw[C,_,i,↑e0,25,se^Y,[agO]▸agU (show ⇑g<=100 by omega) ⋯,by rw[agO];ext,3]
   ·show [V.int (z8 / 24 % ((⇑(g.map V.ref):Int)+ 1)),V.ref e0]=[V.int (i:Int),V.ref e0];rw[agO,show ((⇑g:Int)+ 1)=((⇑g+ 1:Nat):Int) by ext,hi]
   rwa[⟨R.take i++[[]]++R.drop i,2,λb o e=>[ak (ax e Z)]▸se^F^e,Ju (se^Y) (g2.same se) ah i ∅,λu c=>?_,by rw[agN,agN,ahr,ahP];show _+ 1+ _<=_;ext⟩];rcases agX.mp c with c|c
   ·rcases agX.mp c with c|c
    ·rwa[d u (ai5 c)]
    ·rw[agR.mp c];rwa[(λs hs=>by ext hs),by show 0<=60;decide,λx _=>rfl]
   ·rwa[d u (List.mem_of_mem_drop c)]
  rintro f H5 ⟨R,rfl,s5,S,d,J⟩;erw[λ f v=>∃C R,f=#v[↑a,.bl pl,.int m,.int ⇑rows,↑lt,v5,.int mk,.int x,↑C]/\aq M v/\bR v C R/\(∀u∈R,Jq rows m u)/\⇑R<=23,5]
  ·rwa[⟨12,a,p,(5),2,(s3.trans s5).seq B,3,λz7=>⟨1122,(by show (0:Int)<4;decide),212,bU (λ_=>?_) (λ_=>dv ⟨C,R,2,s5,S,d,3⟩)⟩⟩];rwa[⟨12,a,p,(7),2,(s3.trans s5).seq B,3,λz7=>⟨1122,(by show (0:Int)<8;decide),212,bU (λ_=>?_) (λ_=>⟨C,R,2,s5,S,d,3⟩)⟩⟩];let⟨g,Y,g2⟩:=S;rwa[⟨121212,C,12,aD.of Y,λb nb=>?_⟩];let sb:=aq.upd (o:=.lst (gQ (g.map V.ref) none (some 1))) nb
   obtain⟨i,n,e,hn⟩:∃i n:Nat,gQ (g.map V.ref) none (some 1)=((g.drop i).take n).map V.ref/\n<=1:=by
    erw[11,by unfold gQ;rw[List.map_take,List.map_drop]];have:=HT.xA ⇑(g.map V.ref) ⇑(g.map V.ref) 1;rw[show ((1:Nat):Int)=1 from rfl]at this;rw[this];ext
   let eb:upd H5 b (.lst (gQ (g.map V.ref) none (some 1))) b\(.lst (((g.drop i).take n).map V.ref)):=by rw[ah,e]
   generalize upd H5 b (.lst (gQ (g.map V.ref) none (some 1)))=H6 at sb eb ⊢;let g3:=g2.same sb;let B7:⇑g<=22:=by rw[g2.1];rwa[J]
   rwa[⟨C,b,1122,sb^Y,eb,5,λl9 n9=>?_⟩]
   ·rw[agO,agO,ahr];rwa[ag3 (show ⇑g+ min n _<=100 by omega) ⋯]
   let s9:=aq.upd (o:=.lst (g.map V.ref++((g.drop i).take n).map V.ref)) n9;rwa[⟨l9,R++(R.drop i).take n,2,(s5.trans sb).trans s9,⟨g++(g.drop i).take n,by rw[ah,aho],(vl g3 (vm g3 i n)).same s9⟩,λu c=>?_,by rw[agN,ahr];ext⟩];rcases agX.mp c with c|c
   ·rwa[d u c]
   ·rwa[d u (List.mem_of_mem_drop (ai5 c))]
  rintro f H6 ⟨lr',R,rfl,s6,S,d,J⟩;rwa[⟨12121212121212,a,lt,p,rows,m,x,2,(s3.trans s6).seq B,hlen,hT.same s6,X,qK,I,B1,N1,λpa P H7 s7 hP O Ym=>?_⟩];rwa[⟨12,by show 5<=sizeLine;decide,λl nl=>?_⟩];rwa[k l lt lr' pa ⇑rows x R P _ (((s3.trans s6).trans s7).trans (aq.upd nl)) ah X qK ((S.same s7).same (aq.upd nl)) (hP.same (aq.upd nl)) (λu c=>?_) J Ym];rcases agX.mp c with c|c
  ·rwa[⟨ag3 (d u c).2.1 (by decide),(d u c).1⟩]
  ·rwa[⟨(O u c).2.1,(O u c).1⟩]
def Gw (h:z≠0):M12.st (M11.pl z)=z:=by
 unfold M11.pl M12.st;split
 ·rw[ahf ∅];ext
 ·rw[ahc ∅];ext
def zU (h:z∈bA (2* n)):M11.pl z<2* n/\M11.pl (-z)=M11.flip (M11.pl z)/\-z∈bA (2* n):=by
 let⟨a,b⟩:=iR.mp h;rwa[M11.tj ⟨a,b⟩,M11.Pz a,iR.mpr ⟨33⟩]
def Fl.cl {rs a:Za3}(h:Fl rs a n m i S):uJ rs a S:=by cases h <;> assumption
structure FT (rs ps:Za3) (L N:Nat) (T:Za3):Prop where
 t:M11.Tab L T
 f:M12.Fc (2* L) T.flatten ⇑T
 n:⇑T=N
 s:∀w∈rs++ps,M11.dG L w
 r:∀w∈rs,∀i,i<N->M11.walk T w i=i
 p:∀w∈ps,M11.walk T w 0=0
theorem Fl.ft {rs C:Za3}(h:Fl rs C n m i S)(x:∀u∈rs++C,∀z∈u,z∈bA (2* n)/\-z∈bA (2* n))(X:∀c z,¬dq S n c z)(v:S.made<=300)(J:1<=n)(L:n<=40)(hN:⇑(M24.bf (bB S) (2* n) 0 j)=j):
 j<=S.made/\FT rs C n j (M24.fB (bB S) (2* n) (M24.bf (bB S) (2* n) 0 j)):=by
 let⟨R,y⟩:=h.ys x;let g:=y.g
 let st:∀c k,c<S.made/\S.aw c=c->k<2* n->∃d,S.by c (M12.st k)=some d/\bB S k c=d/\d<S.made/\S.aw d=d:=λc k hc M=>by
  cases e:S.by c (M12.st k) with
  |some d=>
   let⟨_,d2,_,Y⟩:=g.st _ _ _ e;rwa[d,2,by unfold bB;rw[e];rfl,d2,Y]
  |none=>exact absurd ⟨hc.1,by rw[m3 ([g.wf.e]▸hc.1),hc.2],agK (sE M),e⟩ (X c _)
 let V:0<S.made/\S.aw 0=0:=⟨y.m,by have:=(g.el 0 y.m).1;ext⟩
 let fw:∀(u:Zg) {c:Nat},M11.dG n u->c<S.made/\S.aw c=c->∃d,wk S.by c u=some d/\d<S.made/\S.aw d=d:=λu=>by
  induction u with
  |nil=>exact λ_ hc=>⟨12,hc⟩
  |cons s u T=>
   intro c B hc;let G:=B s ag2;let⟨d,D,_,hd⟩:=st c _ hc (M11.tj G);rw[Gw G.1]at D;rw[hY D];rwa[T (λt E=>B t (ahm _ E)) hd]
 let all:=M24.oN (f:=bB S) (k:=2* n) (x0:=0) (P:=λc=>c<S.made/\S.aw c=c) V (λc k hc M=>by
  let⟨d,_,e,h3⟩:=st c k hc M;rw[e];rwa[h3]) j
 let N:j<=S.made:=by rw[<-hN];rwa[M11.jA S.made _ (M24.iD _ _ _ j) λc hc=>(all c hc).1]
 let I:(M24.bf (bB S) (2* n) 0 j)[0]?\0:=by
  let⟨t,E⟩:=M24.Ep (bB S) (2* n) 0 0 j;rw[akl]at E;rw[E];rfl
 let O:1<=j:=by have:=(agM.mp I).1;ext
 let at_:∀p,p<j->∃c,(M24.bf (bB S) (2* n) 0 j)[p]?\c/\c<S.made/\S.aw c=c:=λp H=>⟨_,agJ ∅,all _ (List.getElem_mem _)⟩
 let tb:=M55.SW hN (λc hc l Z=>by
  let⟨d,D,F,h2⟩:=st c l (all c hc) Z;let q:=g.sy _ _ _ D;rw[F];unfold bB;rw[show M12.st (M11.flip l)= -M12.st l by unfold M11.flip M12.st;split <;> split <;> ext,q];rfl) J L O ∅
 let wt:∀{u:Zg} {p c d:Nat},M11.dG n u->(M24.bf (bB S) (2* n) 0 j)[p]?\c->wk S.by c u=some d->(M24.bf (bB S) (2* n) 0 j)[M11.walk (M24.fB (bB S) (2* n) (M24.bf (bB S) (2* n) 0 j)) u p]?\d:=λ{u}=>by
  induction u with
  |nil=>exact λ_ hc e=>by rw[<-Za0 e];rwa[hc]
  |cons s u T=>
   intro p c d B hc e;let⟨f,D,F⟩:=g9 e;let G:=B s ag2;let q:=M55.uP hN (M11.tj G) hc;rw[show bB S (M11.pl s) c=f by unfold bB;rw[Gw G.1,D];rfl]at q;rwa[T (λt E=>B t (ahm _ E)) q F]
 let inj:∀{p l c:Nat},(M24.bf (bB S) (2* n) 0 j)[p]?\c->(M24.bf (bB S) (2* n) 0 j)[l]?\c->p=l:=λ{p l c} a b=>(aki (agM.mp a).1 (M24.iD _ _ _ j)).mp (a.trans b.symm)
 let o:∀w∈rs++C,M11.dG n w:=λw h z hz=>iR.mp (x w h z hz).1
 let rd:∀{w:Zg} {c:Nat},w∈rs++C->c<S.made/\S.aw c=c->HC S c w->wk S.by c w=some c:=λ{w c} v hc h=>by
  rcases h with h|⟨p,l,f,r,y,z',_,H,_,w1,n1,_⟩
  ·rwa[h]
  ·let⟨d,e,hd⟩:=fw (w.take p) (λs B=>o w v s (ai5 B)) hc;rw[w1]at e;rw[<-Za0 e]at hd;let U:=o w v y (agK H);let⟨_,F,_⟩:=st f _ hd (M11.tj U);rw[Gw U.1,n1]at F;ext F
 rwa[⟨N,tb,M55.fc hN,by unfold M24.fB;rw[agO,hN],o,λw x p H=>?_,λw x=>?_⟩]
 ·let⟨c,hc,Q⟩:=at_ p H;let v:=ahd C x;rwa[inj (wt (o w v) hc (rd v Q (h.cl.r w x c Q.1 Q.2))) hc]
 ·let v:=agS rs x;rwa[inj (wt (o w v) I (rd v V (h.cl.p w x))) I]
def Fl.mL {rs e:Za3}(h:Fl rs e n m i S)(b:∀u∈rs++e,∀z∈u,z∈bA (2* n)/\-z∈bA (2* n))(q:1<=i):S.made<=i/\S.L=n:=by
 rwa[⟨5,by let⟨R,y⟩:=h.ys b;rwa[y.l]⟩]
 cases h with
 |start t _=>
  let⟨_,_,a,_⟩:=YS.new.tr t b;let a:S.made=1:=a;ext
 | @next k _ c z f p l t _=>
   let⟨R,y⟩:=f.ys b;let⟨j,g,d,o⟩:=l.1;let⟨_,_,a,_⟩:=(y.make j (lj g) o d (zU d).2.2).tr t b;let a:S.made=k.made+ 1:=a;ext
def _root_.Lake.L2.Good.L3 (g:Good S [] R){a b:Nat}{z:Int}(r:R a z b):S.by (S.aw a) z=some (S.aw b):=g.rF.mpr ⟨a,b,r,22⟩
def _root_.Lake.L2.Later.r (l:Later S T)(g:Good S [] R){a b:Nat}{z:Int}(r:R a z b):T.by (T.aw a) z=some (T.aw b):=by
 let h:=l.by_ _ _ _ (g.L3 r);let⟨d,c,_⟩:=g.rl _ _ _ r;rw[l.el a d,l.el b c]at h;rwa[h]
theorem CV {rs j:Za3}{F:RS}{R1:Za2}(t:Tr (rs++j) ⇑rs S T)(x:∀w∈rs++j,∀z∈w,z∈l/\-z∈l)(g:Good S [] R1)(w:fH S)(k:∀a z b,R1 a z b->z∈l)(s:Good F [] R)(n:uJ rs j F)(o:0<F.made)(r:S.made<=F.made)(h:∀a z b,R1 a z b->F.by (F.aw a) z=some (F.aw b)):Later T F:=by
 let i:=R6 s n o (λ_ h=>h) λ_ h=>h
 let⟨f,m,_,y,_,_,_,u⟩:=t.sound i x g w r k h;rwa[⟨λc v=>?_,λc z d e=>HD m i.fn u e⟩];rwa[(A0 (U:=λp z q=>F.by p z=some q) i.fn u (m.cg c v)).symm]
def Jw (e:∀i z,dq S m i z↔dq T m i z)(h:jf n S m i z)(g:jf n T m j y):i=j/\z=y:=by
 let a:=h.2 j y ((e _ _).mpr g.1);let b:=g.2 i z ((e _ _).mp h.1);unfold rk at a b;split at a
 ·rename_i f;rw[ahf f,ahf f]at b;let⟨x,d⟩:=yl a b;rwa[3,(yj d).symm]
 ·rename_i f;rw[ahc f,ahc f]at b;split at a
  ·rename_i c;rw[ahf c,ahf c]at b;let⟨x,d⟩:=yl a b;rwa[3,(yj x).symm]
  ·rename_i c;rw[ahc c,ahc c]at b;let⟨x,d⟩:=yl a b;rwa[3,(yj d).symm]
def CW {i:Za2}(g:Good S [] R)(f:Good T [] i)(em:S.made=T.made)(l:Later S T)(j:Later T S):(∀c,c<S.made->S.aw c=T.aw c)/\∀c z,S.by c z=T.by c z:=by
 let half:∀{S T:RS} {R i:Za2},Good S [] R->Good T [] i->S.made=T.made->Later S T->∀c,c<S.made->T.aw c<=S.aw c:=λ{S T R i} g f e l c h=>by
  rw[<-l.el c h];rwa[(f.el _ (by rw[<-e];rwa[g.lt h])).1]
 let a:∀c,c<S.made->S.aw c=T.aw c:=λc h=>Nat.le_antisymm (half f g em.symm j c ∅) (half g f em l c h)
 let b:∀{S T:RS} {R:Za2},Good S [] R->Later S T->(∀c,c<S.made->S.aw c=T.aw c)->∀c z d,S.by c z=some d->T.by c z=some d:=λ{S T R} g l a c z d e=>by
  let⟨n,o,k,p⟩:=g.st _ _ _ e;have:=l.by_ _ _ _ e;rw[<-a c n,<-a d o,k,p]at this;rwa[this]
 rwa[⟨a,λc z=>?_⟩]
 cases e:S.by c z with
 |some d=>exact(b g l a c z d e).symm
 |none=>
  cases m:T.by c z with
  |none=>rfl
  |some d=>rw[b f j (λc h=>(a c ∅).symm) c z d m]at e;ext e
def Jx {j:Za2}(g:Good S [] R)(f:Good T [] j)(em:S.made=T.made)(h:(∀c,c<S.made->S.aw c=T.aw c)/\∀c z,S.by c z=T.by c z)(c:Nat)(z:Int):dq S n c z↔dq T n c z:=by
 let d:∀{S T:RS},S.Wf->T.Wf->S.made=T.made->(∀c,c<S.made->S.aw c=T.aw c)->(∀c z,S.by c z=T.by c z)->dq S n c z->dq T n c z:=λ{S T} w m e a b ⟨l,k,o,i⟩=>⟨3,by rw[m3 (by rw[m.e];omega),<-a c l,lj k],o,by rw[<-b];rwa[i]⟩
 rwa[d g.wf f.wf em h.1 h.2,d f.wf g.wf em.symm (λc p=>(h.1 c ∅).symm) λc z=>(h.2 c z).symm]
theorem Fl.later {rs G:Za3}(i:∀u∈rs++G,∀z∈u,z∈bA (2* n)/\-z∈bA (2* n)):∀(f:Nat) {J p:Nat} {S F:RS},Fl rs G n m J S->Fl rs G n m p F->S.made=f->F.made=f->Later S F:=by
 intro f
 induction f with
 |zero=>
  intro _ _ S F h _ e _;let⟨R,y⟩:=h.ys i;have:=y.m;ext
 |succ f X=>
  intro _ _ S F h D e eF;let⟨RF,s⟩:=D.ys i;let Q:=D.cl
  cases h with
  |start t _=>exact CV (R1:=λ_ _ _=>False) t i (uF n _) YS.new.w (λ_ _ _ q=>q.elim) s.g Q s.m s.m λ_ _ _ q=>q.elim
  | @next H _ c z f0 _ V t _=>
    let⟨R0,k⟩:=f0.ys i;let⟨g1,Y,T,g4⟩:=V.1;let B:=k.make g1 (lj Y) g4 T (zU T).2.2;let⟨_,_,d,_⟩:=B.tr t i;let d:S.made=H.made+ 1:=d
    cases D with
    |start L _=>
     let⟨_,_,o,_⟩:=YS.new.tr L i;let o:F.made=1:=o;have:=k.m;ext
    | @next N _ c' z' j _ v L _=>
      let⟨Z,g⟩:=j.ys i;let⟨C,M,l,E⟩:=v.1;let⟨R2,x,o,sub,_⟩:=(g.make C (lj M) E l (zU l).2.2).tr L i;let o:F.made=N.made+ 1:=o;let O:=X f0 j ∅ ∅;let l2:=X j f0 ∅ ∅;let⟨rfl,rfl⟩:=Jw (Jx k.g g.g ∅ (CW k.g g.g ∅ O l2)) V v;let I:=Later.of g.g x.g (λa z b r=>sub _ _ _ (iB a z b r)) ∅;rwa[CV t i B.g B.w B.k s.g Q s.m (by show H.made+ 1<=_;omega) ?_];let U:H.made=N.made:=∅
      rintro a y b (r|⟨rfl,rfl,rfl⟩|⟨rfl,rfl,rfl⟩)
      ·let⟨h1,h2,_⟩:=k.g.rl _ _ _ r;have:=I.by_ _ _ _ (O.r k.g r);rw[I.el a ∅,I.el b ∅]at this;rwa[this]
      ·rw[U];rwa[x.g.L3 (sub _ _ _ kg)]
      ·rw[U];rwa[x.g.sy _ _ _ (x.g.L3 (sub _ _ _ kg))]
def Fl.one {rs d:Za3}(a:∀u∈rs++d,∀z∈u,z∈bA (2* n)/\-z∈bA (2* n))(h:Fl rs d n m i S)(b:Fl rs d n m j T)(em:S.made=T.made):(∀c z,dq S n c z↔dq T n c z)/\∀c z,S.by c z=T.by c z:=by
 let⟨R,y⟩:=h.ys a;let⟨g,f⟩:=b.ys a;let e:=CW y.g f.g em (Fl.later a _ h b rfl em.symm) (Fl.later a _ b h rfl em);rwa[Jx y.g f.g em e,e.2]
def Fl.most {rs d:Za3}(b:∀u∈rs++d,∀z∈u,z∈bA (2* n)/\-z∈bA (2* n))(h:Fl rs d n m i S)(o:∀c z,¬dq S n c z)(l:Fl rs d n m j T):T.made<=S.made:=by
 induction l with
 |start t _=>
  let⟨_,_,a,_⟩:=YS.new.tr t b;let⟨R,y⟩:=h.ys b;rw[a];rwa[y.m]
 | @next e T c z f0 _ g t _ x=>
   let⟨v,r⟩:=f0.ys b;let⟨p,k,f,s⟩:=g.1;let⟨_,_,a,_⟩:=(r.make p (lj k) s f (zU f).2.2).tr t b;let a:T.made=e.made+ 1:=a;rcases aiA e.made S.made with q|q
   ·ext
   ·rwa[absurd (((h.one b f0 (by omega)).1 c z).mpr g.1) (o c z)]
def Qi (K:Za1):Sp:=λf H Q _=>∃(a:Zs) (e:Zg),f=[↑a]/\aD K H a (ao e)/\∀l c o b d,aq H d->d l\.tup [.int ((b:Nat):Int),.str (tx c)]->(c=lW o\/c=[]/\o=0)->o<3->1<=b->b<=24->Q ↑l d
inductive E3 (vs:Zb) (H:Hp) (Q:VK) (E_:XK):Prop
 |mk (a:Zs) (T:Za3) (L:Nat):vs=[↑a,.int L]->TabAt H a T->M11.Tab L T->M12.Fc (2* L) T.flatten ⇑T->(∀H',aq H H'->Q (.bl true) H')->E3 vs H Q E_
inductive N3 (vs:Zb) (H:Hp) (Q:VK) (E_:XK):Prop
 |mk (a wa:Zs) (T:Za3) (L i:Nat) (w:Zg):vs=[↑a,.int i,↑wa]->TabAt H a T->M11.Tab L T->H wa\.tup (ao w)->M11.dG L w->i<⇑T->Q (.int (M11.walk T w i)) H->N3 vs H Q E_
seal L2.PE L2.PS L2.iS L2.PA L2.PT
def zL (T:Txt K mg A):T.qc.Ok P w base 2 (Qi K):=by
 rwa[T.qc.on je (λI N r s H O Q E F h=>?_) (len:=by rintro _ _ _ _ ⟨a,u,rfl,_⟩;rfl)]
 ·let⟨a,u,rfl,C,k⟩:=h
  refine⟨_,(aj (bJ 1 je.nd (pc T.bx (bj T) F (ae (pv 0) (ae au ai))))
   (aj (bJ 2 je.nd (bC bF (bT (ae au (ae au (ae au (ae au ai hJ) hJ) hJ) hJ)) (aK bO (aK cX (pv 1) au) au) (λ_ _=>rfl)))
   (aj (bP (bH (aX eh (aK bO (pv 1) au) au (aY _))
    (av (bJ 2 je.nd (aK cI au (aK bO (aK cX (pv 1) au) au))))
    bp))
   (av (bh (cJ (ae (pv 2) (ae (bC bF (bT (ae (fD (l:=[114,111,111,109,115]) rfl) (ae (fD (l:=[108,101,116,116,101,114,115]) rfl) (ae (fD (l:=[110,101,119,101,115,116]) rfl) (ae (fD (l:=[]) rfl) ai hJ) hJ) hJ) hJ)) (aK bO (aK cX (pv 1) au) au) (λ_ _=>rfl)) ai)))))))),?_⟩
  rwa[gT ?_];intro G B M;rwa[⟨12,a,u,(7),2,C,4,λz=>?_⟩];rwa[⟨by show 4<=sizeLine;decide,λq m=>⟨121122,⟨44⟩,1122,(by show (0:Int)<4;decide),5⟩⟩]
  obtain⟨b,d,j,c⟩:∃b:Nat,j4 [V.int 12,V.int 12,V.int 12,V.int 24] (z / 2 % 4)\.int (b:Int)/\1<=b/\b<=24:=by
   rcases (show z / 2 % 4=0\/z / 2 % 4=1\/z / 2 % 4=2\/z / 2 % 4=3 by omega) with e|e|e|e
   ·rwa[⟨(12),by rw[e];rfl,by decide,by decide⟩]
   ·rwa[⟨(12),by rw[e];rfl,by decide,by decide⟩]
   ·rwa[⟨(12),by rw[e];rfl,by decide,by decide⟩]
   ·rwa[⟨(24),by rw[e];rfl,by decide,by decide⟩]
  rwa[⟨q,_,_,_,rfl,rfl,aD.of ah,d,?_⟩];let s1:=aq.upd (o:=.lst [V.int 12,V.int 12,V.int 12,V.int 24]) m;generalize upd H q _=y at s1 ⊢;erw[λ g v=>∃b:Nat,g=#v[↑a,.int z,.int b]/\v=y/\1<=b/\b<=24,5]
  ·rwa[⟨121122,(by show (0:Int)<2;decide),212,bU (λ_=>?_) (λ_=>⟨b,22,j,c⟩)⟩];erw[121122,⟨44⟩,1122,(by show (0:Int)<12;decide),1122];let⟨x,L,D⟩:=fO (z / 2) (n:=12) ⋯;rw[show z / 2 % 12=(x:Int) from L,show (1:Int)+ (x:Int)=((1+ x:Nat):Int) by ext];rwa[1+ x,2233]
  clear j c d;rintro g v ⟨b,rfl,rfl,j,c⟩;rwa[⟨12,by show 4<=sizeLine;decide,λq m=>⟨121122,⟨44⟩,1122,(by show (0:Int)<4;decide),5⟩⟩]
  obtain⟨f,i,d,t,p⟩:∃(f:Zh) (i:Nat),j4 [V.str (tx [114,111,111,109,115]),V.str (tx [108,101,116,116,101,114,115]),V.str (tx [110,101,119,101,115,116]),V.str (tx [])] (z / 48 % 4)\.str (tx f)/\(f=lW i\/f=[]/\i=0)/\i<3:=by
   rcases (show z / 48 % 4=0\/z / 48 % 4=1\/z / 48 % 4=2\/z / 48 % 4=3 by omega) with e|e|e|e
   ·rwa[⟨_,(0),by rw[e];rfl,.inl rfl,by decide⟩]
   ·rwa[⟨_,(1),by rw[e];rfl,.inl rfl,by decide⟩]
   ·rwa[⟨_,(2),by rw[e];rfl,.inl rfl,by decide⟩]
   ·rwa[⟨_,(0),by rw[e];rfl,.inr ⟨rfl,rfl⟩,by decide⟩]
  rwa[⟨q,_,_,_,rfl,rfl,aD.of ah,d,by show 2<=sizeLine;decide,λl J=>?_⟩];rwa[k l f i b _ (s1.trans ((aq.upd m).trans (aq.upd J))) ah t p j c]
unseal L2.PE L2.PS L2.iS L2.PA L2.PT
def yo {T:Za3}(h:TabAt H a T)(j:M11.Tab n T)(d:i<⇑T):∃(rs:Zn) (r:Zs) (row:Zg),H a\.lst (rs.map V.ref)/\rs[i]?\r/\H r\.lst (ao row)/\⇑row=2* n/\∀k,k<2* n->row[k]?\((M11.nx T k i:Nat):Int):=by
 let⟨rs,m,e⟩:=h;let c:i<⇑rs:=by rw[e.1];rwa[d]
 let g:rs[i]?=some rs[i]:=agJ c
 let b:T[i]?=some T[i]:=agJ d
 rwa[⟨rs,11,m,g,e.2 i _ _ g b,j.row i _ b,λk l=>?_⟩];let⟨r,f,o⟩:=j.val i k d l;rw[b]at f;rw[Za0 f];rwa[o]
def Jy {T:Za3}{w:Zg}(h:w[n]?\z):M11.walk T (w.take (n+ 1)) i=M11.nx T (M11.pl z) (M11.walk T (w.take n) i):=by
 rw[aim,h];rwa[M11.K0 T (w.take n) [z] i]
def Gx {w:Zg}(a:Nat)(h:M11.dG n w):M11.dG n (w.take a):=λs b=>h s (ai5 b)
def uo (T:Txt K mg A):T.qe.Ok P w base 1 N3:=by
 rwa[T.qe.on om (λC J f s H N Q E M h=>?_)]
 ·let⟨a,j,TT,L,i,u,rfl,o,tab,b,m,x,k⟩:=h
  erw[_,(aj (ck ahe rfl (vt (pv 2)) (di 3 om.nd)
   (av (bJ 1 om.nd (bC bF (bC bF (pv 0) (pv 1) (λ_ _=>rfl)) (aK g6 (aK g6 (aK iz au (bq JP rfl T.V2 PyProof.Rows.boot_abs (ae (pv 3) ai))) au) (c9 rh rfl T.zR ajE (ae (iI sP (pv 3) au (aY _)) ai))) (λ_ _=>rfl)))))
   (av (bh (pv 1))))]
  rwa[iC ?_];intro F;erw[12,j,2,⟨_,bG.of b⟩];rwa[xr (K:=K) (a:=j) (xs:=ao u) (λn d c=>∃v:Zc,d=#v[↑a,.int ((M11.walk TT (u.take n) i:Nat):Int),↑j,v]/\c=H) ⟨none,22⟩ (λi d c _ ⟨11,e⟩=>[e]▸bG.of b) ?_ ?_]
  ·rintro n y d c q ⟨v,rfl,rfl⟩;let⟨z,rfl,l⟩:=cw q;let B:=m z (agK l);let⟨O,r,row,t,G,p,_,D⟩:=yo o tab (M11.Ek tab (Gx n m) x)
   let g:2* (if z<0 then -z else z) - 1 - (if decide (z > 0)=true then 1 else 0)=((M11.pl z:Nat):Int):=by
    unfold M11.pl;by_cases h:z<0
    ·rw[ahf h,ahc (by rw[ahA (show ¬z > 0 by omega)];decide),ahc (show ¬ 0<z by omega)];ext
    ·rw[ahc h,ahf (ahp (show z > 0 by omega)),ahf (show 0<z by omega)];ext
   erw[1212,a,11122,aD.of t,dC G,12,z,21122,.inl ⟨44⟩,1122121122121122];rw[g];erw[r,11122,aD.of p,da (cC (D _ (M11.tj B)))];rwa[_,by rw[Jy l];rfl,2]
  rintro d c ⟨v,rfl,rfl⟩;rw[aM,aid];rwa[12,k]
structure sN (E:Zg) (p cm:Nat):Prop where
 a:∀(q:Nat) (z:Int),q<p->E[q]?\z->z<(cm:Int)
 h:cm=1\/∃q,q<p/\E[q]?\(((cm - 1:Nat):Nat):Int)
 o:1<=cm
def sN.le {W:Nat}(fc:M12.Fc W l n)(h:sN l m i)(e:l[m]?\(j:Int)):j<=i:=by
 rcases aiA i j with q|q
 ·let c:=(fc.1 _ (agK e)).2;let d:=h.o;let⟨b,_,a,lt⟩:=fc.2 i ∅ ∅;rcases Nat.lt_trichotomy b m with r|r|r
  ·have:=h.a b _ r a;ext
  ·rw[r,e]at a;have:=Za0 a;ext
  ·have:=lt m _ r e;ext
 ·rwa[q]
def sN.step (h:sN l n m)(e:l[n]?\(j:Int))(c:j<=m):sN l (n+ 1) (m+ if j=m then 1 else 0):=by
 let d:=h.o;rwa[⟨λq z b hz=>?_,53⟩]
 ·rcases aiA q n with r|r
  ·have:=h.a q z r hz;ext
  ·have:q=n:=∅
   subst this;rw[e]at hz;have:=Za0 hz;split <;> ext
 ·by_cases q:j=m
  ·rw[ahf q];rwa[.inr ⟨n,3,by rw[e,q,Nat.add_sub_cancel]⟩]
  ·rw[ahc q,Nat.add_zero];rcases h.h with r|⟨a,r1,r2⟩
   ·rwa[.inl r]
   ·rwa[.inr ⟨a,by ext,r2⟩]
def sN.has {W:Nat}(fc:M12.Fc W l n)(h:sN l (i* W) m)(d:i<n):i<m:=by
 let e:=h.o;rcases Nat.eq_zero_or_pos i with r|r
 ·ext
 ·let⟨b,c,a,_⟩:=fc.2 i r d;have:=h.a b _ c a;ext
def sN.end_ {W:Nat}(fc:M12.Fc W l n)(h:sN l (n* W) m)(hN:0<n):m=n:=by
 let d:n - 1<m:=by
  let f:=h.o;rcases Nat.eq_zero_or_pos (n - 1) with r|r
  ·ext
  ·let⟨b,c,a,_⟩:=fc.2 (n - 1) r (by omega);have:=h.a b _ (ahh c (air _ ∅)) a;ext
 rcases h.h with r|⟨q,_,e⟩
 ·ext
 ·have:=(fc.1 _ (agK e)).2;ext
def L4 (k:Nat):(k:Int)+ 1 - 2* ((k:Int) % 2)=((M11.flip k:Nat):Int):=by
 unfold M11.flip;split <;> ext
def zM (T:Txt K mg A):T.qd.Ok P w base 2 E3:=by
 rwa[T.qd.on eI (λcu AA R s H vs Q E hr h=>?_)]
 ·let⟨a,TT,L,rfl,B,tab,fc,k⟩:=h;let m2:=ig hr
  erw[_,(aj (bP (bH (PW.pt (kB (qT (eV (bq eY rfl T.cV aht (ae (pv 0) (ae (gk (v:=.ty "list") rfl T.fe ahB rfl) ai))))) (ou (aX (xN m2) (pv 0) (bT ai) (aY _)))))
   (av (bh kA))
   bp))
   (aj (bJ 2 eI.nd au)
   (aj (ck ahe rfl (uE rfl T.kK (pv 0)) (kM rfl (cF (di 3 eI.nd) (cF (di 4 eI.nd) jr)))
    (aj (bP (bH (PW.pt (kB (aX E9 (pv 3) (pv 2) (aY _)) (kB (qT (eV (bq eY rfl T.cV aht (ae (pv 4) (ae (gk (v:=.ty "list") rfl T.fe ahB rfl) ai))))) (ou (aX jK (bq bz rfl T.dB ahu (ae (pv 4) ai)) (aK iz au (pv 1)) (aY _))))))
     (av (bh kA))
     bp))
    (av (ck ahe rfl (uE rfl T.kK (pv 4)) (kM rfl (cF (di 5 eI.nd) (cF (di 6 eI.nd) jr)))
     (aj (bP (bH (PW.pt (kB (qT (eV (pc T.p7 (zI T) hr (ae (pv 6) ai)))) (kB (aX pG (pv 6) au (aY _)) (kB (aX sP (pv 6) (pv 2) (aY _)) (ou (aX E9 (pv 6) (bq bz rfl T.dB ahu (ae (pv 0) ai)) (aY _)))))))
      (av (bh kA))
      bp))
     (aj (bJ 2 eI.nd (aK cI (pv 2) (c9 rh rfl T.zR ajE (ae (iI eh (pv 6) (pv 2) (aY _)) ai))))
     (av (bP (bH (PW.pt (kB (aX jK (bq bz rfl T.dB ahu (ae (bC bF (pv 0) (pv 6) (λ_ _=>rfl)) ai)) (aK iz au (pv 1)) (aY _)) (ou (aX jK (bC bF (bC bF (pv 0) (pv 6) (λ_ _=>rfl)) (aK g6 (aK cI (pv 5) au) (aK iz au (aK bO (pv 5) au))) (λ_ _=>rfl)) (pv 3) (aY _)))))
      (av (bh kA))
      bp)))))))))
   (av (bh (iI eh (pv 2) (bq bz rfl T.dB ahu (ae (pv 0) ai)) (aY _)))))))]
  rwa[gT ?_];intro jG hM fx;let⟨rs,d,N4⟩:=id B;let j:=tab.pos;let afy:=tab.top;let j5:=tab.let1;let qK:=tab.Y4;let u:⇑(rs.map V.ref)=⇑TT:=by rw[agO,N4.1]
  erw[λ b C=>b=#v[↑a,.int L,none,none,none,none,none]/\aq H C,5]
  ·rwa[⟨1211112,.lst d,mq _ _,true,2,dv ?_⟩];rwa[⟨12,ahg _,λq nq=>⟨a,q,TT,[],22,B.same (aq.upd nq),⟨[],ah,2,λi r ns h=>by simp at h⟩,125⟩⟩];rw[ahA (λz=>by rw[z]at j;simp at j)];rwa[dv ⟨2,aq.upd nq⟩]
  rintro b H1 ⟨rfl,s1⟩;erw[12,a,2,⟨_,aD.of (s1^d)⟩]
  refine ri (K:=K) (a:=a) (xs:=rs.map V.ref) (λi x J=>∃(c:Nat) (N O t y:Zc),x=#v[↑a,.int L,.int c,N,O,t,y]/\aq H J/\sN TT.flatten (i* (2* L)) c)
   ⟨(1),none,none,none,none,2,s1,λq z hq=>∅,.inl rfl,agQ _⟩ (λi x J _ ⟨111111,s,_⟩=>aD.of (s^d)) ?_ ?_
  ·rintro i v x J p Y hp ⟨c,N,O,t,y,rfl,s2,g⟩;let m:i<⇑TT:=by rw[<-u];rwa[(agM.mp Y).1]
   let⟨rs',r,row,D,t2,t3,S,t5⟩:=yo (B.same s2) tab m;rw[s2^d]at D;injection D with D
   injection D with D
   rw[D,ag0,t2]at Y;let ev:V.ref r=v:=Za0 Y;subst ev;let s3:=s2.trans (aq.upd (o:=.tup [.int (i:Int),↑r]) hp);let l:=(aq.upd (o:=.tup [.int (i:Int),↑r]) hp) _ _ t3;erw[p,12,bG.of ah,21121122];generalize upd J p (.tup [.int (i:Int),↑r])=H3 at s3 l ⊢;let hic:=g.has fc m;erw[λ b C=>b=#v[↑a,.int L,.int c,.int (i:Int),↑r,t,y]/\C=H3,5]
   ·rwa[⟨1212112212,bU (λh=>absurd (ahq h) ∅) λ_=>?_⟩];rwa[⟨1211112,.lst l,mq _ _,true,2,dv ?_⟩];rwa[12,r,12,.inl (aD.of l),121122,.inl ⟨44⟩,212,jO ([aM,S]▸ahZ V.int ∅) ⟨22⟩]
   rintro b C ⟨rfl,rfl⟩;erw[12,r,2,⟨_,aD.of l⟩]
   refine ri (K:=K) (a:=r) (xs:=ao row) (λn x I=>∃(c:Nat) (t y:Zc),x=#v[↑a,.int L,.int c,.int (i:Int),↑r,t,y]/\aq C I/\sN TT.flatten (i* (2* L)+ n) c)
    ⟨c,t,y,2,λ_ _ e=>e,g⟩ (λn x I _ ⟨1111,s,_⟩=>aD.of (s^l)) ?_ ?_
   ·clear g hic;rintro n v x I p4 hn G ⟨c,t,y,rfl,s4,g⟩;let⟨z,rfl,Z⟩:=cw hn;let f:n<2* L:=by rw[<-S];rwa[(agM.mp Z).1]
    rw[t5 n f]at Z;let ez:=Za0 Z;subst ez
    let e9:TT.flatten[i* (2* L)+ n]?\((M11.nx TT n i:Nat):Int):=by
     let⟨r9,x1,x2⟩:=tab.val i n m f;rw[M12.Em ∅ tab.row x1 f];rwa[x2]
    let U:=tab.lt i n m f;let M:=g.le fc e9;let X:=g.step e9 M;let s5:=s3.trans (s4.trans (aq.upd (o:=.tup [.int (n:Int),.int ((M11.nx TT n i:Nat):Int)]) G));let F:=s4.trans (aq.upd (o:=.tup [.int (n:Int),.int ((M11.nx TT n i:Nat):Int)]) G);erw[p4,12,bG.of ah,21121122];generalize upd I p4 (.tup [.int (n:Int),.int ((M11.nx TT n i:Nat):Int)])=H5 at s5 F ⊢;let⟨qs,q,afz,q1,q2,q3,q4,q5⟩:=yo (B.same s5) tab U;erw[λ b C=>b=#v[↑a,.int L,.int c,.int (i:Int),↑r,.int (n:Int),.int ((M11.nx TT n i:Nat):Int)]/\C=H5,5]
    ·rwa[⟨1212,true,2,dv ?_⟩];rwa[⟨12112212,bU (λh=>absurd (ahq h) ∅) λ_=>?_⟩];rwa[⟨1212112212,bU (λh=>absurd (ahq h) ∅) λ_=>?_⟩];rwa[⟨1212,a,12,.inl (aD.of (s5^d)),112212,bU (λh=>absurd (ahq h) (by rw[u];omega)) λ_=>⟨22⟩⟩]
    rintro b H6 ⟨rfl,rfl⟩;erw[1212122121122]
    let ec:(c:Int)+ (if decide (V.int ((M11.nx TT n i:Nat):Int)=V.int (c:Int))=true then 1 else 0)=((c+ if M11.nx TT n i=c then 1 else 0:Nat):Int):=by
     by_cases h:M11.nx TT n i=c
     ·rw[ahf h,ahf (ahp (by rw[h]))];rfl
     ·rw[ahc h,ahc (λz=>h (by have:=V.int.inj (ahq z);omega))];rfl
    rw[ec];erw[λ b C=>b=#v[↑a,.int L,.int ((c+ if M11.nx TT n i=c then 1 else 0:Nat):Int),.int (i:Int),↑r,.int (n:Int),.int ((M11.nx TT n i:Nat):Int)]/\C=H6,5]
    ·rwa[⟨1212,a,11122,aD.of q1,dC q2,q,12,.inl (aD.of q3),121122,.inl ⟨44⟩,212,jO ([aM,q4]▸ahZ V.int ∅) ?_⟩];erw[1212,a,11122,aD.of q1,dC q2,121122121122,(by show (0:Int)<2;decide),1122,.inl ⟨44⟩,1122];rw[L4];rwa[q,11122,aD.of q3,da (cC (q5 _ (M11.El f))),12212,jO (by rw[tab.back i n m f]) ⟨22⟩]
    rintro b H7 ⟨rfl,rfl⟩;rwa[1112,F,X]
   ·rintro x I ⟨c,t,y,rfl,s4,g⟩;rw[aM,S,show i* (2* L)+ 2* L=(i+ 1)* (2* L) by rw[ajo];ext]at g;rwa[c,11112,s3.trans s4,g]
  ·rintro x J ⟨c,N,O,t,y,rfl,s2,g⟩;rw[u]at g;erw[1212,a,12,.inl (aD.of (s2^d)),2];rw[u,g.end_ fc j,ahp rfl];rwa[k _ s2]
theorem Jz {K:Za1}{u:TE}{Q:VK}{rs:Zn}{rows:Za3}(h:H a\.lst (rs.map V.ref))(k:dc H rs rows)(J:⇑rows<=1000)(B:∀(c:Hp) (r:Zs) (n:Zg) (R:VK),c r\.lst (ao n)->(∀l,c l=none->R ↑l (upd c l (.lst (ao n))))->u (some ↑r::D) c R)
 (F:∀b c f,aq H c->c b=none->dc c f rows->Q ↑b (upd c b (.lst (f.map V.ref)))):oz u D Q (vp K a) H:=by
 let z:=k.1;erw[λi m ys c=>m=⇑rs - i/\i<=⇑rs/\∃f:Zn,ys=f.map V.ref/\aq H c/\dc c f (rows.take i),⟨⇑rs,by simp,ahg _,[],2,λ_ _ e=>e,⟨by simp,λi r n C=>by simp at C⟩⟩];rintro i m ys c ⟨rfl,I,f,rfl,s2,g⟩;let j:⇑f=i:=by have:=g.1;rw[ahr]at this;ext
 by_cases d:i<⇑rs
 ·let q:rs[i]?=some rs[i]:=agJ d
  let o:i<⇑rows:=∅
  let p:rows[i]?=some rows[i]:=agJ o
  let y:=k.2 i _ _ q p;rwa[.inr ⟨jQ (aD.of (s2^h)) i ([agO]▸d),[agO,j]▸agU (show i<=1000 by omega) ⋯,λx s E=>?_⟩];let⟨rfl,t⟩:=iJ (aD.of (s2^h)) i x s ([agO]▸d) E;rw[ag0,q]at t;let ex:V.ref rs[i]=x:=Za0 t;subst ex;rwa[B s _ _ _ (s2^y) λl v=>?_]
  erw[⇑rs - (i+ 1),32,d,f++[l],by rw[aho];rfl,s2.trans (aq.upd v)];let e:rows.take (i+ 1)=rows.take i++[rows[i]]:=by rw[aim,p];rfl
  rw[e];rwa[(g.same (aq.upd v)).snoc ah]
 ·let e:i=⇑rs:=∅
  rwa[.inl ⟨5,[agO,j]▸ag3 (show i<=1000 by omega) ⋯,λb G=>?_⟩]
  ·have:=gR (K:=K) (aD.of (s2^h));rw[agO,<-e]at this;rwa[this]
  ·rw[aiR ∅]at g;rwa[F b c f s2 G g]
def Kp.words {pos:Pos}(k:Kp a H I)(t:df a pos x H){l:Zs}{ws:Za3}(h:bR H l ws):bR I l ws:=by
 let⟨d,b,c⟩:=h;rwa[d,k.at t b s!"",c.keep λp f e=>k.at t e s!""]
def Kp.tabs {pos:Pos}(k:Kp a H I)(t:df a pos x H){l:Zs}{T:Za3}(h:TabAt H l T):TabAt I l T:=by
 let⟨f,e,d⟩:=h;rwa[f,k.at t e s!"",d.1,λi r row c b=>k.at t (d.2 i r row c b) s!""]
def xl {rs:Zn}(h:(rs.map V.ref)[i]?\q):∃r,rs[i]?\r/\q=↑r:=by
 rw[ag0]at h
 cases e:rs[i]? with
 |none=>rw[e]at h;ext h
 |some r=>rw[e]at h;rwa[r,2,(Za0 h).symm]
def UY (T:Txt K mg A)(Ct:ki mg base):T.law.Ok P w base 13 (zS K A.eG):=by
 rwa[T.law.on dX (λcu AA outer s H vs Q E X h=>?_) (len:=by rintro _ _ _ _ ⟨a,ns,rfl,_⟩;rfl)]
 ·let⟨a,ns,rfl,ha,Yj,hP,k⟩:=h;let m2:=ig X;let hu8:=agU (Nat.add_le_add_left (by decide:8<=64) _) X.units
  erw[_,(aj (mh (pc T.p9 (zK T) X (ae (pv 0) ai)) (kM rfl (cF (di 1 dX.nd) (cF (di 2 dX.nd) (cF (di 3 dX.nd) (cF (di 4 dX.nd) (cF (di 5 dX.nd) jr)))))))
   (aj (mh (pc T.qc (zL T) X (ae (pv 0) ai)) (kM rfl (cF (di 6 dX.nd) (cF (di 7 dX.nd) jr))))
   (aj (bJ 8 dX.nd (bT (ae (c9 jN rfl T.fe ahB (ae (pv 3) ai)) (ae (c9 jN rfl T.fe ahB (ae (pv 4) ai)) ai))))
   (aj (mh (pc T.i6 (kz T Ct) X (ae (pv 1) (ae (bC bF (pv 8) au (λ_ _=>rfl)) (ae (bC bF (pv 8) au (λ_ _=>rfl)) (ae (pv 6) (ae (pv 7) ai)))))) (kM rfl (cF (di 9 dX.nd) (cF (di 10 dX.nd) jr))))
   (aj (bH (aX (OD hu8) (pv 8) (bT (ae (pv 3) (ae (pv 4) ai))) (aY _))
    (av (bh kA))
    bp)
   (aj (bH (aX lY (pv 10) dm (aY _))
    (av (bh (iI qU (bC dJ (pc T.i6 (kz T Ct) X (ae (pv 1) (ae (pv 3) (ae (pv 4) (ae (pv 6) (ae (pv 7) ai)))))) au (λ_ _=>rfl)) dm (aY _))))
    bp)
   (aj (bP (bH (PW.pt (kB (qT (eV (bq eY rfl T.cV aht (ae (pv 9) (ae (gk (v:=.ty "tuple") rfl T.oY aiK rfl) ai))))) (kB (aX jK (bq bz rfl T.dB ahu (ae (pv 9) ai)) au (aY _)) (ou (qT (eV (pc T.qd (zM T) X (ae (bC dJ (pv 9) au (λ_ _=>rfl)) (ae (pv 1) ai)))))))))
    (av (bh kA))
    bp))
   (aj (bJ 11 dX.nd (bC dJ (pv 9) au (λ_ _=>rfl)))
   (aj (ck ahe rfl (gJ rfl T.ej (ae (bq bz rfl T.dB ahu (ae (pv 11) ai)) ai)) (di 12 dX.nd)
    (av (ck ahe rfl (cP (pv 3)) (di 13 dX.nd)
     (av (bH (aX jK (pc T.qe (uo T) X (ae (pv 11) (ae (pv 12) (ae (pv 13) ai)))) (pv 12) (aY _))
      (av (bh kA))
      bp)))))
   (aj (ck ahe rfl (cP (pv 4)) (di 13 dX.nd)
    (av (bH (aX jK (pc T.qe (uo T) X (ae (pv 11) (ae au (ae (pv 13) ai)))) au (aY _))
     (av (bh kA))
     bp)))
   (aj (i5 (iy:=14) dX.nd rfl (Or.inl rfl) (fns:=[]) (ixs:=[]) (cl:=[]) rfl (cP (pv 11)) (jP ⋯ ⋯ rfl ⋯ rfl) (λC s H ex=>(c9 (zj (K:=K) rfl) rfl T.fe ahB (ae (pv 0) ai))))
   (aj (bJ 15 dX.nd (pc T.i6 (kz T Ct) X (ae (pv 1) (ae (pv 3) (ae (pv 4) (ae (pv 6) (ae (pv 7) ai)))))))
   (av (bh (zZ (iI lY (bC dJ (pv 15) au (λ_ _=>rfl)) dm (aY _)) (zZ (iI (xN m2) (bC dJ (bC dJ (pv 15) au (λ_ _=>rfl)) au (λ_ _=>rfl)) (pv 14) (aY _)) (GC (iI (xN m2) (pv 11) (pv 14) (aY _)))))))))))))))))))]
  rwa[Hv ?_];intro aaA aaB aaC u_9 W8 M0 y7 nU lJ jG hM fx;let ha:aD K H a (ao ns):=ha;rwa[⟨12,a,ns,2,ha,Yj,λq ta U O L x R P_ H1 s1 hq j5 Yg I wP ok N2 Ym=>?_⟩];erw[q,12,bG.of hq,21121121121121122];rwa[⟨12,a,ns,2,s1.seq ha,λq2 ot o l H2 s2 B6 EY Js M aaD=>?_⟩];erw[q2,12,bG.of B6,21121122];replace I:=I.same s2;replace wP:=wP.same s2;replace s1:=s1.trans s2;let⟨pR,JA,tR⟩:=id I;let⟨pQ,JB,tQ⟩:=id wP;rwa[⟨12,U,12,.inl (aD.of JA),λp n1=>?_⟩];let s5:=aq.upd (o:=.lst (pR.map V.ref)) n1;let w1:bR (upd H2 p (.lst (pR.map V.ref))) p R:=⟨pR,ah,tR.same s5⟩;generalize upd H2 p (.lst (pR.map V.ref))=H3 at s5 w1 ⊢;rwa[⟨12,O,12,.inl (aD.of (s5^JB)),λF n2=>?_⟩];let s6:=aq.upd (o:=.lst (pQ.map V.ref)) n2;let w2:bR (upd H3 F (.lst (pQ.map V.ref))) F P_:=⟨pQ,ah,(tQ.same s5).same s6⟩;generalize upd H3 F (.lst (pQ.map V.ref))=H4 at s6 w2 ⊢;rwa[⟨(Za4 2),λY n3=>?_⟩];let s7:=aq.upd (o:=.lst [↑p,↑F]) n3;let hh:upd H4 Y (.lst [↑p,↑F]) Y\(.lst [↑p,↑F]):=ah;replace w1:=w1.same (s6.trans s7);replace w2:=w2.same s7;let JC:=s5.trans (s6.trans s7);generalize upd H4 Y (.lst [↑p,↑F])=H5 at s7 hh w1 w2 JC ⊢;replace s1:=s1.trans JC;replace I:=I.same JC;replace wP:=wP.same JC;clear s5 s6 s7 JC n1 n2 n3 JA JB tR tQ H3 H4 pR pQ s2 hq B6 H2 H1 ha;let Z:df A.eG dZ iG H5:=.inl (s1^hP);let fit:l* ⇑R+ ⇑P_<=700:=by have:=ajN aaD N2;ext
  let d:∀u∈R++P_,∀z∈u,z∈bA (2* L)/\-z∈bA (2* L):=λu hu z hz=>((sJ ∅ (ok u hu)).2 z hz).2
  let step:∀vf vr m,Kp A.eG H5 m->(∀Yn,aq m Yn->nU { nx:=λ_ m=>Q .non m,rt:=Q } #v[↑a,.int L,↑ta,↑U,↑O,.int x,.int l,.str (tx ot),↑Y,some vf,some vr,none,none,none,none,none] Yn)->lJ { nx:=λ_ m=>Q .non m,rt:=Q } #v[↑a,.int L,↑ta,↑U,↑O,.int x,.int l,.str (tx ot),↑Y,some vf,some vr,none,none,none,none,none] m:=λvf vr m B go=>by
   rwa[⟨121212,by show 2<=sizeLine;decide,λe ne=>?_⟩];let g:=aq.upd (o:=.lst [↑U,↑O]) ne;rwa[_,Y,e,22,Ji (g^(B.at Z hh s!"")) ((qo ((B.words Z w1).same g)).le ⋯) ((qo ((B.words Z w2).same g)).le ⋯),Ji ah ((qo ((B.words Z I).same g)).le ⋯) ((qo ((B.words Z wP).same g)).le ⋯),12,dv (go _ g)]
  rwa[⟨1212,Y,11122,aD.of hh,212,Y,11122,aD.of hh,21212,p,F,L,l,o,ot,R,P_,2,EY,Js,j5,3,M,3,w1,w2,ok,fit,33,Z,λq t tb pp S N m B t1 f1 g1 a0 a1 a2 a3 _=>?_,λq y dd pp S m B t1 f1 m1 l1 a0 _ _ _=>?_⟩]
  ·let⟨hm,eL⟩:=f1.mL d M;rw[eL]at a2 a3;let⟨hNm,ft⟩:=f1.ft d g1 ∅ j5 ∅ a3;rwa[⟨q,12,bG.of a0,21121122,step _ _ m B λH9 g=>?_⟩];replace a1:=g^a1;replace a2:=a2.same g;replace I:=(B.words Z I).same g;replace wP:=(B.words Z wP).same g;replace t1:=t1.same g;generalize eT:M24.fB (bB S) (2* L) (M24.bf (bB S) (2* L) 0 N)=TT at a2 ft;let tab:=ft.t;let hTn:=ft.n;let afA:=tab.pos;clear w1 w2 hh B a0 g Z;rwa[⟨12212,bU (λh=>absurd h ⋯) λ_=>?_⟩];erw[λ gI m=>gI=#v[↑a,.int L,↑ta,↑U,↑O,.int x,.int l,.str (tx ot),↑Y,↑t,some .non,none,none,none,none,none]/\aq H9 m,5]
   ·rwa[⟨1211112,.tup a1,mq _ _,true,2,dv ?_⟩];rwa[⟨12,t,12,.inr (bG.of a1),212,jO rfl ?_⟩];rwa[12,t,11122,bG.of a1,212,tb,TT,L,2,a2,tab,ft.f,λy8 G=>⟨true,2,dv ⟨2,G⟩⟩]
   rintro gI y8 ⟨rfl,G⟩;replace a1:=G^a1;replace a2:=a2.same G;replace I:=I.same G;replace wP:=wP.same G;replace t1:=t1.same G;let⟨rs,UZ,N4⟩:=id a2;let wO:⇑(rs.map V.ref)=N:=by rw[agO,N4.1,hTn]
   let⟨pR,JA,tR⟩:=id I;let⟨pQ,JB,tQ⟩:=id wP;erw[12,t,11122,bG.of a1,2];erw[12,tb,12,.inl (aD.of UZ),(N:Int),by rw[wO],33];rw[ahn];rwa[gL (lo:=0) (n:=N) (λi J H6=>∃N5 b:Zc,J=#v[↑a,.int L,↑ta,↑U,↑O,.int x,.int l,.str (tx ot),↑Y,↑t,some .non,↑tb,N5,b,none,none]/\H6=y8) ⟨none,none,22⟩ ?_ ?_]
   ·rintro i J H6 hi ⟨N5,b,rfl,rfl⟩;erw[12,U,2,⟨_,aD.of JA⟩];rwa[eX (K:=K) (a:=U) (xs:=pR.map V.ref) (λj J H7=>∃b:Zc,J=#v[↑a,.int L,↑ta,↑U,↑O,.int x,.int l,.str (tx ot),↑Y,↑t,some .non,↑tb,.int (i:Int),b,none,none]/\H7=H6) ⟨b,by rw[akm];rfl,2⟩ (λj J H7 _ ⟨11,e⟩=>[e]▸aD.of JA) ?_ (λ J H7 ⟨b,e,e2⟩=>⟨_,b,e,e2⟩)];rintro j y J H7 hj ⟨b,rfl,rfl⟩;let⟨wa,lh,rfl⟩:=xl hj;let Jv:=(agM.mp lh).1;obtain⟨u,hu⟩:∃u,R[j]?\u:=⟨_,agJ (by rw[<-tR.1];rwa[Jv])⟩
    let JD:=agK hu;rwa[121212,tb,wa,TT,L,i,u,2,a2,tab,tR.2 j wa u lh hu,ft.s u (ahd _ JD),312212,jO (by rw[ft.r u JD i hi]) ⟨122⟩]
   rintro J H6 ⟨N5,b,rfl,rfl⟩;erw[12,O,2,⟨_,aD.of JB⟩];rwa[eX (K:=K) (a:=O) (xs:=pQ.map V.ref) (λj J H7=>∃b:Zc,J=#v[↑a,.int L,↑ta,↑U,↑O,.int x,.int l,.str (tx ot),↑Y,↑t,some .non,↑tb,N5,b,none,none]/\H7=H6) ⟨b,22⟩ (λj J H7 _ ⟨11,e⟩=>[e]▸aD.of JB) ?_ ?_]
   ·rintro j y J H7 hj ⟨b,rfl,rfl⟩;let⟨wa,lh,rfl⟩:=xl hj;let Jv:=(agM.mp lh).1;obtain⟨u,hu⟩:∃u,P_[j]?\u:=⟨_,agJ (by rw[<-tQ.1];rwa[Jv])⟩
    let JD:=agK hu;rwa[1212,tb,wa,TT,L,(0),u,2,a2,tab,tQ.2 j wa u lh hu,ft.s u (agS _ JD),3212,jO (by rw[ft.p u JD];rfl) ⟨122⟩]
   rintro J H7 ⟨b,rfl,rfl⟩;erw[12,tb,2,⟨_,aD.of UZ⟩];rwa[Jz UZ N4 ∅ (λH8 r ns_ Rr X kk=>⟨12,r,12,.inl (aD.of X),kk⟩) λD H8 qs s8 nD UT=>?_]
   let g:=s8.trans (aq.upd (o:=.lst (qs.map V.ref)) nD);let hD:TabAt (upd H8 D (.lst (qs.map V.ref))) D TT:=⟨qs,ah,UT.same (aq.upd nD)⟩;generalize upd H8 D (.lst (qs.map V.ref))=H9 at g hD ⊢;replace a2:=a2.same g;replace I:=I.same g;replace wP:=wP.same g;replace t1:=t1.same g;rwa[⟨1212121212,U,O,L,l,o,ot,R,P_,2,EY,Js,j5,3,M,3,I,wP,ok,fit,33,t1,λq' t' Yo U0 S' N' m B t1' f N6 b0 b1 b2 b3 _=>?_,λq' y dd U0 S' m _ _ f m1' l1' _ _ _ _=>?_⟩]
   ·let e1:=f1.most d g1 f;let e2:=f.most d N6 f1
    let eb:bB S'=bB S:=by
     funext kk c
     unfold bB;rw[(f1.one d f ∅).2]
    rw[(f.mL d M).2,eb]at b2 b3;let eN:=M24.PD b3 a3;rw[eN,eT]at b2;replace a2:=B.tabs t1 a2;replace hD:=B.tabs t1 hD;rwa[⟨12,q',11122,bG.of b0,2212,bU (λ_=>?_) λh=>absurd rfl h⟩];erw[12,q',11122,bG.of b0,2,t',11122,bG.of b1,212,Yo,D,TT,TT,22,b2,hD];rw[ahp rfl];rwa[⟨true,2,jj ⟨1212,tb,D,TT,TT,22,a2,hD,5⟩⟩];rw[ahp rfl];rwa[k _]
   ·exfalso
    let e1:=f1.most d g1 f;let⟨c,z,hg⟩:=l1';rwa[g1 c z (((f1.one d f ∅).1 c z).mpr hg.1)]
  ·rwa[⟨q,12,bG.of a0,21121122,step _ _ m B λH9 g=>?_⟩];rwa[⟨12212,bU (λ_=>?_) λh=>absurd (by rfl) h⟩];rwa[⟨1212121212,U,O,L,l,o,ot,R,P_,2,EY,Js,j5,3,M,3,(B.words Z I).same g,(B.words Z wP).same g,ok,fit,33,t1.same g,λq' t' Yo U0 S' N' m _ _ f N6 _ _ _ _ _=>?_,λq' y' dd' U0 S' m _ _ _ _ _ b0 _ _ _=>?_⟩]
   ·exfalso
    let e1:=f.most d N6 f1;let⟨hm,_⟩:=f.mL d M;let⟨c,z,hg⟩:=l1;rwa[N6 c z (((f.one d f1 ∅).1 c z).mpr hg.1)]
   ·rwa[q',11122,bG.of b0,22,k _]
end
theorem all_mk {l:PySem.W.OpenLaw}(hfa:M "law"=some ↑a)
 {b g h j d i n m f:Zs}
 {o k:Zs}
 {f1 f2 f3 f4 f5 f6 f7 f8 f9 IC O X f13 B Nb f16 f17 f18 f19 f20 G f22 J f24 f25 f26 f27 f28 f29 A f31 f32 t r f35 x I f38 Y f40 f41 f42 f43 C f45 f46 S f48 f49 f50 f51 f52 f53 y f55 f56:Zs} {d1 d2 d3 d4 d5 d6 d7 d8 d9 d10 d11 d12 d13 d14 d15 P d17 d18 d19 d20 d21 u d23 H d25 d26 d27 z L d30 d31 p d33 Q d35 N V E d39 d40 d41 d42 d43 d44 U R q d48 W d50 Z d52 d53 d54 d55 D:FuncData}
 (T:Txt K M ⟨f1,d1,f2,d2,f3,d3,f4,d4,f5,d5,f6,d6,f7,d7,f8,d8,f9,d9,IC,d10,O,d11,X,d12,f13,d13,B,d14,Nb,d15,f16,P,f17,d17,f18,d18,f19,d19,f20,d20,G,d21,f22,u,J,d23,f24,H,f25,d25,f26,d26,f27,d27,f28,z,f29,L,A,d30,f31,d31,f32,p,t,d33,r,Q,f35,d35,x,N,I,V,f38,E,Y,d39,f40,d40,f41,d41,f42,d42,f43,d43,C,d44,f45,U,f46,R,S,q,f48,d48,f49,W,f50,d50,f51,Z,f52,d52,f53,d53,y,d54,f55,d55,f56,D,b,g,h,j,d,i,n,m,f,o,k⟩)
 :∃fd:FuncData,(∃fd2 c,LamAt K fd2 c k)/\(∀(s:Zu) (v:Zt),BindsTo s fd ⟨[v],[]⟩ [("_law_script",v)])/\∀base:Heap,K.In base->base.Ns mainGlobals M->ki M base->du l.prog w K M base (cZ l.prog w) 13 a fd ["_law_script"] (zS K k):=by
 let e:=hfa.symm.trans T.law.m;ext e;let⟨kV,doc,pm,an,cu,ct,e⟩:=T.law.fd;rwa[_,⟨11,T.lam⟩,λs v=>[e]▸.of_eq rfl,λbase _ _ F=>UY T F]
theorem walk {l:PySem.W.OpenLaw}{loose:Zp}{XP:(Str->Zl)->Heap->Prop}{i:World->Heap->Prop}{d:DefRec}{K:Params->Za1}(q:l.most\63)(g:d.params.defaults=[])
 (p:∀(w:World) (h:Heap),i w h->(K w.params).In h/\h.get? a\(PySem.W.tabObj #[]))
 (F:∀(w:World) (e:Str->Zl) (j:Zs) (h:Heap),(K w.params).In h->h.Ns mainGlobals e->e d.name\↑j->
  ∃fd:FuncData,(∃fd2 c,LamAt (K w.params) fd2 c a)/\(∀(s:Zu) (u:Zt),BindsTo s fd ⟨[u],[]⟩ [("_law_script",u)])/\∀base:Heap,(K w.params).In base->base.Ns mainGlobals e->ki e base->du l.prog w (K w.params) e base (cZ l.prog w) 13 j fd ["_law_script"] (zS (K w.params) a)):
 PySem.W.WalkO P loose XP i l.row.toRowW d [] (λf v=>PySem.call f v):=
 L2.Kz (n:=63) (k:=13) (x:="_law_script") (CX:=λw=>(cZ l.prog w)) (sp:=λw=>zS (K w.params) a) q ⋯ g ⟨244⟩ p F (λ_ _ b m t o r=>⟨b,m,2,r,t,o,λ_=>rfl⟩) λ_ _ _ _ _ z=>MN z
end K33
end Lake
open PySem PySem.W PyProof.Rows
namespace PySem.W.Fast
universe tw5115527040017777667 tw12961848480124938076 tw2080977879632549200 tw7058826704588174080 tw4920858735672192560 tw5304943167724856669 tw6662921264309130913 tw9331087488203917365 tw10760135231518785121 tw8217186151178656917 tw6175867723725773990 tw7729218599265726716 tw15975466282155608026 tw14106678273163548522 tw3150900227783954438 tw13693244546794758705 tw2577110254843921605 tw8775768714857275505 tw17275907904607109208 tw2059357045555498328 tw1949618598218052776 tw17463302232003931037 tw10737621219270696547 tw4590898577561341553 tw568925968727631246 tw12943634506629164901 tw13846405996448048994 tw11146747614936083305 tw5262811524355315952 tw10981029581303757270 tw8637707173780752764 tw27019946897709420 tw43729239294099073 tw804759690122700313 tw3460716933517993857 tw15257366983337588060 tw18185488393124706188 tw7279301499709916706 tw13901302515297309730 tw14559429892052773785 tw15522485407867765512 tw6702504083361579708 tw4808685236073625271 tw16706918645717406481 tw14886571199360077558 tw15565091677086960450 tw4850204355261465520 tw4672110432437154728 tw1849674459524023439 tw4556028234374737552 tw4394169575114866042 tw14410540583038521397 tw12283529598709390208 tw601878166097636884 tw10676096260068410861 tw7443538525575416946 tw9561694165460300701 tw3126832630876388562 tw4261622342150988327 tw9919482799328318521 tw10760933087855421712 tw4966223692468654950 tw17536133085545363606 tw2572309546187031610 tw11403169887000703968 tw18071662215166997325 tw14588560326486525313 tw10707623744071971428 tw11416056336304063881 tw6081025571951524698 tw7023407600776048086 tw6621447106898030987 tw11230284691574970436 tw7573567829625330430 tw1243521390883460573 tw8184875219463337872 tw14262559238421926712 tw4343454700647809075 tw17139358418199699791 tw8239968583257375134 tw14204056569192402732 tw13218147731134451721 tw8245294085391082961 tw4725721355839472348 tw14109372634066116423 tw11114902683578907222 tw1144852573369403485 tw9335835264977779135 tw3294278630746272493 tw11176295007664604380 tw6099901488918481057 tw3777479806851903555 tw9567412457470121561 tw8147928992614519563 tw13766372323780679135 tw3453518058243724174 tw1996993759097648450 tw10653111803684083198 tw7785703175700716277 tw13523591888928361629 tw1524386540386699869 tw1083149958394402621 tw4510193732731922098 tw1826698198022287183 tw7755257692591120199 tw279644285986280921 tw6642373189877259688 tw7247178256599024612 tw13693162722750286955 tw11649483539896912088 tw15662107520321334329 tw18387191247843787025 tw5345391134821073325 tw11975855695636867762 tw16401872328986767545 tw8167319596036293236 tw50075732837146093 tw7776781229876251665 tw12794472612864183608 tw13739361373932484768 tw15801880096959436122 tw14948401463770062472 tw5756388670530817532 tw13683224234290335487 tw2740757508143686743 tw579617458805397047 tw201576461679711982 tw17138351706295042505 tw16399156764581416080 tw11571869768748231984 tw2264258713073022819 tw3728772434458828456 tw10886259201373442106 tw4594383189797602701 tw13136868171250745718 tw5622870104903256931 tw15065580397450688833 tw2710784942194268707 tw7272292347499742674 tw1657531283132681326 tw14921047268804096580 tw3140012152516885193 tw3195258899748817250 tw881656710176829566 tw9283816832207691465 tw6278015990667210126 tw626491551967290717 tw139396202786546600 tw2969001755186455212 tw9885479249256423761 tw930194100420070040 tw15233587643110191102 tw1084395911391928564 tw13614771184001787139 tw4614014473769952103 tw9196389182984809004 tw14863047794110433975 tw3693502362306842241 tw18129316562183223332 tw5670202973638292754 tw246458736594763432 tw4867324025512828411 tw12018224298422219907 tw3081793792612116849 tw3876423965969973190 tw1398073761135228969 tw3229081228462269571 tw1636189816903259944 tw13397946401818250915 tw15492650278958413929 tw14024243535971961647 tw9472655042626793455 tw14013868742063861380 tw11166685206035767126 tw13003627676433245745 tw17212498002105355219 tw7539129825798503305 tw3216285381774606651 tw9729268942417217680 tw8941382456774803708 tw4049314796314951378 tw5978937497603480891 tw5916554591952160305 tw13966032649475106132 tw13885073732585758579 tw10182747646636326280 tw13499485997476386375 tw11482167967206746470 tw3839238896751676841 tw7171647783933548889 tw1448523532256832102 tw6683851268126377398 tw3600411718677247630 tw7612858393579558589 tw10285503342634858143 tw7502620330807629703 tw4599546664001664081 tw8155472132368395654 tw6562160750614975244 tw6376193241217948226 tw16111049925258141213 tw15824795292600558329 tw1036379664179034100 tw2600545476292330780 tw1656521216607871601 tw8736952406930969273 tw7067343069033429432 tw12479458198181707808 tw957675749226331806 tw3245758967324206871 tw13730487850812173910 tw5573638430733309546 tw3776811464515976830 tw9407312792601355817 tw5798416778746893677 tw4735091801574869988 tw25839429457422001 tw18090826592626373850 tw15428968544266346314 tw14701164657034599591 tw12133349462281900148 tw821392370762337233 tw8613459846747814449 tw4370850719579394244 tw2664017174614962572 tw1190290446989158724 tw11384806803740189632 tw8421966440716446072 tw18096964122257035222 tw9906187388433000865 tw7968286628789301920 tw7784599662449236598 tw14419478149183823614 tw1220216871331383998 tw10067713517261413207 tw9740763397348712016 tw9514081785428141533 tw4446319955058607540 tw3706192649404004316 tw3054813282551627970 tw16108991419494707490 tw13512484401128771543 tw2563305773715299862 tw1339804434306405886 tw11926068166021101200 tw10101963229036387366 tw16136734492856853052 tw15887978517631672227 tw554434114257479179 tw3654361835324544916 tw12792406110207937742 tw12601563810809722591 tw7733854889443882004 tw5156867880103902469 tw4471789032118907239 tw1734929700022773240 tw16050501342460809693 tw7922757462439560728 tw10436090493221736433 tw4988418335718693698 tw1901893919953960967 tw1769600207001902438 tw9902450299367015237 tw9719772247481436686 tw895597881616447685 tw5641987402986720268 tw2158628048969019386 tw17074380331457275197 tw16786290514383976477 tw16352266011413888186 tw15949861394496962002 tw14776896014171371568 tw14665749770469470546 tw10590832277169533463 tw385175481081421685 tw1161174572975442711 tw7894852119811468539 tw6170558062274794577 tw5159935329913852044 tw3253271498888252614 tw3137659621693236350 tw2159448148270797473 tw16779666869327370768 tw14751999527077278627 tw14468239493604631795 tw14449270311449278107 tw1443102930904672728 tw14305785278434605882 tw13102024125633304041 tw13029181866454968370 tw9262543454616448016 tw17658683095400013698 tw3676281663924379626 tw5341322547926679723 tw3457570830032490894 tw16905422409501339055 tw16866858159935596154 tw9683199308148372940 tw7480080446055928336 tw4065586342556186739
end PySem.W.Fast
end
open Lake
set_option maxRecDepth 100000 in
set_option maxHeartbeats 0 in
theorem PySem.Challenge.cw_cosetyard_k33_whole_table_stands_holds : PySem.Challenge.rw_cosetyard_k33_whole_table_stands.Holds := by
  w_on; o_law; k_head;(case hw => w_witness2)
  k_fill
  refine K33.walk (l := PySem.Challenge.rw_cosetyard_k33_whole_table_stands) rfl rfl (fun w h Y => ⟨PySem.W.km_in_of Y, PySem.W.km_tabs_of Y _ (List.Mem.head _)⟩) ?F
  case F =>
    intro w mg fa h KX G hmg
    refine' K33.all_mk hmg ⟨?D1,?D2,?D3,?D4,?D5,?D6,?D7,?D8,?D9,?D10,?D11,?D12,?D13,?D14,?D15,?D16,?D17,?D18,?D19,?D20,?D21,?D22,?D23,?D24,?D25,?D26,?D27,?D28,?D29,?D30,?D31,?D32,?D33,?D34,?D35,?D36,?D37,?D38,?D39,?D40,?D41,?D42,?D43,?D44,?D45,?D46,?D47,?D48,?D49,?D50,?D51,?D52,?D53,?D54,?D55,?D56,?z1,?z2,?z3,?z4,?z5,?z6,?z7,?z8,?z9,?z10,?z11,?z12,?z13,?y_YardError,?y_NoOrder,?y_TooMany,?y_Order,?y_ByLetters,?y_Newest,?y_Rooms,?y_Going,?y_Closing,_,_,_,_,_,_,_,_,_,_,_,_,_,_,_,_,_,_,_,_,_,_,_,_,_,_,_,_,_,_,_,_,_,_,_,_,_,_,_,_,_,_,_,_,_,_,_,_,_,_,_,_,_,_,_,_,_,_,_,_,_,_,_,_,_,_,_,_,_,_,_,_,_,_,_,_,_,_,_,_,_,?w_lam⟩
    all_goals try dsimp only
    (case y_YardError|y_NoOrder|y_TooMany|y_Order|y_ByLetters|y_Newest|y_Rooms|y_Going|y_Closing => refine' PySem.W.mg_of KX G ?a;(case a => k_is))
    (case D1|D14|D15|D16|D19|D25 => refine' L2.Def.of KX G ?_ ?_ ?_ ?_ (fun _ _ _ _ _ _ _ hl => by obtain ⟨_, _, _, rfl⟩ := L2.args_is3 hl; rfl);all_goals try k_is)
    (case D2|D3|D4|D5|D6|D8|D9|D12|D20|D21|D23|D26 => refine' L2.Def.of KX G ?_ ?_ ?_ ?_ (fun _ _ _ _ _ _ _ hl => by obtain ⟨_, rfl⟩ := L2.args_is1 hl; rfl);all_goals try k_is)
    (case D7|D11|D13|D24 => refine' L2.Def.of KX G ?_ ?_ ?_ ?_ (fun _ _ _ _ _ _ _ hl => by obtain ⟨_, _, rfl⟩ := L2.args_is2 hl; rfl);all_goals try k_is)
    (case D10 => refine' L2.DDef.of KX G ?_ ?_ ?_ ?_ ?_ (fun _ _ _ _ _ _ _ hl => by obtain ⟨_, _, _, _, _, rfl⟩ := L2.args_is5 hl; exact ⟨_, rfl, rfl⟩) (fun _ _ _ _ _ _ _ hl => by obtain ⟨_, _, _, _, rfl⟩ := L2.args_is4 (Nat.succ.inj hl); exact ⟨_, rfl, rfl⟩);all_goals try k_is)
    (case D17|D18 => refine' L2.Def.of KX G ?_ ?_ ?_ ?_ (fun _ _ _ _ _ _ _ hl => by obtain ⟨_, _, _, _, rfl⟩ := L2.args_is4 hl; rfl);all_goals try k_is)
    (case D22 => refine' L2.Def.of KX G ?_ ?_ ?_ ?_ (fun _ _ _ _ _ _ _ hl => by obtain ⟨_, _, _, _, _, rfl⟩ := L2.args_is5 hl; rfl);all_goals try k_is)
    (case D27|D30|D32|D36|D53 => refine' L2.MDef.of ?_ ?_ ?_ ?_ ?_ (fun _ _ _ _ _ _ _ hl => by obtain ⟨_, _, _, _, rfl⟩ := L2.args_is4 hl; rfl);all_goals try k_is)
    (case D28|D29|D31|D35|D37|D40|D42|D43|D44|D45|D49|D52 => refine' L2.MDef.of ?_ ?_ ?_ ?_ ?_ (fun _ _ _ _ _ _ _ hl => by obtain ⟨_, _, rfl⟩ := L2.args_is2 hl; rfl);all_goals try k_is)
    (case D33|D39|D50|D51 => refine' L2.MDef.of ?_ ?_ ?_ ?_ ?_ (fun _ _ _ _ _ _ _ hl => by obtain ⟨_, rfl⟩ := L2.args_is1 hl; rfl);all_goals try k_is)
    (case D34|D38|D41|D46|D48|D54|D56 => refine' L2.MDef.of ?_ ?_ ?_ ?_ ?_ (fun _ _ _ _ _ _ _ hl => by obtain ⟨_, _, _, rfl⟩ := L2.args_is3 hl; rfl);all_goals try k_is)
    (case D47 => refine' L2.MDef.of ?_ ?_ ?_ ?_ ?_ (fun _ _ _ _ _ _ _ hl => by obtain ⟨_, _, _, _, _, rfl⟩ := L2.args_is5 hl; rfl);all_goals try k_is)
    (case D55 => refine' L2.MDef.of ?_ ?_ ?_ ?_ ?_ (fun _ _ _ _ _ _ _ hl => by obtain ⟨_, _, _, _, _, _, rfl⟩ := L2.args_is6 hl; rfl);all_goals try k_is)
    (case z1|z2|z3|z4|z5|z6|z7|z8|z9|z10|z11|z12|z13 => refine' PySem.W.mg_none_of KX G ?a;(case a => k_is))
    (case w_lam => refine' L2.LamAt.mk ?e ?h ?n;(case e => rfl);(case h => kernel_rfl);(case n => kernel_rfl))
    all_goals first|k_is|kit_is|kts_exm|kernel_rfl
