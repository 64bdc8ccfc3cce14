import PyProof.Rows.All
import Wide.All
import OpenK.AllK
import Wide.FinOn
import Lean
import PyProof.EqAt
import PyProof.EqKinds
import PyProof.TupleCall
import PyProof.FString
import OpenK.KOwn
import KE.KTryMore
import PyProof.NsDelKeeps
import PyProof.StrBlock2
import PyProof.AutoListH
import KE.KIntText
import PyProof.Rows.StrIntSpec
import KE.KRevIter
import PyProof.StrWalks
import PyProof.CompUse
import PyProof.NeKinds
import PyProof.Rows.Range3
import PyProof.Rows.EnumRows
import PyProof.ConsumeWalk
import PyProof.Rows.SeqGen
import PyProof.StrLawsRepr
import PyProof.ZipIter
import PyProof.Rows.FactsT2
import PyProof.EnumMake
import PyProof.DictWalks
import PyProof.DictTruth
import PyProof.ListRange
import PyProof.ListStr
import PyProof.TupleOfGen
import PyProof.TupleOfSeq
import PyProof.MinMaxWalk
import PyProof.WalkInts
import KE.KSortAsk
import PyProof.MeetsSeq3
import KE.KRevSl
import PyProof.Rows.SeqMore
import PyProof.ListMulRoad
import PyProof.Rows.SumAny
import PyProof.SeqI3
import PyProof.AttrMissSeq
import KE.KDictOf
import PyProof.Rows.StrCut
import PyProof.Rows.StrSplitCount
import PyProof.DictItems
import PyProof.Rows.SortWalk
import PySem.Challenge.RW_cosetyard_k40_whole_orders_meet
set_option Elab.async false
set_option linter.all false
set_option maxRecDepth 100000
set_option compiler.extract_closed false
set_option compiler.small 0
set_option genSizeOfSpec false
set_option maxHeartbeats 4000000
noncomputable section
local macro_rules|`(tactic|decide)=>`(tactic|decide +kernel)
local macro_rules|`(tactic|ac_rfl)=>`(tactic|exact⟨rfl,rfl,rfl,by decide,rfl,by decide,by decide⟩)
local macro_rules|`(⟨$x,*⟩)=>do
  let mut r:Array Lean.Term:=#[]
  let mut b:=false
  for e in x.getElems do
    match e.raw.isNatLit? with
    |some n=>
      b:=true
      for c in (toString n).toList do r:=r.push (←if c='1'then`(_)else if c='2'then`(rfl)else if c='3'then`(by omega)else if c='4'then`(by decide)else`(?_))
    |_=>r:=r.push e
  if b then`(⟨$r,*⟩)else Lean.Macro.throwUnsupported
local macro_rules|`(tactic|erw[$r,*])=>do let a:=r.getElems.map λe=>(⟨e.raw[1]⟩:Lean.Term);`(tactic|refine⟨$a,*, ?_⟩)
local macro_rules|`(tactic|rwa[$r,*])=>do let a:=r.getElems.map λe=>(⟨e.raw[1]⟩:Lean.Term);if a.size=1&&(a[0]!).raw.isNatLit?.isNone then`(tactic|refine $(a[0]!))else`(tactic|exact⟨$a,*⟩)
local macro_rules|`([$x,*]▸$e)=>do let a←x.getElems.mapM λt=>do match(⟨t⟩:Lean.Term)with|`(-$s)=>`(Lean.Parser.Tactic.rwRule|←$s:term)|s=>`(Lean.Parser.Tactic.rwRule|$s:term)
                                   `(by rw[$a,*];exact $e)
def CVP:Nat→Lean.Term→Lean.MacroM (Lean.TSyntax `rcasesPat)
|0,_=>Lean.Macro.throwUnsupported
|n+1,t=>do match t with
  |`(⟨$x,*⟩)=>let a←x.getElems.mapM λt=>do`(Lean.Parser.Tactic.rcasesPatLo|$(←CVP n t):rcasesPat)
              `(rcasesPat|⟨$a,*⟩)
  |`($i:ident)=>`(rcasesPat|$i:ident)
  |`(_)=>`(rcasesPat|_)
  |_=>Lean.Macro.throwUnsupported
local macro_rules|`(tactic|let $p:term:=$e)=>do match p with|`(⟨$_,*⟩)=>`(tactic|obtain $(←CVP 9 p):rcasesPat:=$e)|_=>Lean.Macro.throwUnsupported
local macro_rules|`(∅)=>`(by omega)
local macro_rules|`(⋯)=>`(by decide)
local macro_rules|`(tactic|omega)=>`(tactic|lia)
local macro_rules|`($a\$b)=>`($a=some $b)
local macro_rules|`($a^$b)=>match b.raw.isNatLit? with|some _=>Lean.Macro.throwUnsupported|_=>`($a _ _ $b)
local macro_rules|`(↥$s)=>`(($s).heap.objs.size)
local macro_rules|`(#v[$x,*])=>do let a←x.getElems.mapM λe=>do if e.raw.isOfKind `coeNotation||e.raw.isOfKind ``Lean.Parser.Term.dotIdent||e.raw[0].isOfKind ``Lean.Parser.Term.dotIdent then`(some $e)else pure e
                                  `([$a,*])
local macro_rules|`(s!"")=>`(by intro _ z;cases z)
local macro_rules|`(f!"")=>`(by intro z;cases z)
local macro_rules|`($s<*$h)=>`({ $s with heap:=$h })
local macro_rules|`(⇑$s)=>`(($s).length)
local macro_rules|`(↑$s)=>`(.ref $s)
local macro_rules|`(tactic|let $x:ident$[:$t]?:=$e)=>`(tactic|have $x$[:$t]?:=$e)
local macro_rules|`(tactic|trivial)=>`(tactic|first|exact Or.inl rfl|exact Or.inr rfl|exact Or.inr (.inl rfl)|exact Or.inr (.inr rfl)|assumption)
local macro_rules|`(tactic|cbv)=>`(tactic|grind -abstractProof)
local macro_rules|`(tactic|ext $p*)=>match p with|#[]=>`(tactic|omega)|_=>let i:Lean.Ident:=⟨p[0]!.raw[0][0]⟩;`(tactic|cases $i:ident)
local macro_rules|`($a:str>>>$b)=>`({ cls:=.type $a,data:=$b })
local macro_rules|`($x⁻¹)=>`(PySem.wpAny (PySem.model ($x).prog ($x).w))
local macro_rules|`($x<|>$y)=>`(PySem.wpAny (PySem.model $x $y))
local macro_rules|`(universe $x*)=>do return Lean.mkNullNode (←x.mapM λi=>do return(←`(command|def $i:ident:=Nat)).raw)
abbrev Zg:=List Int
abbrev Zh:=List Nat
abbrev Zi:=Option Nat
abbrev Zj:=Option Int
abbrev Zk:=List PySem.Value
abbrev Zl:=Option PySem.Value
abbrev Zm:=Array PySem.Value
abbrev Zn:=List PySem.Addr
abbrev Zo:=Option PySem.Addr
abbrev Zp:=List PySem.Str
abbrev Zq:=List PySem.Env
abbrev Zr:=List PySem.Expr
abbrev Zs:=PySem.Addr
abbrev Zt:=PySem.Value
abbrev Zu:=PySem.Shared
abbrev Za0:=@Option.some.inj
abbrev Za1:=PySem.W.Frag
abbrev Za2:=Nat->Int->Nat->Prop
abbrev Za3:=List Zg
def Za4 (n:Nat)(h:n<=PySem.sizeLine:=by decide):n<=PySem.sizeLine:=h
abbrev ags:=@PySem.wpAny_bind
abbrev agt:=@PySem.Heap.get?_push_of_some
abbrev agu:=@List.mem_of_getElem?
abbrev agv:=@List.getElem?_eq_getElem
abbrev agw:=@List.length_append
abbrev agx:=@List.getElem?_eq_some_iff
abbrev agy:=@List.length_map
abbrev agz:=@PySem.wpAny_pure
abbrev agA:=@Nat.le_refl
abbrev agB:=@List.mem_append_right
abbrev agC:=@List.mem_singleton
abbrev agD:=@List.getD_eq_getElem?_getD
abbrev agE:=@Nat.lt_of_le_of_lt
abbrev agF:=@List.getElem?_append_left
abbrev agG:=@PySem.F.plainAttrs_list
abbrev agH:=@List.mem_append
abbrev agI:=@List.getElem?_append_right
abbrev agJ:=@Nat.le_trans
abbrev agK:=@PySem.Heap.get?_push_size
abbrev agL:=@List.size_toArray
abbrev agM:=@List.mem_cons_self
abbrev agN:=@List.mem_cons
abbrev agO:=@PySem.F.slot_list_append
abbrev agP:=@PySem.F.type_list_append
abbrev agQ:=@PySem.Heap.lt_size
abbrev agR:=@List.getElem?_map
abbrev agS:=@beq_eq_false_iff_ne
abbrev agT:=@if_neg
abbrev agU:=@List.mem_append_left
abbrev agV:=@List.length_cons
abbrev agW:=@Nat.zero_le
abbrev agX:=@if_pos
abbrev agY:=@Nat.lt_of_lt_of_le
abbrev agZ:=@List.length_set
abbrev ag0:=@PySem.PassesOwn.never
abbrev ag2:=@Nat.ne_of_lt
abbrev ag3:=@List.mem_cons_of_mem
abbrev ag4:=@Int.toNat_natCast
abbrev ag6:=@List.map_append
abbrev ag8:=@List.length_take
abbrev ag9:=@List.append_nil
abbrev aha:=@decide_eq_true
abbrev ahb:=@List.nodup_cons
abbrev ahc:=@List.getElem?_of_mem
abbrev ahd:=@List.getElem?_eq_none
abbrev ahe:=@List.map_map
abbrev ahf:=@PyProof.Rows.slot_tuple_getitem
abbrev ahg:=@PySem.wpAny_newObj_type
abbrev ahh:=@PySem.Heap.get?_update_self
abbrev ahi:=@of_decide_eq_true
abbrev ahj:=@PySem.Heap.get?_update_other
abbrev ahk:=@List.length_reverse
abbrev ahl:=@List.not_mem_nil
abbrev ahm:=@Bool.false_ne_true
abbrev ahn:=@decide_eq_true_iff
abbrev aho:=@List.length_drop
abbrev ahp:=@List.mem_map
abbrev ahq:=@List.append_assoc
abbrev ahr:=@List.mem_range
abbrev ahs:=@List.getElem?_set_self
abbrev aht:=@List.map_congr_left
abbrev ahu:=@decide_eq_false
abbrev ahv:=@PySem.wpAny_field
abbrev ahw:=@PySem.wpAny_callSpecial?_slot
abbrev ahx:=@PySem.boot_len
abbrev ahy:=@PySem.Calls.spliced_cons
abbrev ahz:=@PyProof.Rows.callWith_type1
abbrev ahA:=@PySem.wpAny_mono
abbrev ahB:=@PySem.wpAny_call_entry
abbrev ahC:=@List.eq_nil_of_length_eq_zero
abbrev ahD:=@List.nodup_append
abbrev ahE:=@PySem.Calls.callWith_builtin
abbrev ahF:=@PySem.wpAny_holding
abbrev ahG:=@List.length_range
abbrev ahH:=@PySem.wpAny_Call_Name_kw
abbrev ahI:=@List.length_singleton
abbrev ahJ:=@List.take_append_drop
abbrev ahK:=@List.map_cons
abbrev ahL:=@Nat.ne_of_gt
abbrev ahM:=@Option.map_eq_some_iff
abbrev ahN:=@Nat.lt_irrefl
abbrev ahO:=@PySem.wpAny_setField_rec
abbrev ahP:=@PyProof.Rows.boot_isinstance
abbrev ahQ:=@Ne.symm
abbrev ahR:=@Bool.eq_iff_iff
abbrev ahS:=@Nat.lt_succ_self
abbrev ahT:=@congrArg
abbrev ahU:=@PySem.F.plainAttrs_dict
abbrev ahV:=@List.getElem?_set_ne
abbrev ahW:=@Int.emod_lt_of_pos
abbrev ahX:=@PyProof.Rows.boot_list
abbrev ahY:=@PySem.W.kia_one
abbrev ahZ:=@List.length_nil
abbrev ah0:=@Bool.and_eq_true
abbrev ah1:=@PySem.F.slot_dict_itemiterator_next
abbrev ah2:=@PySem.mem_of_lookup
abbrev ah3:=@PySem.Heap.SameBut.update
abbrev ah4:=@PySem.Calls.spliced_nil
abbrev ah5:=@Nat.lt_succ_of_lt
abbrev ah6:=@PySem.F.slot_dict_keyiterator_next
abbrev ah7:=@Int.emod_nonneg
abbrev ah8:=@PySem.Obj.data_mapFields
abbrev ah9:=@List.range_succ
abbrev aia:=@PySem.Calls.evalArgs_plain
abbrev aib:=@List.take_length
abbrev aic:=@List.mem_flatMap
abbrev aid:=@Array.getElem?_eq_some_iff
abbrev aie:=@Array.length_toList
abbrev aif:=@List.ext_getElem?
abbrev aih:=@List.pairwise_map
abbrev aii:=@PySem.Heap.size_push
abbrev aij:=@List.nodup_nil
abbrev aik:=@List.mem_filter
abbrev ail:=@PySem.F.slot_dict_get
abbrev aim:=@Nat.lt_or_ge
abbrev ain:=@Nat.sub_self
abbrev aio:=@PySem.wpAny_typeNameOfWhole_itemiter
abbrev aip:=@List.cons_append
abbrev aiq:=@PySem.wpAny_typeNameOfWhole_keyiter
abbrev air:=@Int.neg_neg
abbrev ais:=@List.mem_iff_getElem
abbrev ait:=@PySem.codeAny_call_builtin
abbrev aiu:=@List.dropLast_concat_getLast
abbrev aiv:=@PySem.F.slot_dict_setdefault
abbrev aiw:=@PyProof.Rows.boot_tuple
abbrev aix:=@List.take_succ
abbrev aiy:=@PySem.wpAny_truthy_bool
abbrev aiz:=@PySem.wpAny_dictEntries
abbrev aiA:=@List.mem_map_of_mem
abbrev aiB:=@List.filter_sublist
abbrev aiC:=@Nat.min_eq_left
abbrev aiD:=@List.take_of_length_le
abbrev aiE:=@PySem.F.slot_tuple_iterator_next
abbrev aiF:=@PySem.F.excBase_ValueError
abbrev aiG:=@List.lookup_cons
abbrev aiH:=@List.mem_reverse
abbrev aiI:=@PySem.wpAny_typeOf
abbrev aiJ:=@List.length_filter_le
abbrev aiK:=@PySem.tupleKind_room_in1
abbrev aiL:=@PySem.Obj.isFreed_of_fields
abbrev aiM:=@or_false
abbrev aiN:=@Nat.le_succ
abbrev aiO:=@PySem.wpAny_setField
abbrev aiP:=@List.mem_or_eq_of_mem_set
abbrev aiQ:=@PySem.wpAny_typeNameOf_itemiter
abbrev aiR:=@Nat.mul_le_mul_right
abbrev aiS:=@PySem.wpAny_execs_nil
abbrev aiT:=@PySem.wpAny_passesOwn
abbrev aiU:=@PySem.wpAny_pyIter_list
abbrev aiV:=@PySem.wpAny_Call_method
abbrev aiW:=@PySem.wpAny_loadPart'
abbrev aiX:=@PySem.wpAny_typeNameOf_keyiter
abbrev aiY:=@PySem.wpAny_updateSeq
abbrev aiZ:=@List.foldl_append
abbrev ai0:=@not_false_eq_true
abbrev ai1:=@List.length_erase_of_mem
abbrev ai2:=@PySem.codeAny_mono
abbrev ai3:=@PySem.call_meetsIn
abbrev ai4:=@List.replicate_succ
abbrev ai5:=@List.getElem?_range
abbrev ai6:=@PySem.plainId_quiet
abbrev ai7:=@PySem.F.plain_min_loop
abbrev ai8:=@PySem.wpAny_seqItems
abbrev ai9:=@Nat.mul_le_mul
abbrev aja:=@PySem.F.entry_dict_get
abbrev ajb:=@List.find?_cons_of_neg
abbrev ajc:=@PySem.W.callWith_K
abbrev ajd:=@Bool.false_eq_true
abbrev aje:=@Array.getElem?_toList
abbrev ajf:=@List.nil_append
abbrev ajg:=@List.find?_cons
abbrev ajh:=@PySem.F.slot_dict_pop
abbrev aji:=@PySem.F.slot_enumerate_next
abbrev ajj:=@PySem.F.slot_enumerate_iter
abbrev ajk:=@PySem.wpAny_notOrdered_dict
abbrev ajl:=@PySem.wpAny_dictEpoch
abbrev ajm:=@PySem.wpAny_standAt
abbrev ajn:=@PySem.wpAny_call
abbrev ajo:=@if_false
abbrev ajp:=@List.reverse_cons
abbrev ajq:=@Decidable.not_not
abbrev ajr:=@PySem.wpAny_loadPart_at
abbrev ajs:=@PySem.SeqAt.RcNeAt.lists_lengths
abbrev ajt:=@PySem.Around.under_plainId
abbrev aju:=@List.drop_eq_getElem_cons
abbrev ajv:=@Classical.byContradiction
abbrev ajw:=@Nat.min_eq_right
abbrev ajx:=@List.map_reverse
abbrev ajy:=@PySem.W.hideAll_get
abbrev ajz:=@List.filterMap_cons
abbrev ajA:=@List.flatMap_append
abbrev ajB:=@Nat.le_of_lt
abbrev ajC:=@beq_iff_eq
abbrev ajD:=@Nat.le_of_eq
abbrev ajE:=@Option.isSome_iff_exists
abbrev ajF:=@List.getElem?_take_of_lt
abbrev ajG:=@PySem.F.args_tuple_add_2
abbrev ajH:=@PySem.call_meets
abbrev ajI:=@Nat.lt_trans
abbrev ajJ:=@Nat.le_total
abbrev ajK:=@List.Pairwise.imp_of_mem
abbrev ajL:=@List.mem_filterMap
abbrev ajM:=@PySem.F.entry_tuple_add
abbrev ajN:=@Bool.or_eq_true
abbrev ajO:=@List.map_take
abbrev ajP:=@PySem.codeAny_builtin
abbrev ajQ:=@PySem.wpAny_ite_split
abbrev ajR:=@Nat.max_eq_left
abbrev ajS:=@List.filter_cons_of_pos
abbrev ajT:=@List.getElem?_drop
abbrev ajU:=@PySem.W.cellsFrom_some
abbrev ajV:=@PySem.F.slot_tuple_add
abbrev ajW:=@Array.getElem?_eq_none
abbrev ajX:=@Option.map_eq_none_iff
abbrev ajY:=@List.pairwise_lt_range
abbrev ajZ:=@PyProof.Rows.boot_dict
abbrev aj0:=@if_true
abbrev aj1:=@List.flatten_cons
abbrev aj2:=@PySem.wpAny_rule
abbrev aj3:=@PySem.wpAny_letGo
abbrev aj4:=@List.filter_congr
abbrev aj5:=@Nat.add_mul
abbrev aj6:=@Nat.lt_of_succ_lt
abbrev aj7:=@PySem.wpAny_tryCatch
abbrev aj8:=@Nat.max_eq_right
abbrev aj9:=@List.nodup_range
abbrev aka:=@List.map_drop
namespace Lake
namespace L2
open PySem PySem.Spec PyProof.Rows
abbrev Key:=Sum Int Str
abbrev Zd:=List Key
def sF:Key->Zt->Bool
 |.inl k,v=>Value.isInt k v
 |.inr x,v=>Value.isStrOf x v
def Yl (w:World):Key->Int
 |.inl k=>hashInt k
 |.inr x=>hashStr w x
theorem dW:∀{k:Key} {v:Zt},sF k v=true->(∃i t,k=Sum.inl i/\v=Value.int i t)\/(∃x t,k=Sum.inr x/\v=Value.str x t)
 |.inl i,v,h=>by
  let⟨t,e⟩:=Value.isInt_shape (k:=i) (v:=v) h;rwa[.inl ⟨i,t,2,e⟩]
 |.inr x,v,h=>by
  let⟨t,e⟩:=Value.isStrOf_shape (x:=x) (v:=v) h;rwa[.inr ⟨x,t,2,e⟩]
def Gk (i:Int)(t:Tok):sF (.inl i) (.int i t)=true:=by simp[sF,Value.isInt]
def Gm (x:Str)(t:Tok):sF (.inr x) (.str x t)=true:=by simp[sF,Value.isStrOf]
def PN (a b:Int):decide ((Sum.inl a:Key)=Sum.inl b)=(a==b):=by
 cbv
def PQ (a b:Str):decide ((Sum.inr a:Key)=Sum.inr b)=decide (a=b):=by
 cbv
def PR (a:Int)(b:Str):decide ((Sum.inl a:Key)=Sum.inr b)=false:=ahu (λq=>nomatch q)
def PV (a:Str)(b:Int):decide ((Sum.inr a:Key)=Sum.inl b)=false:=ahu (λq=>nomatch q)
def bQ (c:Program)(w:World):PySem.KeyKind c w Key where
 is:=sF
 hash:=Yl w
 inj:=λv a b g f=>by
  rcases dW g with ⟨i,t,rfl,rfl⟩|⟨x,t,rfl,rfl⟩
  ·rcases dW f with ⟨j,u,rfl,e⟩|⟨y,u,rfl,e⟩
   ·cbv
   cbv
  ·rcases dW f with ⟨j,u,rfl,e⟩|⟨y,u,rfl,e⟩
   ·rwa[nomatch e]
   cbv
 byValue:=λk v h=>by
  rcases dW h with ⟨i,t,rfl,rfl⟩|⟨x,t,rfl,rfl⟩ <;> rfl
 pyHash:=λd h=>by
  rcases dW d with ⟨i,t,rfl,rfl⟩|⟨x,t,rfl,rfl⟩
  ·rwa[wpAny_pyHash_int h]
  ·rwa[wpAny_pyHash_str h]
 eqBool:=λm d h=>by
  rcases dW m with ⟨i,t,rfl,rfl⟩|⟨x,t,rfl,rfl⟩
  ·rcases dW d with ⟨j,u,rfl,rfl⟩|⟨y,u,rfl,rfl⟩
   ·rw[PN]at h;rwa[wpAny_eqBool_int h]
   ·rw[PR]at h;rwa[SeqAt.EqAt.int_str i t y u _ _ _ _ h]
  ·rcases dW d with ⟨j,u,rfl,rfl⟩|⟨y,u,rfl,rfl⟩
   ·rw[PV]at h;rwa[SeqAt.EqAt.str_int x t j u _ _ _ _ h]
   ·rw[PQ]at h;rwa[wpAny_eqBool_str h]
 «strs»:=λk x t v h=>by
  rcases dW h with ⟨i,u,rfl,e⟩|⟨y,u,rfl,e⟩
  ·rwa[nomatch e]
  ·injection e with l _
   subst l;cases v <;> rfl
def CK (a:Program)(w:World)(i:Int)(t:Tok):(bQ a w).is (.inl i) (.int i t)=true:=Gk i t
def CL (a:Program)(w:World)(x:Str)(t:Tok):(bQ a w).is (.inr x) (.str x t)=true:=Gm x t
end L2
variable {n m i j:Nat}{a b c d:PySem.Addr}{z y:Int}{v u:PySem.Value}{x f:PySem.Str}{e:PySem.Expr}{p:PySem.Pos}{K:Za1}{Q E:PySem.Value->PySem.Shared->Prop}{s t:PySem.Shared}{P:PySem.Program}{w:PySem.World}{h g:PySem.Heap}{R:Za2}{A:PySem.Around}{o:List (PySem.Addr×PySem.Obj)}{M:PySem.Str->Option PySem.Value}{l:Zg}{N:List PySem.Value}{B:Zh}{W:Za3}{U:Unit->PySem.Shared->Prop}{C:List PySem.Expr}{F:List PySem.Addr}{Z:List PySem.Str}
namespace L2
open PySem PySem.Spec PyProof.Rows
inductive V where
 |non|bl (b:Bool)|int (i:Int)|str (x:Str)|nj (b:Array UInt8)|zR (b:UInt64)|ref (a:Zs)|ty (n:String)
 deriving DecidableEq
abbrev Zc:=Option V
abbrev Zb:=List V
def RelV:V->Zt->Prop
 |.non,u=>u=Value.none
 |.bl b,u=>u=Value.bool b
 |.int i,u=>∃t,u=Value.int i t
 |.str x,u=>∃t,u=Value.str x t
 |.nj b,u=>∃t,u=Value.bytes b t
 |.zR b,u=>∃t,u=Value.float b t
 |.ref a,u=>u=Value.ref a
 |.ty n,u=>u=Value.type n
abbrev Vals:Zb->Zk->Prop:=Paired RelV
def Vals.length {xs:Zb}{us:Zk}(r:Vals xs us):⇑xs=⇑us:=Paired.length r
theorem Vals.get:∀{b:Zb} {a:Zk} {i:Nat} {x:V},Vals b a->b[i]?\x->∃u,a[i]?\u/\RelV x u
 |_,_,_,_,.nil,e=>by simp at e
 |_,_,0,_,.cons r _,e=>by simp at e;subst e;rwa[12,r]
 |_,_,i+ 1,x,.cons _ t,e=>by
  let⟨u,d,c⟩:=Vals.get (i:=i) (x:=x) t (by simpa using e);rwa[u,by simpa using d,c]
theorem Vals.set {x:V}(r:RelV x u):∀{xs:Zb} {us:Zk} (i:Nat),Vals xs us->Vals (xs.set i x) (us.set i u)
 |_,_,_,.nil=>.nil
 |_,_,0,.cons _ t=>.cons r t
 |_,_,i+ 1,.cons q t=>.cons q (Vals.set r i t)
theorem Vals.append:∀{a ys:Zb} {b ws:Zk},Vals a b->Vals ys ws->Vals (a++ys) (b++ws)
 |_,_,_,_,.nil,s=>s
 |_,_,_,_,.cons r t,s=>.cons r (Vals.append t s)
theorem Vals.take:∀{xs:Zb} {us:Zk} (n:Nat),Vals xs us->Vals (xs.take n) (us.take n)
 |_,_,0,_=>.nil
 |_,_,_+ 1,.nil=>.nil
 |_,_,n+ 1,.cons r t=>.cons r (Vals.take n t)
theorem Vals.drop:∀{xs:Zb} {us:Zk} (n:Nat),Vals xs us->Vals (xs.drop n) (us.drop n)
 |_,_,0,r=>r
 |_,_,_+ 1,.nil=>.nil
 |_,_,n+ 1,.cons _ t=>Vals.drop n t
def eR:Zc->Zl->Prop
 |some v,some u=>RelV v u
 |none,none=>True
 |_,_=>False
def KV {a:Type}:List (a×V)->List (a×Zt)->Prop:=Paired λ(p:a×V) (q:a×Zt)=>p.1=q.1/\RelV p.2 q.2
noncomputable def kV:Key->V
 |.inl i=>.int i
 |.inr x=>.str x
inductive HO where
 /-- a list -/
 |lst (xs:Zb)
 /-- a tuple (never changes) -/
 |tup (xs:Zb)
 /-- a dict whose keys are ints and texts;one whose keys are tuples of ints and texts (the empty one is both) -/
 |dK (kvs:List (Key×V))|dT (kvs:List (Zd×V))
 /-- a set of ints:its members,its size -/
 |set (S:Int->Bool) (n:Nat)
 /-- an instance of the class at C,its dict at dx,its attributes -/
 |ins (C dx:Zs) (fs:List (Str×V))
 /-- the dict of the instance at x -/
 |own (x:Zs)
 /-- the dict of an exception -/
 |xd (fs:List (Str×V))
 /-- a bound method,f of x -/
 |met (f x:Zs)
 /-- a range object lo,lo+ 1,.. below hi -/
 |eS (lo hi:Int)
 /-- a thing that is known to the object (the script;a dict while a loop walks it):read,never written while it is so -/
 |cW (o:Obj) (u:HO)
 /-- a code object's table -/
 |fw (ps:Zm)
 /-- any other thing,by what is true of its one object (a def of ae0 own:afa a S n:=HO.ext λh=>..) -/
 |ext (φ:Heap->Prop)
abbrev Hp:=Zs->Option HO
def upd (H:Hp)(a:Zs)(o:HO):Hp:=λb=>if b=a then some o else H b
def ah {H:Hp}{o:HO}:upd H a o a\o:=by unfold upd;cbv
def ak {H:Hp}{o:HO}(h:b≠a):upd H a o b=H b:=by unfold upd;rw[agT h]
def Ny {H:Hp}{o u:HO}:upd (upd H a o) a u=upd H a u:=by
 funext b;unfold upd;cbv
def bX {H:Hp}{o u:HO}(h:H a\o)(c:H b\u)(d:o≠u):a≠b:=by
 cbv
def ax {H:Hp}{o:HO}(h:H a\o)(c:H b=none):a≠b:=by
 cbv
section
variable (P:Program) (w:World)
def bV (H:Hp)(h:Heap)(a:Zs):HO->Prop
 |.lst xs=>⇑xs<=sizeLine/\∃(c:Zk) (n:Nat),Vals xs c/\h.get? a\("list">>>.seq c.toArray n)
 |.tup xs=>⇑xs<=sizeLine/\∃c:Zk,Vals xs c/\IsTup h a c.toArray
 |.dK b=>⇑b<=sizeLine/\(a==sysModules)=false/\∃k,KV b k/\h.DictOf (bQ P w) a k
 |.dT b=>⇑b<=sizeLine/\(a==sysModules)=false/\∃xs:List (Zd×Zs×Zt),
  Paired (λ(p:Zd×V) (q:Zd×Zs×Zt)=>p.1=q.1/\H q.2.1\.tup (p.1.map kV)/\RelV p.2 q.2.2) b xs/\
  ∃o l s,h.get? a\o/\o.ExactDict/\o.data=.dict l s/\l.toList=xs.map (entryOfKey (tupleKind (bQ P w)))/\(xs.map (·.1)).Nodup
 |.set S n=>h.SetOf (intKind P w) a S n
 |.ins C e fs=>H e\.own a/\⇑fs<=1000/\e≠a/\h.get? a\PySem.W.instObj C e/\
  ∃d,h.Ns1 e d/\(∀f,eR (fs.lookup f) (d f))/\PySem.Within d (fs.map (·.1))
 |.own _=>∃o,h.get? a\o
 |.xd fs=>∃d,h.Ns1 a d/\∀f,eR (fs.lookup f) (d f)
 |.eS lo m=>∃t u v,h.get? a\("range">>>.fields #[.int lo t,.int m u,.int 1 v])
 |.cW o u=>h.get? a\o/\bV H h a u
 |.fw r=>h.get? a\{ cls:=.none,data:=.fields r }
 |.met f x=>h.get? a\(PySem.W.methodObj ↑f ↑x)
 |.ext g=>g h/\(∃o,h.get? a\o)/\∀j i:Heap,g j->(∀o,j.get? a\o->i.get? a\o)->g i
def dH (H:Hp)(h:Heap):Prop:=∀a o,H a\o->bV P w H h a o
end
section
variable {P:Program}{w:World}{H H':Hp}{h h':Heap}{a:Zs}{o:HO}
def bV.lt (x:bV P w H h a o):a<h.objs.size:=by
 cases o with
 |lst c=>let⟨_,_,_,_,e⟩:=x;rwa[agQ e]
 |tup c=>let⟨_,_,_,p⟩:=x;rwa[p.lt]
 |dK b=>let⟨_,_,_,_,o,_,_,e,_⟩:=x;rwa[agQ e]
 |dT b=>let⟨_,_,_,_,o,_,_,e,_⟩:=x;rwa[agQ e]
 |set S n=>let⟨o,_,_,_,e,_⟩:=x;rwa[agQ e]
 |ins C dx fs=>let⟨_,_,_,e,_⟩:=x;rwa[agQ e]
 |own y=>let⟨_,e⟩:=x;rwa[agQ e]
 |xd fs=>let⟨_,⟨_,_,_,e,_⟩,_⟩:=x;rwa[agQ e]
 |eS lo i=>let⟨_,_,_,e⟩:=x;rwa[agQ e]
 |cW d u=>let⟨e,_⟩:=x;rwa[agQ e]
 |fw j=>exact agQ (show h.get? a=some _ from x)
 |met f y=>exact agQ (show h.get? a=some _ from x)
 |ext g=>let⟨_,⟨_,e⟩,_⟩:=x;rwa[agQ e]
theorem Paired.Jh {g e:Type}{F G:g->e->Prop}:∀{c:List g} {d:List e},Paired F c d->(∀a b,F a b->G a b)->Paired G c d
 |_,_,.nil,_=>.nil
 |_,_,.cons r t,f=>.cons (f^r) (Paired.Jh t f)
theorem bV.fk (x:bV P w H h a o)(k:∀b u,(b=a\/H b\.own a)->h.get? b\u->h'.get? b\u)
 (E:∀b,H b\.own a->H' b\.own a) (I:∀b m,H b\.tup m->H' b\.tup m):bV P w H' h' a o:=by
 induction o with
 |lst m=>let⟨z,l,n,r,e⟩:=x;rwa[z,l,n,r,k _ _ (.inl rfl) e]
 |tup m=>let⟨z,l,r,g,e,c⟩:=x;rwa[z,l,r,g,k _ _ (.inl rfl) e,c]
 |dK s=>let⟨z,y,J,r,g,j,i,e,c⟩:=x;rwa[z,y,J,r,g,j,i,k _ _ (.inl rfl) e,c]
 |dT s=>
  let⟨z,y,m,r,g,j,i,e,c⟩:=x;rwa[z,y,m,Paired.Jh r λp q z=>⟨z.1,I^z.2.1,z.2.2⟩,g,j,i,k _ _ (.inl rfl) e,c]
 |set S n=>let⟨g,j,i,t,e,c⟩:=x;rwa[g,j,i,t,k _ _ (.inl rfl) e,c]
 |ins C dx fs=>
  let⟨d,z,ne,e,A,⟨B,j,i,F,c⟩,r⟩:=x;rwa[E _ d,z,ne,k _ _ (.inl rfl) e,A,⟨B,j,i,k _ _ (.inr d) F,c⟩,r]
 |own y=>let⟨g,e⟩:=x;rwa[g,k _ _ (.inl rfl) e]
 |xd fs=>let⟨A,⟨B,j,i,e,c⟩,r⟩:=x;rwa[A,⟨B,j,i,k _ _ (.inl rfl) e,c⟩,r]
 |eS lo L=>let⟨t,u,v,e⟩:=x;rwa[t,u,v,k _ _ (.inl rfl) e]
 |cW g u G=>let⟨e,q⟩:=x;rwa[k _ _ (.inl rfl) e,G q]
 |fw D=>
  let e:h.get? a\{ cls:=.none,data:=.fields D }:=x;show h'.get? a\{ cls:=.none,data:=.fields D };rwa[k a _ (.inl rfl) e]
 |met f y=>
  let e:h.get? a\(PySem.W.methodObj ↑f ↑y):=x;show h'.get? a\PySem.W.methodObj ↑f ↑y;rwa[k a _ (.inl rfl) e]
 |ext M=>let⟨p,⟨o,e⟩,st⟩:=x;rwa[st _ _ p λo q=>k _ _ (.inl rfl) q,⟨o,k _ _ (.inl rfl) e⟩,st]
def dH.lt (x:dH P w H h)(e:H a\o):a<h.objs.size:=(x a o e).lt
def dH.fresh (x:dH P w H h)(e:h.objs.size<=a):H a=none:=by
 cases q:H a with
 |none=>rfl
 |some u=>exact absurd (agY (x.lt q) e) (ahN _)
def dH.kept (x:dH P w H h)(k:∀b u,h.get? b\u->h'.get? b\u):dH P w H h':=λa o e=>
 (x a o e).fk (λb u _ q=>k b u q) (λ_ q=>q) λ_ _ q=>q
def dH.laid (x:dH P w H h)(k:∀b u,h.get? b\u->h'.get? b\u)(g:h.objs.size<=a)(new:bV P w (upd H a o) h' a o):dH P w (upd H a o) h':=λb u e=>by
 let f:=x.fresh g;by_cases d:b=a
 ·subst d;rw[ah]at e;cbv
 ·rw[ak d]at e;rwa[(x b u e).fk (λc v _ q=>k c v q) (λc q=>[ak (ax q f)]▸q) λc i q=>[ak (ax q f)]▸q]
end
def Rd (H:Hp)(a:Zs)(u:HO):Prop:=H a\u\/∃o,H a\(.cW o u)
def Rd.ok {H:Hp}{u:HO}(r:Rd H a u)(x:dH P w H h):bV P w H h a u:=by
 rcases r with r|⟨o,r⟩
 ·rwa[x a u r]
 ·let⟨_,q⟩:=x a _ r;rwa[q]
def tM:Option HO->Prop
 |some (.lst _)=>True
 |some (.dK _)=>True
 |some (.dT _)=>True
 |some (.set _ _)=>True
 |some (.ins _ _ _)=>True
 |some (.ext _)=>True
 |_=>False
section
variable {P:Program}{w:World}{H:Hp}{h h':Heap}{x e:Zs}{o':HO}
theorem dH.write (ok:dH P w H h)(mu:tM (H x))(l:e=x\/H e\.own x)(k:∀b u,b≠e->h.get? b\u->h'.get? b\u)(f:∃u,h'.get? e\u)
 (new:bV P w (upd H x o') h' x o'):dH P w (upd H x o') h':=λb u q=>by
 let a:∀c y,H c\.own y->c≠x:=λc y r z=>by subst z;rw[r]at mu;rwa[mu]
 let jb:∀c d,H c\.tup d->c≠x:=λc d r z=>by subst z;rw[r]at mu;rwa[mu]
 by_cases j:b=x
 ·subst j;rw[ah]at q;cbv
 ·rw[ak j]at q;by_cases g:b=e
  ·let i:H b\(.own x):=by
    rcases l with z|z
    ·cbv
    ·rw[g];rwa[z]
   rw[q]at i;ext i;let⟨v,m⟩:=f;rwa[v,by cbv]
  ·refine(ok b u q).fk (λc v hc r=>k c v ?_ r) (λc r=>[ak (a c b r)]▸r) λc d r=>by rw[ak (jb c d r)];rwa[r]
   cbv
end
structure Un (fs ex:Zn) (H H':Hp) (h h':Heap):Prop where
 keep:∀b o,h.get? b\o->H b=none->b∉fs->b∉ex->h'.get? b\o
 slot:∀b o,h.get? b\o->H b=none->b∈fs->b∉ex->∃sl,h'.get? b\{ o with slots:=sl }
 free:∀b o,h.get? b\o->H b=none->b∉ex->H' b=none
 there:∀b o,h.get? b\o->b∉ex->∃o',h'.get? b\o'
 hU:∀b xs,H b\.tup xs->H' b\(.tup xs)
 gG:∀b o u,H b\.cW o u->H' b\(.cW o u)
 hV:∀b ps,H b\.fw ps->∃more,H' b\(.fw (ps++more))
section
variable {fs ex:Zn}{H H1:Hp}{h h1 h':Heap}{a x e:Zs}{o:HO}
def Un.any (u:Un fs ex H H1 h h1){b:Zs}{c:Obj}(q:h.get? b\c)(n:H b=none)(f:b∉ex):∃sl,h1.get? b\{ c with slots:=sl }:=by
 by_cases d:b∈fs
 ·rwa[u.slot b c q n d f]
 ·rwa[c.slots,u.keep b c q n d f]
def Un.kept (k:∀b u,h.get? b\u->h'.get? b\u):Un fs ex H H h h':=
 ⟨λb c q _ _ _=>k b c q,λb c q _ _ _=>⟨c.slots,k b c q⟩,λ_ _ _ n _=>n,λb c q _=>⟨c,k b c q⟩,λ_ _ q=>q,λ_ _ _ q=>q,λ_ d q=>⟨#[],by rw[q];simp⟩⟩
def Un.refl:Un fs ex H H h h:=Un.kept λ_ _ q=>q
theorem Un.laid (k:∀b u,h.get? b\u->h'.get? b\u)(d:h.objs.size<=a)(c:H a=none):Un fs ex H (upd H a o) h h' where
 keep:=λb u q _ _ _=>k b u q
 slot:=λb u q _ _ _=>⟨u.slots,k b u q⟩
 free:=λb u q n _=>by rw[ak (ag2 (agY (agQ q) d))];rwa[n]
 there:=λb u q _=>⟨u,k b u q⟩
 hU:=λb f q=>by rw[ak (ax q c)];rwa[q]
 gG:=λb u f q=>by rw[ak (ax q c)];rwa[q]
 hV:=λb g q=>⟨#[],by rw[ak (ax q c),q];simp⟩
def Un.write (mu:tM (H x))(l:e=x\/H e\.own x)(k:∀b u,b≠e->h.get? b\u->h'.get? b\u)(i:∃u,h'.get? e\u):Un fs ex H (upd H x o) h h':=by
 let g:∀b,H b=none->b≠x:=λb n z=>by subst z;rw[n]at mu;rwa[mu]
 let d:∀b,H b=none->b≠e:=λb n z=>by
  cbv
 let c:∀b u,H b\u->¬tM (some u)->b≠x:=λb u q nm z=>by cbv
 rwa[⟨λb u q n _ _=>k b u (d b n) q,λb u q n _ _=>⟨u.slots,k b u (d b n) q⟩,λb u q n _=>[ak (g b n)]▸n,λb u q _=>?_,λb f q=>[ak (c b _ q λz=>z)]▸q,λb u f q=>[ak (c b _ q λz=>z)]▸q,λb j q=>⟨#[],by rw[ak (c b _ q λz=>z),q];simp⟩⟩]
 cbv
end
def Lv (h:Heap)(H:Hp):Zn:=(List.range h.objs.size).filter λa=>(H a).isSome
def pF (h:Heap)(H:Hp):Heap:=PySem.W.hideAll h (Lv h H)
def Gn (h:Heap)(H:Hp):(pF h H).objs.size=h.objs.size:=PySem.W.hideAll_size _ _
def uo {H:Hp}{o:Obj}(e:h.get? b\o)(n:H b=none):(pF h H).get? b\o:=
 ajy _ e λa=>by
  let q:(H b).isSome=true:=(aik.mp a).2
  cbv
def Nz {H:Hp}{o:Obj}(e:(pF h H).get? b\o):h.get? b\o/\H b=none:=by
 let a:h.get? b\o:=PySem.W.of_hideAll (Lv h H) e;erw[a]
 cases q:H b with
 |none=>rfl
 |some x=>
  let c:b∈Lv h H:=aik.mpr ⟨ahr.mpr (agQ a),by simp[q]⟩;let z:(pF h H).get? b=none:=PySem.W.hideAll_none (Lv h H) c
  cbv
def NB (g h:Heap)(L:Zs):List (Zs×Obj):=(List.range h.objs.size).filterMap λa=>if a=L\/(g.get? a).isSome=true then none else (h.get? a).map λo=>(a,o)
def rest (g h:Heap)(L d:Zs):List (Zs×Obj):=(NB g h L).filter λp=>decide (p.1≠d)
end L2
variable {H I J:L2.Hp}{q:L2.V}{L:List L2.V}
namespace L2
open PySem PySem.Spec PyProof.Rows
structure Mod (K:Za1) (mg:Str->Zl) (base:Heap):Prop where
 vl:K.In base
 glob:base.Ns mainGlobals mg
 blt:∃mb,base.Ns builtinsNs mb/\∀x:Str,x≠"__name__"->mb x=bootBuiltins x
 nolimit:base.NoLimit
structure Cx where
 prog:Program
 w:World
 K:Za1
 mg:Str->Zl
 base:Heap
 A:Around
 N:Zp
 eA:Zu
 uq:Hp
 env:Env
 outer:Zq
 stack:Zq
 ex:Zn
 fn:Str->Bool
 calm:Bool
 pn:List (Zs×Obj)
 xe:Zt->Zu->Prop
def cH (l:Zq):Zn:=l.filterMap (·.frame)
abbrev Cx.fs (X:Cx):Zn:=cH X.outer
def PX (sc:Scope)(x:Str):Prop:=sc.names.lookup x=some .local\/sc.names.lookup x=some .cell\/sc.names.lookup x=some .free
def Loc (sc:Scope)(x:Str):Prop:=sc.names.lookup x=some .local\/sc.names.lookup x=some .cell
def Look (env:Env)(h:Heap)(m:Str->Zl)(x:Str)(u:Zt):Prop:=
 (env.kindOf x=some .local/\m x\u)\/((env.kindOf x=some .cell\/env.kindOf x=some .free)/\∃c,env.cells.lookup x\c/\h.IsCell c (some u))
structure Cx.Ok (X:Cx):Prop where
 mod:Mod X.K X.mg X.base
 kind:X.env.scope.kind=.function
 glob:X.env.globals=mainGlobals
 blt:X.env.builtins=builtinsNs
 above:X.eA.heap.objs.size<=X.env.locals
 inj:∀x y c,X.env.cells.lookup x\c->X.env.cells.lookup y\c->x=y
 has:∀x,(X.env.kindOf x=some .cell\/X.env.kindOf x=some .free)->∃c,X.env.cells.lookup x\c
 zS:∀x c,X.fn x=true->X.env.cells.lookup x\c->X.eA.heap.objs.size<=c
 hd:X.calm=true->X.A.handled=none
 frames:X.A.frames\X.stack
 Dr:X.stack=X.outer\/(X.stack=X.env::X.outer/\X.env.frame\X.env.locals)
 Lx:∀b∈X.ex,b≠X.env.locals/\∀x c,X.env.cells.lookup x\c->c≠b
 bs:∀b o,X.base.get? b\o->X.eA.heap.get? b\o/\X.uq b=none
 qS:X.base.objs.size<=X.eA.heap.objs.size
 ur:∀b o,X.base.get? b\o->b∉X.ex
 xq:∀b∈X.ex,b∉X.fs
 jc:X.eA.heap.FunFrames X.base X.outer
 tN:∀b∈X.fs,X.uq b=none
structure Inv (X:Cx) (pins:List (Zs×Obj)) (σ:List Zc) (H:Hp) (s:Zu):Prop where
 ok:X.Ok
 os:s.os=X.eA.os
 bare:AllBare s.gens
 base:Un X.fs X.ex X.uq H X.eA.heap s.heap
 loc:∃m,s.heap.Ns X.env.locals m/\∀(i:Nat) (x:Str) (v:V),X.N[i]?\x->σ[i]?\some v->PX X.env.scope x->∃u,RelV v u/\Look X.env s.heap m x u
 cell:∀x c,X.env.cells.lookup x\c->∃v,s.heap.IsCell c v
 free:H X.env.locals=none
 gH:∀x c,X.env.cells.lookup x\c->H c=none
 pin:∀p∈X.pn++pins,s.heap.get? p.1\p.2/\H p.1=none/\p.1≠X.env.locals/\p.1∉X.fs/\∀v,p.2.data≠.cell v
 aO:dH X.prog X.w H s.heap
 len:⇑σ=⇑X.N
section
variable {X:Cx}{pins:List (Zs×Obj)}{σ:List Zc}{H H':Hp}{s:Zu}{h':Heap}
def Cx.Ok.Ym (ok:X.Ok){b:Zs}{o:Obj}(e:X.base.get? b\o):b∉X.fs:=λa=>by
 have:=(ok.jc.mem a).1
 cbv
def Inv.bs (I:Inv X pins σ H s):∀b o,X.base.get? b\o->s.heap.get? b\o/\H b=none:=λb o e=>
 ⟨I.base.keep b o (I.ok.bs b o e).1 (I.ok.bs b o e).2 (I.ok.Ym e) (I.ok.ur b o e),I.base.free b o (I.ok.bs b o e).1 (I.ok.bs b o e).2 (I.ok.ur b o e)⟩
def Inv.bk (I:Inv X pins σ H s):∀b o,X.base.get? b\o->s.heap.get? b\o:=λb o e=>(I.bs b o e).1
def Inv.mod (I:Inv X pins σ H s):Mod X.K X.mg X.base:=I.ok.mod
def Inv.dv (I:Inv X pins σ H s):X.K.In s.heap:=I.ok.mod.vl.keeps I.bk
def Inv.lt (I:Inv X pins σ H s):X.env.locals<↥s:=let ⟨_,a,_⟩:=I.loc;a.lt
def Inv.sz (I:Inv X pins σ H s):X.eA.heap.objs.size<=↥s:=agJ I.ok.above (ajB I.lt)
def Inv.EW (I:Inv X pins σ H s){a:Zs}(h:↥s<=a):a∉X.fs:=λb=>by
 let⟨_,o,c,_⟩:=I.ok.jc.mem b;rwa[absurd (agY (agQ c) (agJ I.sz h)) (ahN _)]
def Inv.lE (I:Inv X pins σ H s):∀x c,X.env.cells.lookup x\c->c≠X.env.locals:=λx c e z=>by
 let⟨v,o,d,hd⟩:=I.cell x c e;let⟨m,⟨h,g,f,a,b,_⟩,_⟩:=I.loc
 cbv
def Inv.jc (I:Inv X pins σ H s):s.heap.FunFrames X.base X.outer:=by
 let all:∀(l:Zq),(∀b∈cH l,b∈X.fs)->X.eA.heap.FunFrames X.base l->s.heap.FunFrames X.base l:=by
  intro l
  induction l with
  |nil=>intro _ _;trivial
  |cons env r j=>
   intro d h;let⟨m,⟨L,o,f,g,i,hd⟩,k⟩:=h;let c:L∈X.fs:=d L (by unfold cH;cbv);let⟨sl,e⟩:=I.base.slot L o i (I.ok.tN L c) c λz=>I.ok.xq L z c
   rwa[m,⟨L,_,f,g,e,hd⟩,j (λb a=>d b (by unfold cH;rw[ajz,f];rwa[ag3 _ a])) k]
 rwa[all X.outer (λ_ a=>a) I.ok.jc]
def Inv.stack (I:Inv X pins σ H s):s.heap.FunFrames X.base X.stack:=by
 rcases I.ok.Dr with e|⟨e,a⟩
 ·rw[e];rwa[I.jc]
 ·rw[e];let⟨m,b,_⟩:=I.loc;rwa[.cons (by rw[I.ok.kind];decide) a b ?_ I.jc];rwa[Heap.get?_none_of_le (agJ I.ok.qS I.ok.above)]
def Inv.zT (I:Inv X pins σ H s):∀b∈cH X.stack,b∈X.env.locals::X.fs:=λb a=>by
 rcases I.ok.Dr with e|⟨e,c⟩
 ·cbv
 ·rw[e]at a;unfold cH at a;rw[ajz,c]at a;rwa[a]
def Inv.oD (I:Inv X pins σ H s):∀b∈cH X.stack,H b=none:=λb a=>by
 rcases agN.mp (I.zT b a) with e|a
 ·rw[e];rwa[I.free]
 ·let⟨_,o,c,_⟩:=I.ok.jc.mem a;rwa[I.base.free b o c (I.ok.tN b a) λz=>I.ok.xq b z a]
theorem Inv.step {g':Array GenState}{t':Nat}{d':Drawn}{ch:Zn}(I:Inv X pins σ H s)
 (f:∀b∈ch,(b∈X.ex\/X.eA.heap.objs.size<=b)/\b≠X.env.locals/\(∀x c,X.env.cells.lookup x\c->c≠b)/\∀p∈X.pn++pins,p.1≠b)
 (keep:∀b o,b≠X.env.locals->b∉X.fs->b∉ch->s.heap.get? b\o->H b=none->h'.get? b\o)
 (slot:∀b o,b≠X.env.locals->b∈X.fs->b∉ch->s.heap.get? b\o->H b=none->∃sl,h'.get? b\{ o with slots:=sl }) (free:∀b o,b∉ch->s.heap.get? b\o->H b=none->H' b=none)
 (there:∀b o,b∉ch->s.heap.get? b\o->∃B,h'.get? b\B)
 (hU:∀b j,H b\.tup j->H' b\.tup j) (gG:∀b o u,H b\.cW o u->H' b\.cW o u) (hV:∀b C,H b\.fw C->∃more,H' b\.fw (C++more))
 (ns:∀m,s.heap.Ns X.env.locals m->h'.Ns X.env.locals m) (aO:dH X.prog X.w H' h') (M:AllBare g'):
 Inv X pins σ H' { s with heap:=h',gens:=g',drawn:=d',toks:=t' }:=by
 let A:∀b o,X.eA.heap.get? b\o->b≠X.env.locals:=λb o e=>ag2 (agY (agQ e) I.ok.above)
 let h:∀b o,X.eA.heap.get? b\o->b∉X.ex->b∉ch:=λb o e a w=>by
  rcases (f b w).1 with z|z
  ·rwa[a z]
  ·rwa[absurd (agY (agQ e) z) (ahN _)]
 let cellK:∀x c,X.env.cells.lookup x\c->∀v,s.heap.IsCell c v->h'.IsCell c v:=λx c e v ζ=>by
  let⟨o,y,hd⟩:=ζ
  let g:c∉ch:=λz=>(f c z).2.2.1 x c e rfl
  by_cases hc:c∈X.fs
  ·let⟨sl,q⟩:=slot c o (I.lE x c e) hc g y (I.gH x c e);rwa[_,q,hd]
  ·rwa[o,keep c o (I.lE x c e) hc g y (I.gH x c e),hd]
 rwa[⟨I.ok,I.os,M,⟨λb o e n w a=>?_,λb o e n w a=>?_,λb o e n a=>?_,λb o e a=>?_,λb j e=>hU b j (I.base.hU b j e),λb o j e=>gG b o j (I.base.gG b o j e),λb C e=>?_⟩,5,λx c e=>?_,5,λx c e=>?_,λp F=>?_,aO,I.len⟩]
 ·rwa[keep b o (A b o e) w (h b o e a) (I.base.keep b o e n w a) (I.base.free b o e n a)]
 ·let⟨sl,t⟩:=I.base.slot b o e n w a;let⟨E,D⟩:=slot b _ (A b o e) w (h b o e a) t (I.base.free b o e n a);rwa[E,D]
 ·let⟨B,t⟩:=I.base.there b o e a;rwa[free b B (h b o e a) t (I.base.free b o e n a)]
 ·let⟨B,t⟩:=I.base.there b o e a;rwa[there b B (h b o e a) t]
 ·let⟨O,t⟩:=I.base.hV b C e
  cbv
 ·let⟨m,L,N⟩:=I.loc;rwa[⟨m,ns m L,λi x v t D J=>?_⟩];let⟨u,r,l⟩:=N i x v t D J;erw[u,r];rcases l with l|⟨k,c,e,z⟩
  ·rwa[.inl l]
  ·rwa[.inr ⟨k,c,e,cellK x c e _ z⟩]
 ·let⟨v,z⟩:=I.cell x c e;rwa[v,cellK x c e v z]
 ·let⟨m,⟨o,_,_,y,_⟩,_⟩:=I.loc;rwa[free _ o (λz=>(f _ z).2.1 rfl) y I.free]
 ·let⟨v,o,y,hd⟩:=I.cell x c e;rwa[free c o (λz=>(f c z).2.2.1 x c e rfl) y (I.gH x c e)]
 ·let⟨e,n,ne,G,d⟩:=I.pin p F;let g:p.1∉ch:=λz=>(f p.1 z).2.2.2 p F rfl
  rwa[keep p.1 p.2 ne G g e n,free p.1 p.2 g e n,ne,G,d]
def Inv.un {t':Nat}(I:Inv X pins σ H s)(u:Un X.fs [] H H' s.heap h')(aO:dH X.prog X.w H' h'):Inv X pins σ H' { s with heap:=h',toks:=t' }:=by
 let⟨m,⟨o,t,k,g,r⟩,_⟩:=id I.loc;let⟨sl,j⟩:=u.any g I.free (by simp)
 exact I.step (g':=s.gens) (d':=s.drawn) (ch:=[]) (λ_ z=>nomatch z) (λb o _ d _ e n=>u.keep b o e n d (by simp)) (λb o _ d _ e n=>u.slot b o e n d (by simp)) (λb o _ e n=>u.free b o e n (by simp)) (λb o _ e=>u.there b o e (by simp)) u.hU u.gG u.hV (λp h=>by
  let⟨v,f,c,a,i⟩:=h;rw[g]at a;ext a;rwa[_,f,c,j,i]) aO I.bare
theorem Inv.call {g':Array GenState}{t':Nat}{d':Drawn}{ch:Zn}(I:Inv X pins σ H s)(u:Un (cH X.stack) ch H H' s.heap h')(aO:dH X.prog X.w H' h')(l:AllBare g')
 (d:∀b∈ch,(b∈X.ex\/X.eA.heap.objs.size<=b)/\b≠X.env.locals/\(∀x c,X.env.cells.lookup x\c->c≠b)/\∀p∈X.pn++pins,p.1≠b):
 Inv X pins σ H' { s with heap:=h',gens:=g',drawn:=d',toks:=t' }:=by
 let⟨m,⟨o,w,t,i,r⟩,_⟩:=id I.loc;let⟨sl,f⟩:=u.any i I.free λz=>(d _ z).2.1 rfl
 exact I.step (ch:=ch) d (λb o f q hc e n=>u.keep b o e n (λz=>(agN.mp (I.zT b z)).elim f q) hc) (λb o _ _ hc e n=>u.any e n hc) (λb o hc e n=>u.free b o e n hc) (λb o hc e=>u.there b o e hc) u.hU u.gG u.hV (λv j=>by
  let⟨y,h,g,a,k⟩:=j;rw[i]at a;ext a;rwa[_,h,g,f,k]) aO l
theorem Inv.turned {t':Nat}{it:Zs}(I:Inv X pins σ H s)(k:∀b o,b≠it->s.heap.get? b\o->h'.get? b\o)(B:H it=none)(a:it≠X.env.locals)
 (l:it∈X.ex\/X.eA.heap.objs.size<=it) (g:∀x c,X.env.cells.lookup x\c->c≠it) (i:∀p∈X.pn++pins,p.1≠it):Inv X pins σ H { s with heap:=h',toks:=t' }:=by
 let h:∀b u,H b\u->b≠it:=λb u e z=>by cbv
 refine I.step (g':=s.gens) (d':=s.drawn) (ch:=[it]) (λb t=>?_) (λb o _ _ hc e _=>k b o (λz=>hc (by simp[z])) e) (λb o _ _ hc e _=>⟨o.slots,k b o (λz=>hc (by simp[z])) e⟩) (λ_ _ _ _ n=>n)
  (λb o hc e=>⟨o,k b o (λz=>hc (by simp[z])) e⟩) (λ_ _ e=>e) (λ_ _ _ e=>e) (λb y e=>⟨#[],by rw[e];simp⟩) (λm d=>?_) (λb u e=>?_) I.bare
 ·let e:b=it:=by simpa using t
  subst e;rwa[l,a,g,i]
 ·let⟨o,w,j,f,r⟩:=d;rwa[o,w,j,k _ o (ahQ a) f,r]
 ·rwa[(I.aO b u e).fk (λc v hc q=>k c v ?_ q) (λ_ q=>q) λ_ _ q=>q]
  cbv
def Inv.tok (I:Inv X pins σ H s)(t:Nat):Inv X pins σ H { s with toks:=t }:=I.un (h':=s.heap) (t':=t) Un.refl I.aO
def Inv.kept {t':Nat}(I:Inv X pins σ H s)(k:∀b u,s.heap.get? b\u->h'.get? b\u):Inv X pins σ H { s with heap:=h',toks:=t' }:=I.un (Un.kept k) (I.aO.kept k)
theorem Inv.laid {o:HO}{t':Nat}(I:Inv X pins σ H s)(k:∀b u,s.heap.get? b\u->h'.get? b\u)(c:↥s<=a)(new:bV X.prog X.w (upd H a o) h' a o):
 Inv X pins σ (upd H a o) { s with heap:=h',toks:=t' }:=I.un (Un.laid k c (I.aO.fresh c)) (I.aO.laid k c new)
theorem Inv.write {x e:Zs}{o:HO}{t':Nat}(I:Inv X pins σ H s)(mu:tM (H x))(c:e=x\/H e\.own x)(k:∀b u,b≠e->s.heap.get? b\u->h'.get? b\u)(a:∃u,h'.get? e\u)
 (new:bV X.prog X.w (upd H x o) h' x o):Inv X pins σ (upd H x o) { s with heap:=h',toks:=t' }:=I.un (Un.write mu c k a) (I.aO.write mu c k a new)
def Inv.jm (I:Inv X pins σ H s)(h:∀p∈o,s.heap.get? p.1\p.2/\H p.1=none/\p.1≠X.env.locals/\p.1∉X.fs/\∀v,p.2.data≠.cell v):Inv X o σ H s:=
 ⟨I.ok,I.os,I.bare,I.base,I.loc,I.cell,I.free,I.gH,λp a=>(agH.mp a).elim (λz=>I.pin p (agU _ z)) (h p),I.aO,I.len⟩
def uv (e:Z.Nodup){i j:Nat}{x:Str}(a:Z[i]?\x)(b:Z[j]?\x):i=j:=by
 let⟨g,c⟩:=agx.mp a;let⟨f,d⟩:=agx.mp b;rwa[(List.getElem_inj e).mp (c.trans d.symm)]
theorem ym {M:Model}{v:V}(I:Inv X pins σ H s)(hN:X.N.Nodup)(J:X.N[i]?\x)(l:Loc X.env.scope x)(r:RelV v u)
 (h:∀s',Inv X pins (σ.set i (some v)) H s'->(∃a,Heap.SameBut a s.heap s'.heap/\(a=X.env.locals\/X.env.cells.lookup x\a))->U () s') (hf:X.fn x=true\/X.env.scope.names.lookup x=some .local:=by trivial):wpAny M A (storeName X.env x u) U E s:=by
 let⟨m,hn,hl⟩:=id I.loc;let L:(X.env.scope.kind==.class || (X.env.scope.kind==.module && X.env.locals !=X.env.globals))=false:=by rw[I.ok.kind];rfl
 let B:i < ⇑σ:=by rw[I.len];rwa[(agx.mp J).1]
 let lE:=I.lE
 let tracked:∀{a:Zs} {h':Heap},(∃o,s.heap.get? a\o/\H a=none)->Heap.SameBut a s.heap h'->dH X.prog X.w H h':=λ{a h'} ha f b ob e=>by
  let⟨_,_,R⟩:=ha;rwa[(I.aO b ob e).fk (λc Z t q=>(f.2 c ?_).trans q) (λ_ q=>q) λ_ _ q=>q]
  cbv
 rcases l with G|G
 ·rwa[wpAny_storeName_local G hn (λh' hn' f=>?_) L];let⟨oL,_,_,P,_⟩:=id hn;rwa[h _ ⟨I.ok,I.os,I.bare,⟨λb o e n F l=>?_,λb o e n F l=>?_,I.base.free,λb o e l=>?_,I.base.hU,I.base.gG,I.base.hV⟩,⟨_,hn',λj y W g w T=>?_⟩,λy c e=>?_,I.free,I.gH,λp Q=>?_,tracked ⟨oL,P,I.free⟩ f,by simpa using I.len⟩ ⟨_,f,.inl rfl⟩]
  ·rwa[(f.2 b (ag2 (agY (agQ e) I.ok.above))).trans (I.base.keep b o e n F l)]
  ·let⟨sl,g⟩:=I.base.slot b o e n F l;rwa[sl,(f.2 b (ag2 (agY (agQ e) I.ok.above))).trans g]
  ·let⟨o',g⟩:=I.base.there b o e l;rwa[o',(f.2 b (ag2 (agY (agQ e) I.ok.above))).trans g]
  ·by_cases D:j=i
   ·subst D;rw[J]at g;ext g;rw[ahs B]at w;ext w;rwa[u,r,.inl ⟨G,by simp⟩]
   ·rw[ahV (ahQ D)]at w;let⟨u',O,q⟩:=hl j y W g w T;erw[u',O];rcases q with ⟨k,e⟩|⟨k,c,e,z⟩
    ·rwa[.inl ⟨k,?_⟩];have:y≠x:=λe=>D (uv hN g (e ▸ J))
     simp[this,e]
    ·rwa[.inr ⟨k,c,e,z.sameBut f (lE y c e)⟩]
  ·let⟨Z,z⟩:=I.cell y c e;rwa[Z,z.sameBut f (lE y c e)]
  ·let⟨e,n,ne,nf,d⟩:=I.pin p Q;rwa[(f.2 p.1 ne).trans e,n,ne,nf,d]
 ·let C:X.fn x=true:=by
   rcases hf with z|z
   ·rwa[z]
   ·cbv
  let⟨c,t⟩:=I.ok.has x (.inl G);let⟨Z,z⟩:=I.cell x c t;rwa[wpAny_storeName_cell I.ok.kind G t z (λh' Y f=>?_)];let⟨oc,Gp,afb⟩:=id z;rwa[h (s<*h') ⟨I.ok,I.os,I.bare,⟨λb o e n F l=>?_,λb o e n F l=>?_,I.base.free,λb o e l=>?_,I.base.hU,I.base.gG,I.base.hV⟩,⟨m,hn.sameBut f (ahQ (lE x c t)),λj y W g w T=>?_⟩,λy N e=>?_,I.free,I.gH,λp Q=>?_,tracked ⟨oc,Gp,I.gH x c t⟩ f,by simpa using I.len⟩ ⟨c,f,.inr t⟩]
  ·rwa[(f.2 b (ag2 (agY (agQ e) (I.ok.zS x c C t)))).trans (I.base.keep b o e n F l)]
  ·let⟨sl,g⟩:=I.base.slot b o e n F l;rwa[sl,(f.2 b (ag2 (agY (agQ e) (I.ok.zS x c C t)))).trans g]
  ·let⟨o',g⟩:=I.base.there b o e l;rwa[o',(f.2 b (ag2 (agY (agQ e) (I.ok.zS x c C t)))).trans g]
  ·by_cases D:j=i
   ·subst D;rw[J]at g;ext g;rw[ahs B]at w;ext w;rwa[u,r,.inr ⟨.inl G,c,t,Y⟩]
   ·rw[ahV (ahQ D)]at w;let⟨u',O,q⟩:=hl j y W g w T;erw[u',O];rcases q with q|⟨k,N,e,z'⟩
    ·rwa[.inl q]
    ·rwa[.inr ⟨k,N,e,z'.sameBut f ?_⟩];rintro rfl;rwa[D (uv hN g (I.ok.inj _ _ _ e t ▸ J))]
  ·by_cases S:N=c
   ·cbv
   ·let⟨w2,z2⟩:=I.cell y N e;rwa[w2,z2.sameBut f S]
  ·let⟨e,n,ne,nf,d⟩:=I.pin p Q;rwa[⟨(f.2 p.1 ?_).trans e,n,ne,nf,d⟩]
   cbv
theorem pG {M:Model}{v:V}(I:Inv X pins σ H s)(f:X.N.Nodup)(c:X.N[i]?\x)(b:Loc X.env.scope x)(r:RelV v u)
 (h:∀a,Inv X pins (σ.set i (some v)) H a->U () a) (e:X.fn x=true\/X.env.scope.names.lookup x=some .local:=by trivial):wpAny M A (storeName X.env x u) U E s:=
 ym I f c b r (λa d _=>h a d) e
theorem Inv.EX {s':Zu}{ch:Zn}(I:Inv X pins σ H s)(i:s'.os=s.os)(u:Un (cH X.stack) ch H H' s.heap s'.heap)(aO:dH X.prog X.w H' s'.heap)(h:AllBare s'.gens)
 (a:∀b∈ch,(b∈X.ex\/X.eA.heap.objs.size<=b)/\b≠X.env.locals/\(∀x c,X.env.cells.lookup x\c->c≠b)/\∀p∈X.pn++pins,p.1≠b):Inv X pins σ H' s':=by
 let⟨h',d,g,f,j⟩:=s';let e:j=s.os:=i;subst e;rwa[I.call (g':=d) (t':=f) (d':=g) u aO h a]
end
abbrev XK:=Zt->Zo->Hp->Prop
abbrev St:=List Zc
abbrev VK:=V->Hp->Prop
abbrev TE:=St->Hp->VK->Prop
abbrev TT:=St->Hp->(Bool->Hp->Prop)->Prop
abbrev TA:=St->Hp->(Zb->Hp->Prop)->Prop
structure Ends where
 nx:St->Hp->Prop
 rt:VK
 bk:St->Hp->Prop:=λ_ _=>False
 ct:St->Hp->Prop:=λ_ _=>False
abbrev TS:=Ends->St->Hp->Prop
def EP (X:Cx)(a:List (Zs×Obj))(d:St)(Q:VK)(u:Zt)(c:Zu):Prop:=∃v b,Inv X a d b c/\RelV v u/\Q v b
def TP (X:Cx)(a:List (Zs×Obj))(e:St)(Q:Bool->Hp->Prop)(b:Bool)(d:Zu):Prop:=∃c,Inv X a e c d/\Q b c
def AP (X:Cx)(a:List (Zs×Obj))(f:St)(Q:Zb->Hp->Prop)(e:Zk)(d:Zu):Prop:=∃b c,Inv X a f c d/\Vals b e/\Q b c
def SP (X:Cx)(b:List (Zs×Obj))(D:Ends)(f:Flow)(d:Zu):Prop:=
 match f with
 |.next=>∃ a c,Inv X b a c d/\D.nx a c
 |.brk=>∃ a c,Inv X b a c d/\D.bk a c
 |.cont=>∃ a c,Inv X b a c d/\D.ct a c
 |.ret u=>∃v a c,Inv X b a c d/\RelV v u/\D.rt v c
def PE (X:Cx)(e:Expr)(t:TE):Prop:=
 ∀(a:List (Zs×Obj)) (s:Zu) (b:St) (H:Hp) (Q:VK),Inv X a b H s->t b H Q->X⁻¹ X.A (eval e X.env) (EP X a b Q) X.xe s
def PT (X:Cx)(e:Expr)(t:TT):Prop:=
 ∀(a:List (Zs×Obj)) (s:Zu) (b:St) (H:Hp) (Q:Bool->Hp->Prop),Inv X a b H s->t b H Q->X⁻¹ X.A (isTrue e X.env (eval e X.env)) (TP X a b Q) X.xe s
def PW (X:Cx)(e:Expr)(t:TT):Prop:=
 ∀(whole:Sem Zt) (a:List (Zs×Obj)) (s:Zu) (b:St) (H:Hp) (Q:Bool->Hp->Prop),Inv X a b H s->t b H Q->X⁻¹ X.A (isTrue e X.env whole) (TP X a b Q) X.xe s
def PW.pt {X:Cx}{t:TT}(h:PW X e t):PT X e t:=h _
def PA (X:Cx)(d:Zr)(t:TA):Prop:=
 ∀(c:Pos) (a:List (Zs×Obj)) (s:Zu) (b:St) (H:Hp) (Q:Zb->Hp->Prop),Inv X a b H s->t b H Q->X⁻¹ X.A (spliced (backTo c (starEach d X.env))) (AP X a b Q) X.xe s
def PS (X:Cx)(st:Stmt)(t:TS):Prop:=
 ∀(a:List (Zs×Obj)) (s:Zu) (b:St) (H:Hp) (D:Ends),Inv X a b H s->t D b H->X⁻¹ X.A (exec st X.env) (SP X a D) X.xe s
def iL (X:Cx)(st:List Stmt)(t:TS):Prop:=
 ∀(a:List (Zs×Obj)) (s:Zu) (b:St) (H:Hp) (D:Ends),Inv X a b H s->t D b H->X⁻¹ X.A (execs st X.env) (SP X a D) X.xe s
def aZ {c:Type}{t:Sem c}{Q b:c->Zu->Prop}{M:Model}(h:wpAny M A t Q E s)(d:∀a s,Q a s->b a s):wpAny M A t b E s:=ahA h d λ_ _ x=>x
end L2
variable {D:L2.St}{G:L2.Ends}{X:L2.Cx}
namespace L2
open PySem PySem.Spec PyProof.Rows
section
variable {X:Cx}
theorem bin {b:Expr}{l m:TE}(q:PE X e l)(B:PE X b m){a:List (Zs×Obj)}{s:Zu}{c:St}{H:Hp}{R:V->V->Hp->Prop}(I:Inv X a c H s)(h:l c H λx k=>m c k λy d=>R x y d)
 {n:Type} {Q:n->Zu->Prop} {f:Zt->Zt->Sem n}
 (r:∀v u j x y d,Inv X a c d j->RelV x v->RelV y u->R x y d->X⁻¹ X.A (f v u) Q X.xe j):
 X⁻¹ X.A (eval e X.env) (λv i=>X⁻¹ X.A (eval b X.env) (λu g=>X⁻¹ X.A (f v u) Q X.xe g) X.xe i) X.xe s:=by
 rwa[aZ (q a s c H _ I h) λv z ζ=>?_];let⟨x,k,w,o,C⟩:=ζ
 rwa[aZ (B a z c k _ w C) λu j ζ=>?_];let⟨y,d,t,A,p⟩:=ζ
 rwa[r v u j x y d t o A p]
inductive jd (i:Nat) (σ:St) (H:Hp) (Q:VK):Prop
 |mk (v:V):σ[i]?\some v->Q v H->jd i σ H Q
def tC (v:V):TE:=λ_ H Q=>Q v H
def PY (w:X.N[i]?\x)(t:PX X.env.scope x)(f:(x==("__debug__":Str))=false:=by decide)(g:(x==("__classdict__":Str))=false:=by decide):PE X (.Name x p) (jd i):=by
 intro d s n H Q I h;let⟨v,e,h⟩:=h;let⟨m,o,q⟩:=I.loc;let⟨u,r,l⟩:=q i x v w e t;let fin:EP X d n Q u s:=⟨v,H,I,r,h⟩;rcases l with ⟨b,k⟩|⟨b,c,j,a⟩
 ·rwa[wpAny_Name (wpAny_loadName_local I.ok.kind b o k fin) f]
 ·rcases b with b|b
  ·rwa[wpAny_Name (wpAny_loadName_cell I.ok.kind b j a fin) f]
  ·rwa[wpAny_Name (wpAny_loadName_free I.ok.kind b j a fin g) f]
def au {i j a}:PE X (.Constant (.int i) j a) (tC (.int i)):=λ_ _ _ H _ I h=>wpAny_Constant_int ⟨.int i,H,I.tok _,⟨12⟩,h⟩
def zI {b j a}:PE X (.Constant (.bool b) j a) (tC (.bl b)):=λ_ _ _ H _ I h=>Constant_bool ⟨.bl b,H,I,2,h⟩
def cX {j a}:PE X (.Constant .none j a) (tC .non):=λ_ _ _ H _ I h=>Constant_none ⟨.non,H,I,2,h⟩
def PZ {x j a}:PE X (.Constant (.str x) j a) (tC (.str x)):=λ_ _ _ H _ I h=>Calls.Constant_str ⟨.str x,H,I.tok _,⟨12⟩,h⟩
def Gl (X:Cx)(x:Str):Prop:=X.env.kindOf x=some .globalImplicit
theorem j1 (I:Inv X o D H s)(b:Gl X x)(a:X.mg x\u)(h:Q u s)
 (c:(x==("__debug__":Str))=false:=by decide):X⁻¹ X.A (eval (.Name x p) X.env) Q E s:=
 Calls.Name_function_global I.ok.kind b (Calls.loadGlobal_global ([I.ok.glob]▸I.mod.glob.keeps I.bk) a h) c
theorem gS (I:Inv X o D H s)(b:Gl X x)(a:X.mg x=none)(d:bootBuiltins x\u)(h:Q u s)
 (g:x≠"__name__":=by decide) (c:(x==("__debug__":Str))=false:=by decide):X⁻¹ X.A (eval (.Name x p) X.env) Q E s:=by
 let⟨i,f,e⟩:=I.mod.blt;rwa[Calls.Name_function_global I.ok.kind b (Calls.loadGlobal_builtin ([I.ok.glob]▸I.mod.glob.keeps I.bk) a ([I.ok.blt]▸f.keeps I.bk) ((e x g).trans d) h) c]
def lX {v:V}(b:Gl X x)(a:X.mg x=none)(d:bootBuiltins x\u)(r:RelV v u)(e:x≠"__name__":=by decide)(c:(x==("__debug__":Str))=false:=by decide):PE X (.Name x p) (tC v):=
 λ_ _ _ H _ I h=>gS I b a d ⟨v,H,I,r,h⟩ e c
def t2I (b c:TE)(k:Int->Int->Hp->Prop):St->Hp->Prop:=λ a H=>b a H λx d=>c a d λy e=>∃i j,x=.int i/\y=.int j/\k i j e
variable {a b:Expr}{ta tb:TE}{pos:Pos}
def PC (X:Cx)(g:CmpOp)(a b:Expr)(t:TE):Prop:=
 ∀(c:List (Zs×Obj)) (s:Zu) (f:St) (H:Hp) (Q:VK),Inv X c f H s->t f H Q->
  X⁻¹ X.A (eval a X.env) (λv d=>X⁻¹ X.A (eval b X.env) (λu e=>X⁻¹ X.A (compareOp g v u) (EP X c f Q) X.xe e) X.xe d) X.xe s
def Ji (b:Expr){c:CmpOp}(h:c≠.In)(f:c≠.NotIn):behindInMarks c b=false:=by
 let d:(c==CmpOp.In)=false:=by cbv
 let e:(c==CmpOp.NotIn)=false:=by cbv
 cases b <;> simp[behindInMarks,d,e]
def Yn (p:Int->Int->Bool)(ta tb:TE):TE:=λ c H Q=>t2I ta tb (λi j d=>Q (.bl (p i j)) d) c H
abbrev Ly:TE->TE->TE:=Yn λi j=>decide (i<j)
def tB (t:TE):TT:=λ e H Q=>t e H λx d=>∃c,x=.bl c/\Q c d
def P0 {g:CmpOp}{t:TE}(h:PC X g a b t)(f:behindInMarks g b=false:=by first|rwa[Ji _ (by decide) (by decide)]|rfl):PT X (.Compare a [g] [b] pos) (tB t):=by
 intro e s l H Q I k;rwa[wpAny_isTrue_Compare1 (aZ (h e s l H _ I k) λv w f=>aZ f λu p j=>aZ j λc r ζ=>?_) f];let⟨x,o,m,i,n⟩:=ζ;let⟨d,rfl,q⟩:=n;ext i;rwa[aiy ⟨o,m,q⟩]
def iT {t:TE}(h:PE X e t)(i:∀whole,isTrue e X.env whole=(do let v <-whole;standAt e.pos;holding [v] (truthy v)):=by intro _;rfl):PT X e (tB t):=by
 intro c s j H Q I g;rwa[isTrue_plain (aZ (h c s j H _ I g) λv n ζ=>?_) (i _)];let⟨x,m,k,f,l⟩:=ζ;let⟨d,rfl,q⟩:=l;ext f;rwa[aiy ⟨m,k,q⟩]
variable {tA Lz:TT}{rest:Zr}
def Yo (t u:TT):TT:=λ e H Q=>t e H λc d=>if c=true then u e d Q else Q false d
def tOr (t u:TT):TT:=λ e H Q=>t e H λc d=>if c=true then Q true d else u e d Q
def sG (f:PT X a tA):PW X (.BoolOp .And [a] pos) tA:=by
 intro i d s g H Q I h;rwa[isTrue_and (aZ (f d s g H Q I h) λc j e=>?_)]
 cases c with
 |true=>exact isTrue_and_nil e
 |false=>exact e
def P1 (f:PT X a tA):PW X (.BoolOp .Or [a] pos) tA:=by
 intro i d s g H Q I h;rwa[isTrue_or (aZ (f d s g H Q I h) λc j e=>?_)]
 cases c with
 |false=>exact isTrue_or_nil e
 |true=>exact e
def vm (j:PT X a tA)(k:PW X (.BoolOp .And (b::rest) pos) Lz):PW X (.BoolOp .And (a::b::rest) pos) (Yo tA Lz):=by
 intro l d s i H Q I h;rwa[isTrue_and (aZ (j d s i H _ I h) λc m ζ=>?_)];let⟨g,f,e⟩:=ζ
 cases c with
 |true=>exact k l d m i g Q f e
 |false=>rwa[g,f,e]
def UC (j:PT X a tA)(k:PW X (.BoolOp .Or (b::rest) pos) Lz):PW X (.BoolOp .Or (a::b::rest) pos) (tOr tA Lz):=by
 intro l d s i H Q I h;rwa[isTrue_or (aZ (j d s i H _ I h) λc m ζ=>?_)];let⟨g,f,e⟩:=ζ
 cases c with
 |true=>rwa[g,f,e]
 |false=>exact k l d m i g Q f e
def UD (ta tb:TE):TE:=λ e H Q=>ta e H λx d=>∃c,x=.bl c/\if c=true then tb e d Q else Q (.bl false) d
def Yp (ta tb:TE):TE:=λ e H Q=>ta e H λx d=>∃c,x=.bl c/\if c=true then Q (.bl true) d else tb e d Q
def Gq {e}{t:TE}(h:PE X a t):PE X (.BoolOp e [a] pos) t:=λc s f H Q I d=>BoolOp_one (h c s f H Q I d)
def P8 (j:PE X a ta)(k:PE X (.BoolOp .And (b::rest) pos) tb):PE X (.BoolOp .And (a::b::rest) pos) (UD ta tb):=by
 intro d s i H Q I h;rwa[BoolOp_and (aZ (j d s i H _ I h) λv m ζ=>?_)];let⟨x,g,f,l,e⟩:=ζ;let⟨c,rfl,e⟩:=e;ext l;rwa[aiy ?_]
 cases c with
 |true=>exact k d m i g Q f e
 |false=>rwa[.bl false,g,f,2,e]
def UE (j:PE X a ta)(k:PE X (.BoolOp .Or (b::rest) pos) tb):PE X (.BoolOp .Or (a::b::rest) pos) (Yp ta tb):=by
 intro d s i H Q I h;rwa[BoolOp_or (aZ (j d s i H _ I h) λv m ζ=>?_)];let⟨x,g,f,l,e⟩:=ζ;let⟨c,rfl,e⟩:=e;ext l;rwa[aiy ?_]
 cases c with
 |false=>exact k d m i g Q f e
 |true=>rwa[.bl true,g,f,2,e]
end
def aH (K:Za1)(H:Hp)(a:Zs)(c:Zb):Prop:=
 Rd H a (.lst c)\/
  ∃(o:Obj) (b:Zm) (n:Nat),K.lookup a\o/\o.cls=.type "list"/\o.dict=none/\o.data=.seq b n/\b.size<=sizeLine/\Vals c b.toList
def bC (K:Za1)(H:Hp)(a:Zs)(c:Zb):Prop:=
 Rd H a (.tup c)\/
  ∃(o:Obj) (b:Zm) (n:Nat),K.lookup a\o/\o.cls=.type "tuple"/\o.data=.seq b n/\b.size<=sizeLine/\Vals c b.toList
def Yq:Zt->Zc
 |.none=>some .non
 |.bool b=>some (.bl b)
 |.int i _=>some (.int i)
 |.str x _=>some (.str x)
 |.bytes b _=>some (.nj b)
 |.float b _=>some (.zR b)
 |.ref a=>some ↑a
 |.type n=>some (.ty n)
 |_=>none
def RelV.abs {x:V}(r:RelV x u):Yq u\x:=by
 cases x with
 |non=>ext r;rfl
 |bl _=>ext r;rfl
 |int _=>let⟨t,rfl⟩:=r;rfl
 |str _=>let⟨t,rfl⟩:=r;rfl
 |nj _=>let⟨t,rfl⟩:=r;rfl
 |zR _=>let⟨t,rfl⟩:=r;rfl
 |ref _=>ext r;rfl
 |ty _=>ext r;rfl
def RelV.inj {x:V}(r:RelV x u)(a:RelV q u):x=q:=Za0 (r.abs.symm.trans a.abs)
theorem Vals.inj:∀{b ys:Zb} {a:Zk},Vals b a->Vals ys a->b=ys
 |_,_,_,.nil,.nil=>rfl
 |_,_,_,.cons r t,.cons c d=>by rw[r.inj c,Vals.inj t d]
section
variable {X:Cx}{pins:List (Zs×Obj)}{σ:St}{H:Hp}{s:Zu}{a:Zs}{xs ys:Zb}
def aH.of (h:H a\.lst xs):aH K H a xs:=.inl (.inl h)
def bC.of (h:H a\.tup xs):bC K H a xs:=.inl (.inl h)
def Inv.list (I:Inv X pins σ H s)(h:aH X.K H a xs):∃b:Zk,Vals xs b/\PlainL s.heap a b.toArray/\⇑xs<=sizeLine:=by
 rcases h with h|⟨o,b,n,c,hc,hd,d,hz,r⟩
 ·let⟨z,b,n,r,e⟩:=h.ok I.aO;rwa[b,r,⟨_,n,e,222⟩,z]
 ·erw[b.toList,r,⟨o,n,I.dv a o c,hc,hd,3⟩];let e:=⇑r;simp only[aie]at e;ext
def Inv.tuple (I:Inv X pins σ H s)(h:bC X.K H a xs):∃b:Zk,Vals xs b/\IsTup s.heap a b.toArray/\⇑xs<=sizeLine:=by
 rcases h with h|⟨o,b,n,c,hc,d,hz,r⟩
 ·let⟨z,b,r,p⟩:=h.ok I.aO;rwa[b,r,p,z]
 ·erw[b.toList,r,⟨o,I.dv a o c,hc,n,3⟩];let e:=⇑r;simp only[aie]at e;ext
def Inv.ux (I:Inv X pins σ H s)(h:aH X.K H a xs)(j:aH X.K H a ys):xs=ys:=by
 let⟨c,r,⟨o,n,e,_,_,d⟩,_⟩:=I.list h;let⟨b,i,⟨l,k,g,_,_,f⟩,_⟩:=I.list j;rw[e]at g;ext g;rw[d]at f;injection f with d1 _
 have:c=b:=by simpa using ahT Array.toList d1
 subst this;rwa[r.inj i]
def Inv.Gr (I:Inv X pins σ H s)(h:bC X.K H a xs)(j:bC X.K H a ys):xs=ys:=by
 let⟨c,r,⟨o,e,_,n,d⟩,_⟩:=I.tuple h;let⟨b,i,⟨l,g,_,k,f⟩,_⟩:=I.tuple j;rw[e]at g;ext g;rw[d]at f;injection f with d1 _
 have:c=b:=by simpa using ahT Array.toList d1
 subst this;rwa[r.inj i]
end
abbrev Cx.wish (X:Cx) (E:Zt->Zu->Prop):Cx:={ X with xe:=E }
abbrev Cx.tO (X:Cx):Cx:=X.wish λ_ _=>False
def Cx.Ok.wish (ok:X.Ok)(E:Zt->Zu->Prop):(X.wish E).Ok:=
 ⟨ok.mod,ok.kind,ok.glob,ok.blt,ok.above,ok.inj,ok.has,ok.zS,ok.hd,ok.frames,ok.Dr,ok.Lx,ok.bs,ok.qS,ok.ur,ok.xq,ok.jc,ok.tN⟩
def Cx.Ok.hX (ok:(X.wish E).Ok):X.Ok:=
 ⟨ok.mod,ok.kind,ok.glob,ok.blt,ok.above,ok.inj,ok.has,ok.zS,ok.hd,ok.frames,ok.Dr,ok.Lx,ok.bs,ok.qS,ok.ur,ok.xq,ok.jc,ok.tN⟩
section
variable {X:Cx}{pins:List (Zs×Obj)}{σ:St}{H:Hp}{s:Zu}{E:Zt->Zu->Prop}
def Inv.wish (I:Inv X pins σ H s)(E:Zt->Zu->Prop):Inv (X.wish E) pins σ H s:=⟨I.ok.wish E,I.os,I.bare,I.base,I.loc,I.cell,I.free,I.gH,I.pin,I.aO,I.len⟩
def Inv.hX (I:Inv (X.wish E) pins σ H s):Inv X pins σ H s:=⟨I.ok.hX,I.os,I.bare,I.base,I.loc,I.cell,I.free,I.gH,I.pin,I.aO,I.len⟩
def SP.hX {f:Flow}(h:SP (X.wish E) pins G f t):SP X pins G f t:=by
 cases f with
 |next=>let⟨a,b,I,q⟩:=h;rwa[a,b,I.hX,q]
 |brk=>let⟨a,b,I,q⟩:=h;rwa[a,b,I.hX,q]
 |cont=>let⟨a,b,I,q⟩:=h;rwa[a,b,I.hX,q]
 |ret u=>let⟨v,a,b,I,r,q⟩:=h;rwa[v,a,b,I.hX,r,q]
def iL.tO {st:List Stmt}{t:TS}(h:iL X.tO st t):iL X st t:=λpins s σ H D I a=>
 ahA (h pins s σ H D (I.wish _) a) (λ_ _ q=>q.hX) λ_ _ z=>False.elim z
end
section
variable {X:Cx}{st:Stmt}{rest:List Stmt}{t u:TS}{e:Expr}{te:TE}{pos:Pos}
def UG:TS:=λD a H=>D.nx a H
def aP (t u:TS):TS:=λD a H=>t { D with nx:=u D } a H
def bq:iL X [] UG:=λ_ _ a H _ I h=>aiS ⟨a,H,I,h⟩
def ai (i:PS X st t)(d:iL X rest u):iL X (st::rest) (aP t u):=by
 intro a s j H D I h;rwa[wpAny_execs_cons (aZ (i a s j H { D with nx:=u D } I h) λf k q=>?_)]
 cases f with
 |next=>
  let⟨b,c,g,q⟩:=q;rwa[d a k b c D g q]
 |ret v=>exact q
 |brk=>exact q
 |cont=>exact q
def aw (b:PS X st t):iL X [st] t:=by
 intro a s c H D I h;rwa[wpAny_execs_cons (aZ (b a s c H D I h) λf d q=>?_)]
 cases f with
 |next=>exact aiS q
 |ret v=>exact q
 |brk=>exact q
 |cont=>exact q
def P9:TS:=λD a H=>D.bk a H
def uy:PS X (.Break pos) P9:=λ_ _ a H _ I h=>wpAny_Break ⟨a,H,I,h⟩
def Inv.quiet (I:Inv X o D H s):interactive X.env=false:=by simp[interactive,I.ok.kind]
def UH (te:TE):TS:=λD a H=>te a H λ_ b=>D.nx a b
def aU (f:PE X e te)(d:swapsWith e none pos.line X.env=pure false:=by rfl):PS X (.Expr e pos) (UH te):=by
 intro a s b H D I h;rwa[wpAny_Expr_any (aZ (f a s b H _ I h) λv k ζ=>?_) I.quiet d];let⟨x,i,g,j,c⟩:=ζ;rwa[⟨b,i,g,c⟩]
def Yr (te:TE):TS:=λD a H=>te a H D.rt
def bx (f:PE X e te):PS X (.Return (some e) pos) (Yr te):=by
 intro a s b H D I h;rwa[wpAny_Return_some (aZ (f a s b H _ I h) λv j ζ=>?_)];let⟨x,i,g,d,c⟩:=ζ;rwa[⟨x,b,i,g,d,c⟩]
def UI:TS:=λD _ H=>D.rt .non H
def xr:PS X (.Return none pos) UI:=λ_ _ a H _ I h=>wpAny_Return_none ⟨.non,a,H,I,2,h⟩
def Ys (c:TT)(t u:TS):TS:=λD a H=>c a H λb d=>if b=true then t D a d else u D a d
def bI {c:Expr}{a b:List Stmt}{l:TT}(o:PT X c l)(n:iL X a t)(p:iL X b u):PS X (.If c a b pos) (Ys l t u):=by
 intro f s g H D I h;rwa[wpAny_If (aZ (o f s g H _ I h) λd j ζ=>?_)];let⟨m,i,k⟩:=ζ
 cases d with
 |true=>exact n f j g m D i k
 |false=>exact p f j g m D i k
def Gs:TS:=λ_ _ _=>False
def Jj:PS X st Gs:=λ_ _ _ _ _ _ h=>h.elim
def kD {a:List Stmt}:iL X a Gs:=λ_ _ _ _ _ _ h=>h.elim
end
abbrev TG:=V->St->Hp->(St->Hp->Prop)->Prop
abbrev Ds:=Zb->St->Hp->(St->Hp->Prop)->Prop
def PG (X:Cx)(target:Expr)(t:TG):Prop:=
 ∀(a:List (Zs×Obj)) (s:Zu) (d:St) (H:Hp) (v:V) (u:Zt) (Q:St->Hp->Prop),Inv X a d H s->RelV v u->t v d H Q->
  X⁻¹ X.A (assign target X.env u) (λ_ e=>∃ b c,Inv X a b c e/\Q b c) X.xe s
def LC (X:Cx)(g:Zr)(t:Ds):Prop:=
 ∀(a:List (Zs×Obj)) (s:Zu) (f:St) (H:Hp) (c:Zb) (e:Zk) (Q:St->Hp->Prop),Inv X a f H s->Vals c e->t c f H Q->
  X⁻¹ X.A (assignInOrder ((assignEach g X.env).map (·.2)) e) (λ_ h=>∃ b d,Inv X a b d h/\Q b d) X.xe s
abbrev Jk:=V->V->V->Hp->(Hp->Prop)->Prop
def Qa (X:Cx)(t:Jk):Prop:=
 ∀(a:List (Zs×Obj)) (s:Zu) (e:St) (H:Hp) (o i v:V) (d b u:Zt) (Q:Hp->Prop),Inv X a e H s->RelV o d->RelV i b->RelV v u->t o i v H Q->
  X⁻¹ X.A (setItem d b u) (λ_ f=>∃c,Inv X a e c f/\Q c) X.xe s
section
variable {X:Cx}{pos:Pos}
def nk (i:Nat):TG:=λv a H Q=>Q (a.set i (some v)) H
def Du (f:X.N.Nodup)(c:X.N[i]?\x)(b:Loc X.env.scope x)(e:X.fn x=true\/X.env.scope.names.lookup x=some .local:=by trivial):PG X (.Name x pos) (nk i):=by
 intro a s j H v u Q I r h;rwa[wpAny_assign_Name (pG I f c b r (λg d=>⟨_,H,d,h⟩) e)]
def Yt:Ds:=λa b H Q=>a=[]/\Q b H
inductive LD (t:TG) (u:Ds) (vs:Zb) (σ:St) (H:Hp) (Q:(St->Hp->Prop)):Prop
 |mk (v:V) (r:Zb):vs=v::r->(t v σ H λ fx H'=>u r fx H' Q)->LD t u vs σ H Q
def jn:LC X [] Yt:=by
 intro a s b H c d Q I r h;let⟨e,h⟩:=h;subst e;rwa[assignInOrder_nil ⟨b,H,I,h⟩]
theorem cE {t:TG}{u:Ds}(f:PG X e t)(c:LC X C u)
 (i:(assignEach (e::C) X.env).map (·.2)=assign e X.env::(assignEach C X.env).map (·.2):=by rfl):LC X (e::C) (LD t u):=by
 intro a s g H q o Q I r h;let⟨v,p,l,h⟩:=h;subst l
 cases r with
 |cons r d=>
  rw[i];rwa[assignInOrder_cons (aZ (f a s g H _ _ _ I r h) λ_ k ζ=>?_)];let⟨b,n,j,m⟩:=ζ;rwa[c a k b n _ _ Q j d m]
inductive Qb (K:Za1) (n:Nat) (t:Ds) (v:V) (σ:St) (H:Hp) (Q:(St->Hp->Prop)):Prop
 |mk (a:Zs) (xs:Zb):v=↑a->bC K H a xs->⇑xs=n->t xs σ H Q->Qb K n t v σ H Q
theorem kF {k:Nat}{t:Ds}(B:X.calm=true)(h:LC X C t)
 (w:⇑(assignEach C X.env)=n:=by rfl) (f:(assignEach C X.env).findIdx? (·.1)=none:=by rfl):PG X (.Tuple C k pos) (Qb X.K n t):=by
 intro c s g H v u Q I r d;let⟨a,q,x,p,y,d⟩:=d;subst x;ext r;let⟨A,i,l,E⟩:=I.tuple p;rwa[assign_Tuple_tuple (I.ok.hd B) l (by simp[w,<-y,⇑i]) f λz j=>?_]
 let m:Inv X c g H (s<*z):=I.kept (t':=s.toks) λb o e=>j b o (ag2 (agQ e)) e
 rwa[h c _ g H q _ Q m ∅ d]
def Yu (to e:TE)(t:Jk):TG:=λv a H Q=>to a H λo c=>e a c λi d=>t o i v d λb=>Q a b
theorem vn {i:Expr}{to f:TE}{t:Jk}(j:PE X e to)(k:PE X i f)(p:Qa X t)
 (F:∀v,assign (.Subscript e i pos) X.env v=(do
  let b <-holding [v] (eval e X.env)
  let c <-holding [v,b] (eval i X.env)
  standAt pos
  holding [v,b,c] (setItem b c v)
  release [v,b,c] []):=by intro _;rfl):PG X (.Subscript e i pos) (Yu to f t):=by
 intro a s d H v u Q I r h;rwa[ags (ahF (aZ (j a s d H _ I h) λb z ζ=>?_))];let⟨x,D,w,g,C⟩:=ζ;rwa[ags (ahF (aZ (k a z d D _ w C) λc n ζ=>?_))];let⟨y,E,q,A,l⟩:=ζ;rwa[ags (ajm (ags (ahF (aZ (p a n d E x y v b c u _ q g A r l) λ_ G ζ=>?_))))];let⟨m,o,B⟩:=ζ;rwa[wpAny_release ⟨d,m,o,B⟩]
def xt (b:TE)(g:TG):TS:=λD a H=>b a H λx c=>g x a c D.nx
def kH {a:Expr}{c:TE}{g:TG}(j:PE X a c)(o:PG X e g)(l:swapsWithSole [e] a pos.line X.env=pure false:=by rfl)(i:swappedStores [e] a X.env=pure none:=by rfl)
 (k:(assignEach [e] X.env).map (·.2)=[assign e X.env]:=by rfl):PS X (.Assign [e] a pos) (xt c g):=by
 intro b s d H D I h;rwa[wpAny_Assign_stores (aZ (j b s d H _ I h) λv n ζ=>?_) l i];let⟨x,r,m,f,p⟩:=ζ;rw[k];rwa[aZ (o b n d r x v _ m f p) λ_ t q=>q]
def Qc {b:TE}{pos':Pos}(q:X.N.Nodup)(d:X.N[i]?\x)(f:Loc X.env.scope x)(g:PE X e b)(l:swapsWith e (some (.Name x pos')) pos.line X.env=pure false:=by rfl)(j:X.fn x=true\/X.env.scope.names.lookup x=some .local:=by trivial):
 PS X (.Assign [.Name x pos'] e pos) (xt b (nk i)):=by
 intro a s k H D I h;rwa[wpAny_Assign_Name (aZ (g a s k H _ I h) λv t ζ=>?_) l];let⟨y,p,n,c,o⟩:=ζ;rwa[pG n q d f c (λr m=>⟨_,p,m,o⟩) j]
inductive ipI (f:Int->Int->Int) (x:V) (y:V) (H:Hp) (Q:VK):Prop
 |mk (i j:Int):x=.int i->y=.int j->Q (.int (f i j)) H->ipI f x y H Q
end
section
variable {X:Cx}{pos:Pos}
def Qd (c:TT)(h:TS):TS:=λD a H=>∃W:Nat->St->Hp->Prop,(∃m,W m a H)/\∀m a H,W m a H->
 c a H λb g=>if b=true then ∃N:St->Hp->Prop,(∀ d f,N d f->∃e,e<m/\W e d f)/\h { D with nx:=N,ct:=N,bk:=D.nx } a g else D.nx a g
def gI {body:List Stmt}{y:TT}{w:TS}(r:PassesOwn (model X.prog X.w) X.A X.env X.xe)(P:PT X e y)(L:iL X body w):PS X (.While e body [] pos) (Qd y w):=by
 intro a s B H D I h;let⟨W,⟨J,O⟩,turn⟩:=h;rwa[wpAny_While (codeAny_whileLoop (λn M=>∃ g t,Inv X a g t M/\W n g t) ?_ J ⟨B,H,I,O⟩)];rintro n G ⟨d,z,E,F⟩;rwa[aiT r (aZ (P a G d z _ E (turn n d z F)) λb C ζ=>?_)];let⟨A,u,j⟩:=ζ
 cases b with
 |true=>
  let⟨N,x,j⟩:=j;rwa[aiT r (aZ (L a C d A _ u j) λf Q k=>?_)]
  cases f with
  |next=>
   let⟨c,i,o,p⟩:=k;let⟨q,l,m⟩:=x c i p;rwa[q,l,c,i,o,m]
  |cont=>
   let⟨c,i,o,p⟩:=k;let⟨q,l,m⟩:=x c i p;rwa[q,l,c,i,o,m]
  |brk=>exact k
  |ret v=>exact k
 |false=>
  rwa[aiS ⟨d,A,u,j⟩]
end
structure It where
 go:Nat->Hp->Prop
 ml:Nat->Hp->V->Hp->Prop
 stop:Nat->Hp->Prop
def pH (X:Cx)(a:List (Zs×Obj))(H:Hp)(b:Zs):Prop:=
 H b=none/\b≠X.env.locals/\b∉X.fs/\(b∈X.ex\/X.eA.heap.objs.size<=b)/\(∀x c,X.env.cells.lookup x\c->c≠b)/\∀p∈X.pn++a,p.1≠b
def Inv.pJ (a:Inv X o D H s)(d:↥s<=b)(g:I b=none):pH X o I b:=by
 rwa[⟨g,ahL (agY a.lt d),a.EW d,.inr (agJ a.sz d),λx c e z=>?_,λp f z=>?_⟩]
 ·let⟨v,q⟩:=a.cell x c e;rwa[absurd (agY q.lt ([z]▸d)) (ahN _)]
 ·rwa[absurd (agY (agQ (a.pin p f).1) ([z]▸d)) (ahN _)]
structure Turn (P:Program) (w:World) (K:Za1) (tg:Expr) (J:It) (fp:Zn) (it:Zs) (tn:Nat->Heap->Prop):Prop where
 mem:it∈fp
 obj:∀i h,tn i h->∀b∈fp,∃o,h.get? b\o/\∀v,o.data≠.cell v
 keep:∀i h h',tn i h->(∀b∈fp,∀o,h.get? b\o->h'.get? b\o)->tn i h'
 item:∀(X:Cx),X.prog=P->X.w=w->X.K=K->X.calm=true->∀(i:Nat) (pins:List (Zs×Obj)) (s:Zu) (σ:St) (H:Hp) (E:Zt->Zu->Prop),Inv X pins σ H s->(∀b∈fp,pH X pins H b)->tn i s.heap->J.go i H->
  (P<|>w) X.A (pyNext ↑it) (λr s1=>∃u,r\u/\
   (P<|>w) X.A (letOwnedTupleGo tg ↑it u) (λ_ s2=>∃x H',Inv X pins σ H' s2/\RelV x u/\J.ml i H x H'/\tn (i+ 1) s2.heap/\∀b∈fp,H' b=none) E s1) E s
 done:∀(X:Cx),X.prog=P->X.w=w->X.K=K->X.calm=true->∀(i:Nat) (pins:List (Zs×Obj)) (s:Zu) (σ:St) (H:Hp) (E:Zt->Zu->Prop),Inv X pins σ H s->(∀b∈fp,pH X pins H b)->tn i s.heap->J.stop i H->
  (P<|>w) X.A (pyNext ↑it) (λr s1=>r=none/\Inv X pins σ H s1) E s
 self:∀(A:Around) (i:Nat) (s:Zu) (Q:Zt->Zu->Prop) (E:Zt->Zu->Prop),tn i s.heap->Q ↑it s->(P<|>w) A (pyIter ↑it) Q E s
abbrev TI:=St->Hp->(It->Hp->Prop)->Prop
def VX (X:Cx)(a:List (Zs×Obj))(h:St)(g:Expr)(R:It->Hp->Prop)(d:Zt)(s2:Zu):Prop:=
 ∃(it:Zs) (e:Zn) (f:Nat->Heap->Prop) (J:It) (c:Hp),d=↑it/\Inv X a h c s2/\Turn X.prog X.w X.K g J e it f/\f 0 s2.heap/\(∀b∈e,pH X a c b)/\R J c
def PI (X:Cx)(d iter:Expr)(c:TI):Prop:=
 ∀(a:List (Zs×Obj)) (s:Zu) (b:St) (H:Hp) (R:It->Hp->Prop),Inv X a b H s->c b H R->
  X⁻¹ X.A (eval iter X.env) (λv e=>X⁻¹ X.A (pyIter v) (VX X a b d R) X.xe e) X.xe s
theorem zJ {M:Model}{it:Zs}{o:Obj}{n:String}{b:Zm}(d:s.heap.get? it\o)(f:o.cls=.type n)(c:o.data=.fields b)
 (g:["enumerate","zip","dict_itemiterator","dict_reverseitemiterator","odict_iterator","itertools.zip_longest","itertools.pairwise"].contains n=false) (a:U () s):wpAny M A (letOwnedTupleGo e ↑it u) U E s:=by
 cases e <;> first
  |rwa[agz a]
  |(cases u <;> first
   |rwa[agz a]
   |(rwa[ags (wpAny_load d ?_)]
     rw[f,c];show wpAny M A (if (["enumerate","zip","dict_itemiterator","dict_reverseitemiterator","odict_iterator","itertools.zip_longest","itertools.pairwise"].contains n && b[0]?==some (rawInt _))=true then _ else _) U E s;rw[agT (by cbv)];rwa[agz a]))
def yn (K:Za1)(a:Zs):It:=
 ⟨λi H=>∃xs x,aH K H a xs/\xs[i]?\x,λi H x b=>b=H/\∀xs,aH K H a xs->xs[i]?\x,λi H=>∃xs,aH K H a xs/\⇑xs<=i⟩
def yo (K:Za1)(a:Zs):It:=
 ⟨λi H=>∃xs x,bC K H a xs/\xs[i]?\x,λi H x b=>b=H/\∀xs,bC K H a xs->xs[i]?\x,λi H=>∃xs,bC K H a xs/\⇑xs<=i⟩
def vo (lo:Int)(n:Nat):It:=⟨λi _=>i<n,λi H x a=>a=H/\x=.int (lo+ i),λi _=>n<=i⟩
theorem Gu (a it:Zs):Turn P w K e (yn K a) [it] it (λi h=>h.IsListIter it a i) where
 mem:=by simp
 obj:=λi h st b j=>by
  let f:b=it:=by simpa using j
  subst f;let⟨o,f,c,d⟩:=st
  cbv
 keep:=λi h q st k=>st.at λo f=>k it (by simp) o f
 item:=by
  intro X G v C M i g s L H E I m st B;subst G v C;let⟨V,x,n,z⟩:=B;let⟨J,y,p,U⟩:=I.list n;let⟨u,W,R⟩:=y.get z;let⟨D,A,S,r,F,t⟩:=m it (by simp);rwa[wpAny_pyNext_list_item st p.isList (x:=u) (by simpa using W) λq l O=>?_]
  let T:Inv X g L H (s<*q):=I.turned (t':=s.toks) (λb o j f=>(O.2 b j).trans f) D A r F t;let⟨o,f,c,d⟩:=id l;rwa[u,2,zJ (s:=(s<*q)) f c d ⋯ ⟨x,H,T,R,⟨2,λys N=>[I.ux N n]▸z⟩,l,λb j=>(m b j).1⟩]
 done:=by
  intro X G v C M i g s L H E I m st B;subst G v C;let⟨V,n,z⟩:=B;let⟨J,y,p,U⟩:=I.list n;let⟨D,A,S,r,F,t⟩:=m it (by simp);let Z:=⇑y;rwa[wpAny_pyNext_list_end (I.ok.hd M) st p.isList (by simp;omega) λq Y=>⟨2,I.turned (t':=s.toks) (λb o j f=>Y b o j f) D A r F t⟩]
 self:=λ_ _ _ _ _ st h=>wpAny_pyIter_listiter st h
theorem EY (a it:Zs):Turn P w K e (yo K a) [it] it (λi h=>h.IsTupleIter it a i) where
 mem:=by simp
 obj:=λi h st b j=>by
  let f:b=it:=by simpa using j
  subst f;let⟨o,f,c,d⟩:=st
  cbv
 keep:=λi h r st k=>st.at λo f=>k it (by simp) o f
 item:=by
  intro X J y D M i g s L H E I n st C;subst J y D;let⟨V,x,q,A⟩:=C;let⟨l,z,p,U⟩:=I.tuple q;let⟨u,W,R⟩:=z.get A;let⟨F,B,S,t,G,v⟩:=n it (by simp);rwa[wpAny_pyNext_tuple_item st (show s.heap.IsTuple a l.toArray from p) (x:=u) (by simpa using W) λr m O=>?_]
  let T:Inv X g L H (s<*r):=I.turned (t':=s.toks) (λb o j f=>(O.2 b j).trans f) F B t G v;let⟨o,f,c,d⟩:=id m;rwa[u,2,zJ (s:=(s<*r)) f c d ⋯ ⟨x,H,T,R,⟨2,λys N=>[I.Gr N q]▸A⟩,m,λb j=>(n b j).1⟩]
 done:=by
  intro X J y D M i g s L H E I n st C;subst J y D;let⟨V,q,A⟩:=C;let⟨l,z,p,U⟩:=I.tuple q;let⟨F,B,S,t,G,v⟩:=n it (by simp);let Z:=⇑z;rwa[wpAny_pyNext_tuple_end (I.ok.hd M) st (show s.heap.IsTuple a l.toArray from p) (by simp;omega) λr Y=>⟨2,I.turned (t':=s.toks) (λb o j f=>Y b o j f) F B t G v⟩]
 self:=λ_ _ _ _ _ st h=>wpAny_pyIter_tupleiter st h
theorem EZ (it:Zs)(lo:Int)(n:Nat):Turn P w K e (vo lo n) [it] it (λi h=>IsRangeIter h it (lo+ (i:Nat)* 1) ((n:Int) - (i:Nat)) 1) where
 mem:=by simp
 obj:=λi h st b f=>by
  cbv
 keep:=λi h j st k=>k it (by simp) _ st
 item:=by
  intro X D z C x i c s B H E I g st q;subst D z C;let⟨r,p,G,l,u,m⟩:=g it (by simp);let W:=Walks.range (prog:=X.prog) (w:=X.w) (I.ok.hd x) it lo 1 n;rwa[W.item i s _ _ q st λv j y L d F=>?_]
  let⟨t,rfl⟩:=L;let J:Inv X c B H { s with heap:=j,toks:=y }:=I.turned (λb o f a=>F b o (by cbv) a) r p l u m;rwa[⟨12,zJ (s:={ s with heap:=j,toks:=y }) (n:="range_iterator") d rfl rfl ⋯ ⟨.int (lo+ i),H,J,⟨t,5⟩,⟨22⟩,d,λb f=>(g b f).1⟩⟩]
  cbv
 done:=by
  intro X D z C x i c s B H E I g st q;let⟨r,p,G,l,u,m⟩:=g it (by simp);rwa[wpAny_pyNext_range_end (I.ok.hd x) st (by have:n<=i:=q;omega) λj M=>⟨2,I.turned (t':=s.toks) (λb o f a=>M b o f a) r p l u m⟩]
 self:=λ_ _ _ _ _ st h=>wpAny_pyIter_rangeiter st h
section
variable {X:Cx}{tg:Expr}
def UJ (K:Za1)(tl:TE):TI:=λ d H R=>tl d H λx b=>∃a,x=↑a/\(∃c,aH K b a c)/\R (yn K a) b
def Yv (K:Za1)(tl:TE):TI:=λ d H R=>tl d H λx b=>∃a,x=↑a/\(∃c,bC K b a c)/\R (yo K a) b
def da {tl:TE}(m:PE X e tl):PI X tg e (UJ X.K tl):=by
 intro d s i H R I h;rwa[aZ (m d s i H _ I h) λv s1 ζ=>?_];let⟨x,r,f,g,k⟩:=ζ
 let⟨a,c,⟨y,j⟩,q⟩:=k;subst c;ext g;let⟨n,t,p,w⟩:=f.list j;rwa[aiU p.isList ?_];rwa[⟨↥s1,[↥s1],11,r,2,f.kept (t':=s1.toks) λb o c=>agt _ c,Gu a _,⟨_,agK _ rfl,22⟩,λb l=>?_,q⟩];let c:b=↥s1:=by simpa using l
 subst c;rwa[f.pJ (agA _) (f.aO.fresh (agA _))]
def vp {tl:TE}(n:PE X e tl):PI X tg e (Yv X.K tl):=by
 intro d s j H R I h;rwa[aZ (n d s j H _ I h) λv s1 ζ=>?_];let⟨x,r,f,i,l⟩:=ζ
 let⟨a,c,⟨y,k⟩,q⟩:=l;subst c;ext i;let⟨g,t,p,w⟩:=f.tuple k;rwa[wpAny_pyIter_tuple (show s1.heap.IsTuple a g.toArray from p) ?_];rwa[⟨↥s1,[↥s1],11,r,2,f.kept (t':=s1.toks) λb o c=>agt _ c,EY a _,⟨_,agK _ rfl,22⟩,λb m=>?_,q⟩];let c:b=↥s1:=by simpa using m
 subst c;rwa[f.pJ (agA _) (f.aO.fresh (agA _))]
theorem zU {R:It->Hp->Prop}{lo:Int}{t u v:Tok}(I:Inv X o D H s)(i: -(2 ^ 62)<=lo)(f:lo<2 ^ 62)(h: -(2 ^ 62)<=z)(g:z<2 ^ 62)
 (q:R (vo lo (z - lo).toNat) H):X⁻¹ X.A (pyIter ↑↥s) (VX X o D tg R) E { s with heap:=s.heap.push ("range">>>.fields #[.int lo t,.int z u,.int 1 v]),toks:=n }:=by
 rwa[wpAny_pyIter_range (IsRange.new ..) (small_one i f h g) ?_];let c:Inv X o D H { s with heap:=s.heap.push ("range">>>.fields #[.int lo t,.int z u,.int 1 v]),toks:=n }:=I.kept λb a e=>agt _ e
 rwa[⟨(s.heap.push ("range">>>.fields #[.int lo t,.int z u,.int 1 v])).objs.size,[(s.heap.push ("range">>>.fields #[.int lo t,.int z u,.int 1 v])).objs.size],11,H,2,c.kept (t':=n) λb a e=>agt _ e,EZ _ lo (z - lo).toNat,5,λb k=>?_,q⟩]
 ·let j:lo+ ((0:Nat):Int)* 1=lo:=by simp
  let d:(((z - lo).toNat:Nat):Int) - ((0:Nat):Int)=Builtin.Range.rangeSize lo z 1:=by rw[rangeSize_one];split <;> ext
  rw[j,d];rwa[agK _ rfl]
 ·let e:b=(s.heap.push ("range">>>.fields #[.int lo t,.int z u,.int 1 v])).objs.size:=by simpa using k
  subst e;rwa[c.pJ (agA _) (c.aO.fresh (agA _))]
def UK (b:TA):TI:=λ d H R=>b d H λa c=>∃j:Int,a=[.int j]/\-(2 ^ 62)<=j/\j<2 ^ 62/\R (vo 0 j.toNat) c
def UL (b:TA):TI:=λ d H R=>b d H λa c=>∃i j:Int,a=[.int i,.int j]/\(-(2 ^ 62)<=i/\i<2 ^ 62/\-(2 ^ 62)<=j/\j<2 ^ 62)/\R (vo i (j - i).toNat) c
def ia {f:TA}{c:Pos}(v:Gl X "range")(g:X.mg "range"=none)(m:PA X [e] f)(o:starEach [e] X.env=[(false,eval e X.env)]:=by rfl):PI X tg (.Call (.Name "range" p) [e] [] c) (UK f):=by
 intro a s n H R I h;rwa[Call_ (gS I v g boot_range (ahz (aZ (m c a s n H _ I h) λw x ζ=>?_) o rfl))];let⟨y,z,u,i,d⟩:=ζ;let⟨j,b,d,k,q⟩:=d;subst b
 cases i with
 |cons r l=>
  ext l;let⟨t,rfl⟩:=r;rwa[call_range_1 (zU u ∅ ∅ d k (by simpa using q))]
theorem ny {b:Expr}{l:TA}{d:Pos}(z:Gl X "range")(m:X.mg "range"=none)(v:PA X [e,b] l)(x:starEach [e,b] X.env=[(false,eval e X.env),(false,eval b X.env)]:=by rfl)(f:starEach [b] X.env=[(false,eval b X.env)]:=by rfl):
 PI X tg (.Call (.Name "range" p) [e,b] [] d) (UL l):=by
 intro a s w H R I h;rwa[Call_ (gS I z m boot_range (ahz (aZ (v d a s w H _ I h) λC E ζ=>?_) (by rw[x,f]) (by rw[f];rfl)))];let⟨F,G,y,o,k⟩:=ζ;let⟨i,j,c,⟨k,u,A,B⟩,q⟩:=k;subst c
 cases o with
 |cons r g=>
  cases g with
  |cons n g=>
   ext g;let⟨t,rfl⟩:=r;let⟨D,rfl⟩:=n;rwa[call_range_2 (zU y k u A B q)]
def Yw (f:TI)(g:TG)(h:TS):TS:=λD a H=>f a H λJ j=>∃W:Nat->Nat->St->Hp->Prop,(∃m,W 0 m a j)/\∀i m a H,W i m a H->
 (J.stop i H/\D.nx a H)\/(J.go i H/\∃N:St->Hp->Prop,(∀ c b,N c b->∃e,e<m/\W (i+ 1) e c b)/\∀x b,J.ml i H x b->g x a b λ d k=>h { D with nx:=N,ct:=N,bk:=D.nx } d k)
def vq (a:Zn)(h:Heap):List (Zs×Obj):=a.filterMap λb=>(h.get? b).map λo=>(b,o)
def iw {o:Obj}(a:b∈F)(e:h.get? b\o):(b,o)∈vq F h:=ajL.mpr ⟨b,a,by rw[e];rfl⟩
def Gv {p:Zs×Obj}(a:p∈vq F h):p.1∈F/\h.get? p.1\p.2:=by
 let⟨b,c,e⟩:=ajL.mp a
 cases q:h.get? b with
 |none=>rw[q]at e;ext e
 |some o=>
  cbv
def Inv.pinned (I:Inv X o D H s)(f:∀b∈F,pH X o H b)(g:∀b∈F,∃a,s.heap.get? b\a/\∀v,a.data≠.cell v):Inv X (o++vq F s.heap) D H s:=
 I.jm λp d=>(agH.mp d).elim (λz=>I.pin p (agB _ z)) λz=>by
  let⟨c,e⟩:=Gv z;let⟨h,f1,i,_⟩:=f p.1 c
  cbv
def Inv.uz {pl:List (Zs×Obj)}(I:Inv X (o++pl) D H s):Inv X o D H s:=I.jm λp a=>I.pin p (agB _ (agU _ a))
theorem cP {iter:Expr}{body:List Stmt}{wi:TI}{g:TG}{Y:TS}(C:PassesOwn (model X.prog X.w) X.A X.env X.xe)(hc:X.calm=true)(hi:PI X tg iter wi)(hg:PG X tg g)(k:iL X body Y)
 (hs:∀x,foldedSetIterable iter X.env x=pure x:=by intro _;rfl):PS X (.For tg iter body [] p) (Yw wi g Y):=by
 intro c s σ H D I h;rwa[wpAny_For (aZ (hi c s σ H _ I h) λv s1 h1=>aZ h1 λitv s2 h2=>?_) hs];let⟨it,E,tn,J,H2,e,I2,T,P,S,W,⟨m0,w0⟩,turn⟩:=h2;subst e
 let stat:∀{w:Hp},(∀b∈E,w b=none)->∀b∈E,pH X c w b:=λhn b k=>⟨hn b k,(S b k).2⟩
 rwa[codeAny_forLoop_any (λn s'=>∃i t w,Inv X c t w s'/\tn i s'.heap/\(∀b∈E,w b=none)/\W i n t w) ?_ m0 ⟨(0),σ,H2,I2,P,λb k=>(S b k).1,w0⟩];rintro n Z ⟨i,q,G,U,A,B,w3⟩;rcases turn i n q G w3 with ⟨stop,qn⟩|⟨go,N,hN,step⟩
 ·rwa[aiT C (aZ (T.done X rfl rfl rfl hc i c Z q G X.xe U (stat B) A stop) λr s4 ζ=>?_)];let⟨O,I4⟩:=ζ;subst O;rwa[aiS ⟨q,G,I4,qn⟩]
 ·rwa[aiT C (aZ (T.item X rfl rfl rfl hc i c Z q G X.xe U (stat B) A go) λr s4 ζ=>?_)];let⟨u,O,h4⟩:=ζ;subst O;rwa[aiT C (aZ h4 λ_ s5 ζ=>?_)];let⟨x,V,I5,r5,y5,z,L⟩:=ζ;let M:=I5.pinned (stat L) (T.obj^z);rwa[aiT C (aZ (hg _ s5 q V x u _ M r5 (step x V y5)) λ_ s6 ζ=>?_)];let⟨R,H6,I6,q6⟩:=ζ;rwa[aiT C (aZ (k _ s6 R H6 _ I6 q6) λf Q y=>?_)]
  let again:∀{a:St} {l:Hp},Inv X (c++vq E s5.heap) a l Q->N a l->∃m,m<n/\∃i t w,Inv X c t w Q/\tn i Q.heap/\(∀b∈E,w b=none)/\W i m t w:=λ{a l} j F=>by
   let⟨m',hm,w7⟩:=hN a l F;rwa[⟨m',hm,i+ 1,a,l,j.uz,T.keep _ _ _ z λb k o e=>(j.pin (b,o) (agB _ (agB _ (iw k e)))).1,λb k=>?_,w7⟩];let⟨o,e,d⟩:=T.obj _ _ z b k;rwa[(j.pin (b,o) (agB _ (agB _ (iw k e)))).2.1]
  cases f with
  |next=>let⟨a,l,j,F⟩:=y;rwa[again j F]
  |cont=>let⟨a,l,j,F⟩:=y;rwa[again j F]
  |brk=>let⟨a,l,j,y⟩:=y;rwa[a,l,j.uz,y]
  |ret v=>let⟨x7,a,l,j,r7,y⟩:=y;rwa[x7,a,l,j.uz,r7,y]
end
theorem fI {xs:Zb}{g:TG}{l:TS}(b:Nat->St->Hp->Prop)(o:b 0 D H)(u:∀i D H,i<=⇑xs->b i D H->aH K H a xs)
 (s:∀i x D H,xs[i]?\x->b i D H->g x D H λ c j=>l { G with nx:=b (i+ 1),ct:=b (i+ 1),bk:=G.nx } c j) (t:∀ D H,b ⇑xs D H->G.nx D H):
 ∃W:Nat->Nat->St->Hp->Prop,(∃m,W 0 m D H)/\∀i m D H,W i m D H->
  ((yn K a).stop i H/\G.nx D H)\/((yn K a).go i H/\∃N:St->Hp->Prop,(∀ d f,N d f->∃k,k<m/\W (i+ 1) k d f)/\∀x f,(yn K a).ml i H x f->g x D f λ c j=>l { G with nx:=N,ct:=N,bk:=G.nx } c j):=by
 erw[λi m D H=>m=⇑xs - i/\i<=⇑xs/\b i D H,⟨⇑xs,by simp,agW _,o⟩];rintro i m D H ⟨rfl,n,p⟩;let q:=u i D H n p;by_cases h:i<⇑xs
 ·rwa[.inr ⟨⟨xs,xs[i],q,by simp[h]⟩,b (i+ 1),λ d f r=>⟨⇑xs - (i+ 1),32,h,r⟩,λx f y=>?_⟩];let⟨e,y⟩:=y;subst e;rwa[s i x D _ (y xs q) p]
 ·let e:i=⇑xs:=∅
  subst e;rwa[.inl ⟨⟨xs,q,agA _⟩,t D H p⟩]
theorem Dv {xs:Zb}{g:TG}{l:TS}(b:Nat->St->Hp->Prop)(o:b 0 D H)(u:∀i D H,i<=⇑xs->b i D H->bC K H a xs)
 (s:∀i x D H,xs[i]?\x->b i D H->g x D H λ c j=>l { G with nx:=b (i+ 1),ct:=b (i+ 1),bk:=G.nx } c j) (t:∀ D H,b ⇑xs D H->G.nx D H):
 ∃W:Nat->Nat->St->Hp->Prop,(∃m,W 0 m D H)/\∀i m D H,W i m D H->
  ((yo K a).stop i H/\G.nx D H)\/((yo K a).go i H/\∃N:St->Hp->Prop,(∀ d f,N d f->∃k,k<m/\W (i+ 1) k d f)/\∀x f,(yo K a).ml i H x f->g x D f λ c j=>l { G with nx:=N,ct:=N,bk:=G.nx } c j):=by
 erw[λi m D H=>m=⇑xs - i/\i<=⇑xs/\b i D H,⟨⇑xs,by simp,agW _,o⟩];rintro i m D H ⟨rfl,n,p⟩;let q:=u i D H n p;by_cases h:i<⇑xs
 ·rwa[.inr ⟨⟨xs,xs[i],q,by simp[h]⟩,b (i+ 1),λ d f r=>⟨⇑xs - (i+ 1),32,h,r⟩,λx f y=>?_⟩];let⟨e,y⟩:=y;subst e;rwa[s i x D _ (y xs q) p]
 ·let e:i=⇑xs:=∅
  subst e;rwa[.inl ⟨⟨xs,q,agA _⟩,t D H p⟩]
theorem ib {lo:Int}{g:TG}{k:TS}(d:Nat->St->Hp->Prop)(l:d 0 D H)
 (q:∀i D H,i<n->d i D H->g (.int (lo+ i)) D H λ a h=>k { G with nx:=d (i+ 1),ct:=d (i+ 1),bk:=G.nx } a h) (r:∀ D H,d n D H->G.nx D H):
 ∃W:Nat->Nat->St->Hp->Prop,(∃m,W 0 m D H)/\∀i m D H,W i m D H->
  ((vo lo n).stop i H/\G.nx D H)\/((vo lo n).go i H/\∃N:St->Hp->Prop,(∀ b c,N b c->∃j,j<m/\W (i+ 1) j b c)/\∀x c,(vo lo n).ml i H x c->g x D c λ a h=>k { G with nx:=N,ct:=N,bk:=G.nx } a h):=by
 erw[λi m D H=>m=n - i/\i<=n/\d i D H,⟨n,by simp,agW _,l⟩];rintro i m D H ⟨rfl,t,p⟩;by_cases f:i<n
 ·rwa[.inr ⟨f,d (i+ 1),λ b c o=>⟨n - (i+ 1),32,f,o⟩,λx c y=>?_⟩];let⟨e,y⟩:=y;subst e y;rwa[q i D _ f p]
 ·let e:i=n:=∅
  subst e;rwa[.inl ⟨agA _,r D H p⟩]
abbrev R2:=V->V->Hp->VK->Prop
def fQ (X:Cx)(f:Zt->Zt->Sem Zt)(r:R2):Prop:=
 ∀(a:List (Zs×Obj)) (s:Zu) (b:St) (H:Hp) (x y:V) (v u:Zt) (Q:VK),Inv X a b H s->RelV x v->RelV y u->r x y H Q->
  X⁻¹ X.A (f v u) (EP X a b Q) X.xe s
def Qe (X:Cx)(f:Zt->Sem Zt)(r:V->Hp->VK->Prop):Prop:=
 ∀(a:List (Zs×Obj)) (s:Zu) (b:St) (H:Hp) (x:V) (v:Zt) (Q:VK),Inv X a b H s->RelV x v->r x H Q->
  X⁻¹ X.A (f v) (EP X a b Q) X.xe s
def i6 (X:Cx)(f:Zt)(r:Zb->Hp->VK->Prop):Prop:=
 ∀(a:List (Zs×Obj)) (s:Zu) (d:St) (H:Hp) (c:Zb) (b:Zk) (Q:VK),Inv X a d H s->Vals c b->r c H Q->
  X⁻¹ X.A (call f b) (EP X a d Q) X.xe s
noncomputable def Yx (X:Cx)(r:V->Hp->(Bool->Hp->Prop)->Prop):Prop:=
 ∀(a:List (Zs×Obj)) (s:Zu) (b:St) (H:Hp) (x:V) (v:Zt) (Q:Bool->Hp->Prop),Inv X a b H s->RelV x v->r x H Q->
  X⁻¹ X.A (truthy v) (TP X a b Q) X.xe s
def LJ (r:R2)(b c:TE):TE:=λ a H Q=>b a H λx d=>c a d λy e=>r x y e Q
def tUn (r:V->Hp->VK->Prop)(a:TE):TE:=λ c H Q=>a c H λx b=>r x b Q
inductive rI (C:Int->Int->Prop) (g:Int->Int->V) (x:V) (y:V) (H:Hp) (Q:VK):Prop
 |mk (i j:Int):x=.int i->y=.int j->C i j->Q (g i j) H->rI C g x y H Q
inductive vt (g:Int->Int->V) (x:V) (y:V) (H:Hp) (Q:VK):Prop
 |mk (i j:Int):x=.int i->y=.int j->Q (g i j) H->vt g x y H Q
inductive rU (g:Int->V) (x:V) (H:Hp) (Q:VK):Prop
 |mk (i:Int):x=.int i->Q (g i) H->rU g x H Q
section
variable {X:Cx}{a b:Expr}{ta tb:TE}{pos:Pos}
theorem Jl (o:PE X a ta)(z:PE X b tb){d:List (Zs×Obj)}{s:Zu}{e:St}{H:Hp}{R:V->V->Hp->Prop}(I:Inv X d e H s)
 (h:ta e H λx l=>tb e l λy g=>R x y g) {Q:Zt->Zu->Prop} {f:Zt->Zt->Sem Zt}
 (p:∀v u k x y g,Inv X d e g k->RelV x v->RelV y u->R x y g->X⁻¹ X.A (f v u) Q X.xe k):
 X⁻¹ X.A (eval a X.env) (λv j=>X⁻¹ X.A (eval b X.env) (λu i=>X⁻¹ X.A (f v u) Q X.xe i) X.xe j) X.xe s:=by
 rwa[aZ (o d s e H _ I h) λv t ζ=>?_];let⟨x,l,r,m,A⟩:=ζ
 rwa[aZ (z d t e l _ r A) λu k ζ=>?_];let⟨y,g,q,w,n⟩:=ζ
 rwa[p v u k x y g q m w n]
def aK {e:Operator}{r:R2}(g:fQ X (binaryOp e) r)(j:PE X a ta)(n:PE X b tb):PE X (.BinOp a e b pos) (LJ r ta tb):=by
 intro d s k H Q I h;rwa[wpAny_BinOp (Jl j n I h λv u l x y o m i f q=>g d l k o x y v u Q m i f q)]
def eG {e:UnaryOp}{r:V->Hp->VK->Prop}(k:Qe X (unaryOp e) r)(g:PE X a ta):PE X (.UnaryOp e a pos) (tUn r ta):=by
 intro d s f H Q I h;rwa[UnaryOp_ (aZ (g d s f H _ I h) λv n ζ=>?_)];let⟨x,m,l,j,i⟩:=ζ;rwa[k d n f m x v Q l j i]
theorem Qf {f:Zt->Zt->Sem Zt}{C:Int->Int->Prop}{g:Int->Int->Int}
 (rule:∀(i j:Int) (t u:Tok) (s:Zu) (Q:Zt->Zu->Prop) (E:Zt->Zu->Prop),C i j->Q (.int (g i j) s.toks) { s with toks:=s.toks+ 1 }->X⁻¹ X.A (f (.int i t) (.int j u)) Q E s):
 fQ X f (rI C λi j=>.int (g i j)):=by
 intro d s n H x y v u Q I k e h;let⟨i,j,rfl,rfl,m,q⟩:=h;let⟨t,rfl⟩:=k;let⟨l,rfl⟩:=e;rwa[rule i j t l s _ _ m ⟨.int (g i j),H,I.tok _,⟨12⟩,q⟩]
theorem Qg {f:Zt->Zt->Sem Zt}{g:Int->Int->Int}
 (rule:∀(i j:Int) (t u:Tok) (s:Zu) (Q:Zt->Zu->Prop) (E:Zt->Zu->Prop),Q (.int (g i j) s.toks) { s with toks:=s.toks+ 1 }->X⁻¹ X.A (f (.int i t) (.int j u)) Q E s):
 fQ X f (vt λi j=>.int (g i j)):=by
 intro d s m H x y v u Q I k e h;let⟨i,j,rfl,rfl,q⟩:=h;let⟨t,rfl⟩:=k;let⟨l,rfl⟩:=e;rwa[rule i j t l s _ _ ⟨.int (g i j),H,I.tok _,⟨12⟩,q⟩]
theorem E3 {f:Zt->Zt->Sem Zt}{g:Int->Int->Bool}
 (rule:∀(i j:Int) (t u:Tok) (s:Zu) (Q:Zt->Zu->Prop) (E:Zt->Zu->Prop),Q (.bool (g i j)) s->X⁻¹ X.A (f (.int i t) (.int j u)) Q E s):
 fQ X f (vt λi j=>.bl (g i j)):=by
 intro d s m H x y v u Q I k e h;let⟨i,j,rfl,rfl,q⟩:=h;let⟨t,rfl⟩:=k;let⟨l,rfl⟩:=e;rwa[rule i j t l s _ _ ⟨.bl (g i j),H,I,2,q⟩]
def Yy (i j:Int):Prop:=0<j/\j<1073741824
def Jm (i j:Int):Prop:=(-(2 ^ 64)<i/\i<2 ^ 64)\/(-(2 ^ 64)<j/\j<2 ^ 64)
def Jm.ok (h:Jm z y):IntMulOk z y:=by
 rcases h with ⟨e,d⟩|⟨e,d⟩
 ·rwa[.of_left (intBits_le_64 e d)]
 ·rwa[.of_right (intBits_le_64 e d)]
def cI:fQ X (binaryOp .Add) (vt λi j=>.int (i+ j)):=Qg λ_ _ _ _ _ _ _ q=>add_int q
def jH:fQ X (binaryOp .Sub) (vt λi j=>.int (i - j)):=Qg λ_ _ _ _ _ _ _ q=>sub_int q
def mn:fQ X (binaryOp .Mult) (rI Jm λi j=>.int (i* j)):=Qf λ_ _ _ _ _ _ _ d q=>mul_int q d.ok
def cJ:fQ X (binaryOp .FloorDiv) (rI Yy λi j=>.int (i / j)):=Qf λi j _ _ _ _ _ d q=>by
 let f:(0:Int)<j:=d.1;let e:j<1073741824:=d.2;rwa[floordiv_int ∅ ([Int.fdiv_eq_ediv_of_nonneg i ∅]▸q) (.inl (PyProof.noPylong_small ∅))]
def bL:fQ X (binaryOp .Mod) (rI (λ_ j=>0<j) λi j=>.int (i % j)):=Qf λi j _ _ _ _ _ d q=>by
 rwa[mod_int' ∅ ([Int.fmod_eq_emod_of_nonneg i ∅]▸q)]
theorem unI {f:Zt->Sem Zt}{g:Int->Int}
 (rule:∀(i:Int) (t:Tok) (s:Zu) (Q:Zt->Zu->Prop) (E:Zt->Zu->Prop),Q (.int (g i) s.toks) { s with toks:=s.toks+ 1 }->X⁻¹ X.A (f (.int i t)) Q E s):
 Qe X f (rU λi=>.int (g i)):=by
 intro d s j H x v Q I e h;let⟨i,rfl,q⟩:=h;let⟨t,rfl⟩:=e;rwa[rule i t s _ _ ⟨.int (g i),H,I.tok _,⟨12⟩,q⟩]
def dw:Qe X (unaryOp .USub) (rU λi=>.int (-i)):=unI λ_ _ _ _ _ q=>neg_int q
end
def Jn:V->V->Bool
 |.non,.non=>true|.non,.int _=>true|.int _,.non=>true|.non,.bl _=>true|.bl _,.non=>true|.non,.str _=>true|.str _,.non=>true
 |.int _,.int _=>true|.bl _,.bl _=>true|.str _,.str _=>true|.nj _,.nj _=>true
 |.int _,.str _=>true|.str _,.int _=>true|.bl _,.str _=>true|.str _,.bl _=>true
 |_,_=>false
inductive VY (x:V) (y:V) (H:Hp) (Q:VK):Prop
 |mk:Jn x y=true->Q (.bl (decide (x=y))) H->VY x y H Q
inductive VZ (x:V) (y:V) (H:Hp) (Q:VK):Prop
 |mk:Jn x y=true->Q (.bl (!decide (x=y))) H->VZ x y H Q
def Dw:decide (V.int z=V.int y)=(z==y):=by
 rw[ahR];simp
def Gw {i j:Bool}:decide (V.bl i=V.bl j)=(i==j):=by
 rw[ahR];simp
def Dx:decide (V.str x=V.str f)=(x==f):=by
 rw[ahR];simp
def Dy {i j:Array UInt8}:decide (V.nj i=V.nj j)=(i.toList==j.toList):=by
 rw[ahR];ext i;ext j;simp
section
variable {X:Cx}{a b:Expr}{ta tb:TE}{pos:Pos}
def bS {Q:VK}{k d:Bool}(I:Inv X o D H s)(q:Q (.bl k) H)(e:k=d):EP X o D Q (.bool d) s:=by
 subst e;rwa[.bl k,H,I,2,q]
def eI:fQ X (compareOp .Eq) VY:=by
 intro k s l H x y v u Q I g d h;let⟨f,q⟩:=h
 cases x with
 |non=>
  ext g
  cases y with
  |non=>ext d;rwa[PySem.EqNone.eq_none_none (bS I q (by simp))]
  |bl j=>ext d;rwa[PySem.EqNone.eq_none_bool (bS I q (by simp))]
  |int j=>let⟨e,rfl⟩:=d;rwa[PySem.EqNone.eq_none_int (bS I q (by simp))]
  |str j=>let⟨e,rfl⟩:=d;rwa[PySem.EqNone.eq_none_str (bS I q (by simp))]
  |_=>exact absurd (show false=true from f) ahm
 |bl i=>
  ext g
  cases y with
  |non=>ext d;rwa[PySem.EqNone.eq_bool_none (bS I q (by simp))]
  |bl j=>ext d;rwa[eq_bool (bS I q Gw)]
  |str j=>let⟨e,rfl⟩:=d;rwa[PySem.EqMixed.eq_bool_str (bS I q (by simp))]
  |_=>exact absurd (show false=true from f) ahm
 |int i=>
  let⟨t,rfl⟩:=g
  cases y with
  |non=>ext d;rwa[PySem.EqNone.eq_int_none (bS I q (by simp))]
  |int j=>let⟨e,rfl⟩:=d;rwa[eq_int (bS I q Dw)]
  |str j=>let⟨e,rfl⟩:=d;rwa[PySem.EqMixed.eq_int_str (bS I q (by simp))]
  |_=>exact absurd (show false=true from f) ahm
 |str i=>
  let⟨t,rfl⟩:=g
  cases y with
  |non=>ext d;rwa[PySem.EqNone.eq_str_none (bS I q (by simp))]
  |bl j=>ext d;rwa[PySem.EqMixed.eq_str_bool (bS I q (by simp))]
  |int j=>let⟨e,rfl⟩:=d;rwa[PySem.EqMixed.eq_str_int (bS I q (by simp))]
  |str j=>let⟨e,rfl⟩:=d;rwa[eq_str (bS I q Dx)]
  |_=>exact absurd (show false=true from f) ahm
 |nj i=>
  let⟨t,rfl⟩:=g
  cases y with
  |nj j=>let⟨e,rfl⟩:=d;rwa[PySem.W.eq_bytes (bS I q Dy)]
  |_=>exact absurd (show false=true from f) ahm
 |_=>cases y <;> rwa[absurd (show false=true from f) ahm]
def sI:fQ X (compareOp .NotEq) VZ:=by
 intro k s l H x y v u Q I g d h;let⟨f,q⟩:=h
 cases x with
 |non=>
  ext g
  cases y with
  |non=>ext d;rwa[PySem.EqNone.ne_none_none (bS I q (by simp))]
  |bl j=>ext d;rwa[PySem.EqNone.ne_none_bool (bS I q (by simp))]
  |int j=>let⟨e,rfl⟩:=d;rwa[PySem.EqNone.ne_none_int (bS I q (by simp))]
  |str j=>let⟨e,rfl⟩:=d;rwa[PySem.EqNone.ne_none_str (bS I q (by simp))]
  |_=>exact absurd (show false=true from f) ahm
 |bl i=>
  ext g
  cases y with
  |non=>ext d;rwa[PySem.EqNone.ne_bool_none (bS I q (by simp))]
  |bl j=>ext d;rwa[ne_bool (bS I q (ahT not Gw))]
  |str j=>let⟨e,rfl⟩:=d;rwa[PySem.EqMixed.ne_bool_str (bS I q (by simp))]
  |_=>exact absurd (show false=true from f) ahm
 |int i=>
  let⟨t,rfl⟩:=g
  cases y with
  |non=>ext d;rwa[PySem.EqNone.ne_int_none (bS I q (by simp))]
  |int j=>let⟨e,rfl⟩:=d;rwa[ne_int (bS I q (ahT not Dw))]
  |str j=>let⟨e,rfl⟩:=d;rwa[PySem.EqMixed.ne_int_str (bS I q (by simp))]
  |_=>exact absurd (show false=true from f) ahm
 |str i=>
  let⟨t,rfl⟩:=g
  cases y with
  |non=>ext d;rwa[PySem.EqNone.ne_str_none (bS I q (by simp))]
  |bl j=>ext d;rwa[PySem.EqMixed.ne_str_bool (bS I q (by simp))]
  |int j=>let⟨e,rfl⟩:=d;rwa[PySem.EqMixed.ne_str_int (bS I q (by simp))]
  |str j=>let⟨e,rfl⟩:=d;rwa[ne_str (bS I q (ahT not Dx))]
  |_=>exact absurd (show false=true from f) ahm
 |nj i=>
  let⟨t,rfl⟩:=g
  cases y with
  |nj j=>let⟨e,rfl⟩:=d;rwa[PySem.W.ne_bytes (bS I q (ahT not Dy))]
  |_=>exact absurd (show false=true from f) ahm
 |_=>cases y <;> rwa[absurd (show false=true from f) ahm]
def sJ:fQ X (compareOp .Lt) (vt λi j=>.bl (decide (i<j))):=E3 λ_ _ _ _ _ _ _ q=>lt_int q
def UM:fQ X (compareOp .LtE) (vt λi j=>.bl (decide (i<=j))):=E3 λ_ _ _ _ _ _ _ q=>le_int q
def zK:fQ X (compareOp .Gt) (vt λi j=>.bl (decide (j<i))):=E3 λ_ _ _ _ _ _ _ q=>gt_int q
def UN:fQ X (compareOp .GtE) (vt λi j=>.bl (decide (j<=i))):=E3 λ_ _ _ _ _ _ _ q=>ge_int q
def mq:fQ X (compareOp .Is) (λx y H Q=>y=.non/\Q (.bl (decide (x=.non))) H):=by
 intro e s g H x y v u Q I d f h;let⟨rfl,q⟩:=h;ext f;rwa[is_none_gen (bS I q ?_)]
 cases x <;> first
  |(ext d;rfl)
  |(let⟨t,rfl⟩:=d;rfl)
noncomputable def lY:fQ X (compareOp .IsNot) (λx y H Q=>y=.non/\Q (.bl (!decide (x=.non))) H):=by
 intro e s g H x y v u Q I d f h;let⟨rfl,q⟩:=h;ext f;rwa[isnot_none_gen (bS I q ?_)]
 cases x <;> first
  |(ext d;rfl)
  |(let⟨t,rfl⟩:=d;rfl)
def bh (b:Expr){d:CmpOp}(h:d≠.In:=by decide)(g:d≠.NotIn:=by decide):behindInMarks d b=false:=by
 let e:(d==CmpOp.In)=false:=by cbv
 let f:(d==CmpOp.NotIn)=false:=by cbv
 cases b <;> simp[behindInMarks,e,f]
def j2 {e:CmpOp}{r:R2}(i:fQ X (compareOp e) r)(k:PE X a ta)(o:PE X b tb)(f:behindInMarks e b=false):PE X (.Compare a [e] [b] pos) (LJ r ta tb):=by
 intro d s l H Q I h;rwa[wpAny_Compare1 (Jl k o I h λv u m x y p n j g q=>i d m l p x y v u Q n j g q) f]
inductive Qh (x:V) (H:Hp) (Q:Bool->Hp->Prop):Prop
 |mk (k:Bool):x=.bl k->Q k H->Qh x H Q
def UO (t:TE):TT:=λ e H Q=>t e H λx d=>Qh x d Q
def bf {g:CmpOp}{r:R2}(l:fQ X (compareOp g) r)(n:PE X a ta)(E:PE X b tb)(i:behindInMarks g b=false):PT X (.Compare a [g] [b] pos) (UO (LJ r ta tb)):=by
 intro d s f H Q I h
 rwa[wpAny_isTrue_Compare1 (aZ (n d s f H _ I h) λv B ζ=>?_) i];let⟨x,G,A,j,F⟩:=ζ;rwa[aZ (E d B f G _ A F) λu q ζ=>?_];let⟨y,J,w,C,m⟩:=ζ;rwa[ aZ (l d q f J x y v u _ w j C m) λc L ζ=>?_];let⟨z,o,t,p,k,e,D⟩:=ζ
 subst e;ext p;rwa[aiy ⟨o,t,D⟩]
def Qi (K:Za1)(x:V)(H:Hp)(k:Bool):Prop:=
 match x with
 |.non=>k=false
 |.bl b=>k=b
 |.int i=>k=(i !=0)
 |.str y=>⇑y<=sizeLine/\k=((⇑y:Int) !=0)
 |.nj y=>y.size<=sizeLine/\k=((y.size:Int) !=0)
 |.ref p=>(∃xs,aH K H p xs/\k=!xs.isEmpty)\/(∃xs,bC K H p xs/\k=!xs.isEmpty)\/∃d,H p\.dK d/\k=!d.isEmpty
 |_=>False
def E4 {f:Type}{d:List (f×V)}{e:List (f×Zt)}(r:KV d e):(!e.isEmpty)=!d.isEmpty:=by
 cases r <;> rfl
def vu {xs:Zb}(r:Vals xs N):(!N.toArray.isEmpty)=!xs.isEmpty:=by
 cases r <;> simp
def qT:(sizeLine:Nat)<2 ^ 63:=⋯
def Qj:Yx X (λx H Q=>∃k,Qi X.K x H k/\Q k H):=by
 intro o s A H x v Q I g h;let⟨k,e,q⟩:=h;let C:=qT;let B:sizeLine=16777216:=sizeLine_eq
 cases x with
 |non=>
  ext g;let d:k=false:=e;subst d;rwa[truthy_none ⟨H,I,q⟩]
 |bl b=>
  ext g;let d:k=b:=e;subst d;rwa[aiy ⟨H,I,q⟩]
 |int i=>
  let⟨t,rfl⟩:=g;let d:k=(i !=0):=e;subst d;rwa[PySem.P.truthy_int ⟨H,I,q⟩]
 |str y=>
  let⟨t,rfl⟩:=g;obtain⟨w,d⟩:⇑y<=sizeLine/\k=((⇑y:Int) !=0):=e;subst d;rwa[PySem.P.truthy_str ∅ ⟨H,I.tok _,q⟩]
 |nj y=>
  let⟨t,rfl⟩:=g;obtain⟨w,d⟩:y.size<=sizeLine/\k=((y.size:Int) !=0):=e;subst d;rwa[PySem.W.truthy_bytes ∅ ⟨H,I.tok _,q⟩]
 |ref p=>
  ext g;let d:(∃xs,aH X.K H p xs/\k=!xs.isEmpty)\/(∃xs,bC X.K H p xs/\k=!xs.isEmpty)\/∃f,H p\.dK f/\k=!f.isEmpty:=e;rcases d with ⟨xs,j,d⟩|⟨xs,j,d⟩|⟨f,j,d⟩
  ·subst d;let⟨n,r,pl,u⟩:=I.list j;let hlen:=⇑r;rwa[wpAny_truthy_list pl.isList (by simp only[agL];omega) ⟨H,I.tok _,[vu r]▸q⟩]
  ·subst d;let⟨n,r,pl,u⟩:=I.tuple j;let hlen:=⇑r;rwa[truthy_tuple pl (by simp only[agL];omega) ⟨H,I.tok _,[vu r]▸q⟩]
  ·subst d;obtain⟨u,z,l,r,m⟩:⇑f<=sizeLine/\(p==sysModules)=false/\∃l,KV f l/\s.heap.DictOf (bQ X.prog X.w) p l:=I.aO p _ j;let hlen:⇑f=⇑l:=Paired.length r;rwa[wpAny_truthy_dict z m ∅ ⟨H,I.tok _,[E4 r]▸q⟩]
 |_=>exact(show False from e).elim
theorem zV (g:PE X a ta)(l:∀whole,isTrue a X.env whole=(do let v <-whole;standAt a.pos;holding [v] (truthy v))):
 PT X a (λ e H Q=>ta e H λx f=>∃k,Qi X.K x f k/\Q k f):=by
 intro d s e H Q I h;rwa[isTrue_plain (aZ (g d s e H _ I h) λv o ζ=>?_) (l _)];let⟨x,n,m,j,i⟩:=ζ;rwa[Qj d o e n x v Q m j i]
def vals1 {x:V}(r:Vals [x] N):∃u,N=[u]/\RelV x u:=by
 cases r with
 |cons e d=>ext d;rwa[12,e]
def vals2 {x:V}(r:Vals [x,q] N):∃u d,N=[u,d]/\RelV x u/\RelV q d:=by
 cases r with
 |cons g e=>
  cases e with
  |cons h f=>ext f;rwa[112,g,h]
def yp (g:X.calm=true):i6 X (.builtin "max") (λf H Q=>∃i j,f=[.int i,.int j]/\Q (.int (if j > i then j else i)) H):=by
 intro e s p H f m Q I r h;let⟨i,j,rfl,q⟩:=h;let⟨u,o,rfl,⟨t,rfl⟩,⟨n,rfl⟩⟩:=vals2 r;rwa[max_two_ints (I.ok.hd g) λv l k=>⟨_,H,I.kept k,5,q⟩]
 by_cases d:j > i
 ·rw[agX d,agX d];rwa[12]
 ·rw[agT d,agT d];rwa[12]
def Gx (g:X.calm=true):i6 X (.builtin "min") (λf H Q=>∃i j,f=[.int i,.int j]/\Q (.int (if j<i then j else i)) H):=by
 intro e s p H f m Q I r h;let⟨i,j,rfl,q⟩:=h;let⟨u,o,rfl,⟨t,rfl⟩,⟨n,rfl⟩⟩:=vals2 r;rwa[min_two_ints (I.ok.hd g) λv l k=>⟨_,H,I.kept k,5,q⟩]
 by_cases d:j<i
 ·rw[agX d,agX d];rwa[12]
 ·rw[agT d,agT d];rwa[12]
end
structure uA (h:Heap) (x dx C:Zs) (mA:Str->Zl):Prop where
 obj:h.get? x\(PySem.W.instObj C dx)
 ns:h.Ns1 dx mA
 ne:dx≠x
def Gy (n:h.Ns1 a M):∃d,h.get? a\d/\∀name,PySem.W.lookIn name d\(M name):=by
 let⟨o,l,m,i,k,j,_,f⟩:=n;rwa[⟨o,i,λname=>?_⟩];let e:=f name;unfold nsFind findBy at e;rw[<-Array.find?_toList]at e;unfold PySem.W.lookIn;rw[k];dsimp only;split
 ·cbv
 ·rename_i q;rw[q]at e
  let b:l.toList.any (·.refKey)=false:=by
   rw[List.any_eq_false];intro y g;let⟨z,t,c⟩:=j y (Array.mem_toList_iff.mp g);simp[DictEntry.refKey,c]
  cbv
def uA.look {x dx:Zs}(I:uA h x dx a M):∃b,PySem.W.InstAt h x (PySem.W.instObj a dx) a (some b)/\∀name,PySem.W.lookIn name b\(M name):=
 let ⟨b,c,d⟩:=Gy I.ns
 ⟨b,⟨I.obj,22,c⟩,d⟩
section
variable {prog:Program}{w:World}{A:Around}{E:Zt->Zu->Prop}{s:Zu}{K:Za1}{x dx C f:Zs}{mA:Str->Zl}{name:Str}{v:Zt}
theorem get_map {expr:Bool}(X:K.In s.heap)(I:uA s.heap x dx C mA)(b:PySem.W.plainGet K C name=true)(d:PySem.W.hasDictIn K C=true)
 (c:PySem.W.findIn K ↑C name\none) (e:mA name\v) (a:PySem.W.handedIn v=true) (h:Q v { s with toks:=s.toks+ 1 }):
 (prog<|>w) A (getAttr ↑x name expr) Q E s:=by
 let⟨i,J,g⟩:=I.look;rwa[PySem.W.get_value X J (PySem.W.plainGet_of b).1 (PySem.W.findObj_own d c rfl (by rw[g,e])) a h]
theorem Jo {pl:Sem Bool}{Q:Zt×Zk->Zu->Prop}(X:K.In s.heap)(I:uA s.heap x dx C mA)(a:PySem.W.plainGet K C name=true)
 (g:PySem.W.findIn K ↑C name\some ↑f) (e:PySem.W.isFn K ↑f=true) (d:mA name=none) (h:Q (↑f,[↑x]) s):
 (prog<|>w) A (getMethod ↑x name pl) Q E s:=by
 let⟨b,J,c⟩:=I.look;rwa[PySem.W.method_fn X J (PySem.W.plainGet_of a).1 (PySem.W.plainGet_of a).2 g (ajC.mp e) (by show (PySem.W.lookIn name b).map (·.isSome)\false;rw[c,d];rfl) h]
theorem NC {ns:Zp}(X:K.In s.heap)(I:uA s.heap x dx C mA)
 (t:PySem.W.findIn K ↑C "__setattr__"=some (some (.builtin "object.__setattr__"))) (m:PySem.W.plainOver K C=true) (q:PySem.W.takerIn K C name\none) (u:PySem.W.hasDictIn K C=true)
 (o:PySem.Within mA ns) (l:⇑ns<=sizeLine)
 (h:∀e,uA e x dx C (λy=>if y=name then some v else mA y)->Heap.SameBut dx s.heap e->U () { s with heap:=e,toks:=s.toks+ 2 }):
 (prog<|>w) A (setAttr ↑x name v) U E s:=by
 let⟨D,J,H⟩:=I.look;rwa[PySem.W.set_plain X J t (PySem.W.osa_open (s:={ s with toks:=s.toks+ 1 }) (r:=none) X J m q λb=>?_)];let⟨G,B,i⟩:=PySem.W.any_some u;let p:s.heap.get? x\⟨↑C,some dx,.plain,#[]⟩:=I.obj;rwa[ags (agz (ags (ags (wpAny_loadPart p (ags (PySem.W.Looks.here (s:={ s with toks:=s.toks+ 1 }) (PySem.W.looks_clsIn X B) ?_))))))];rw[i];rwa[agz (a:=some dx) (ags (agz (ags ?_)))];rwa[wpAny_nsSet1 (s:={ s with toks:=s.toks+ 1 }) I.ns λe c d=>?_]
 let⟨F,z,n,k,j,g⟩:=c.count (PySem.Within.cons name v o);rwa[ags (wpAny_lookBehind k ([j]▸pastItsLine_dict (agJ g (by rw[agV];omega))) ?_)];rwa[agz (h _ ⟨(d.2 _ (ahQ I.ne)).trans I.obj,c,I.ne⟩ d)]
theorem Jp {R:Result->Zu->Prop}{a:List (Str×Zt)}(X:K.In s.heap)(b:PySem.W.makesIn K C=true)
 (c:PySem.W.findIn K ↑C "__init__"=some (some ↑f)) (d:PySem.W.typeIn K ↑f\(.type "function"))
 (h:codeAny (model prog w) (A.under (.builtin "type.__call__" ⟨↑C::N,a⟩)) (.call ↑f ⟨↑(↥s+ 1)::N,a⟩) (PySem.W.InitBack (↥s+ 1) R)
  { s with heap:=(s.heap.push PySem.W.emptyDict).push (PySem.W.instObj C ↥s) }):
 codeAny (model prog w) A (.call ↑C ⟨N,a⟩) R s:=by
 rwa[PySem.W.make_core (PySem.W.makes_of X b) (PySem.W.looks_findIn X c) (λself=>PySem.W.bind_fn X self d) (.inl rfl) h]
theorem Gz {R:Result->Zu->Prop}(X:K.In s.heap)(a:PySem.W.makesIn K C=true)
 (c:PySem.W.findIn K ↑C "__init__"=some (some (.builtin "object.__init__")))
 (b:∀self,PySem.W.Looks (model prog w) s.heap (bindSpecial (.builtin "object.__init__") self) (.builtin "object.__init__",[self]))
 (h:codeAny (model prog w) (A.under (.builtin "type.__call__" ⟨[↑C],[]⟩)) (.call (.builtin "object.__init__") ⟨[↑(↥s+ 1)],[]⟩) (PySem.W.InitBack (↥s+ 1) R)
  { s with heap:=(s.heap.push PySem.W.emptyDict).push (PySem.W.instObj C ↥s) }):
 codeAny (model prog w) A (.call ↑C ⟨[],[]⟩) R s:=by
 rwa[PySem.W.make_core (PySem.W.makes_of X a) (PySem.W.looks_findIn X c) b (.inr ⟨22⟩) h]
end
noncomputable def bJ (f:Str)(v:V):List (Str×V)->List (Str×V)
 |[]=>[(f,v)]
 |(g,x)::r=>if g=f then (g,v)::r else (g,x)::bJ f v r
theorem oq (f g:Str)(v:V):∀fs:List (Str×V),(bJ f v fs).lookup g=if g=f then some v else fs.lookup g
 |[]=>by
  show List.lookup g [(f,v)]=_
  cbv
 |(k,x)::r=>by
  let a:=oq f g v r;rw[show bJ f v ((k,x)::r)=(if k=f then (k,v)::r else (k,x)::bJ f v r) from rfl]
  cbv
theorem kI (f:Str)(v:V):∀fs:List (Str×V),f∈(bJ f v fs).map (·.1)/\∀g,g∈fs.map (·.1)->g∈(bJ f v fs).map (·.1)
 |[]=>⟨by simp[bJ],λg h=>by simp at h⟩
 |(k,x)::r=>by
  let⟨a,b⟩:=kI f v r;rw[show bJ f v ((k,x)::r)=(if k=f then (k,v)::r else (k,x)::bJ f v r) from rfl]
  cbv
theorem tS (f:Str)(v:V):∀fs:List (Str×V),⇑(bJ f v fs)<=⇑fs+ 1
 |[]=>by simp[bJ]
 |(k,x)::r=>by
  let a:=tS f v r;rw[show bJ f v ((k,x)::r)=(if k=f then (k,v)::r else (k,x)::bJ f v r) from rfl]
  cbv
def eR.some_of {v:V}{o:Zl}(r:eR (some v) o):∃u,o\u/\RelV v u:=by
 cases o with
 |none=>exact(show False from r).elim
 |some u=>rwa[u,2,r]
def eR.none_of {o:Zl}(r:eR none o):o=none:=by
 cases o with
 |none=>rfl
 |some u=>exact(show False from r).elim
def GA (r:RelV q u):PySem.W.handedIn u=true:=by
 cases q with
 |non=>cases (show u=Value.none from r);rfl
 |bl b=>cases (show u=Value.bool b from r);rfl
 |int i=>let⟨t,e⟩:=(show ∃t,u=Value.int i t from r);ext e;rfl
 |str x=>let⟨t,e⟩:=(show ∃t,u=Value.str x t from r);ext e;rfl
 |nj b=>let⟨t,e⟩:=(show ∃t,u=Value.bytes b t from r);ext e;rfl
 |zR b=>let⟨t,e⟩:=(show ∃t,u=Value.float b t from r);ext e;rfl
 |ref a=>cases (show u=Value.ref a from r);rfl
 |ty n=>cases (show u=Value.type n from r);rfl
section
variable {P:Program}{w:World}{H:Hp}{h:Heap}{a C dx:Zs}{fs:List (Str×V)}
def sL (c:dH P w H h)(e:H a\.ins C dx fs):∃b,uA h a dx C b/\(∀f,eR (fs.lookup f) (b f))/\PySem.Within b (fs.map (·.1))/\⇑fs<=1000/\H dx\(.own a):=by
 let⟨d,z,ne,g,b,n,r,q⟩:=(show bV P w H h a (.ins C dx fs) from c a _ e);rwa[b,⟨g,n,ne⟩,r,q,z,d]
end
structure jZ (K:Za1) (C:Zs):Prop where
 pg:PySem.W.plainGet K C Str.empty=true
 hd:PySem.W.hasDictIn K C=true
 po:PySem.W.plainOver K C=true
 sa:PySem.W.findIn K ↑C "__setattr__"=some (some (.builtin "object.__setattr__"))
def jZ.get (c:jZ K a)(f:Str):PySem.W.plainGet K a f=true:=c.pg
def kJ (K:Za1)(C:Zs)(f:Str):Prop:=PySem.W.findIn K ↑C f\none
def kJ.E5 (n:kJ K a f):PySem.W.takerIn K a f\none:=by
 unfold PySem.W.takerIn;rw[show PySem.W.findIn K ↑a f=some none from n];rfl
structure Con (K:Za1) (C:Zs) (f:Str) (v:V) (u:Zt):Prop where
 at_:PySem.W.findIn K ↑C f\(some u)
 rel:RelV v u
 get:PySem.W.specialIn K u "__get__"=some none
 cp:PySem.W.copiedNames.contains f=false
structure Meth (K:Za1) (C:Zs) (m:Str) (f:Zs):Prop where
 at_:PySem.W.findIn K ↑C m\(some ↑f)
 fn:PySem.W.isFn K ↑f=true
 kp:PySem.W.keepIn K ↑f=true
section
variable {X:Cx}{pins:List (Zs×Obj)}{σ:St}{H:Hp}{s:Zu}{a C dx:Zs}{fs:List (Str×V)}{f:Str}{v:V}{A:Around}{E:Zt->Zu->Prop}
theorem E6 {b:Bool}(I:Inv X pins σ H s)(e:H a\.ins C dx fs)(c:jZ X.K C)(n:kJ X.K C f)(l:fs.lookup f\v)
 (h:∀u d,Inv X pins σ H d->RelV v u->Q u d):X⁻¹ A (getAttr ↑a f b) Q E s:=by
 let⟨i,O,r,_,_,_⟩:=sL I.aO e;let⟨u,j,g⟩:=eR.some_of (v:=v) (o:=i f) (by rw[<-l];rwa[r f]);rwa[get_map I.dv O (c.get f) c.hd n j (GA g) (h u _ (I.tok _) g)]
theorem vw {pl:Sem Bool}{Q:Zt×Zk->Zu->Prop}(I:Inv X pins σ H s)(e:H a\.ins C dx fs)(c:jZ X.K C)(k:Meth X.K C x b)(l:fs.lookup x=none)
 (h:Q (↑b,[↑a]) s):X⁻¹ A (getMethod ↑a x pl) Q E s:=by
 let⟨d,O,r,_,_,_⟩:=sL I.aO e;let g:d x=none:=eR.none_of (by cbv);rwa[Jo I.dv O (c.get x) k.at_ k.fn g h]
theorem E7 (I:Inv X pins σ H s)(e:H a\.ins C dx fs)(c:jZ X.K C)(n:kJ X.K C f)(J:⇑fs<1000)(m:RelV q u)
 (h:∀l,Inv X pins σ (upd H a (.ins C dx (bJ f q fs))) l->U () l):X⁻¹ A (setAttr ↑a f u) U E s:=by
 let⟨w,O,r,k,_,j⟩:=sL I.aO e;let y:⇑(fs.map (·.1))<=sizeLine:=by rw[agy,sizeLine_eq];ext
 rwa[NC I.dv O c.sa c.po n.E5 c.hd k y λG i p=>h _ ?_]
 let D:∃o,G.get? dx\o:=let ⟨o,_,_,t,_⟩:=i.ns;⟨o,t⟩
 rwa[I.write (x:=a) (e:=dx) ([e]▸True.intro) (.inr j) (λb d F z=>(p.2 b F).trans z) D ?_];rwa[⟨[ak O.ne]▸j,5,O.ne,i.obj,_,i.ns,λg=>?_,λg B=>?_⟩]
 ·have:=tS f q fs;ext
 ·show eR ((bJ f q fs).lookup g) (if g=f then some u else w g);rw[oq];by_cases d:g=f
  ·rw[agX d,agX d];rwa[m]
  cbv
 ·by_cases d:g=f
  ·rw[d];rwa[(kI f q fs).1]
  ·rwa[(kI f q fs).2 g (k g λz=>B ?_)]
   cbv
theorem Inv.made (I:Inv X pins σ H s):Inv X pins σ (upd (upd H ↥s (.own (↥s+ 1))) (↥s+ 1) (.ins C ↥s []))
 { s with heap:=(s.heap.push PySem.W.emptyDict).push (PySem.W.instObj C ↥s) }:=by
 let c:(s.heap.push PySem.W.emptyDict).get? ↥s\PySem.W.emptyDict:=agK s.heap rfl
 let h:((s.heap.push PySem.W.emptyDict).push (PySem.W.instObj C ↥s)).get? (↥s+ 1)\(PySem.W.instObj C ↥s):=by
  have:=agK (s.heap.push PySem.W.emptyDict) (o:=PySem.W.instObj C ↥s) rfl
  rwa [aii]at this
 let g:(s.heap.push PySem.W.emptyDict).Ns ↥s (λ_=>none):=⟨PySem.W.emptyDict,#[],_,c,2,(λe k=>absurd k (by simp)),λ_=>rfl⟩;let j:=I.laid (a:=↥s) (o:=.own (↥s+ 1)) (h':=s.heap.push PySem.W.emptyDict) (t':=s.toks) (λb u q=>agt _ q) (agA _) ⟨_,c⟩;rwa[j.laid (a:=↥s+ 1) (o:=.ins C ↥s []) (t':=s.toks) (λb u q=>agt _ q) (ajD (aii _ _)) ?_];let ne:↥s≠↥s+ 1:=ag2 (ahS _);rwa[⟨by rw[ak ne,ah],agW _,ne,h,λ_=>none,(Heap.Ns1.of_empty g).at λo q=>agt _ q,λ_=>True.intro,λy d=>absurd rfl d⟩]
theorem ND {env:Env}{f:Str}{s:Zu}(c:attributeBase e f env (eval e env)=eval e env)
 (h:(P<|>w) A (eval e env) (λo b=>(P<|>w) A (getAttr o f true) Q E b) E s):(P<|>w) A (eval (.Attribute e f p) env) Q E s:=
 Attribute_any_ h (by rw[arm_eval_Attribute,c])
end
inductive Qk (K:Za1) (f:Str) (x:V) (H:Hp) (Q:VK):Prop
 |mk (a C dx:Zs) (fs:List (Str×V)) (v:V):x=↑a->H a\.ins C dx fs->jZ K C->kJ K C f->fs.lookup f\v->Q v H->Qk K f x H Q
def Ql (K:Za1)(a:TE)(f:Str):TE:=λ c H Q=>a c H λx b=>Qk K f x b Q
inductive Qm (K:Za1) (f:Str) (y x:V) (H:Hp) (N:Hp->Prop):Prop
 |mk (a C dx:Zs) (fs:List (Str×V)):x=↑a->H a\.ins C dx fs->jZ K C->kJ K C f->⇑fs<1000->N (upd H a (.ins C dx (bJ f y fs)))->Qm K f y x H N
def Yz (K:Za1)(b c:TE)(f:Str):TS:=λD a H=>c a H λy d=>b a d λx e=>Qm K f y x e (D.nx a)
section
variable {X:Cx}{o e value:Expr}{f:Str}{pos pos':Pos}{ta tv:TE}
def aF (g:PE X e ta)(r:attributeBase e f X.env (eval e X.env)=eval e X.env):PE X (.Attribute e f pos) (Ql X.K ta f):=by
 intro b s j H Q I h;rwa[ND r (aZ (g b s j H _ I h) λu A ζ=>?_)];let⟨x,t,m,d,a,C,w,fs,v,ex,p,c,n,l,q⟩:=ζ;subst ex;obtain rfl:u=Value.ref a:=d;rwa[E6 m p c n l λz y k i=>⟨v,t,k,i,q⟩]
def bY (k:PE X o ta)(z:PE X value tv)(p:swapsWith value (some (.Attribute o f pos')) pos.line X.env=pure false):PS X (.Assign [.Attribute o f pos'] value pos) (Yz X.K ta tv f):=by
 intro b s d H D I h;rwa[plainObj_wpAny_Assign_Attribute (aZ (z b s d H _ I h) λu v ζ=>?_) p];let⟨y,B,t,g,q⟩:=ζ;rwa[aZ (k b v d B _ t q) λA F ζ=>?_];let⟨x,J,r,i,a,C,E,fs,ex,w,c,n,l,j⟩:=ζ;subst ex;obtain rfl:A=Value.ref a:=i;rwa[E7 r w c n l g λG m=>⟨d,_,m,j⟩]
inductive YC (x:V) (y:V) (H:Hp) (Q:VK):Prop
 |mk (i j:Int):x=.int i->y=.int j->Q (.int (i+ j)) H->YC x y H Q
inductive YD (x:V) (y:V) (H:Hp) (Q:VK):Prop
 |mk (i j:Int):x=.int i->y=.int j->Q (.int (i - j)) H->YD x y H Q
end
section
variable {X:Cx}{pins:List (Zs×Obj)}{σ:St}{H:Hp}{s:Zu}{A:Around}{E:Zt->Zu->Prop}{Q:Zt->Zu->Prop}{c:Zt}{b:Bool}
inductive jI (K:Za1) (H:Hp):V->Zt->Prop where
 |non:jI K H .non (.type "NoneType")
 |bl (x:Bool):jI K H (.bl x) (.type "bool")
 |int (i:Int):jI K H (.int i) (.type "int")
 |str (x:Str):jI K H (.str x) (.type "str")
 |zR (x:UInt64):jI K H (.zR x) (.type "float")
 |lst {a:Zs} {xs:Zb} (e:H a\.lst xs):jI K H ↑a (.type "list")
 |cW {a:Zs} {o:Obj} {xs:Zb} (e:H a\.cW o (.lst xs)):jI K H ↑a (.type "list")
 |tup {a:Zs} {xs:Zb} (e:H a\.tup xs):jI K H ↑a (.type "tuple")
 |dK {a:Zs} {kvs:List (Key×V)} (e:H a\.dK kvs):jI K H ↑a (.type "dict")
 |dT {a:Zs} {kvs:List (Zd×V)} (e:H a\.dT kvs):jI K H ↑a (.type "dict")
 |ins {a C dx:Zs} {fs:List (Str×V)} (e:H a\.ins C dx fs) (cl:jZ K C) (ha:PySem.W.findIn K ↑C "__class__"=some (some (.builtin "object.__class__")))
  (hn:PySem.W.specialIn K (.builtin "object.__class__") "__get__"=some (some (.builtin "getset_descriptor.__get__"))) (htk:PySem.W.takesIn K (.builtin "object.__class__")\true)
  (hm:PySem.W.mroIn K C (.type "object")\true):jI K H ↑a ↑C
theorem GB {x:V}(I:Inv X pins σ H s)(d:RelV x u)(D:jI X.K H x v)(e:PySem.W.kitOne X.K v c\b)(h:∀t,Q (.bool b) { s with toks:=t }):
 X⁻¹ A (call (.builtin "isinstance") [u,c]) Q E s:=by
 cases D with
 |non=>cases (show u=Value.none from d);rwa[ahY PySem.W.kitx_none I.dv True.intro e (λz=>nomatch z) h]
 |bl y=>cases (show u=Value.bool y from d);rwa[ahY PySem.W.kitx_bool I.dv True.intro e (λz=>nomatch z) h]
 |int i=>let⟨v,q⟩:=(show ∃v,u=Value.int i v from d);ext q;rwa[ahY PySem.W.kitx_int I.dv True.intro e (λz=>nomatch z) h]
 |str y=>let⟨v,q⟩:=(show ∃v,u=Value.str y v from d);ext q;rwa[ahY PySem.W.kitx_str I.dv True.intro e (λz=>nomatch z) h]
 |zR y=>let⟨v,q⟩:=(show ∃v,u=Value.float y v from d);ext q;rwa[ahY PySem.W.kitx_float I.dv True.intro e (λz=>nomatch z) h]
 | @lst a k f=>
   cases (show u=Value.ref a from d);let⟨_,_,n,_,g⟩:=(show bV X.prog X.w H s.heap a (.lst k) from I.aO a _ f);rwa[ahY PySem.W.kitx_list I.dv ⟨_,g,2⟩ e (λz=>nomatch z) h]
 | @cW a F k f=>
   cases (show u=Value.ref a from d);let⟨_,_,_,n,_,g⟩:=(show bV X.prog X.w H s.heap a (.cW F (.lst k)) from I.aO a _ f);rwa[ahY PySem.W.kitx_list I.dv ⟨_,g,2⟩ e (λz=>nomatch z) h]
 | @tup a k f=>
   cases (show u=Value.ref a from d);let⟨_,_,_,p⟩:=(show bV X.prog X.w H s.heap a (.tup k) from I.aO a _ f);let⟨o,g,l,_⟩:=p;rwa[ahY PySem.W.kitx_tuple I.dv ⟨o,g,l⟩ e (λz=>nomatch z) h]
 | @dK a j f=>
   cases (show u=Value.ref a from d);let⟨_,_,R,_,p⟩:=(show bV X.prog X.w H s.heap a (.dK j) from I.aO a _ f);let⟨o,L,B,g,l,_⟩:=p;rwa[ahY PySem.W.kitx_dict I.dv ⟨o,g,l.1⟩ e (λz=>nomatch z) h]
 | @dT a j f=>
   cases (show u=Value.ref a from d);let⟨_,_,k,_,o,L,B,g,l,_⟩:=(show bV X.prog X.w H s.heap a (.dT j) from I.aO a _ f);rwa[ahY PySem.W.kitx_dict I.dv ⟨o,g,l.1⟩ e (λz=>nomatch z) h]
 | @ins a C M fs f cl w G m r=>
   cases (show u=Value.ref a from d);let⟨N,O,_⟩:=sL I.aO f;let⟨P,J,_⟩:=O.look;rwa[ahY (PySem.W.kitx_own (cl.get _) cl.hd w G m r) I.dv J e (λz=>nomatch z) h]
end
structure cx (k:Nat) (A:Around):Prop where
 hd:A.handled=none
 dp:A.depth+ 3* k+ 5<recursionLimit
 un:A.units+ 16* k+ 200<cLine
def cx.mono {k:Nat}(r:cx k A)(h:j<=k):cx j A:=⟨r.hd,by have:=r.dp;ext,by have:=r.un;ext⟩
def cx.Za5 {j k:Nat}{A:Around}(r:cx k A)(h:j<=k:=by decide):cx j A:=r.mono h
def cx.deeper {k:Nat}(r:cx (k+ 1) A)(env:Env):cx k (A.deeper env):=
 ⟨r.hd,by have:=r.dp;show A.depth+ 1+ 3* k+ 5<_;ext,by have:=r.un;show A.units+ 3+ 16* k+ 200<_;ext⟩
def cx.in1 {k:Nat}(r:cx (k+ 1) A):cx k A.in1:=
 ⟨r.hd,by have:=r.dp;show A.depth+ 3* k+ 5<_;ext,by have:=r.un;show A.units+ 1+ 16* k+ 200<_;ext⟩
def E8 {b:List (Str×Zt)}:(A.under (.builtin "type.__call__" ⟨↑a::N,b⟩)).depth=A.depth+ 1:=by
 first|rfl|simp[Around.under,Code.weight,Code.isCreation,Code.isGuard,Code.isCaller,Code.frames,Code.isFrame,guardIds]
def E9 {b:List (Str×Zt)}:(A.under (.builtin "type.__call__" ⟨↑a::N,b⟩)).units=A.units+ 1:=by
 first|rfl|simp[Around.under,Code.cUnits,Code.frames,Code.isFrame]
def cx.make {k:Nat}(r:cx (k+ 1) A)(C:Zs)(a:Zk)(b:List (Str×Zt)):cx k (A.under (.builtin "type.__call__" ⟨↑C::a,b⟩)):=
 ⟨r.hd,by have:=r.dp;rw[E8];ext,by have:=r.un;rw[E9];ext⟩
def cx.depth {k:Nat}(r:cx k A):A.depth<recursionLimit:=by have:=r.dp;ext
def cx.units {k:Nat}(r:cx k A):A.units+ 64<cLine:=by have:=r.un;ext
def j3:TA:=λ_ H Q=>Q [] H
def jJ (b:TE)(tr:TA):TA:=λ a H Q=>b a H λx c=>tr a c λd e=>Q (x::d) e
section
variable {X:Cx}{e:Expr}{es:Zr}{te:TE}{t:TA}{pos:Pos}
def aj:PA X [] j3:=λ_ _ _ _ H Q I h=>ah4 ⟨[],H,I,.nil,h⟩
def ae (f:PE X e te)(g:PA X es t)(i:starEach (e::es) X.env=(false,eval e X.env)::starEach es X.env:=by rfl):PA X (e::es) (jJ te t):=by
 intro pos a s b H Q I h;rw[i];rwa[ahy (aZ (f a s b H _ I h) λu m ζ=>?_)];let⟨x,p,k,c,o⟩:=ζ;rwa[aZ (g pos a m b p _ k o) λr v ζ=>?_];let⟨l,q,j,n,d⟩:=ζ;rwa[⟨x::l,q,j,.cons c n,d⟩]
inductive Qn (xs:Zb) (H:Hp) (Q:VK):Prop
 |mk:⇑xs<=sizeLine->(∀p,H p=none->Q ↑p (upd H p (.tup xs)))->Qn xs H Q
def YF (t:TA):TE:=λ c H Q=>t c H λb a=>Qn b a Q
inductive Qo (xs:Zb) (H:Hp) (Q:VK):Prop
 |mk:⇑xs<=sizeLine->(∀p,H p=none->Q ↑p (upd H p (.lst xs)))->Qo xs H Q
def YG (t:TA):TE:=λ c H Q=>t c H λb a=>Qo b a Q
def cQ {l}(h:PA X es t):PE X (.Tuple es l pos) (YF t):=by
 intro a s i H Q I j;rwa[wpAny_Tuple_spliced (aZ (h pos a s i H _ I j) λf s1 ζ=>?_)];let⟨k,d,c,r,z,q⟩:=ζ;rwa[⟨by rw[<-⇑r];rwa[z],5⟩];let g:d ↥s1=none:=c.aO.fresh (agA _);rwa[⟨↑↥s1,upd d ↥s1 (.tup k),c.laid (t':=s1.toks) (λb u e=>agt _ e) (agA _) ?_,2,q _ g⟩];rwa[z,f,r,⟨_,agK _ rfl,212⟩]
def bU (h:PA X es t):PE X (.List es pos) (YG t):=by
 intro a s k H Q I g;rwa[wpAny_List_spliced (aZ (h pos a s k H _ I g) λi s1 ζ=>?_)];let⟨f,c,d,r,z,q⟩:=ζ;rwa[⟨by rw[<-⇑r];rwa[z],5⟩];let j:c ↥s1=none:=d.aO.fresh (agA _);rwa[⟨↑↥s1,upd c ↥s1 (.lst f),d.laid (t':=s1.toks) (λb u e=>agt _ e) (agA _) ?_,2,q _ j⟩];rwa[z,i,(0),r,agK _ rfl]
end
abbrev Sp:=Zb->Hp->VK->XK->Prop
abbrev lF:=Zq->Hp->Zu->XK->Zt->Zu->Prop
structure mw (P:Program) (w:World) (K:Za1) (mg:Str->Zl) (base:Heap) (A:Around) (outer:Zq) (s:Zu) (H:Hp):Prop where
 frames:A.frames\outer
 mod:Mod K mg base
 bs:∀b o,base.get? b\o->s.heap.get? b\o/\H b=none
 qS:base.objs.size<=↥s
 jc:s.heap.FunFrames base outer
 tN:∀b∈cH outer,H b=none
 aO:dH P w H s.heap
 bare:AllBare s.gens
def CE (a:Zq)(P:Program)(w:World)(H:Hp)(s:Zu)(Q:VK)(u:Zt)(b:Zu):Prop:=
 ∃v c,b.os=s.os/\AllBare b.gens/\Un (cH a) [] H c s.heap b.heap/\dH P w c b.heap/\RelV v u/\Q v c
def CR (c:lF)(a:Zq)(P:Program)(w:World)(H:Hp)(s:Zu)(Q:VK)(E:XK)(r:Result)(b:Zu):Prop:=
 match r with
 |.ok (.ret u)=>CE a P w H s Q u b
 |.ok _=>False
 |.error e=>c a H s E e b
structure dq (P:Program) (w:World) (K:Za1) (mg:Str->Zl) (base:Heap) (CX:lF) (k:Nat) (f:Zs) (fd:FuncData) (ps:Zp) (sp:Sp):Prop where
 len:∀vs H Q E,sp vs H Q E->⇑vs=⇑ps
 run:∀(A:Around) (outer:Zq) (s:Zu) (H:Hp) (args:Args) (us:Zk) (vs:Zb) (Q:VK) (E:XK),cx k A->mw P w K mg base A outer s H->BindsTo s fd args (ps.zip us)->Vals vs us->sp vs H Q E->
  codeAny (model P w) A (.call ↑f args) (CR CX outer P w H s Q E) s
theorem mw.make {mg:Str->Zl}{base:Heap}{outer:Zq}(e:mw P w K mg base A outer s H)(C:Zs)(b:Zk)(a:List (Str×Zt)):
 mw P w K mg base (A.under (.builtin "type.__call__" ⟨↑C::b,a⟩)) outer s H:=⟨by first|rwa[e.frames]|(simpa [Around.under,Code.envs,Code.isFrame,pushEnvs] using e.frames),e.mod,e.bs,e.qS,e.jc,e.tN,e.aO,e.bare⟩
theorem mw.in1 {mg:Str->Zl}{base:Heap}{outer:Zq}(e:mw P w K mg base A outer s H):
 mw P w K mg base A.in1 outer s H:=⟨e.frames,e.mod,e.bs,e.qS,e.jc,e.tN,e.aO,e.bare⟩
section
variable {X:Cx}{pins:List (Zs×Obj)}{σ:St}{H:Hp}{s s':Zu}
def Inv.zW (I:Inv X pins σ H s):mw X.prog X.w X.K X.mg X.base X.A X.stack s H:=
 ⟨I.ok.frames,I.ok.mod,I.bs,agJ I.ok.qS I.sz,I.stack,I.oD,I.aO,I.bare⟩
def Inv.after {Q:VK}(I:Inv X pins σ H s)(h:CE X.stack X.prog X.w H s Q u s'):EP X pins σ Q u s':=by
 let⟨v,c,os,bare,un,aO,r,q⟩:=h;let⟨e,g,d,t,a⟩:=s';obtain rfl:a=s.os:=os;rwa[v,c,I.call (h':=e) (g':=g) (d':=d) (t':=t) (ch:=[]) un aO bare (λb z=>absurd z (by simp)),r,q]
end
def LK (e:Sp)(a:Zb)(E:XK)(t:TA):TE:=λ d H Q=>t d H λb c=>e (b++a) c Q E
inductive Qp (C:Zs) (m:Str) (sp:Sp) (dvs:Zb) (E:XK) (t:TA) (σ:St) (x:V) (H:Hp) (Q:VK):Prop
 |mk (a dx:Zs) (fs:List (Str×V)):x=↑a->H a\.ins C dx fs->fs.lookup m=none->t σ H (λvs H2=>sp (x::(vs++dvs)) H2 Q E)->Qp C m sp dvs E t σ x H Q
def ku (C:Zs)(m:Str)(e:Sp)(a:Zb)(E:XK)(c:TE)(t:TA):TE:=λ b H Q=>c b H λx d=>Qp C m e a E t b x d Q
def UQ (C:Zs)(g:Sp)(b:Zb)(E:XK)(t:TA):TE:=λ f H Q=>t f H λd c=>∀x a,c x=none->c a=none->a≠x->
 g (↑x::(d++b)) (upd (upd c a (.own x)) x (.ins C a [])) (λv e=>v=.non/\Q ↑x e) E
def Binds (K:Za1)(fd:FuncData)(b:Zp)(c:Zk):Prop:=
 ∀(s:Zu) (a:Zk),K.In s.heap->⇑(a++c)=⇑b->BindsTo s fd ⟨a,[]⟩ (b.zip (a++c))
def Binds.all {fd:FuncData}(h:∀us:Zk,⇑us=⇑Z->bindArgs fd ⟨us,[]⟩=pure (Z.zip us)):Binds K fd Z []:=λs us _ a=>by
 rw[ag9]at a ⊢;rwa[.of_eq (h us a)]
def Passes (c:lF)(X:Cx)(E:XK):Prop:=∀(a:List (Zs×Obj)) (d:St) (H:Hp) (s:Zu) (e:Zt) (b:Zu),Inv X a d H s->c X.stack H s E e b->X.xe e b
section
variable {X:Cx}{CX:lF}{k:Nat}{f C:Zs}{fd:FuncData}{ps:Zp}{sp:Sp}{dvs:Zb}{ds:Zk}{E:XK}{x m:Str}{p pos apos:Pos}{e o:Expr}{es:Zr}{ta:TE}{t:TA}
theorem zX {a:List (Zs×Obj)}{Q:VK}{us:Zk}{vs:Zb}(F:dq X.prog X.w X.K X.mg X.base CX k f fd ps sp)(l:cx k X.A)(g:Binds X.K fd ps ds)(d:Vals dvs ds)(i:Passes CX X E)
 (I:Inv X a D H s) (r:Vals vs us) (h:sp (vs++dvs) H Q E):X⁻¹ X.A (call ↑f us) (EP X a D Q) X.xe s:=by
 let c:Vals (vs++dvs) (us++ds):=r.append d;let j:⇑(us++ds)=⇑ps:=by rw[<-⇑c];rwa[F.len _ _ _ _ h]
 rwa[ajn (ai2 (F.run X.A X.stack s H ⟨us,[]⟩ (us++ds) (vs++dvs) Q E l I.zW (g s us I.dv j) c h) λr n b=>?_)]
 cases r with
 |error e=>exact i a D H s e n I b
 |ok q=>
  cases q with
  |ret u=>exact I.after b
  |next=>exact False.elim b
  |brk=>exact False.elim b
  |cont=>exact False.elim b
theorem xu (F:dq X.prog X.w X.K X.mg X.base CX k f fd ps sp)(n:cx k X.A)(y:Gl X x)(i:X.mg x\↑f)(w:PySem.W.keepIn X.K ↑f=true)(A:Binds X.K fd ps ds)(z:Vals dvs ds)(l:Passes CX X E)
 (j:PA X (e::es) t) (c:(x==("__debug__":Str))=false:=by decide) (u:starEach (e::es) X.env=(false,eval e X.env)::starEach es X.env:=by rfl) (b:(backTo pos (starEach es X.env)).any (·.1)=false:=by rfl):
 PE X (.Call (.Name x p) (e::es) [] pos) (LK sp dvs E t):=by
 intro a s v H Q I h;rwa[ahH (j1 I y i ?_ c)];rwa[ajc (h₀:=X.base) I.ok.mod.vl w (aZ (j pos a s v H _ I h) λB D ζ=>?_) u b];let⟨G,J,g,r,q⟩:=ζ;rwa[⟨g.dv,5⟩];rwa[zX F n A z l g r q]
theorem j4 {pl:Sem Bool}(M:PE X o ta)(c:jZ X.K C)(hm:Meth X.K C m f)(F:dq X.prog X.w X.K X.mg X.base CX k f fd ps sp)(J:cx k X.A)(R:Binds X.K fd ps ds)(P:Vals dvs ds)(G:Passes CX X E)(D:PA X (e::es) t)
 (d:starEach (e::es) X.env=(false,eval e X.env)::starEach es X.env:=by rfl) (g:(backTo pos (starEach es X.env)).any (·.1)=false:=by rfl)
 (L:eval (.Call (.Attribute o m apos) (e::es) [] pos) X.env=(do
  let z <-eval o X.env
  standAt apos.atName
  let (f,first) <-holding [z] (getMethod z m pl)
  callWith pos f first (backTo pos (starEach (e::es) X.env)) (backToKw pos (keywordEach [] X.env))):=by rfl):
 PE X (.Call (.Attribute o m apos) (e::es) [] pos) (ku C m sp dvs E ta t):=by
 intro b s n H Q I h;rwa[PySem.W.methodCall_KW (pl:=pl) (aZ (M b s n H _ I h) λu N ζ=>?_) L];let⟨x,S,w,A,a,T,fs,ex,O,l,q⟩:=ζ;subst ex;obtain rfl:u=Value.ref a:=A;rwa[vw w O c hm l ?_];rwa[ajc (first:=[↑a]) (h₀:=X.base) I.ok.mod.vl hm.kp (aZ (D pos b N n S _ w q) λi U ζ=>?_) d g];let⟨y,W,v,r,B⟩:=ζ;rwa[⟨v.dv,5⟩];rwa[zX (us:=↑a::i) (vs:=↑a::y) F J R P G v (.cons rfl r) B]
theorem Jq {pl:Sem Bool}(v:PE X o ta)(c:jZ X.K C)(hm:Meth X.K C m f)(F:dq X.prog X.w X.K X.mg X.base CX k f fd ps sp)(n:cx k X.A)(A:Binds X.K fd ps ds)(z:Vals dvs ds)(j:Passes CX X E)
 (r:eval (.Call (.Attribute o m apos) [] [] pos) X.env=(do
  let g <-eval o X.env
  standAt apos.atName
  let (f,first) <-holding [g] (getMethod g m pl)
  callWith pos f first (backTo pos (starEach [] X.env)) (backToKw pos (keywordEach [] X.env))):=by rfl):
 PE X (.Call (.Attribute o m apos) [] [] pos) (ku C m sp dvs E ta j3):=by
 intro b s w H Q I h;rwa[PySem.W.methodCall_KW (pl:=pl) (aZ (v b s w H _ I h) λu G ζ=>?_) r];let⟨x,L,d,i,a,D,fs,ex,y,l,q⟩:=ζ;subst ex;obtain rfl:u=Value.ref a:=i;rwa[vw d y c hm l ?_];rwa[PySem.W.callWith_K0 (first:=[↑a]) d.dv hm.kp (zX (us:=[↑a]) (vs:=[↑a]) F n A z j d (.cons rfl .nil) q)]
structure Mk (K:Za1) (C f:Zs):Prop where
 makes:PySem.W.makesIn K C=true
 init:PySem.W.findIn K ↑C "__init__"=some (some ↑f)
 fn:PySem.W.isFn K ↑f=true
 kp:PySem.W.keepIn K ↑C=true
theorem Jr {a:List (Zs×Obj)}{Q:VK}(M:Mk X.K C f)(F:dq X.prog X.w X.K X.mg X.base CX k f fd ps sp)(n:cx (k+ 1) X.A)(z:Binds X.K fd ps ds)(y:Vals dvs ds)
 (l:Passes CX X E) (I:Inv X a D H s) (r:Vals L N)
 (h:∀x c,H x=none->H c=none->c≠x->sp (↑x::(L++dvs)) (upd (upd H c (.own x)) x (.ins C c [])) (λv P=>v=.non/\Q ↑x P) E):
 X⁻¹ X.A (call ↑C N) (EP X a D Q) X.xe s:=by
 let g:=h (↥s+ 1) ↥s (I.aO.fresh (aiN _)) (I.aO.fresh (agA _)) (ag2 (ahS _));let d:=Inv.made (C:=C) I;let i:Vals (V.ref (↥s+ 1)::(L++dvs)) (Value.ref (↥s+ 1)::(N++ds)):=.cons rfl (r.append y)
 let B:⇑(Value.ref (↥s+ 1)::N++ds)=⇑ps:=by
  let e:=⇑i;rw[F.len _ _ _ _ g]at e;rwa[e.symm]
 refine ajn (Jp (f:=f) I.dv M.makes M.init (ajC.mp M.fn) (ai2 (F.run _ X.stack _ _ ⟨Value.ref (↥s+ 1)::N,[]⟩ (Value.ref (↥s+ 1)::(N++ds)) _ _ E (n.make C N [])
  (d.zW.make C N []) (z _ (Value.ref (↥s+ 1)::N) d.dv B) i g) λr J b=>?_))
 cases r with
 |error e=>exact l a D _ _ e J d b
 |ok O=>
  cases O with
  |ret u=>
   let⟨v,w,q,j,G,A⟩:=d.after b;subst G;rwa[j,⟨V.ref (↥s+ 1),w,q,2,A⟩]
  |next=>exact False.elim b
  |brk=>exact False.elim b
  |cont=>exact False.elim b
theorem xA (M:Mk X.K C f)(F:dq X.prog X.w X.K X.mg X.base CX k f fd ps sp)(n:cx (k+ 1) X.A)(w:Gl X x)(i:X.mg x\↑C)(z:Binds X.K fd ps ds)(y:Vals dvs ds)(l:Passes CX X E)
 (j:PA X (e::es) t) (c:(x==("__debug__":Str))=false:=by decide) (u:starEach (e::es) X.env=(false,eval e X.env)::starEach es X.env:=by rfl) (b:(backTo pos (starEach es X.env)).any (·.1)=false:=by rfl):
 PE X (.Call (.Name x p) (e::es) [] pos) (UQ C sp dvs E t):=by
 intro a s v H Q I h;rwa[ahH (j1 I w i ?_ c)];rwa[ajc (h₀:=X.base) I.ok.mod.vl M.kp (aZ (j pos a s v H _ I h) λA B ζ=>?_) u b];let⟨D,G,g,r,q⟩:=ζ;rwa[⟨g.dv,5⟩];rwa[Jr M F n z y l g r q]
end
def PK (X:Cx)(kws:List Keyword)(t:TA):Prop:=
 ∀(c:Pos) (a:List (Zs×Obj)) (s:Zu) (b:St) (H:Hp) (Q:Zb->Hp->Prop),Inv X a b H s->t b H Q->X⁻¹ X.A (evalAll ((backToKw c (keywordEach kws X.env)).map (·.2))) (AP X a b Q) X.xe s
section
variable {X:Cx}{fd:FuncData}{ps ks:Zp}{x:Str}{pos YH:Pos}{e:Expr}{kws:List Keyword}{te:TE}{t:TA}{nm:Option Str}
def GC:PK X [] j3:=λ_ _ _ _ H Q I h=>wpAny_evalAll_nil ⟨[],H,I,.nil,h⟩
def Dz (g:PE X e te)(i:PK X kws t):PK X (⟨nm,e,YH⟩::kws) (jJ te t):=by
 intro pos a s b H Q I h;rwa[wpAny_evalAll_cons (ags (aZ (g a s b H _ I h) λu q ζ=>?_))];let⟨x,w,l,c,v⟩:=ζ;rwa[ags (ajm (agz ?_))];rwa[aZ (i pos a q b w _ l v) λz A ζ=>?_];let⟨n,y,j,r,d⟩:=ζ;rwa[⟨x::n,y,j,.cons c r,d⟩]
structure aaJ (K:Za1) (fd:FuncData) (ps ks:Zp) (g:Zk->Zk->Zk) (gV:Zb->Zb->Zb):Prop where
 to:∀(s:Zu) (us ws:Zk),K.In s.heap->⇑(g us ws)=⇑ps->BindsTo s fd ⟨us,ks.zip ws⟩ (ps.zip (g us ws))
 rel:∀{vs:Zb} {us:Zk} {zs:Zb} {ws:Zk},Vals vs us->Vals zs ws->Vals (gV vs zs) (g us ws)
end
structure aS (N P:Zp) (sc:Scope):Prop where
 kind:sc.kind=.function
 co:sc.isCoroutine=false
 gen:sc.isGenerator=false
 nd:N.Nodup
 pre:N.take ⇑P=P
 par:∀x∈P,sc.names.lookup x=some .local\/sc.names.lookup x=some .cell
 Qq:∀y∈sc.names,y.2≠.free
theorem yq {kindOf:Str->Option NameKind}:∀{binds:List (Str×Zt)} {m:Str->Zl},(∀v,(x,v)∉binds)->bindL kindOf binds m x=m x
 |[],_,_=>rfl
 |(n,v)::r,m,h=>by
  unfold bindL;rw[yq λw a=>h w (ag3 _ a)];split
  ·cbv
  ·rfl
theorem yr {kindOf:Str->Option NameKind}:∀{binds:List (Str×Zt)} {m:Str->Zl},(∀v,(x,v)∉binds)->bindC kindOf binds m x=m x
 |[],_,_=>rfl
 |(n,v)::r,m,h=>by
  unfold bindC;rw[yr λw a=>h w (ag3 _ a)];split
  ·rfl
  cbv
theorem yt {kindOf:Str->Option NameKind}{x:Str}{v:Zt}:∀{P:Zp} {a:Zk} {i:Nat} {m:Str->Zl},P.Nodup->P[i]?\x->a[i]?\v->kindOf x=some .local->
 bindL kindOf (P.zip a) m x=some v
 |[],_,_,_,_,h,_,_=>by simp at h
 |_::_,[],_,_,_,_,h,_=>by simp at h
 |p::P,w::a,0,m,d,c,b,e=>by
  simp at c b;subst c;subst b;show bindL kindOf ((p,w)::P.zip a) m p=_;unfold bindL;rw[yq λv f=>(ahb.mp d).1 (List.of_mem_zip f).1,agX e];simp
 |p::P,w::a,i+ 1,m,d,c,b,e=>by
  unfold bindL;rwa[yt (i:=i) (ahb.mp d).2 (by simpa using c) (by simpa using b) e]
theorem yu {kindOf:Str->Option NameKind}{x:Str}{v:Zt}:∀{P:Zp} {a:Zk} {i:Nat} {m:Str->Zl},P.Nodup->P[i]?\x->a[i]?\v->kindOf x≠some .local->
 bindC kindOf (P.zip a) m x=some v
 |[],_,_,_,_,h,_,_=>by simp at h
 |_::_,[],_,_,_,_,h,_=>by simp at h
 |p::P,w::a,0,m,d,c,b,e=>by
  simp at c b;subst c;subst b;show bindC kindOf ((p,w)::P.zip a) m p=_;unfold bindC;rw[yr λv f=>(ahb.mp d).1 (List.of_mem_zip f).1,agT e];simp
 |p::P,w::a,i+ 1,m,d,c,b,e=>by
  unfold bindC;rwa[yu (i:=i) (ahb.mp d).2 (by simpa using c) (by simpa using b) e]
noncomputable def start (N:Zp)(a:Zb):St:=a.map some++List.replicate (⇑N - ⇑a) none
def cy (c:lF)(P:Program)(w:World)(K:Za1)(mg:Str->Zl)(base:Heap)(N:Zp)(qual:Str)(scope:Scope)(f:Zs)(b:Zt)(A:Around)(outer:Zq)(s:Zu)(H:Hp)(E:XK):Cx where
 prog:=P
 w:=w
 K:=K
 mg:=mg
 base:=base
 A:=A.deeper (envOfC qual scope ↥s f b)
 N:=N
 eA:=s
 uq:=H
 env:=envOfC qual scope ↥s f b
 outer:=outer
 stack:=envOfC qual scope ↥s f b::outer
 ex:=[]
 calm:=true
 fn:=λ_=>true
 pn:=[]
 xe:=λe d=>(P<|>w) (A.deeper (envOfC qual scope ↥s f b)) (leaving (envOfC qual scope ↥s f b) e) (λ_ a=>c outer H s E e a) (λg a=>c outer H s E g a) d
def zY {sc:Scope}(h:sc.names.lookup x=some .cell):∃c,(cellsFrom n sc.names []).lookup x\c:=by
 let q:=ajU sc.names n [] (.inl h);rwa[ajE.mp q]
theorem yw {J:lF}{base:Heap}{N:Zp}{qual:Str}{scope:Scope}{f:Zq}{E:XK}{G:Zk}
 (S:aS N Z scope) (U:A.handled=none) (j:mw P w K M base A f s H) (Y:⇑L=⇑Z) (r:Vals L G)
 (x:InCallC s ↥s (bindL (envOfC qual scope ↥s a v).kindOf (Z.zip G) λ_=>none) (cellsFrom (↥s+ 1) scope.names []) (bindC (envOfC qual scope ↥s a v).kindOf (Z.zip G) λ_=>none) t):
 Inv (cy J P w K M base N qual scope a v A f s H E) [] (start N L) H t:=by
 let T:⇑Z<=⇑N:=by have:=ahT List.length S.pre;rw[ag8]at this;ext
 let⟨D,W,rfl,I⟩:=x.done;let m:∀b:Zs,b∉(cy J P w K M base N qual scope a v A f s H E).ex:=λb z=>absurd (show b∈([]:Zn) from z) (by simp)
 erw[⟨j.mod,S.kind,22,agA _,λy z c D l=>?_,λy o=>?_,λy c _ h=>?_,λ_=>U,Around.frames_deeper j.frames,.inr ⟨22⟩,λb z=>absurd z (m b),j.bs,j.qS,λb _ _=>m b,λb z=>absurd z (m b),j.jc,j.tN⟩,2,j.bare,Un.kept I,⟨_,x.toInCall.ns,λi y g D l X=>?_⟩,λy c h=>⟨_,x.cell y c h⟩,j.aO.fresh (agA _),λy c h=>?_,λp B=>absurd (show p∈([]:List (Zs×Obj)) from B) (by simp),j.aO.kept I]
 ·rwa[name_of_addr x.apart (ah2 D) (ah2 l)]
 ·rcases o with o|o
  ·rwa[zY o]
  ·rwa[absurd rfl (S.Qq _ (ah2 o))]
 ·rwa[ajB (x.above y c (ah2 h))]
 ·let F:i<⇑L:=by
   unfold start at l;by_cases F:i<⇑L
   ·rwa[F]
   ·cbv
  let R:L[i]?\g:=by
   unfold start at l;rw[agF (by simpa using F),agR]at l
   cases e:L[i]? with
   |none=>rw[e]at l;ext l
   |some d=>cbv
  let⟨u,O,Q⟩:=r.get R
  let B:Z[i]?\y:=by
   rw[<-S.pre,ajF ∅];rwa[D]
  let C:Z.Nodup:=by rw[<-S.pre];rwa[S.nd.sublist (List.take_sublist _ _)]
  erw[u,Q];rcases S.par y (agu B) with k|k
  ·rwa[.inl ⟨k,yt C B O k⟩]
  ·let⟨c,e⟩:=zY (n:=↥s+ 1) k;rwa[.inr ⟨.inl k,c,e,5⟩];let q:=x.cell y c e;rw[yu C B O (by show scope.names.lookup y≠_;cbv)]at q;rwa[q]
 ·rwa[j.aO.fresh (ajB (x.above y c (ah2 h)))]
 ·unfold start;show _=⇑N;rw[agw,agy,List.length_replicate];ext
theorem zL {B:lF}{base:Heap}{k:Nat}{name qual:Str}{params:Arguments}{body:List Stmt}{scope:Scope}{X kV doc pm d Y oc:Zt}{U od:Zo}
 {C:Array Zl} {N z:Zp} {D:Sp} (lk:K.lookup a\⟨oc,od,.func (PySem.W.fnOf name qual params body scope X kV doc pm U d Y),C⟩) (L:PySem.W.codeIn K d qual=true) (S:aS N z scope)
 (len:∀g H Q E,D g H Q E->⇑g=⇑z)
 (j:∀(A:Around) (c:Zq) (s:Zu) (H:Hp) (g:Zb) (Q:VK) (E:XK),cx k (A.deeper (envOfC qual scope ↥s a d))->D g H Q E->
  ∃t,iL (cy B P w K M base N qual scope a d A c s H E) body t/\t { nx:=λ_ h=>Q .non h,rt:=Q } (start N g) H):
 dq P w K M base B (k+ 1) a (PySem.W.fnOf name qual params body scope X kV doc pm U d Y) z D:=by
 rwa[⟨len,λA c s H T us g Q E G m hb r p=>?_⟩];let hl:=len _ _ _ _ p;let R:K.In s.heap:=m.mod.vl.keeps λb o e=>(m.bs b o e).1
 let lim:s.heap.NoLimit:=m.mod.nolimit.keeps λb o e=>(m.bs b o e).1
 let i:∀y∈z.zip us,scope.names.lookup y.1=some .local\/(scope.names.lookup y.1=some .cell/\((cellsFrom (↥s+ 1) scope.names []).lookup y.1).isSome=true):=λζ Z=>by
  let⟨n,v⟩:=ζ
  rcases S.par n (List.of_mem_zip Z).1 with q|q
  ·rwa[.inl q]
  ·rwa[.inr ⟨q,ajU _ _ _ (.inl q)⟩]
 rwa[codeAny_call_function G.depth (R^lk) rfl S.co S.gen rfl (PySem.W.codeRec_of R L) (hb _ _ _ _ ?_)];rwa[wpAny_newFunctionEnv_cells S.kind i λenv he W x=>?_]
 subst he;rwa[⟨lim.keeps x.toInCall.keep,codeAny_func ?_⟩];let⟨t,ht,hq⟩:=j A c s H g Q E (G.deeper _) p;let I:Inv (cy B P w K M base N qual scope a d A c s H E) [] (start N g) H W:=yw S G.hd m hl r x;rwa[ahA (ht [] W (start N g) H _ I hq) (λfl O l=>?_) λe O l=>l]
 let fin:∀{f:St} {h:Hp} {v:V} {u:Zt},Inv (cy B P w K M base N qual scope a d A c s H E) [] f h O->RelV v u->Q v h->CE c P w H s Q u O:=
  λ{f h v u} J F q=>⟨v,h,J.os,J.bare,J.base,J.aO,F,q⟩
 cases fl with
 |ret u=>
  let⟨v,f,h,J,F,q⟩:=l;rwa[fin J F q]
 |next=>
  let⟨f,h,J,q⟩:=l;rwa[fin (v:=V.non) (u:=Value.none) J rfl q]
 |brk=>
  let⟨_,_,_,q⟩:=l;rwa[False.elim q]
 |cont=>
  let⟨_,_,_,q⟩:=l;rwa[False.elim q]
section
variable {X:Cx}{x:Str}{p pos:Pos}{e:Expr}{es:Zr}{t:TA}{id T:String}{r:Zb->Hp->VK->Prop}
def V0 (r:Zb->Hp->VK->Prop)(t:TA):TE:=λ c H Q=>t c H λa b=>r a b Q
def bN (y:i6 X (.builtin id) r)(o:Gl X x)(f:X.mg x=none)(v:bootBuiltins x\.builtin id)(j:PA X (e::es) t)(m:x≠"__name__":=by decide)(c:(x==("__debug__":Str))=false:=by decide)
 (k:starEach (e::es) X.env=(false,eval e X.env)::starEach es X.env:=by rfl) (b:(backTo pos (starEach es X.env)).any (·.1)=false:=by rfl):PE X (.Call (.Name x p) (e::es) [] pos) (V0 r t):=by
 intro a s d H Q I h;rwa[ahH (gS I o f v ?_ m c)];rwa[PyProof.Rows.callWith_builtin1 (aZ (j pos a s d H _ I h) λi n ζ=>?_) k b];let⟨q,w,l,g,u⟩:=ζ;rwa[y a n d w q i Q l g u]
def eM (y:i6 X (.type T) r)(o:Gl X x)(f:X.mg x=none)(v:bootBuiltins x\.type T)(j:PA X (e::es) t)(m:x≠"__name__":=by decide)(c:(x==("__debug__":Str))=false:=by decide)
 (k:starEach (e::es) X.env=(false,eval e X.env)::starEach es X.env:=by rfl) (b:(backTo pos (starEach es X.env)).any (·.1)=false:=by rfl):PE X (.Call (.Name x p) (e::es) [] pos) (V0 r t):=by
 intro a s d H Q I h;rwa[ahH (gS I o f v ?_ m c)];rwa[ahz (aZ (j pos a s d H _ I h) λi n ζ=>?_) k b];let⟨q,w,l,g,u⟩:=ζ;rwa[y a n d w q i Q l g u]
end
end L2
namespace HT
open PySem PyProof.Rows
noncomputable def lexLt:Zg->Zg->Bool
 |[],[]=>false
 |[],_::_=>true
 |_::_,[]=>false
 |x::a,y::ys=>if x=y then lexLt a ys else decide (x<y)
def lK (x y:Int)(a ys:Zg):lexLt (x::a) (y::ys)=if x=y then lexLt a ys else decide (x<y):=rfl
def qo:lexLt [] []=false:=rfl
section
variable {prog:Program}{w:World}{A:Around}{E:Zt->Zu->Prop}{s:Zu}
theorem NF {ws:Zk}(t:IsTup s.heap a N.toArray)(x:IsTup s.heap b ws.toArray)(o:N≠[])
 (u:ws=[]->Q ↑a s) (r:ws≠[]->Q ↑↥s { s with heap:=s.heap.push ("tuple">>>.seq (N++ws).toArray) })
 (q:⇑N+ ⇑ws<=sizeLine):(prog<|>w) A (binaryOp .Add ↑a ↑b) Q E s:=by
 let⟨⟨cls,k,data,m⟩,g,y,n,v⟩:=id t;let⟨⟨p,d,data2,f⟩,c,i,l,j⟩:=id x;subst y v i j;let e:N.toArray++ws.toArray=(N++ws).toArray:=by simp
 by_cases h:ws=[]
 ·exact concat_meets ⟨_,g,2⟩ ⟨_,c,2⟩ noFill_tuple_add seq_tuple_add ajV ajM (ajG _ _)
   (tuple_addW1 a b N.toArray ws.toArray n l k d m f (by simpa using o) (by simp[h])) ⟨g,c,u h⟩
 ·refine concat_meets ⟨_,g,2⟩ ⟨_,c,2⟩ noFill_tuple_add seq_tuple_add ajV ajM (ajG _ _)
   (tuple_addW2 a b N.toArray ws.toArray n l k d m f (by simpa using o) (by simpa using h) ∅) ⟨g,c,5⟩
  rw[e];rwa[r h]
noncomputable def bW (n d:Nat):Zj->Nat
 |none=>d
 |some v=>if v<0 then (v+ (n:Int)).toNat else min v.toNat n
def zZ (n d:Nat):bW n d none=d:=rfl
def oE (n d k:Nat):bW n d (some (k:Int))=min k n:=by
 show (if (k:Int)<0 then ((k:Int)+ (n:Int)).toNat else min (k:Int).toNat n)=min k n;rw[agT ∅,ag4]
def DB (v:Int)(n d:Nat):(if v<0 then max (v+ (n:Int)) 0 else min v (n:Int))=((bW n d (some v):Nat):Int):=by
 show (if v<0 then max (v+ (n:Int)) 0 else min v (n:Int))=(((if v<0 then (v+ (n:Int)).toNat else min v.toNat n):Nat):Int);by_cases a:v<0
 ·cbv
 ·simp only[agT a];ext
def Fb (lo a:Zj)(n:Nat):Builtin.Slice.sliceAdjust lo a 1 (n:Int)=(((bW n 0 lo:Nat):Int),((bW n n a:Nat):Int)):=by
 let b:¬((1:Int)<0):=∅
 unfold Builtin.Slice.sliceAdjust;rwa[Prod.ext ?_ ?_]
 ·cases lo with
  |none=>rfl
  |some v=>exact DB v n 0
 ·cases a with
  |none=>rfl
  |some v=>exact DB v n n
def Fe (i j:Nat):Builtin.Slice.slicePlaces (i:Int) (j:Int) 1=j - i:=by
 unfold Builtin.Slice.slicePlaces;let a:(1:Int) > 0:=∅
 split <;> ext
def vx {o:Zj}{Q:Zj->Zu->Prop}(p:IsPart v o)(h:Q o s):(prog<|>w) A (Builtin.Slice.slicePartIndex v) Q E s:=by
 cases p with
 |none=>exact slicePart_none h
 |int i t=>exact slicePart_int h
theorem mx {lo c:Zj}{Q:Int×Int×Nat->Zu->Prop}(f:s.heap.IsSliceOf a v u .none)(pl:IsPart v lo)(e:IsPart u c)
 (h:Q (((bW n 0 lo:Nat):Int),1,bW n n c - bW n 0 lo) s):(prog<|>w) A (Builtin.Slice.sliceApplied ↑a (pure (n:Int))) Q E s:=by
 let⟨os,b,g,d⟩:=id f;rwa[ags (ags (ahv b d (x:=v) rfl (ags (ahv b d (x:=u) rfl (ags (ahv b d (x:=.none) rfl (agz ?_)))))))];rwa[ags (slicePart_none ?_)];rwa[ags (vx pl (ags (vx e (ags (agz ?_)))))];show wpAny _ _ (match Builtin.Slice.sliceAdjust lo c 1 (n:Int) with|(lo,c)=>pure (lo,(1:Int),Builtin.Slice.slicePlaces lo c 1)) _ _ s;rw[Fb lo c n];show wpAny _ _ (pure (((bW n 0 lo:Nat):Int),(1:Int),Builtin.Slice.slicePlaces ((bW n 0 lo:Nat):Int) ((bW n n c:Nat):Int) 1)) _ _ s;rw[Fe];rwa[agz h]
def Js (xs:Zm)(i k:Nat):((List.range k).filterMap λ(m:Nat)=>xs[((i:Int)+ (m:Int)* 1).toNat]?).toArray=((xs.toList.drop i).take k).toArray:=by
 let e:(λ(m:Nat)=>xs[((i:Int)+ (m:Int)* 1).toNat]?)=λm=>xs[i+ m]?:=by
  funext m
  have:((i:Int)+ (m:Int)* 1).toNat=i+ m:=∅
  rw[this]
 rw[e];have:=pick_run xs i k;rw[List.filterMap_map]at this;let a:((λx=>xs[x]?) ∘ λx=>i+ x)=λm=>xs[i+ m]?:=rfl
 cbv
theorem tm {items:Zm}{lo d:Zj}(e:IsTup s.heap a items)(k:s.heap.IsSliceOf b v u .none)(pl:IsPart v lo)(p:IsPart u d)
 (o:¬(bW items.size 0 lo=0/\bW items.size items.size d=items.size))
 (h:Q ↑↥s { s with heap:=s.heap.push ("tuple">>>.seq ((items.toList.drop (bW items.size 0 lo)).take (bW items.size items.size d - bW items.size 0 lo)).toArray) })
 (l:items.size<=sizeLine):(prog<|>w) A (getItem ↑a ↑b) Q E s:=by
 let c:sizeOk (.seq ((items.toList.drop (bW items.size 0 lo)).take (bW items.size items.size d - bW items.size 0 lo)).toArray):=by
  show ((items.toList.drop (bW items.size 0 lo)).take (bW items.size items.size d - bW items.size 0 lo)).toArray.size<=sizeLine;rw[agL,ag8,aho,aie];ext
 let⟨os,f,j,n⟩:=id k;let i:s.TypeIs ↑b "slice":=⟨os,f,j⟩;unfold getItem
 try with_reducible rwa[ahF ?_]
 rwa[ags (wpAny_sequenceKey e.typeIs ⋯ ?_)]
 refine ags (ahw (name:=Str.ofString "__getitem__") e.typeIs ahf
  (ahB ahf e.typeIs entry_tuple_getitem ?_ (args_tuple_getitem _ _)))
 show wpAny _ _ (Builtin.Tuple.tupleItemsOf ↑a >>=_) _ _ s;rwa[ags (tupleItemsOf_ e ?_)];rwa[ags (aiI i ?_)];rwa[ags (mx k pl p ?_)]
 let g:¬((((bW items.size 0 lo:Nat):Int)==0 && (1:Int)==1 && (bW items.size items.size d - bW items.size 0 lo)==items.size)=true):=by
  intro q;rw[ah0,ah0]at q;let t:((bW items.size 0 lo:Nat):Int)=0:=eq_of_beq q.1.1;let r:bW items.size items.size d - bW items.size 0 lo=items.size:=eq_of_beq q.2;rwa[o ⟨33⟩]
 show wpAny _ _ (if (((bW items.size 0 lo:Nat):Int)==0 && (1:Int)==1 && (bW items.size items.size d - bW items.size 0 lo)==items.size)=true then _ else _) _ _ s;rw[agT g,Js]
 first
  |rwa[ags (m:=Builtin.Tuple.tupleExact _) (ahg (agz ⟨_,rfl,agz h⟩) c)]
  |rwa[ags (m:=Builtin.Tuple.tupleExact _) (ahg (ags (agz (agz ⟨_,rfl,agz h⟩))) c)]
  |rwa[ags (ags (m:=Builtin.Tuple.tupleExact _) (ahg (agz (agz ⟨_,rfl,agz h⟩)) c))]
  |rwa[ags (ags (m:=Builtin.Tuple.tupleExact _) (ahg (agz ⟨_,rfl,agz h⟩) c))]
end
end HT
namespace L2
open PySem PySem.Spec PyProof.Rows
abbrev TO:=St->Hp->(Zj->Hp->Prop)->Prop
def PO (X:Cx)(e:Option Expr)(t:TO):Prop:=
 ∀(a:List (Zs×Obj)) (s:Zu) (b:St) (H:Hp) (Q:Zj->Hp->Prop),Inv X a b H s->t b H Q->
  X⁻¹ X.A (evalPart e X.env) (λu d=>∃o c,Inv X a b c d/\IsPart u o/\Q o c) X.xe s
def NK:TO:=λ_ H Q=>Q none H
def UT (t:TE):TO:=λ b H Q=>t b H λx a=>∃i,x=.int i/\Q (some i) a
section
variable {X:Cx}{e:Expr}{te:TE}{lo hi:Option Expr}{tl th:TO}{pos p2:Pos}
def iz:PO X none NK:=by
 intro a s b H Q I h;rwa[agz ⟨none,H,I,.none,h⟩]
def iA (h:PE X e te):PO X (some e) (UT te):=by
 intro a s j H Q I b;rwa[aZ (h a s j H _ I b) λu k ζ=>?_];let⟨x,g,f,d,c⟩:=ζ
 let⟨i,rfl,q⟩:=c;let⟨t,rfl⟩:=d;rwa[some i,g,f,.int i t,q]
def LN (X:Cx)(r:V->Zj->Zj->Hp->VK->Prop):Prop:=
 ∀(a:List (Zs×Obj)) (s:Zu) (f:St) (H:Hp) (x:V) (v d c:Zt) (lo hi:Zj) (b:Zs) (Q:VK),Inv X a f H s->RelV x v->s.heap.IsSliceOf b d c .none->IsPart d lo->IsPart c hi->r x lo hi H Q->
  ∃T id,typeLookup (.type T) "__getitem__"=pure (some (.builtin id))/\s.TypeIs v T/\X⁻¹ X.A (getItem v ↑b) (EP X a f Q) X.xe s
def tSl (r:V->Zj->Zj->Hp->VK->Prop)(te:TE)(tl th:TO):TE:=λ a H Q=>te a H λx c=>tl a c λl d=>th a d λu b=>r x l u b Q
def j5 {r:V->Zj->Zj->Hp->VK->Prop}(m:LN X r)(o:PE X e te)(G:PO X lo tl)(B:PO X hi th):PE X (.Subscript e (.Slice lo hi none p2) pos) (tSl r te tl th):=by
 intro a s c H Q I h;rwa[Subscript_ (aZ (o a s c H _ I h) λv C ζ=>?_)];let⟨x,J,A,j,F⟩:=ζ;rwa[wpAny_Slice (aZ (G a C c J _ A F) λf p ζ=>?_)];let⟨l,L,z,pl,k⟩:=ζ;rwa[aZ (B a p c L _ z k) λd s3 ζ=>?_];let⟨u,g,t,w,E⟩:=ζ;rwa[agz ?_];let i:Inv X a c g { s3 with heap:=s3.heap.push ("slice">>>.fields #[f,d,.none]) }:=t.kept (t':=s3.toks) λb N q=>agt _ q
 let⟨T,id,y,n,D⟩:=m a { s3 with heap:=s3.heap.push ("slice">>>.fields #[f,d,.none]) } c g x v f d l u ↥s3 Q i j (Heap.IsSliceOf.new ..) pl w E;rwa[tail_any (ops:=[↑↥s3,v]) n y D (by with_unfolding_all rfl)]
def fm (xs:Zb)(lo hi:Zj):Zb:=(xs.drop (HT.bW ⇑xs 0 lo)).take (HT.bW ⇑xs ⇑xs hi - HT.bW ⇑xs 0 lo)
def tT (xs:Zb)(lo hi:Zj):⇑(fm xs lo hi)<=⇑xs:=by
 unfold fm;rw[ag8,aho];ext
inductive Qr (K:Za1) (x:V) (lo:Zj) (hi:Zj) (H:Hp) (Q:VK):Prop
 |mk (a:Zs) (xs:Zb):x=↑a->bC K H a xs->¬(HT.bW ⇑xs 0 lo=0/\HT.bW ⇑xs ⇑xs hi=⇑xs)->(∀p,H p=none->Q ↑p (upd H p (.tup (fm xs lo hi))))->Qr K x lo hi H Q
def Qs:LN X (Qr X.K):=by
 intro d s t H x v w n lo hi y Q I i m pl l h;let⟨a,xs,rfl,k,j,q⟩:=h;ext i;let⟨c,r,f,g⟩:=I.tuple k;let hlen:c.toArray.size=⇑xs:=by rwa[r.length.symm]
 erw["tuple",_,ahf.lookup,f.typeIs];rwa[HT.tm f m pl l ([hlen]▸j) ?_ ([hlen]▸g)];rw[hlen];rwa[⟨↑↥s,_,I.laid (t':=s.toks) (o:=.tup (fm xs lo hi)) (λb u q=>agt _ q) (agA _) ?_,2,q _ (I.aO.fresh (agA _))⟩];rwa[agJ (tT xs lo hi) g,_,(r.drop (HT.bW ⇑xs 0 lo)).take (HT.bW ⇑xs ⇑xs hi - HT.bW ⇑xs 0 lo),IsTup.new _ _]
inductive YJ (K:Za1) (x:V) (y:V) (H:Hp) (Q:VK):Prop
 |mk (a b:Zs) (ns ms:Zg):x=↑a->y=↑b->bC K H a (ns.map V.int)->bC K H b (ms.map V.int)->Q (.bl (HT.lexLt ns ms)) H->YJ K x y H Q
inductive LQ (K:Za1) (x:V) (y:V) (H:Hp) (Q:VK):Prop
 |mk (a b:Zs) (xs ys:Zb):x=↑a->y=↑b->bC K H a xs->bC K H b ys->xs≠[]->⇑xs+ ⇑ys<=sizeLine->(ys=[]->Q ↑a H)->(ys≠[]->∀p,H p=none->Q ↑p (upd H p (.tup (xs++ys))))->LQ K x y H Q
def Vals.sM (r:Vals L N):N=[]↔L=[]:=by
 cases r with
 |nil=>simp
 |cons _ _=>simp
def NM:fQ X (binaryOp .Add) (LQ X.K):=by
 intro f s D H x y v u Q I k j h;let⟨a,b,r,ys,rfl,rfl,m,t,n,i,A,l⟩:=h;ext k;ext j;let⟨B,d,p,_⟩:=I.tuple m;let⟨g,c,p2,_⟩:=I.tuple t;rwa[HT.NF p p2 (λz=>n (d.sM.mp z)) (λz=>⟨↑a,H,I,2,A (c.sM.mp z)⟩) (λz=>?_) (by rw[<-⇑d,<-⇑c];rwa[i])];rwa[⟨↑↥s,_,I.laid (t':=s.toks) (o:=.tup (r++ys)) (λb E q=>agt _ q) (agA _) ?_,2,l (λw=>z (c.sM.mpr w)) _ (I.aO.fresh (agA _))⟩];rwa[[agw]▸i,_,d.append c,IsTup.new _ _]
end
def vy (n:Nat)(i:Int):Zi:=if 0<=i then (if i<n then some i.toNat else none) else if -(n:Int)<=i then some (i+ n).toNat else none
noncomputable def kK {a:Type}(xs:List a)(i:Int):Option a:=(vy ⇑xs i).bind λj=>xs[j]?
def xB (h:vy n z\j):seqIndex? z n\j/\j<n/\-(n:Int)<=z/\z<n:=by
 unfold vy at h;by_cases b:0<=z
 ·rw[agX b]at h;by_cases a:z<n
  ·rw[agX a]at h;let e:z.toNat=j:=Za0 h;rwa[by rw[seqIndex_of b a,e],33,a]
  ·rw[agT a]at h;ext h
 ·rw[agT b]at h;by_cases a: -(n:Int)<=z
  ·rw[agX a]at h;let e:(z+ n).toNat=j:=Za0 h;rwa[by rw[seqIndex_neg ∅ a,e],3,a,3]
  ·rw[agT a]at h;ext h
def DC {a:Type}{xs:List a}{v:a}(h:kK xs z\v):∃j,seqIndex? z ⇑xs\j/\xs[j]?\v/\j<⇑xs/\-(⇑xs:Int)<=z/\z<⇑xs:=by
 unfold kK at h
 cases e:vy ⇑xs z with
 |none=>rw[e]at h;ext h
 |some j=>
  rw[e]at h;let⟨f,d,c,b⟩:=xB e;rwa[j,f,h,d,c,b]
def dE {a:Type}{xs:List a}{v:a}(h:xs[j]?\v):kK xs (j:Int)\v:=by
 let b:j<⇑xs:=(agx.mp h).1
 let e:vy ⇑xs (j:Int)\j:=by
  unfold vy;rw[agX ∅,agX ∅];simp
 unfold kK;rw[e];rwa[h]
def NP (b:Expr):Prop:=∀o i,subscripted b false o i=operate [o,i] (getItem o i)
def GD (X:Cx)(r:R2):Prop:=
 ∀(value slice:Expr) (a:List (Zs×Obj)) (s:Zu) (b:St) (H:Hp) (x y:V) (v u:Zt) (Q:VK),Inv X a b H s->RelV x v->RelV y u->r x y H Q->
  subscripted slice false v u=operate [v,u] (getItem v u)->X⁻¹ X.A (subscriptTail value slice v u) (EP X a b Q) X.xe s
def Qt (X:Cx)(id:String)(r:V->Zb->Hp->VK->Prop):Prop:=
 ∀(a:List (Zs×Obj)) (s:Zu) (d:St) (H:Hp) (x:V) (c:Zb) (v:Zt) (b:Zk) (Q:VK),Inv X a d H s->RelV x v->Vals c b->r x c H Q->
  X⁻¹ X.A (call (.builtin id) (v::b)) (EP X a d Q) X.xe s
section
variable {X:Cx}{a b:Expr}{ta tb:TE}{pos:Pos}
def bF {r:R2}(g:GD X r)(f:PE X a ta)(m:PE X b tb)(k:NP b):PE X (.Subscript a b pos) (LJ r ta tb):=by
 intro c s i H Q I h;rwa[Subscript_ (Jl f m I h λv u j x y n l e d q=>g a b c j i n x y v u Q l e d q (k _ _))]
inductive Jt (K:Za1) (x:V) (y:V) (H:Hp) (Q:VK):Prop
 |mk (p:Zs) (xs:Zb) (i:Int) (v:V):x=↑p->y=.int i->aH K H p xs->kK xs i\v->Q v H->Jt K x y H Q
inductive Ju (K:Za1) (x:V) (y:V) (H:Hp) (Q:VK):Prop
 |mk (p:Zs) (xs:Zb) (i:Int) (v:V):x=↑p->y=.int i->bC K H p xs->kK xs i\v->Q v H->Ju K x y H Q
inductive YK (x:V) (y:V) (H:Hp) (Q:VK):Prop
 |mk (z:Str) (i:Int) (c:Nat):x=.str z->y=.int i->⇑z<=sizeLine->kK z.cps.toList i\c->Q (.str ⟨#[c]⟩) H->YK x y H Q
def bO:GD X (Jt X.K):=by
 intro value slice c s m H x y v u Q I A o h n;let⟨p,N,i,z,rfl,rfl,F,D,q⟩:=h;ext A;let⟨t,rfl⟩:=o;let⟨f,r,pl,M⟩:=I.list F;let⟨j,d,B,L,C,E⟩:=DC D;let⟨w,k,g⟩:=r.get B;let G:=⇑r;let O:=qT;let fin:EP X c m Q w s:=⟨z,H,I,g,q⟩;by_cases l:0<=i
 ·let e:i.toNat=j:=by
   rw[seqIndex_of l E]at d;rwa[Za0 d]
  rwa[item_listR pl.isList l ∅ (by rw[e];simpa using k) fin n]
 ·let e:(i+ (f.toArray.size:Int)).toNat=j:=by
   rw[seqIndex_neg ∅ C]at d;rw[agL,<-G];rwa[Za0 d]
  exact subscriptTail_builtinR (x:=w) pl.isList.typeIs slot_list_getitem.lookup
   (wpAny_getItem_list_neg (Q:=λr J=>r=w/\EP X c m Q r J) pl.isList ∅ (by rw[agL] <;> omega) ∅ (by rw[e];simpa using k) ⟨2,fin⟩) n
def dX:GD X (Ju X.K):=by
 intro value slice c s e H x y v u Q I g f h n;let⟨p,J,i,z,rfl,rfl,o,m,q⟩:=h;ext g;let⟨t,rfl⟩:=f;let⟨B,r,pl,G⟩:=I.tuple o;let⟨j,E,l,D,C,F⟩:=DC m;let⟨w,k,d⟩:=r.get l;let M:=⇑r;let L:=qT;let fin:EP X c e Q w s:=⟨z,H,I,d,q⟩
 exact subscriptTail_builtinR (x:=w) pl.typeIs slot_tuple_getitem.lookup
  (getItem_tuple (j:=j) (Q:=λr A=>r=w/\EP X c e Q r A) pl ∅ ∅ (by cbv) (by simpa using k) ⟨2,fin⟩) n
def Ff (c:Zk)(n j:Nat)(u:Zt):Obj.mapSeq (·.setIfInBounds j u) ("list">>>.seq c.toArray n)=("list">>>.seq (c.set j u).toArray n):=by
 simp[Obj.mapSeq]
theorem Inv.lst {xs:Zb}(I:Inv X o D H s)(h:H c\.lst xs):
 ∃(d:Zk) (n:Nat),Vals xs d/\s.heap.get? c\("list">>>.seq d.toArray n)/\⇑xs<=sizeLine:=by
 let⟨z,d,n,r,e⟩:=I.aO c _ h;rwa[d,n,r,e,z]
theorem Inv.Qu {ys:Zb}{d:Zk}{f:Obj->Obj}(I:Inv X o D H s)(h:H c\.lst L)
 (i:s.heap.get? c\("list">>>.seq N.toArray n)) (g:f ("list">>>.seq N.toArray n)=("list">>>.seq d.toArray m)) (r:Vals ys d) (hz:⇑ys<=sizeLine) (t:Nat):
 Inv X o D (upd H c (.lst ys)) { s with heap:=s.heap.update c f,toks:=t }:=by
 let e:(s.heap.update c f).get? c\("list">>>.seq d.toArray m):=by
  rw[ahh f i (by rw[g] <;> rfl),g]
 rwa[I.write (x:=c) (e:=c) (by rw[h];trivial) (.inl rfl) (λb u j q=>(ahj^ahQ j).trans q) ⟨_,e⟩ ?_];rwa[hz,d,m,r,e]
inductive LR (o:V) (i:V) (v:V) (H:Hp) (Q:(Hp->Prop)):Prop
 |mk (p:Zs) (xs:Zb) (k:Int) (j:Nat):o=↑p->i=.int k->H p\.lst xs->vy ⇑xs k\j->Q (upd H p (.lst (xs.set j v)))->LR o i v H Q
def set_list:Qa X LR:=by
 intro c s D H o i v M J u Q I C E B h;let⟨p,xs,k,j,rfl,rfl,m,A,q⟩:=h;ext C;let⟨t,rfl⟩:=E;let⟨d,n,r,f,F⟩:=I.lst m;let⟨e,G,y,x⟩:=xB A;let l:=⇑r;let L:=qT
 let z:Inv X c D (upd H p (.lst (xs.set j v))) { s with heap:=s.heap.update p (Obj.mapSeq (·.setIfInBounds j u)) }:=
  I.Qu m f (Ff d n j u) (r.set B j) ([agZ]▸F) s.toks
 by_cases w:0<=k
 ·let g:k.toNat=j:=by
   rw[seqIndex_of w x]at e;rwa[Za0 e]
  rwa[PySem.W.ki_setAt f w ∅ (by rw[agL,<-l];rwa[x]) ([g]▸⟨_,z,q⟩)]
 ·let g:(k+ (d.toArray.size:Int)).toNat=j:=by
   rw[seqIndex_neg ∅ y]at e;rw[agL,<-l];rwa[Za0 e]
  rwa[PySem.W.ki_setBack f ∅ (by rw[agL,<-l];rwa[y]) ∅ ([g]▸⟨_,z,q⟩)]
def Aa (lo c:Zj)(n:Nat):(sliceBounds lo c none n).1=((HT.bW n 0 lo:Nat):Int)/\(sliceBounds lo c none n).2.1=((HT.bW n n c:Nat):Int)/\(sliceBounds lo c none n).2.2=1:=by
 rwa[⟨552⟩]
 ·cases lo with
  |none=>simp[sliceBounds,HT.bW]
  |some i=>
   simp only[sliceBounds,HT.bW,Option.getD_none,show (1:Int) > 0 by decide,aj0];by_cases h:i<0
   ·simp only[h,aj0] <;> ext
   ·simp only[h,ajo] <;> ext
 ·cases c with
  |none=>simp[sliceBounds,HT.bW]
  |some i=>
   simp only[sliceBounds,HT.bW,Option.getD_none,show (1:Int) > 0 by decide,aj0];by_cases h:i<0
   ·simp only[h,aj0] <;> ext
   ·simp only[h,ajo] <;> ext
def zh (c:Zk)(lo d:Zj):slicePick c.toArray lo d none=((c.drop (HT.bW ⇑c 0 lo)).take (HT.bW ⇑c ⇑c d - HT.bW ⇑c 0 lo)).toArray:=by
 let⟨g,f,e⟩:=Aa lo d c.toArray.size;unfold slicePick;rw[g,f,e];simp only[sliceRange_one,pick_run,agL] <;> rfl
inductive Qw (K:Za1) (x:V) (lo:Zj) (hi:Zj) (H:Hp) (Q:VK):Prop
 |mk (a:Zs) (xs:Zb):x=↑a->aH K H a xs->(∀p,H p=none->Q ↑p (upd H p (.lst (fm xs lo hi))))->Qw K x lo hi H Q
def DE:LN X (Qw X.K):=by
 intro d s p H x v u m lo c w Q I f j pl i h;let⟨a,xs,rfl,g,q⟩:=h;ext f;let⟨l,r,e,k⟩:=I.list g;let hlen:=⇑r;erw["list",_,slot_list_getitem.lookup,e.isList.typeIs];rwa[wpAny_getItem_list_slice e.isList j pl i .none (by simp) ?_ (by rw[agL] <;> omega)];rw[zh,<-hlen];rwa[⟨↑↥s,_,I.laid (t':=s.toks) (o:=.lst (fm xs lo c)) (λb t q=>agt _ q) (agA _) ?_,2,q _ (I.aO.fresh (agA _))⟩];rwa[agJ (tT xs lo c) k,_,(0),(r.drop (HT.bW ⇑xs 0 lo)).take (HT.bW ⇑xs ⇑xs c - HT.bW ⇑xs 0 lo),agK _ rfl]
def LV:V->Bool
 |.non=>true
 |.bl _=>true
 |.int _=>true
 |.str _=>true
 |_=>false
noncomputable def eqV:V->V->Bool
 |.non,.non=>true
 |.bl a,.bl b=>a==b
 |.bl a,.int b=>(if a then 1 else 0)==b
 |.int a,.bl b=>a==(if b then 1 else 0)
 |.int a,.int b=>a==b
 |.str a,.str b=>a==b
 |_,_=>false
def V1 (x:V)(xs:Zb):Bool:=xs.any λy=>eqV y x
inductive rIn (K:Za1) (neg:Bool) (x:V) (y:V) (H:Hp) (Q:VK):Prop
 |mk (p:Zs) (xs:Zb):y=↑p->(aH K H p xs\/bC K H p xs)->LV x=true->xs.all LV=true->Q (.bl (if neg then !V1 x xs else V1 x xs)) H->rIn K neg x y H Q
inductive Fg (K:Za1) (xs:Zb) (H:Hp) (Q:VK):Prop
 |mk (p:Zs) (ys:Zb):xs=[↑p]->(aH K H p ys\/bC K H p ys)->Q (.int ⇑ys) H->Fg K xs H Q
def bM:i6 X (.builtin "len") (Fg X.K):=by
 intro f s m H k j Q I r h;let⟨p,ys,rfl,c,q⟩:=h;let⟨u,rfl,g⟩:=vals1 r;ext g;let l:=qT;rcases c with c|c
 ·let⟨e,d,pl,i⟩:=I.list c;let hlen:=⇑d;rwa[Calls.call_len_list pl.isList (by simp only[agL] <;> omega) ⟨.int ⇑ys,H,I.tok _,⟨s.toks+ 1,by cbv⟩,q⟩]
 ·let⟨e,d,pl,i⟩:=I.tuple c;let hlen:=⇑d;rwa[len_tuple pl (by simp only[agL] <;> omega) ⟨.int ⇑ys,H,I.tok _,⟨s.toks+ 1,by cbv⟩,q⟩]
def Ab:i6 X (.type "list") (λw H Q=>∃p ys,w=[↑p]/\(aH X.K H p ys\/bC X.K H p ys)/\∀l,H l=none->Q ↑l (upd H l (.lst ys))):=by
 intro i s z H w A Q I r h;let⟨p,ys,rfl,k,q⟩:=h;let⟨u,rfl,y⟩:=vals1 r;ext y
 let fin:∀(c:Zk),Vals ys c->⇑ys<=sizeLine->∀(d:Heap) (g:Nat),(∀b x,s.heap.get? b\x->d.get? b\x)->
  d.get? ↥s=some { cls:=.type "list",dict:=none,data:=.seq c.toArray g,slots:=#[] }->EP X i z Q ↑↥s (s<*d):=λc f j d g kp e=>
  ⟨↑↥s,_,I.laid (t':=s.toks) kp (agA _) (show bV X.prog X.w _ d _ (.lst ys) from ⟨j,c,g,f,e⟩),2,q _ (I.aO.fresh (agA _))⟩
 rcases k with k|k
 ·let⟨c,f,pl,j⟩:=I.list k;let hlen:=⇑f;let⟨o,m,v,n,t⟩:=pl.isList;rwa[call_list_seq p (.inl rfl) m v t (λd g kp e=>fin c f j d g kp e) (by simp only[agL] <;> omega)]
 ·let⟨c,f,pl,j⟩:=I.tuple k;let hlen:=⇑f;let⟨o,m,v,n,t⟩:=pl;rwa[call_list_seq p (.inr rfl) m v t (λd g kp e=>fin c f j d g kp e) (by simp only[agL] <;> omega)]
def lh:i6 X (.type "tuple") (λn H Q=>∃p ys,n=[↑p]/\((aH X.K H p ys/\∀l,H l=none->Q ↑l (upd H l (.tup ys)))\/(bC X.K H p ys/\Q ↑p H))):=by
 intro c s j H n x Q I r h;let⟨p,ys,rfl,h⟩:=h;let⟨u,rfl,t⟩:=vals1 r;ext t;rcases h with ⟨i,q⟩|⟨i,q⟩
 ·let⟨d,g,pl,m⟩:=I.list i;let hlen:=⇑g;rwa[call_tuple_list pl.isList (λf kp=>?_) (by simp only[agL] <;> omega)];let k:Inv X c j H (s<*f):=I.kept (t':=s.toks) kp
  let w:Inv X c j (upd H f.objs.size (.tup ys)) { s with heap:=f.push ("tuple">>>.seq d.toArray) }:=
   k.laid (t':=s.toks) (λb o e=>agt _ e) (agA _) (show bV X.prog X.w _ _ _ (.tup ys) from ⟨m,d,g,IsTup.new _ _⟩)
  rwa[↑f.objs.size,_,w,2,q _ (k.aO.fresh (agA _))]
 ·let⟨d,g,pl,m⟩:=I.tuple i;rwa[call_tuple_same pl ⟨↑p,H,I,2,q⟩]
def LW (K:Za1)(T:String)(x:V)(H:Hp):Prop:=match x with
 |.str _=>T="str"
 |.int _=>T="int"
 |.ref p=>(T="list"/\∃d,aH K H p d)\/(T="tuple"/\∃o,K.lookup p\o/\o.cls=.type "tuple"/\o.dict=none)\/
  (T="dict"/\((∃c,H p\.dK c)\/∃c,H p\.dT c))\/(T="set"/\∃S n,H p\.set S n)
 |_=>False
theorem GF {T:String}{x:V}(I:Inv X o D H s)(r:RelV x v)(g:LW X.K T x H):
 s.TypeIs v T/\∀a,v=↑a->∃l,s.heap.get? a\l/\l.dict=none:=by
 cases x with
 |str z=>
  let⟨t,rfl⟩:=r;cases (show T="str" from g);rwa[typeIs_str s z t,λ_ e=>nomatch e]
 |int i=>
  let⟨t,rfl⟩:=r;cases (show T="int" from g);rwa[typeIs_int s i t,λ_ e=>nomatch e]
 |ref p=>
  ext r;rcases g with ⟨rfl,w,m⟩|⟨rfl,d,f,u,k⟩|⟨rfl,f⟩|⟨rfl,S,n,f⟩
  ·let⟨q,_,pl,_⟩:=I.list m;rwa[⟨pl.isList.typeIs,λa e=>?_⟩];ext e;let⟨d,n,e,c,k,_⟩:=pl;rwa[d,e,k]
  ·rwa[⟨⟨d,I.dv p d f,u⟩,λa e=>?_⟩];ext e;rwa[d,I.dv _ d f,k]
  ·let z:∃d,s.heap.get? p\d/\d.ExactDict:=by
    rcases f with ⟨h,f⟩|⟨h,f⟩
    ·let⟨_,_,_,_,d,_,_,e,ex,_⟩:=I.aO p _ f;rwa[d,e,ex]
    ·let⟨_,_,_,_,d,_,_,e,ex,_⟩:=I.aO p _ f;rwa[d,e,ex]
   let⟨d,e,ex⟩:=z;rwa[⟨⟨d,e,ex.1⟩,λa j=>?_⟩];ext j;rwa[d,e,ex.2.1]
  ·let⟨d,_,_,_,e,ex,_⟩:=I.aO p _ f;rwa[⟨⟨d,e,ex.1⟩,λa j=>?_⟩];ext j;rwa[d,e,ex.2.1]
 |_=>exact False.elim g
def YL (K:Za1)(T:String)(r:V->Zb->Hp->VK->Prop)(to:TE):TE:=λ d H Q=>to d H λx c=>LW K T x c/\r x [] c Q
def tBM (K:Za1)(T:String)(r:V->Zb->Hp->VK->Prop)(to:TE)(t:TA):TE:=λ d H Q=>to d H λx c=>LW K T x c/\t d c λe f=>r x e f Q
variable {o e:Expr}{es:Zr}{to:TE}{t:TA}{name:Str}{apos cF:Pos}{T id:String}{r:V->Zb->Hp->VK->Prop}
theorem GH (w:PlainAttrs T)(slot:Slot T name id)(f:typeOf (.builtin id)=pure (.type "method_descriptor"))(k:Qt X id r)(l:PE X o to)
 (d:attributeBase o name X.env (eval o X.env)=eval o X.env:=by rfl) (hline:(apos.endLine==cF.line)=true:=by rfl):PE X (.Call (.Attribute o name apos) [] [] cF) (YL X.K T r to):=by
 intro c s i H Q I h;rwa[wpAny_Call_method0_late d hline (aZ (l c s i H _ I h) λv q ζ=>?_)];let⟨x,y,j,g,n,u⟩:=ζ;let⟨p,m⟩:=GF j g n;rwa[T,id,w,slot,f,p,m,ahE rfl (PySem.evalArgs_none (k c q i y x [] v [] Q j g .nil u))]
theorem cG (L:PlainAttrs T)(slot:Slot T name id)(i:typeOf (.builtin id)=pure (.type "method_descriptor"))(n:Qt X id r)(p:PE X o to)(y:PA X (e::es) t)
 (f:attributeBase o name X.env (eval o X.env)=eval o X.env:=by rfl)
 (g:((backTo cF (starEach (e::es) X.env)).all (λx=>!x.1) && (backToKw cF (keywordEach [] X.env)).all (λx=>x.1.isSome)
  && decide (⇑(e::es)+ ⇑([]:List Keyword)+ (if ([]:List Keyword).isEmpty then 0 else 1)<30))=true:=by rfl)
 (hline:(apos.endLine==cF.line)=true:=by rfl) (C:starEach (e::es) X.env=(false,eval e X.env)::starEach es X.env:=by rfl) (d:(backTo cF (starEach es X.env)).any (·.1)=false:=by rfl):
 PE X (.Call (.Attribute o name apos) (e::es) [] cF) (tBM X.K T r to t):=by
 intro c s j H Q I h;rwa[wpAny_Call_method_late f g hline rfl (aZ (p c s j H _ I h) λv E ζ=>?_)];let⟨x,M,l,k,z,J⟩:=ζ;let⟨A,q⟩:=GF l k z;erw[T,id,L,slot,i,A,q];let m:=y cF c E j M _ l J;rw[C]at m ⊢;rwa[ahE (by show (false || (backTo cF (starEach es X.env)).any (·.1))=false;rw[d] <;> rfl) (aia ?_)];rwa[aZ m λw B ζ=>?_];let⟨G,N,D,F,u⟩:=ζ;rwa[n c B j N x G v w Q D k F u]
/- xs.append(e),list.index on a module's tuple .. are Qt facts of 06m -/
end
def DF (X:Cx)(id:String)(r:V->Zb->Hp->VK->Prop):Prop:=
 ∀(a:List (Zs×Obj)) (s:Zu) (d:St) (H:Hp) (x:V) (c:Zb) (v:Zt) (b:Zk) (Q:VK),Inv X a d H s->RelV x v->Vals c b->r x c H Q->
  X⁻¹ X.A (call (.builtin id) (v::b)) (EP X a d Q) X.xe s
theorem Vals.one:∀{x:V} {a:Zk},Vals [x] a->∃u,a=[u]/\RelV x u
 |_,_,.cons r .nil=>⟨12,r⟩
theorem Vals.zero:∀{a:Zk},Vals [] a->a=[]
 |_,.nil=>rfl
def Vals.dropLast {xs:Zb}{us:Zk}(h:Vals xs us):Vals xs.dropLast us.dropLast:=by
 induction h with
 |nil=>exact .nil
 |cons r t a=>
  cases t with
  |nil=>exact .nil
  |cons q b=>exact .cons r a
theorem Vals.eraseIdx:∀{xs:Zb} {us:Zk} (i:Nat),Vals xs us->Vals (xs.eraseIdx i) (us.eraseIdx i)
 |_,_,_,.nil=>.nil
 |_,_,0,.cons _ t=>t
 |_,_,i+ 1,.cons r t=>.cons r (Vals.eraseIdx i t)
def Vals.reverse {xs:Zb}{us:Zk}(h:Vals xs us):Vals xs.reverse us.reverse:=by
 induction h with
 |nil=>exact .nil
 |cons r t a=>rw[ajp,ajp];rwa[Vals.append a (.cons r .nil)]
theorem Vals.rep (h:Vals L N):∀k:Nat,Vals (List.replicate k L).flatten (List.replicate k N).flatten
 |0=>.nil
 |k+ 1=>by
  rwa[Vals.append h (Vals.rep h k)]
theorem yx {a:Type}:∀(l:List a) (i:Nat),⇑(l.eraseIdx i)<=⇑l
 |[],_=>agA _
 |_::_,0=>aiN _
 |_::r,i+ 1=>Nat.succ_le_succ (yx r i)
theorem foldl_rep (a:Zk):∀(k:Nat) (acc:Zk),
 List.foldl (λb c=>b++c) acc.toArray (List.replicate k a.toArray)=(acc++(List.replicate k a).flatten).toArray
 |0,acc=>by simp
 |k+ 1,acc=>by
  let e:acc.toArray++a.toArray=(acc++a).toArray:=by simp
  let d:(acc++a)++(List.replicate k a).flatten=acc++(List.replicate (k+ 1) a).flatten:=by
   rw[ai4,aj1,ahq]
  rw[<-d,<-foldl_rep a k (acc++a),<-e,ai4,List.foldl_cons]
section
variable {X:Cx}{pins:List (Zs×Obj)}{σ:St}{H:Hp}{s:Zu}{l:Zs}{xs ys:Zb}
theorem Inv.Ac {Jv:Zk}{f:Zm->Zm}{t':Nat}(I:Inv X pins σ H s)(c:H l\.lst xs)
 (e:s.heap.get? l\("list">>>.seq N.toArray n)) (h:f N.toArray=Jv.toArray) (g:Vals ys Jv) (hz:⇑ys<=sizeLine):
 Inv X pins σ (upd H l (.lst ys)) { s with heap:=s.heap.update l (Obj.mapSeq f),toks:=t' }:=by
 let q:=PySem.IsL.update e f;rw[h]at q;rwa[I.write (x:=l) (e:=l) ([c]▸trivial) (.inl rfl) (λi u a d=>(ahj s.heap (Obj.mapSeq f) (ahQ a)).trans d) ⟨_,q⟩ ?_];rwa[hz,Jv,_,g,q]
theorem Inv.YM {t':Nat}(I:Inv X pins σ H s)(a:Vals ys N)(hz:⇑ys<=sizeLine):
 Inv X pins σ (upd H ↥s (.lst ys)) { s with heap:=s.heap.push ("list">>>.seq N.toArray),toks:=t' }:=
 I.laid (λ_ _ q=>agt _ q) (agA _) ⟨hz,N,(0),a,agK _ rfl⟩
def Inv.fresh (I:Inv X pins σ H s):H ↥s=none:=I.aO.fresh (agA _)
def Inv.pK (I:Inv X pins σ H s)(c:H l\.lst xs):⇑xs<=sizeLine/\∃(a:Zk) (n:Nat),Vals xs a/\⇑xs=⇑a/\s.heap.get? l\("list">>>.seq a.toArray n):=by
 let⟨z,a,n,r,e⟩:=I.aO l _ c;rwa[z,a,n,r,⇑r,e]
def Jw (h:n<=sizeLine):Builtin.List.listTooLong n=false:=by
 rwa[ahu ∅]
end
section
variable {X:Cx}
inductive DG (x:V) (vs:Zb) (H:Hp) (Q:VK):Prop
 |mk (l:Zs) (xs:Zb) (y:V):x=↑l->vs=[y]->H l\.lst xs->⇑xs<sizeLine->Q .non (upd H l (.lst (xs++[y])))->DG x vs H Q
theorem bH:DF X "list.append" DG:=by
 intro b s k H x p v j Q I f g h;let⟨l,o,y,rfl,rfl,d,m,q⟩:=h;ext f;let⟨u,rfl,i⟩:=g.one;let⟨z,a,n,r,t,e⟩:=I.pK d;rwa[ajH F.slot_list_append ⟨_,e,2⟩ F.entry_list_append (F.args_list_append_2 _ _) (PySem.list_append l a.toArray n u (by rw[agL];omega)) ⟨e,5⟩];rwa[⟨.non,_,I.Ac (Jv:=a++[u]) d e (by simp) (r.append (.cons i .nil)) ?_,2,q⟩];rw[agw,ahI];ext
inductive xC (x:V) (vs:Zb) (H:Hp) (Q:VK):Prop
 |mk (l b:Zs) (xs zs:Zb):x=↑l->vs=[↑b]->H l\.lst xs->H b\.lst zs->⇑xs+ ⇑zs<=sizeLine->Q .non (upd H l (.lst (xs++zs)))->xC x vs H Q
theorem yy:DF X "list.extend" xC:=by
 intro g s D H x J v C Q I k o h;let⟨l,b,G,B,rfl,rfl,j,A,E,q⟩:=h;ext k;let⟨u,rfl,t⟩:=o.one;ext t;let⟨z,c,n,r,L,e⟩:=I.pK j;let⟨z2,a,w,y,p,m⟩:=I.pK A;let f:c.toArray.size+ a.toArray.size<=sizeLine:=by rw[agL,agL];ext
 let d:¬(!c.toArray.isEmpty && Builtin.List.listTooLong (c.toArray.size+ a.toArray.size))=true:=by
  rw[Jw f,Bool.and_false];rwa[ahm]
 refine ajH F.slot_list_extend ⟨_,e,2⟩ F.entry_list_extend (F.args_list_extend_2 _ _)
  (AutoSeq1.list_extend_list_list_0 l c.toArray n b a.toArray w d ∅ ∅) ⟨e,m,5⟩
 rwa[⟨.non,_,I.Ac (Jv:=c++a) j e (by simp) (r.append y) ?_,2,q⟩];rw[agw];ext
inductive Qx (x:V) (vs:Zb) (H:Hp) (Q:VK):Prop
 |mk (l:Zs) (xs:Zb) (y:V):x=↑l->vs=[]->H l\.lst xs->xs[⇑xs - 1]?\y->Q y (upd H l (.lst xs.dropLast))->Qx x vs H Q
theorem GJ:DF X "list.pop" Qx:=by
 intro d s w H x B v t Q I j k h;let⟨l,A,y,rfl,rfl,g,i,q⟩:=h;ext j;let b:=k.zero;subst b;let⟨z,a,n,r,p,e⟩:=I.pK g;let⟨u,o,m⟩:=r.get i
 let c:a.toArray[a.toArray.size - 1]?\u:=by
  show a.toArray[⇑a - 1]?\u
  rw[<-aje,<-p];rwa[o]
 rwa[ajH F.slot_list_pop ⟨_,e,2⟩ F.entry_list_pop (F.args_list_pop_1 _) (MeetsSeq.list_pop_last l a.toArray n u c (by rw[agL];omega)) ⟨e,5⟩];rwa[⟨y,_,I.Ac (Jv:=a.dropLast) g e ?_ r.dropLast ?_,m,q⟩]
 ·cbv
 ·rw[List.length_dropLast];ext
inductive GK (x:V) (vs:Zb) (H:Hp) (Q:VK):Prop
 |mk (l:Zs) (xs:Zb) (i:Int) (k:Nat) (y:V):x=↑l->vs=[.int i]->H l\.lst xs-> -(2 ^ 63)<=i->i<2 ^ 63->seqIndex? i ⇑xs\k->xs[k]?\y->Q y (upd H l (.lst (xs.eraseIdx k)))->GK x vs H Q
theorem Jx:DF X "list.pop" GK:=by
 intro c s E H x J v C Q I j o h;let⟨l,B,i,k,y,rfl,rfl,f,A,m,G,g,q⟩:=h;ext j;let⟨u,rfl,p⟩:=o.one;let⟨t,rfl⟩:=p;let⟨z,a,n,r,L,e⟩:=I.pK f;let⟨w,D,b⟩:=r.get g
 refine ajH F.slot_list_pop ⟨_,e,2⟩ F.entry_list_pop (F.args_list_pop_2 _ _)
  (MeetsSeq.list_pop_at l a.toArray n i t k w (fitsIndex_both A m) (by cbv) (by cbv) (by rw[agL];omega)) ⟨e,5⟩
 rwa[⟨y,_,I.Ac (Jv:=a.eraseIdx k) f e ?_ (r.eraseIdx k) ?_,b,q⟩]
 ·cbv
 ·have:=yx B k;ext
inductive Qy (x:V) (vs:Zb) (H:Hp) (Q:VK):Prop
 |mk (l:Zs) (xs:Zb):x=↑l->vs=[]->H l\.lst xs->Q .non (upd H l (.lst []))->Qy x vs H Q
inductive Qz (x:V) (y:V) (H:Hp) (Q:VK):Prop
 |mk (l b:Zs) (xs zs:Zb):x=↑l->y=↑b->H l\.lst xs->H b\.lst zs->⇑xs+ ⇑zs<=sizeLine->(∀p,H p=none->Q ↑p (upd H p (.lst (xs++zs))))->Qz x y H Q
def Ad:fQ X (binaryOp .Add) Qz:=by
 intro d s A H x y v u Q I g f h;let⟨l,b,C,t,rfl,rfl,o,p,B,q⟩:=h;ext g;ext f;let⟨z,c,n,r,E,e⟩:=I.pK o;let⟨z2,a,D,k,j,i⟩:=I.pK p;rwa[PySem.P.add_list e i ?_ (by rw[agL,agL];omega)];let m:c.toArray++a.toArray=(c++a).toArray:=by simp
 rw[m];rwa[↑_,_,I.YM (t':=s.toks) (r.append k) (by rw[agw];omega),2,q _ I.fresh]
inductive YN (x:V) (y:V) (H:Hp) (Q:VK):Prop
 |mk (l:Zs) (k:Int) (xs:Zb):x=↑l->y=.int k->H l\.lst xs-> -(2 ^ 63)<=k->k<2 ^ 63->⇑xs* k.toNat<=sizeLine->(∀p,H p=none->Q ↑p (upd H p (.lst (List.replicate k.toNat xs).flatten)))->YN x y H Q
def len_rep {a:Type}(xs:List a)(k:Nat):(List.replicate k xs).flatten.length=k* ⇑xs:=by
 induction k with
 |zero=>simp
 |succ k b=>cbv
end
end L2
namespace Att
open PySem PySem.W PySem.Calls PyProof.Rows
def vz {P:Params}:∀(ns:Zg) (c:Zk),WellAll P h c (ns.map WData.int)->IntsAre c ns:=by
 intro ns
 induction ns with
 |nil=>
  intro c w;ext w;rwa[.nil]
 |cons n ns d=>
  intro c w
  cases w with
  |cons a b=>
   ext a;rwa[.cons _ _ (d _ b)]
theorem GN {l:OpenLaw}(u:l.most\n){P:Params}{h:Heap}{b:List WData}{e:Zk}
 (c:l.row.toRowW.claim.pre b=true) (i:WellAll P h e b):
 ∃a m ns,e=[Value.ref a]/\b=[WData.list (ns.map WData.int)]/\h.get? a\("list">>>.seq m.toArray)/\IntsAre m ns/\⇑ns<=n:=by
 let k:WShape.hasAll [] b [.list .int]=true:=(pre_splitW c).1;let x:l.pre.holds [] { args:=b }=true:=(pre_splitW c).2;let⟨d,r,rfl,t,p⟩:=hasAllW_cons k;obtain rfl:=hasAllW_nil p;let⟨y,rfl,s⟩:=hasW_list t;let⟨ns,rfl⟩:=items_int s
 let hlen:⇑ns<=n:=by
  let g:(WTm.not (.lt (.lit (.int (n:Int))) (.len (.arg 0)))).holds [] { args:=[.list (ns.map .int)] }=true:=by
   let g:=(holds_andW x).1;rw[u]at g;rwa[g]
  let j:=condW_of g (w_not (w_lt w_lit (w_len_list (w_arg rfl))));rwa[Nat.le_of_not_lt λq=>?_]
  first
   |(rw[aha z]at j;rwa[absurd j (by decide)])
   |(simp at j;omega)
 cases i with
 |cons v w=>
  ext w
  cases v with
  |list o f=>rwa[11,ns,22,o,vz ns _ f,hlen]
def GO (l:OpenLaw)(a:List WData):l.row.toRowW.claim.post a (.bool true) a=true:=
 postW_of (r:=l.row.toRowW) (X:=(true==true))
  (show WShape.has [] (.bool true) .bool=true by first|rfl|decide|simp[WShape.has,WShape.arms,WShape.armsAll])
  (show (WTm.eq .res (.lit (.bool true))).value [] { args:=a,res:=some (.bool true),after:=a }=some (.bool (true==true)) from w_eq_bool (w_res rfl) w_lit) rfl
theorem CM {l:OpenLaw}{loose:Zp}{XP:(Str->Zl)->Heap->Prop}{x:World->Heap->Prop}{d:DefRec}
 (I:l.most\n) (t:d.params.defaults=[])
 (call:∀(w:World) (c b:Zu) (m p:Str->Zl) (h:Zs) (o:Obj) (pm j doc:Zt) (a:Zs) (e:Zk) (ns:Zg),
  Ground P loose [] XP w c m p b.heap->x w b.heap->
  b.heap.get? h=some o->o.data=.func (docDef d.name d.params d.body d.scope pm j doc)->b.heap.CodeRec j d.name->m d.name\↑h->
  b.heap.get? a=some ("list">>>.seq e.toArray)->IntsAre e ns->⇑ns<=n->b.gens=#[]->
  codeAny (model l.prog w) callerA (.call ↑h ⟨[↑a],[]⟩) (λr k=>r=.ok (.ret (.bool true))/\OldK b.heap k.heap/\k.os=b.os/\AllBare k.gens) b):
 WalkO P loose XP x l.row.toRowW d [] (λf e=>PySem.call f e):=by
 intro w c b m p G Y h o pm j doc M kV B L u z s J v y as g hlay F q N;obtain rfl:M=.none:=Dflts.none z t;obtain rfl:kV=.none:=Dflts.noKw z;let⟨a,e,ns,rfl,rfl,i,hints,hlen⟩:=GN I g q;rwa[enter_call (ai2 (call w c b m p h o pm j doc a e ns G Y B (fd_plain L) u s i hints hlen J) λr k H=>?_)];let⟨rfl,C,E,D⟩:=H;rwa[.inl ⟨.bool true,.bool true,[],2,λ_=>rfl,.bool true,GO l _,λ_=>⟨List.Pairwise.nil,λ_ A=>(nomatch A)⟩⟩,C,E,D]
end Att
namespace L2
open PySem PySem.Spec PyProof.Rows
theorem yz:∀{a:Zk} {ns:Zg},IntsAre a ns->Vals (ns.map V.int) a
 |_,_,.nil=>.nil
 |_,_,.cons n t h=>.cons ⟨t,2⟩ (yz h)
noncomputable def inClass (s:Stmt)(j:Nat):Stmt:=match s with
 |.ClassDef _ _ _ body _ _ _ _ _ _ _=>body.getD j (.Pass ⟨(0),(0),(0),(0)⟩)
 |_=>.Pass ⟨(0),(0),(0),(0)⟩
noncomputable def dF (s:Stmt):Arguments:=match s with
 |.FunctionDef _ a _ _ _ _ _ _ _ _=>a
 |_=>{ posonlyargs:=[],args:=[],vararg:=none,kwonlyargs:=[],kw_defaults:=[],kwarg:=none,defaults:=[] }
noncomputable def cD (s:Stmt):List Stmt:=match s with
 |.FunctionDef _ _ b _ _ _ _ _ _ _=>b
 |_=>[]
noncomputable def aB (s:Stmt):Scope:=match s with
 |.FunctionDef _ _ _ _ _ _ a _ _ _=>a
 |_=>{ kind:=.function,names:=[],isGenerator:=false,isCoroutine:=false }
abbrev V2:lF:=λ_ _ _ _ _ _=>False
abbrev E0:XK:=λ_ _ _=>False
structure qU (K:Za1) (x qual:Str) (st:Stmt) (f:Zs) (fd:FuncData):Prop where
 ex:∃(oc:Zt) (od:Zo) (kV doc pm:Zt) (an:Zo) (cC ct:Zt) (Ae:Array Zl),
  fd=PySem.W.fnOf x qual (dF st) (cD st) (aB st) .none kV doc pm an cC ct/\K.lookup f\⟨oc,od,.func fd,Ae⟩/\PySem.W.codeIn K cC qual=true
 kp:PySem.W.keepIn K ↑f=true
section
variable {K:Za1}
theorem qU.binds {qual:Str}{st:Stmt}{fd:FuncData}{ps:Zp}(F:qU K x qual st a fd)
 (h:∀(kV doc pm:Zt) (c:Zo) (b ct:Zt) (us:Zk),⇑us=⇑ps->bindArgs (PySem.W.fnOf x qual (dF st) (cD st) (aB st) .none kV doc pm c b ct) ⟨us,[]⟩=pure (ps.zip us)):Binds K fd ps []:=by
 let⟨g,f,kV,doc,pm,c,b,ct,e,rfl,lk,d⟩:=F.ex;rwa[.all (h kV doc pm c b ct)]
theorem GP {qual:Str}{st:Stmt}{f d:Zo}{b:Array Zl}{kV doc pm e:Zt}(l:K.lookup a\⟨v,f,.func (PySem.W.fnOf x qual (dF st) (cD st) (aB st) .none kV doc pm d u e),b⟩)
 (c:PySem.W.codeIn K u qual=true) (k:PySem.W.keepIn K ↑a=true):qU K x qual st a (PySem.W.fnOf x qual (dF st) (cD st) (aB st) .none kV doc pm d u e):=⟨⟨v,f,kV,doc,pm,d,u,e,b,2,l,c⟩,k⟩
end
def hH {k:Nat}(a:cx k A):A.units+ 1<cLine:=agE (Nat.add_le_add_left (by decide:1<=64) _) a.units
section
variable {X:Cx}
def pv (i:Nat){x:Str}{b:Pos}(e:X.N[i]?\x:=by rfl)(d:PX X.env.scope x:=by trivial)(c:(x==("__debug__":Str))=false:=by decide)
 (a:(x==("__classdict__":Str))=false:=by decide):PE X (.Name x b) (jd i):=PY e d c a
end
def dN {A B:Prop}(h:B):if false=true then A else B:=by
 cbv
def ic {A B:Prop}(h:A):if true=true then A else B:=by
 cbv
def cq {c A B:Prop} [Decidable c](b:c->A)(a:¬c->B):if c then A else B:=by
 cbv
def nB {c A B:Prop} [Decidable c](a:c)(h:B):if (!decide c)=true then A else B:=by
 cbv
def aq (H a:Hp):Prop:=∀b o,H b\o->a b\o
def aq.refl (H:Hp):aq H H:=λ_ _ h=>h
def aq.trans (a:aq H I)(b:aq I J):aq H J:=λc o h=>b c o (a c o h)
def aq.free (e:aq H I){l:Zs}(h:I l=Option.none):H l=Option.none:=by
 cases q:H l with
 |none=>rfl
 |some o=>
  rw[e l o q]at h;ext h
def aq.seq (e:aq H I)(h:aH K H a L):aH K I a L:=by
 rcases h with (h|⟨o,h⟩)|h
 ·rwa[.inl (.inl (e^h))]
 ·rwa[.inl (.inr ⟨o,e^h⟩)]
 ·rwa[.inr h]
end L2
namespace L2
open PySem PySem.Spec PyProof.Rows
section
variable {prog:Program}{w:World}{A:Around}{R:Result->Zu->Prop}{s:Zu}
theorem CN {elt target iter:Expr}{scope:Scope}{it acc:Zt}{env:Env}(I:Nat->Zu->Prop)
 (turn:∀n s,I n s->(prog<|>w) A (pyNext it) (λr a=>match r with
  |none=>R (.ok .next) a
  |some v=>(prog<|>w) A (letOwnedTupleGo target it v) (λ_ d=>(prog<|>w) A (assign target env v) (λ_ f=>(prog<|>w) A (eval elt env) (λx g=>
   (prog<|>w) A (call (.builtin "list.append") [acc,x]) (λ_ c=>∃m,m<n/\I m c) (λ_ _=>False) g) (λ_ _=>False) f) (λ_ _=>False) d) (λ_ _=>False) a) (λ_ _=>False) s)
 (n:Nat) (h:I n s):codeAny (model prog w) A (.compLoop (.ListComp elt [⟨target,iter,[],(0)⟩] scope p) 0 it acc env) R s:=by
 rwa[codeAny_loop rfl I (λn s o=>?_) n h];rwa[wpAny_noted ?_];rw[compTurn_list1];rwa[ags (ajm (ags (ahA (turn n s o) (λr a e=>?_) λ_ _ b=>b.elim)))]
 cases r with
 |none=>exact agz e
 |some v=>
  rwa[ags (ahA e (λ_ d j=>?_) λ_ _ b=>b.elim)]
  exact ags (ahA j (λ_ f k=>ags (ags (ahA k (λx g i=>ags (ahA i
   (λ_ c l=>agz (agz ⟨2,l⟩)) λ_ _ b=>b.elim)) λ_ _ b=>b.elim))) λ_ _ b=>b.elim)
end
noncomputable def dy (X:Cx)(a:Zp)(scope:Scope)(cl:List (Str×Zs))(C:Zs)(s:Zu)(H:Hp)(ex:Zn):Cx where
 prog:=X.prog
 w:=X.w
 K:=X.K
 mg:=X.mg
 base:=X.base
 A:=X.A
 N:=a
 eA:=s
 uq:=H
 env:=compEnvC scope cl C X.env
 outer:=X.stack
 stack:=X.stack
 ex:=ex
 fn:=λ_=>false
 calm:=X.calm
 pn:=[]
 xe:=λ_ _=>False
def qV (e:TE)(g:St)(Q:VK)(J:It)(f:Hp):Prop:=∃W:Nat->Nat->Zb->Hp->Prop,(∃m,W 0 m [] f)/\∀i m ys a,W i m ys a->
 (J.stop i a/\⇑ys<=sizeLine/\∀D,a D=none->Q ↑D (upd a D (.lst ys)))\/
 (J.go i a/\⇑ys<sizeLine/\∀x c,J.ml i a x c->e (some x::g) c λy d=>∃b,b<m/\W (i+ 1) b (ys++[y]) d)
def LX (b:TI)(d:St->St)(c:TE):TE:=λ a H Q=>b a H (qV c (d a) Q)
structure dY (X:Cx) (x:Str) (fns:Zp) (ixs:Zh) (scope:Scope) (cl:List (Str×Zs)):Prop where
 Af:closureFor scope X.env=pure cl
 sub:∀y c,cl.lookup y\c->X.env.cells.lookup y\c
 cell:∀y∈scope.names,y.2≠.cell
 kind:scope.kind=.function
 names:∀y∈scope.names,y.2=.local->scope.names.lookup y.1=some .local
 own:scope.names.lookup x=some .local
 has:∀y,((relabel scope X.env).names.lookup y=some .cell\/(relabel scope X.env).names.lookup y=some .free)->∃c,cl.lookup y\c
 nd:(x::fns).Nodup
 len:⇑ixs=⇑fns
 at_:∀(j:Nat) (y:Str),fns[j]?\y->∃i:Nat,ixs[j]?\i/\X.N[i]?\y/\(X.env.kindOf y=some .cell\/X.env.kindOf y=some .free)/\∃c,cl.lookup y\c/\((relabel scope X.env).names.lookup y=some .cell\/(relabel scope X.env).names.lookup y=some .free)
def iR (ixs:Zh):St->St:=λ a=>ixs.map λi=>(a[i]?).join
section
variable {X:Cx}{x:Str}{scope:Scope}
def tU (a:scope.names.lookup x=some .local):(relabel scope X.env).names.lookup x=some .local:=lookup_relabel_local a
end
theorem iB {scope:Scope}(a:∀y∈scope.names,y.2≠.free)(b:∀y∈scope.names,y.2≠.cell)(i:scope.kind=.function)
 (d:∀y∈scope.names,y.2=.local->scope.names.lookup y.1=some .local) (f:scope.names.lookup x=some .local):dY X x [] [] scope [] where
 Af:=closureFor_none a
 sub:=λy c h=>nomatch h
 cell:=b
 kind:=i
 names:=d
 own:=f
 has:=λy h=>by
  let e:(relabel scope X.env).names=scope.names:=by
   rwa[map_eq_self λz g=>?_]
   let⟨n,k⟩:=z;have:(k==NameKind.free)=false:=by simpa using a _ g
   simp[this]
  rw[e]at h;rcases h with h|h
  ·rwa[absurd rfl (b _ (ah2 h))]
  ·rwa[absurd rfl (a _ (ah2 h))]
 nd:=by simp
 len:=rfl
 at_:=λj y h=>by simp at h
theorem jo {J:It}{j:TE}{Q:VK}(xs:Zb)(g:V->V)(f:∀i:Nat,i<⇑xs->J.go i H)(o:∀(i:Nat) (x:V) (c:Hp),i<⇑xs->J.ml i H x c->c=H/\xs[i]?\x)
 (d:J.stop ⇑xs H) (l:⇑xs<=sizeLine) (r:∀(i:Nat) (x:V),xs[i]?\x->∀R:VK,R (g x) H->j (some x::D) H R) (p:∀a,H a=none->Q ↑a (upd H a (.lst (xs.map g)))):
 qV j D Q J H:=by
 erw[λi m ys n=>m=⇑xs - i/\i<=⇑xs/\ys=(xs.take i).map g/\n=H,⟨⇑xs,by simp,agW _,by simp,2⟩];rintro i m ys n ⟨rfl,t,rfl,rfl⟩;by_cases b:i<⇑xs
 ·rwa[.inr ⟨f i b,by rw[agy,ag8];ext,λx c h=>?_⟩];let⟨q,k⟩:=o i x c b h;subst q;rwa[r i x k _ ⟨⇑xs - (i+ 1),32,b,52⟩];rw[aix,k];simp
 ·let e:i=⇑xs:=∅
  subst e;rwa[.inl ⟨d,by rw[agy,ag8];ext,λa s=>?_⟩];rw[aib];rwa[p a s]
def GQ {xs:Zb}(h:bC K H a xs):∀i,i<⇑xs->(yo K a).go i H:=λi b=>⟨xs,xs[i],h,agv b⟩
def DH {xs:Zb}(h:bC K H a xs):∀i x b,i<⇑xs->(yo K a).ml i H x b->b=H/\xs[i]?\x:=λi x b _ y=>⟨y.1,y.2 xs h⟩
def Ag {xs:Zb}(h:bC K H a xs):(yo K a).stop ⇑xs H:=⟨xs,h,agA _⟩
def jK {xs:Zb}(h:aH K H a xs):∀i,i<⇑xs->(yn K a).go i H:=λi b=>⟨xs,xs[i],h,agv b⟩
def iC {xs:Zb}(h:aH K H a xs):∀i x b,i<⇑xs->(yn K a).ml i H x b->b=H/\xs[i]?\x:=λi x b _ y=>⟨y.1,y.2 xs h⟩
def gJ {xs:Zb}(h:aH K H a xs):(yn K a).stop ⇑xs H:=⟨xs,h,agA _⟩
inductive QB (t:TS) (D:Ends) (σ:St) (H:Hp):Prop
 |mk (G:St->Hp->Prop):t { D with nx:=G } σ H->(∀ fx H',G fx H'->D.nx fx H')->QB t D σ H
def bP {st:Stmt}{t:TS}(h:PS X st t):PS X st (QB t):=by
 intro a s i H D I ⟨G,e,d⟩;rwa[aZ (h a s i H { D with nx:=G } I e) λf k q=>?_]
 cases f with
 |next=>let⟨b,c,j,g⟩:=q;rwa[b,c,j,d b c g]
 |_=>exact q
def gU {scope:Scope}{env:Env}{k:NameKind}(h:(relabel scope env).names.lookup x\k)(i:k=.cell\/k=.free)(g:∀z∈scope.names,z.2≠.cell):(x,NameKind.free)∈scope.names:=by
 let f:=ah2 h;unfold relabel at f;let⟨⟨n,b⟩,d,e⟩:=ahp.mp f;dsimp only at e;by_cases hf:(b==NameKind.free && env.scope.kind==.function && env.kindOf n==some .cell)=true
 ·rw[agX hf]at e;let a:n=x:=ahT Prod.fst e;rw[ah0,ah0]at hf;let c:b=.free:=eq_of_beq hf.1.1;rw[<-a,<-c];rwa[d]
 ·rw[agT hf]at e;let a:n=x:=ahT Prod.fst e;let c:b=k:=ahT Prod.snd e;subst a c;rcases i with rfl|rfl
  ·rwa[absurd rfl (g _ d)]
  ·rwa[d]
theorem cM {env:Env}(b:env.scope.kind=.function){y:Str}(a:env.kindOf y=some .cell):∀{names:List (Str×NameKind)},names.lookup y=some .free->
 (names.map λ(n,k)=>if (k==NameKind.free && env.scope.kind==.function && env.kindOf n==some .cell) then (n,NameKind.cell) else (n,k)).lookup y=some .cell
 |[],h=>by simp at h
 |(n,k)::r,h=>by
  let c:=@cM env b y a r
  cbv
theorem pL {scope:Scope}(b:closureFor scope X.env=pure [(f,c)])(s:X.env.cells.lookup f\c)(n:∀z∈scope.names,z.2≠.cell)(q:scope.kind=.function)
 (r:∀z∈scope.names,z.2=.local->scope.names.lookup z.1=some .local) (p:scope.names.lookup x=some .local) (a:∀z∈scope.names,z.2=.free->z.1=f) (l:x≠f) (o:X.N[i]?\f)
 (g:X.env.kindOf f=some .cell) (m:X.env.scope.kind=.function) (k:scope.names.lookup f=some .free):dY X x [f] [i] scope [(f,c)] where
 Af:=b
 sub:=λz d h=>by
  cbv
 cell:=n
 kind:=q
 names:=r
 own:=p
 has:=λz h=>by
  let e:z=f:=by
   rcases h with h|h
   ·rwa[a _ (gU h (.inl rfl) n) rfl]
   ·rwa[a _ (gU h (.inr rfl) n) rfl]
  subst e;rwa[c,by simp[aiG]]
 nd:=by simp[l]
 len:=rfl
 at_:=λj z h=>by
  cases j with
  |zero=>
   let e:f=z:=by simpa using h
   subst e;rwa[i,2,o,.inl g,c,by simp[aiG],.inl (cM m g k)]
  |succ j=>simp at h
namespace Rv
def GR:Slot "reversed" "__init__" "object.__init__":=
 .of (owner:="object") (n:="__init__") (by rw[typeLookup_type,builtinLookup_eq_fast];kernel_rfl) ⋯ ⋯ ⋯
  (by first|rwa[.inl (by decide)]|rwa[.inr (by decide)]) (by rw[isSubtype_type];kernel_rfl)
def called:TypeCalled "reversed" "reversed.__new__" "object.__init__":=
 ⟨44,⟨11,PySem.F.mro_reversed⟩,PySem.F.made_reversed,4,by rw[isSubtype_type];kernel_rfl,GR⟩
def afc (h:Heap)(it t:Zs)(i:Int):Prop:=∃o,h.get? it\o/\o.cls=.type "reversed"/\o.data=.fields #[↑t,rawInt i]
end Rv
def ao (ns:Zg):Zb:=ns.map V.int
def cK (h:l[i]?\z):(ao l)[i]?\(V.int z):=by
 unfold ao;rw[agR,h];rfl
def aL (ns:Zg):⇑(ao ns)=⇑ns:=agy ..
def cR (h:(ao l)[i]?\q):∃z,q=V.int z/\l[i]?\z:=by
 unfold ao at h
 cbv
def ints_app (a b:Zg):ao (a++b)=ao a++ao b:=ag6 ..
def all_eq (ns ms:Zg):((List.range (min ⇑ns ⇑ms)).all (λj=>decide (ns[j]?=ms[j]?)) && ⇑ns==⇑ms)=decide (ns=ms):=by
 rw[ahR,ah0,List.all_eq_true,ahn,ajC];constructor
 ·rintro ⟨a,b⟩;rwa[aif λi=>?_]
  cbv
 cbv
section
variable {X:Cx}
inductive UU (K:Za1) (x:V) (y:V) (H:Hp) (Q:VK):Prop
 |mk (a b:Zs) (ns ms:Zg):x=↑a->y=↑b->bC K H a (ao ns)->bC K H b (ao ms)->Q (.bl (decide (ns=ms))) H->UU K x y H Q
inductive LY (K:Za1) (x:V) (y:V) (H:Hp) (Q:VK):Prop
 |mk (a b:Zs) (ns ms:Zg):x=↑a->y=↑b->bC K H a (ao ns)->bC K H b (ao ms)->Q (.bl (!decide (ns=ms))) H->LY K x y H Q
theorem xD {b:Zg}{a:Zk}(c:Vals (ao l) N)(g:Vals (ao b) a)(j:Nat)(p:j<N.toArray.size)(k:j<a.toArray.size):
 SeqAt.EqAt A s N.toArray[j] a.toArray[j] (decide (l[j]?=b[j]?)):=by
 let n:=⇑c;let i:=⇑g;rw[aL]at n i;let w:j<⇑N:=by simpa using p
 let m:j<⇑a:=by simpa using k
 let h:l[j]?=some l[j]:=agv ∅
 let d:b[j]?=some b[j]:=agv ∅
 let⟨u,r,t,rfl⟩:=c.get (cK h);let⟨v,x,f,rfl⟩:=g.get (cK d)
 let q:N.toArray[j]=Value.int l[j] t:=by
  rw[List.getElem_toArray];rwa[Za0 ((agv w).symm.trans r)]
 let o:a.toArray[j]=Value.int b[j] f:=by
  rw[List.getElem_toArray];rwa[Za0 ((agv m).symm.trans x)]
 rw[q,o,h,d];have:=SeqAt.EqAt.int_int (A:=A) (s:=s) l[j] t b[j] f
 let e:decide (some l[j]=some b[j])=(l[j]==b[j]):=by
  rw[ahR,ahn,ajC];rwa[Za0,ahT some]
 rw[e];rwa[this]
def NQ (A:X.A.units<cLine):fQ X (compareOp .NotEq) (LY X.K):=by
 intro l s D H x y v u Q I p o h;let⟨a,b,f,d,rfl,rfl,t,C,q⟩:=h;ext p;ext o;let⟨g,i,z,_⟩:=I.tuple t;let⟨c,n,B,_⟩:=I.tuple C;rwa[SeqAt.RcNeAt.tuples (e:=λj=>decide (f[j]?=d[j]?)) (show s.heap.IsTuple a g.toArray from z) (show s.heap.IsTuple b c.toArray from B) A (λj w r=>xD i n j w r) X.prog X.w X.xe _ ⟨.bl (!decide (f=d)),H,I,5,q⟩];let m:=⇑i;let k:=⇑n;rw[aL]at m k;show _=Value.bool (!decide (f=d));rw[<-all_eq,agL,agL,<-m,<-k]
inductive QC (K:Za1) (xs:Zb) (H:Hp) (Q:VK):Prop
 |mk (x:V) (T:String) (t:Zt) (b:Bool):xs=[x,.ty T]->jI K H x t->PySem.W.kitOne K t (.type T)\b->Q (.bl b) H->QC K xs H Q
def j6:i6 X (.builtin "isinstance") (QC X.K):=by
 intro a s k H l i Q I r h;let⟨x,T,t,b,rfl,g,e,q⟩:=h;let⟨u,j,rfl,f,c⟩:=vals2 r;ext c;rwa[GB I f g e λd=>⟨.bl b,H,I.tok d,2,q⟩]
def Jy (K:Za1)(T:String):PySem.W.kitOne K (.type T) (.type T)\true:=by
 unfold PySem.W.kitOne
 cbv
end
def aq.upd {o:HO}(h:H a=Option.none):aq H (upd H a o):=λb u e=>by
 rw[ak (ax e h)];rwa[e]
section
variable {X:Cx}
inductive GU (x:V) (y:V) (H:Hp) (Q:VK):Prop
 |mk (a b:Zs) (xs ys:Zb):x=↑a->y=↑b->H a\.tup xs->H b\.tup ys->⇑xs+ ⇑ys<=sizeLine->(∀p H',aq H H'->H' p\.tup (xs++ys)->Q ↑p H')->GU x y H Q
theorem Jz {ws:Zk}(m:IsTup s.heap a ([]:Zk).toArray)(q:IsTup s.heap b ws.toArray)
 (h:Q ↑b s):(P<|>w) A (binaryOp .Add ↑a ↑b) Q E s:=by
 let⟨⟨cls,o,data,r⟩,i,l,n,j⟩:=id m;let⟨⟨k,f,data2,g⟩,e,c,p,d⟩:=id q;simp only at l j c d;subst l j c d
 exact concat_meets ⟨_,i,2⟩ ⟨_,e,2⟩ noFill_tuple_add seq_tuple_add ajV ajM (ajG _ _)
  (tuple_addW0 a b ([]:Zk).toArray ws.toArray n p o f r g rfl) ⟨i,e,h⟩
def pM:fQ X (binaryOp .Add) GU:=by
 intro c s r H x y v u Q I j i h;let⟨a,b,m,ys,rfl,rfl,d,f,w,q⟩:=h;by_cases l:m=[]
 ·subst l;ext j;ext i;let⟨g,n,t,_⟩:=I.tuple (bC.of d);let⟨k,A,z,_⟩:=I.tuple (bC.of f);let e:g=[]:=n.sM.mpr rfl;subst e;rwa[Jz t z ⟨↑b,H,I,2,q b H (aq.refl H) f⟩]
 ·rwa[NM c s r H ↑a ↑b v u Q I j i ⟨a,b,m,ys,22,bC.of d,bC.of f,l,w,λe=>?_,λ_ p o=>q p _ (aq.upd o) ah⟩];subst e;rwa[q a H (aq.refl H) ([ag9]▸d)]
inductive LZ (x:V) (lo:Zj) (hi:Zj) (H:Hp) (Q:VK):Prop
 |mk (a:Zs) (xs:Zb):x=↑a->H a\.tup xs->(∀p H',aq H H'->H' p\.tup (fm xs lo hi)->Q ↑p H')->LZ x lo hi H Q
end
end L2
namespace HT
open PySem PyProof.Rows
section
variable {prog:Program}{w:World}{A:Around}{E:Zt->Zu->Prop}{s:Zu}
theorem qN {items:Zm}{lo i:Zj}(c:IsTup s.heap a items)(j:s.heap.IsSliceOf b v u .none)(pl:IsPart v lo)(l:IsPart u i)
 (hw:bW items.size 0 lo=0/\bW items.size items.size i=items.size) (h:Q ↑a s):(prog<|>w) A (getItem ↑a ↑b) Q E s:=by
 let⟨os,e,g,k⟩:=id j;let f:s.TypeIs ↑b "slice":=⟨os,e,g⟩;unfold getItem
 try with_reducible rwa[ahF ?_]
 first|rwa[ags (agz ?_)]|skip
 rwa[ags (wpAny_sequenceKey c.typeIs (by decide) ?_)]
 refine ags (ahw (name:=Str.ofString "__getitem__") c.typeIs ahf
  (ahB ahf c.typeIs entry_tuple_getitem ?_ (args_tuple_getitem _ _)))
 show wpAny _ _ (Builtin.Tuple.tupleItemsOf ↑a >>=_) _ _ s;rwa[ags (tupleItemsOf_ c ?_)];rwa[ags (aiI f ?_)];rw[agX ⋯];rwa[ags (mx j pl l ?_)];rw[hw.1,hw.2];let d:((((0:Nat):Int)==0 && (1:Int)==1 && (items.size - 0)==items.size)=true):=by simp
 show wpAny _ _ (if (((0:Nat):Int)==0 && (1:Int)==1 && (items.size - 0)==items.size)=true then _ else _) _ _ s;rw[agX d];let⟨p,o,n,_⟩:=id c;rwa[ags (m:=Builtin.Tuple.tupleIsExact _) ?_];unfold Builtin.Tuple.tupleIsExact;rwa[ags (aiI c.typeIs (agz ?_))];show wpAny _ _ (if (Value.type "tuple"==Value.type "tuple")=true then _ else _) _ _ s;rw[agX ⋯];rwa[ags (aj2 (agz ⟨12,agz h⟩))]
theorem uB {t:Tok}{Q:Int×Int×Nat->Zu->Prop}(e:s.heap.IsSliceOf a .none .none (.int (-1) t))
 (h:Q ((n:Int) - 1,-1,n) s):(prog<|>w) A (Builtin.Slice.sliceApplied ↑a (pure (n:Int))) Q E s:=by
 let⟨os,b,i,c⟩:=id e;unfold Builtin.Slice.sliceApplied Builtin.Slice.sliceFields;rwa[ags (ags (ahv b c (x:=.none) rfl (ags (ahv b c (x:=.none) rfl (ags (ahv b c (x:=.int (-1) t) rfl (agz ?_)))))))];rwa[ags (slicePart_int ?_)];show wpAny _ _ (if ((-1:Int)==0)=true then _ else _) _ _ s;rw[agT ⋯];rwa[ags (slicePart_none (ags (slicePart_none (ags (agz ?_)))))];show wpAny _ _ (match Builtin.Slice.sliceAdjust none none (-1) (n:Int) with|(lo,f)=>pure (lo,(-1:Int),Builtin.Slice.slicePlaces lo f (-1))) _ _ s
 let d:Builtin.Slice.sliceAdjust none none (-1) (n:Int)=((n:Int) - 1,-1):=by
  unfold Builtin.Slice.sliceAdjust;simp
 rw[d];show wpAny _ _ (pure ((n:Int) - 1,(-1:Int),Builtin.Slice.slicePlaces ((n:Int) - 1) (-1) (-1))) _ _ s
 let g:Builtin.Slice.slicePlaces ((n:Int) - 1) (-1) (-1)=n:=by
  unfold Builtin.Slice.slicePlaces;simp;ext
 rw[g];rwa[agz h]
def JA (xs:Zk):((List.range ⇑xs).filterMap λ(m:Nat)=>xs.toArray[((⇑xs:Int) - 1+ (m:Int)* (-1)).toNat]?).toArray=xs.reverse.toArray:=by
 congr 1
 rwa[aif λi=>?_]
 let e:(List.range ⇑xs).filterMap (λ(m:Nat)=>xs.toArray[((⇑xs:Int) - 1+ (m:Int)* (-1)).toNat]?)=(List.range ⇑xs).map λm=>xs.getD (⇑xs - 1 - m) .none:=by
  have:∀l:Zh,(∀m∈l,m<⇑xs)->l.filterMap (λ(m:Nat)=>xs.toArray[((⇑xs:Int) - 1+ (m:Int)* (-1)).toNat]?)=l.map λm=>xs.getD (⇑xs - 1 - m) .none:=by
   intro l
   induction l with
   |nil=>intro _;rfl
   |cons m l f=>
    intro b;let a:=b m (agM ..);let d:((⇑xs:Int) - 1+ (m:Int)* (-1)).toNat=⇑xs - 1 - m:=∅
    let g:xs.toArray[((⇑xs:Int) - 1+ (m:Int)* (-1)).toNat]?\(xs.getD (⇑xs - 1 - m) .none):=by
     rw[d,List.getElem?_toArray,agD,agv ∅];rfl
    rw[ajz,g,ahK,f λk h=>b k (ag3 _ h)]
  rwa[this _ λm a=>ahr.mp a]
 rw[e,agR];by_cases c:i<⇑xs
 ·rw[List.getElem?_reverse c,ai5 c,agv ∅];simp[agD,agv (show ⇑xs - 1 - i<⇑xs by omega)]
 ·rw[ahd (by simp;omega),ahd (by simp;omega)];rfl
theorem tq {n:Tok}(d:IsTup s.heap a N.toArray)(l:s.heap.IsSliceOf b .none .none (.int (-1) n))
 (h:Q ↑↥s { s with heap:=s.heap.push ("tuple">>>.seq N.reverse.toArray) })
 (f:⇑N<=sizeLine):(prog<|>w) A (getItem ↑a ↑b) Q E s:=by
 let c:sizeOk (.seq N.reverse.toArray):=by
  show N.reverse.toArray.size<=sizeLine;rw[agL,ahk];rwa[f]
 let⟨os,g,j,o⟩:=id l;let i:s.TypeIs ↑b "slice":=⟨os,g,j⟩;unfold getItem
 try with_reducible rwa[ahF ?_]
 first|rwa[ags (agz ?_)]|skip
 rwa[ags (wpAny_sequenceKey d.typeIs (by decide) ?_)]
 refine ags (ahw (name:=Str.ofString "__getitem__") d.typeIs ahf
  (ahB ahf d.typeIs entry_tuple_getitem ?_ (args_tuple_getitem _ _)))
 show wpAny _ _ (Builtin.Tuple.tupleItemsOf ↑a >>=_) _ _ s;rwa[ags (tupleItemsOf_ d ?_)];rwa[ags (aiI i ?_)];rw[agX ⋯];rwa[ags (uB l ?_)]
 let k:¬((((N.toArray.size:Int) - 1)==0 && (-1:Int)==1 && N.toArray.size==N.toArray.size)=true):=by
  intro q;rw[ah0,ah0]at q;rwa[absurd q.1.2 ⋯]
 show wpAny _ _ (if (((N.toArray.size:Int) - 1)==0 && (-1:Int)==1 && N.toArray.size==N.toArray.size)=true then _ else _) _ _ s;rw[agT k];let e:=JA N;rw[show ⇑N=N.toArray.size from rfl]at e;rw[e]
 first
  |rwa[ags (m:=Builtin.Tuple.tupleExact _) (ahg (agz ⟨_,rfl,agz h⟩) c)]
  |rwa[ags (m:=Builtin.Tuple.tupleExact _) (ahg (ags (agz (agz ⟨_,rfl,agz h⟩))) c)]
  |rwa[ags (ags (m:=Builtin.Tuple.tupleExact _) (ahg (agz (agz ⟨_,rfl,agz h⟩)) c))]
  |rwa[ags (ags (m:=Builtin.Tuple.tupleExact _) (ahg (agz ⟨_,rfl,agz h⟩) c))]
end
def uC:fillsNumberSlot (.type "tuple") "mul"=pure false:=
 PySem.fillsNumberSlot_seq (id:="tuple.__mul__") (r:=some (.builtin "tuple.__rmul__")) PySem.F.slot_tuple_mul.lookup (by decide) PySem.F.slot_tuple_rmul.lookup (by decide)
def Ah:seqRepeat? (.type "tuple")=pure (some (.builtin "tuple.__mul__")):=by
 unfold seqRepeat?;rw[PySem.seqSlot_of (T:="tuple") (name:="__mul__") (id:="tuple.__mul__") PySem.F.slot_tuple_mul.lookup ⋯,PySem.seqSlot_of (T:="tuple") (name:="__rmul__") (id:="tuple.__rmul__") PySem.F.slot_tuple_rmul.lookup ⋯];rfl
theorem xE (a:Int)(t:Tok)(l:Zs)(items:Zm)(n:Nat)(e:Zo)(c:Array Zl):
 Meets (Builtin.«int.__rmul__» ⟨[.int a t,↑l],[]⟩) (λ_ R s=>s.heap.get? l\{ cls:=.type "tuple",dict:=e,data:=.seq items n,slots:=c }/\R (.ok (.ret Value.notImplemented)) s):=
 .of_wp λb w A R s h=>by let⟨j,g,d,f,os⟩:=s;let⟨i,h⟩:=h;wp_walk;rwa[12,h]
theorem xF (l:Zs)(items:Zm)(n:Nat)(f:Zo)(i:Array Zl)(x:Int)(u:Tok)(c:¬(decide (x < -(2 ^ 63)) || decide (x>=2 ^ 63))=true)(m:(items.isEmpty || x==1)=true):
 Meets (Builtin.«tuple.__mul__» ⟨[↑l,.int x u],[]⟩) (λ_ R s=>s.heap.get? l\{ cls:=.type "tuple",dict:=f,data:=.seq items n,slots:=i }/\R (.ok (.ret ↑l)) s):=
 .of_wp λa w A R s h=>by
  let⟨e,g,d,b,os⟩:=s;let⟨j,h⟩:=h;let k:(⟨e,g,d,b,os⟩:Zu).TypeIs ↑l "tuple":=⟨_,j,2⟩
  wp_walk
  rwa[wpAny_ite_false (ahu c) ?_]
  wp_walk
  rwa[12,h]
theorem xG (l:Zs)(items:Zm)(n:Nat)(f:Zo)(i:Array Zl)(x:Int)(u:Tok)(c:¬(decide (x < -(2 ^ 63)) || decide (x>=2 ^ 63))=true)(o:¬(items.isEmpty || x==1)=true)(k:(decide (x<=0) || items.isEmpty)=true):
 Meets (Builtin.«tuple.__mul__» ⟨[↑l,.int x u],[]⟩) (λ_ R s=>s.heap.get? l\{ cls:=.type "tuple",dict:=f,data:=.seq items n,slots:=i }/\R (.ok (.ret ↑↥s)) { s with heap:=s.heap.push ("tuple">>>.seq #[]) }):=
 .of_wp λa w A R s h=>by
  let⟨e,g,d,b,os⟩:=s;let⟨j,h⟩:=h;let m:(⟨e,g,d,b,os⟩:Zu).TypeIs ↑l "tuple":=⟨_,j,2⟩
  wp_walk
  rwa[wpAny_ite_false (ahu c) ?_]
  wp_walk
  rwa[12,h]
theorem xH (l:Zs)(items:Zm)(n:Nat)(k:Zo)(m:Array Zl)(x:Int)(u:Tok)(f:¬(decide (x < -(2 ^ 63)) || decide (x>=2 ^ 63))=true)(v:¬(items.isEmpty || x==1)=true)(q:¬(decide (x<=0) || items.isEmpty)=true)
 (j:¬((items.size:Int)* x > (2 ^ 63 - 1) / 8)) (p:¬(Builtin.Tuple.tupleTooMany ((items.size:Int)* x))=true) (t:(List.foldl (λb a=>b++a) #[] (List.replicate x.toNat items)).size<=sizeLine):
 Meets (Builtin.«tuple.__mul__» ⟨[↑l,.int x u],[]⟩) (λ_ R s=>s.heap.get? l\{ cls:=.type "tuple",dict:=k,data:=.seq items n,slots:=m }/\R (.ok (.ret ↑↥s)) { s with heap:=s.heap.push ("tuple">>>.seq (List.foldl (λb a=>b++a) #[] (List.replicate x.toNat items))) }):=
 .of_wp λc w A R s h=>by
  let⟨i,g,d,e,os⟩:=s;let⟨o,h⟩:=h;let r:(⟨i,g,d,e,os⟩:Zu).TypeIs ↑l "tuple":=⟨_,o,2⟩
  wp_walk
  rwa[wpAny_ite_false (ahu f) ?_]
  wp_walk
  rwa[wpAny_ite_false (ahu j) ?_]
  wp_walk
  rwa[12,h]
end HT
namespace L2
open PySem PySem.Spec PyProof.Rows
section
variable {X:Cx}{e:Expr}{te:TE}{lo hi:Option Expr}{st:Expr}{tl th ts:TO}{pos p2:Pos}
def pN:LN X LZ:=by
 intro b s m H x v n k lo hi o Q I f j pl i h;let⟨a,xs,rfl,c,q⟩:=h;by_cases hw:HT.bW ⇑xs 0 lo=0/\HT.bW ⇑xs ⇑xs hi=⇑xs
 ·ext f;let⟨d,r,g,t⟩:=I.tuple (bC.of c);let hlen:d.toArray.size=⇑xs:=by rw[agL];rwa[r.length.symm]
  erw["tuple",_,ahf.lookup,g.typeIs];rwa[HT.qN g j pl i ([hlen]▸hw) ⟨↑a,H,I,2,q a H (aq.refl H) ?_⟩];unfold fm;rw[hw.1,hw.2,List.drop_zero,Nat.sub_zero,aib];rwa[c]
 ·rwa[Qs b s m H ↑a v n k lo hi o Q I f j pl i ⟨a,xs,2,bC.of c,hw,λp l=>q p _ (aq.upd l) ah⟩]
def JB (X:Cx)(r:V->Zj->Zj->Zj->Hp->VK->Prop):Prop:=
 ∀(a:List (Zs×Obj)) (s:Zu) (g:St) (H:Hp) (x:V) (v f d b:Zt) (lo hi st:Zj) (c:Zs) (Q:VK),Inv X a g H s->RelV x v->s.heap.IsSliceOf c f d b->IsPart f lo->IsPart d hi->IsPart b st->r x lo hi st H Q->
  ∃T id,typeLookup (.type T) "__getitem__"=pure (some (.builtin id))/\s.TypeIs v T/\X⁻¹ X.A (getItem v ↑c) (EP X a g Q) X.xe s
def YP (r:V->Zj->Zj->Zj->Hp->VK->Prop)(te:TE)(tl th ts:TO):TE:=λ a H Q=>te a H λx d=>tl a d λl f=>th a f λu c=>ts a c λk b=>r x l u k b Q
def yA {r:V->Zj->Zj->Zj->Hp->VK->Prop}(w:JB X r)(z:PE X e te)(R:PO X lo tl)(L:PO X hi th)(i:PO X (some st) ts):PE X (.Subscript e (.Slice lo hi (some st) p2) pos) (YP r te tl th ts):=by
 intro a s c H Q I h;rwa[Subscript_ (aZ (z a s c H _ I h) λv M ζ=>?_)];let⟨x,U,G,n,P⟩:=ζ;rwa[wpAny_Slice (aZ (R a M c U _ G P) λf A ζ=>?_)];let⟨l,W,E,pl,p⟩:=ζ;rwa[aZ (L a A c W _ E p) λd J ζ=>?_];let⟨u,t,B,C,O⟩:=ζ;rwa[aZ (i a J c t _ B O) λg s4 ζ=>?_];let⟨k,j,m,o,S⟩:=ζ;let F:Inv X a c j { s4 with heap:=s4.heap.push ("slice">>>.fields #[f,d,g]) }:=m.kept (t':=s4.toks) λb Z q=>agt _ q
 let⟨T,id,D,y,N⟩:=w a { s4 with heap:=s4.heap.push ("slice">>>.fields #[f,d,g]) } c j x v f d g l u k ↥s4 Q F n (Heap.IsSliceOf.new ..) pl C o S;show X⁻¹ X.A (subscriptTail e (.Slice lo hi (some st) p2) v ↑↥s4) (EP X a c Q) X.xe { s4 with heap:=s4.heap.push ("slice">>>.fields #[f,d,g]) };rwa[tail_any (ops:=[v,↑↥s4]) y D N (by with_unfolding_all rfl)]
def UX:V->Zj->Zj->Zj->Hp->VK->Prop:=λx lo hi st H Q=>∃a xs,x=↑a/\H a\.tup xs/\lo=none/\hi=none/\st\(-1)/\∀p,H p=none->Q ↑p (upd H p (.tup xs.reverse))
def NR:JB X UX:=by
 intro d s z H x v B w p lo hi st C Q I g m pl l j h;let⟨a,xs,rfl,k,rfl,rfl,rfl,q⟩:=h;ext g;ext pl;ext l;obtain⟨c,rfl⟩:∃c,p=.int (-1) c:=by cases j with|int i t=>exact⟨t,rfl⟩
 let⟨u,r,f,n⟩:=I.tuple (bC.of k);let D:=⇑r;erw["tuple",_,ahf.lookup,f.typeIs];rwa[HT.tq f m ?_ ∅];rwa[⟨↑↥s,_,I.laid (t':=s.toks) (o:=.tup xs.reverse) (λb A q=>agt _ q) (agA _) ?_,2,q _ (I.aO.fresh (agA _))⟩];rwa[[ahk]▸n,_,r.reverse,IsTup.new _ _]
def UY (K:Za1):V->Zj->Zj->Zj->Hp->VK->Prop:=λx lo hi st H Q=>∃a xs,x=↑a/\aH K H a xs/\lo=none/\hi=none/\st\(-1)/\∀p,H p=none->Q ↑p (upd H p (.lst xs.reverse))
def NT:JB X (UY X.K):=by
 intro d s t H x v w n y lo hi st z Q I g l pl k i h;let⟨a,xs,rfl,j,rfl,rfl,rfl,q⟩:=h;ext g;let⟨c,r,f,m⟩:=I.list j;let A:=⇑r;erw["list",_,slot_list_getitem.lookup,f.isList.typeIs];rwa[wpAny_getItem_list_slice f.isList l pl k i ⋯ ?_ (by rw[agL];omega)];rw[PySem.W.krv_pick];rwa[⟨↑↥s,_,I.laid (t':=s.toks) (o:=.lst xs.reverse) (λb u q=>agt _ q) (agA _) ?_,2,q _ (I.aO.fresh (agA _))⟩];rwa[[ahk]▸m,c.reverse,_,r.reverse,agK _ rfl]
inductive L0 (x:V) (y:V) (H:Hp) (Q:VK):Prop
 |mk (a:Zs) (k:Int) (xs:Zb):x=↑a->y=.int k->H a\.tup xs-> -(2 ^ 63)<=k->k<2 ^ 63->⇑xs* k.toNat<=sizeLine->(∀p H',aq H H'->H' p\.tup (List.replicate k.toNat xs).flatten->Q ↑p H')->L0 x y H Q
theorem DJ:fQ X (binaryOp .Mult) L0:=by
 intro d s G H x y v u Q I O N h;let⟨l,k,xs,rfl,rfl,M,h1,h2,J,q⟩:=h;ext O;let⟨t,rfl⟩:=N;let⟨a,r,Y,V⟩:=I.tuple (bC.of M);let E:=⇑r;let⟨⟨cls,p,data,z⟩,i,hc,n,L⟩:=id Y;simp only at hc L;subst hc L
 let A:¬(decide (k < -(2 ^ 63)) || decide (k>=2 ^ 63))=true:=by
  rw[ajN,ahn,ahn];ext
 let C:∀{S:PySem.Spec},Meets (Builtin.«tuple.__mul__» ⟨[↑l,.int k t],[]⟩) (λZ R c=>c.heap.get? l\{ cls:=.type "tuple",dict:=p,data:=.seq a.toArray n,slots:=z }/\S Z R c)->
  S X.A (wants (EP X d G Q) X.xe) s->X⁻¹ X.A (binaryOp .Mult ↑l (.int k t)) (EP X d G Q) X.xe s:=λ{S} m hS=>
  wpAny_binaryOp_repeat_ref (T:="tuple") (U:="int") ⋯ ⟨_,i,2⟩ (λc=>typeIs_int c k t) HT.uC F.fills_int_mul F.slot_int_rmul HT.Ah F.slot_int_index.lookup
   (ajH F.slot_int_rmul (typeIs_int s k t) F.entry_int_rmul (F.args_int_rmul_2 _ _) (HT.xE k t l a.toArray n p z)
    ⟨i,2,⟨_,i,2⟩,ajH F.slot_tuple_mul ⟨_,i,2⟩ F.entry_tuple_mul (F.args_tuple_mul_2 _ _) m ⟨i,hS⟩⟩)
 by_cases hc:(a.toArray.isEmpty || k==1)=true
 ·rwa[C (S:=λ_ R c=>R (.ok (.ret ↑l)) c) (HT.xF l a.toArray n p z k t A hc) ⟨↑l,H,I,2,q l H (aq.refl H) ?_⟩]
  let e:(List.replicate k.toNat xs).flatten=xs:=by
   rw[ajN]at hc;rcases hc with hc|hc
   ·have:a=[]:=by simpa using hc
    have:xs=[]:=by
     let w:=E;rw[this]at w;rwa[ahC w]
    subst this;simp
   ·have:k=1:=by simpa using hc
    subst this;simp
  rw[e];rwa[M]
 ·by_cases f:(decide (k<=0) || a.toArray.isEmpty)=true
  ·rwa[C (S:=λ_ R c=>R (.ok (.ret ↑↥c)) { c with heap:=c.heap.push ("tuple">>>.seq #[]) }) (HT.xG l a.toArray n p z k t A hc f) ?_];rwa[⟨↑↥s,_,I.laid (t':=s.toks) (o:=.tup []) (λb W q=>agt _ q) (agA _) ?_,2,q _ _ (aq.upd (I.aO.fresh (agA _))) ?_⟩]
   ·rwa[agW _,[],.nil,IsTup.new _ _]
   ·let e:k.toNat=0:=by
     rw[ajN,ahn]at f;rcases f with f|f
     ·ext
     ·rwa[absurd (by rw[ajN];rwa[.inl f]) hc]
    rw[e,ah];rfl
  ·let hk:0<k:=by
    rw[ajN,ahn]at f;ext
   let j:List.foldl (λD B=>D++B) #[] (List.replicate k.toNat a.toArray)=(List.replicate k.toNat a).flatten.toArray:=by
    have:=foldl_rep a k.toNat [];rw[ajf]at this;rwa[this]
   let hlen:(List.replicate k.toNat a).flatten.length<=sizeLine:=by rw[len_rep,Nat.mul_comm,<-E];rwa[J]
   let g:((a.toArray.size:Int)* k)=((⇑xs* k.toNat:Nat):Int):=by
    rw[agL,<-E,Int.natCast_mul,Int.toNat_of_nonneg ∅]
   let hline:(sizeLine:Nat)<=(2 ^ 63 - 1) / 8:=⋯
   refine C (S:=λ_ R c=>R (.ok (.ret ↑↥c)) { c with heap:=c.heap.push ("tuple">>>.seq (List.foldl (λD B=>D++B) #[] (List.replicate k.toNat a.toArray))) })
    (HT.xH l a.toArray n p z k t A hc f (by rw[g];omega) (by unfold Builtin.Tuple.tupleTooMany;rw[ahn,g];omega) ([j,agL]▸hlen)) ?_
   rw[j];rwa[⟨↑↥s,_,I.laid (t':=s.toks) (o:=.tup (List.replicate k.toNat xs).flatten) (λb W q=>agt _ q) (agA _) ?_,2,q _ _ (aq.upd (I.aO.fresh (agA _))) ah⟩];rwa[[len_rep,Nat.mul_comm]▸J,_,r.rep k.toNat,IsTup.new _ _]
end
def tx (l:Zh):Str:=⟨l.toArray⟩
def GV (l:Zh):⇑(tx l)=⇑l:=by
 show l.toArray.size=⇑l;simp
def QD {b:Zh}(h:tx B=tx b):B=b:=by
 have:=ahT (λs:Str=>s.cps.toList) h;rwa[this]
def DK (h:x.cps.toList=f.cps.toList):x=f:=by
 let⟨a⟩:=x;let⟨b⟩:=f;have:a=b:=Array.toList_inj.mp h;rw[this]
def UZ (x:Str):x=tx x.cps.toList:=DK rfl
def GW (a b:Zh):tx a++tx b=tx (a++b):=by
 rwa[DK ?_];show ((tx a).cps++(tx b).cps).toList=(a++b);rw[Array.toList_append];rfl
section
variable {X:Cx}{pos:Pos}
def eh {l:Zh}{j}(h:x=tx l):PE X (.Constant (.str x) j pos) (tC (.str (tx l))):=by
 rw[<-h];rwa[PZ]
def Ai (n:Int):Zh:=(toString n:Str).cps.toList
def GX (h:n<10000000000):n.log2<1920:=by
 rcases Nat.eq_zero_or_pos n with e|e
 ·subst e;decide
 ·let b:HPow.hPow 2 n.log2<=n:=Nat.log2_self_le ∅;let a:(10000000000:Nat)<2 ^ 1920:=⋯
  rwa[(Nat.pow_lt_pow_iff_right (by decide:1<2)).mp (agE b (ajI h a))]
def JC {n:Int}(a:0<=n)(h:n<10000000000):⇑(Ai n)<=10:=by
 have:=toString_length_le (v:=n) a (k:=10) ⋯ h;rwa[this]
end
structure Def (K:Za1) (mg:Str->Zl) (x:Str) (st:Stmt) (ps:Zp) (f:Zs) (fd:FuncData):Prop where
 F:qU K x x st f fd
 m:mg x\↑f
 b:Binds K fd ps []
inductive U0 (t:TE) (σ:St) (H:Hp) (Q:VK):Prop
 |mk (G:V->Hp->Prop):t σ H G->(∀v H',G v H'->Q v H')->U0 t σ H Q
def Aj (ns:Zg)(lo a:Zj):fm (ao ns) lo a=ao ((ns.drop (HT.bW ⇑ns 0 lo)).take (HT.bW ⇑ns ⇑ns a - HT.bW ⇑ns 0 lo)):=by
 unfold fm ao;rw[agy,ajO,aka]
def eT (r:Int){n:Nat}(h:0<n):∃j:Nat,r % (n:Int)=(j:Int)/\j<n:=by
 let a:=ah7 r (show (n:Int)≠0 by omega);let b:=ahW r (show (0:Int)<(n:Int) by omega);rwa[(r % (n:Int)).toNat,33]
section
variable {κ:Type} [DecidableEq κ]
noncomputable def bz (a:List (κ×V))(k:κ):Zc:=(a.find? λb=>decide (b.1=k)).map (·.2)
noncomputable def putK (a:List (κ×V))(k:κ)(v:V):List (κ×V):=
 if (a.any λb=>decide (b.1=k))=true then a.map (λb=>if b.1=k then (b.1,v) else b) else a++[(k,v)]
noncomputable def e8 (a:List (κ×V))(k:κ):List (κ×V):=a.filter λb=>decide (b.1≠k)
def cY {p:κ×V}{r:List (κ×V)}{k:κ}(e:p.1=k):bz (p::r) k\p.2:=by simp[bz,ajg,e]
def cO {p:κ×V}{r:List (κ×V)}{k:κ}(e:¬p.1=k):bz (p::r) k=bz r k:=by simp[bz,ajg,e]
theorem my (k:κ):∀a:List (κ×V),(a.any λb=>decide (b.1=k))=(bz a k).isSome
 |[]=>rfl
 |p::r=>by
  rw[List.any_cons];by_cases e:p.1=k
  ·simp only[cY e,aha e,Bool.true_or,Option.isSome_some]
  ·rw[cO e,ahu e,Bool.false_or];rwa[my k r]
theorem Ak (k j:κ)(y:V):∀a:List (κ×V),bz (a.map λb=>if b.1=k then (b.1,y) else b) j=(bz a j).map λx=>if j=k then y else x
 |[]=>rfl
 |p::r=>by
  let c:=Ak k j y r;rw[ahK];by_cases h:p.1=k
  ·rw[agX h];by_cases e:p.1=j
   ·rw[cY (p:=(p.1,y)) e,cY e,Option.map_some,agX (e.symm.trans h)]
   ·rw[cO (p:=(p.1,y)) e,cO e,c]
  ·rw[agT h];by_cases e:p.1=j
   ·rw[cY (p:=p) e,cY e,Option.map_some,agT (λz=>h (e.trans z))]
   ·rw[cO (p:=p) e,cO e,c]
theorem yB (k j:κ)(y:V):∀a:List (κ×V),bz a k=none->bz (a++[(k,y)]) j=if j=k then some y else bz a j
 |[],_=>by
  by_cases e:k=j
  ·rw[agX e.symm];rwa[cY (p:=(k,y)) e]
  ·rw[agT (λz=>e z.symm)];rwa[cO (p:=(k,y)) e]
 |p::r,b=>by
  rw[aip];let c:¬p.1=k:=λz=>by rw[cY z]at b;ext b
  rw[cO c]at b;let d:=yB k j y r b;by_cases e:p.1=j
  ·rw[cY e,cY e,agT (λz=>c (e.trans z))]
  ·rw[cO e,cO e,d]
def pO (b:List (κ×V))(k j:κ)(y:V):bz (putK b k y) j=if j=k then some y else bz b j:=by
 unfold putK;by_cases a:(b.any λc=>decide (c.1=k))=true
 ·rw[agX a,Ak];rw[my]at a;by_cases e:j=k
  ·let⟨x,d⟩:=ajE.mp a
   cbv
  ·rw[agT e]
   cases bz b j with
   |none=>rfl
   |some x=>cbv
 ·rw[agT a];rwa[yB k j y b ?_];rw[my]at a
  cases q:bz b k with
  |none=>rfl
  |some x=>rw[q]at a;rwa[(a rfl).elim]
def gW (a:List (κ×V))(k:κ)(v:V):⇑(putK a k v)<=⇑a+ 1:=by
 unfold putK;split
 ·rw[agy];ext
 ·rw[agw,agV,ahZ];ext
def Al {a:List (κ×V)}{k:κ}(v:V)(h:bz a k=none):putK a k v=a++[(k,v)]:=by
 unfold putK;rw[my,h];rwa[agT ⋯]
def eR.qW {o:Zc}{u:Zl}(r:eR o u):o.isSome=u.isSome:=by
 cases o with
 |none=>cases u with
  |none=>rfl
  |some _=>exact(show False from r).elim
 |some _=>cases u with
  |none=>exact(show False from r).elim
  |some _=>rfl
def eR.getD {o:Zc}{u:Zl}(r:eR o u)(rd:RelV q v):RelV (o.getD q) (u.getD v):=by
 cases o with
 |none=>cases u with
  |none=>exact rd
  |some _=>exact(show False from r).elim
 |some _=>cases u with
  |none=>exact(show False from r).elim
  |some _=>exact r
def KV.val {a:List (κ×V)}{f:List (κ×Zt)}(r:KV a f)(k:κ):eR (bz a k) (valueAt f k):=by
 induction r with
 |nil=>exact True.intro
 | @cons p q l d h t i=>
   let⟨g,j⟩:=h;by_cases e:p.1=k
   ·let c:q.1=k:=g.symm.trans e;let b:valueAt (q::d) k\q.2:=by simp[valueAt,ajg,c]
    rw[cY e,b];rwa[j]
   ·let c:¬q.1=k:=λz=>e (g.trans z)
    let b:valueAt (q::d) k=valueAt d k:=by simp[valueAt,ajg,c]
    rw[cO e,b];rwa[i]
def KV.any {a:List (κ×V)}{c:List (κ×Zt)}(r:KV a c)(k:κ):(a.any λb=>decide (b.1=k))=c.any λb=>decide (b.1=k):=by
 induction r with
 |nil=>rfl
 |cons h t d=>rw[List.any_cons,List.any_cons,d,h.1]
theorem KV.repl {b:List (κ×V)}{c:List (κ×Zt)}(r:KV b c)(k:κ){y:V}{u:Zt}(e:RelV y u):
 KV (b.map λa=>if a.1=k then (a.1,y) else a) (c.map λa=>if a.1=k then (a.1,u) else a):=by
 induction r with
 |nil=>exact .nil
 | @cons p q f g h t d=>
   rw[ahK,ahK];rwa[.cons ?_ d]
   cbv
def KV.put {a:List (κ×V)}{b:List (κ×Zt)}(r:KV a b)(k:κ){y:V}{u:Zt}(c:RelV y u):KV (putK a k y) (stored b k u):=by
 unfold putK stored;rw[r.any k];by_cases e:(b.any λd=>decide (d.1=k))=true
 ·rw[agX e,agX e];rwa[r.repl k c]
 ·rw[agT e,agT e];rwa[Paired.snoc r ⟨2,c⟩]
def KV.drop {c:List (κ×V)}{d:List (κ×Zt)}(r:KV c d)(k:κ):KV (e8 c k) (without d k):=by
 unfold e8 without
 induction r with
 |nil=>exact .nil
 | @cons p q l m h t g=>
   let⟨f,i⟩:=h;rw[List.filter_cons,List.filter_cons];by_cases e:p.1=k
   ·cbv
   ·let j:¬q.1=k:=λz=>e (f.trans z)
    let a:decide (p.1≠k)=true:=by simp[e]
    let b:decide (q.1≠k)=true:=by simp[j]
    rw[agX a,agX b];rwa[.cons ⟨f,i⟩ g]
def KV.length {a:List (κ×V)}{b:List (κ×Zt)}(r:KV a b):⇑a=⇑b:=Paired.length r
def JD (a:List (κ×V))(k:κ):⇑(e8 a k)<=⇑a:=aiJ _ _
end
def jL {k:Key}(r:RelV (kV k) u):(bQ P w).is k u=true:=by
 cases k with
 |inl i=>let⟨t,e⟩:=(show ∃t,u=Value.int i t from r);subst e;rwa[CK P w i t]
 |inr x=>let⟨t,e⟩:=(show ∃t,u=Value.str x t from r);subst e;rwa[CL P w x t]
theorem yC:∀{a:Zd} {b:Zk},Vals (a.map kV) b->ItemsAre (bQ P w) a b
 |[],_,r=>by ext r;rwa[.nil]
 |k::a,_,r=>by
  cases r with
  |cons h t=>exact .cons (jL h) (yC t)
abbrev KT (H:Hp):List (Zd×V)->List (Zd×Zs×Zt)->Prop:=Paired λp q=>p.1=q.1/\H q.2.1\.tup (p.1.map kV)/\RelV p.2 q.2.2
def KT.val {a:List (Zd×V)}{f:List (Zd×Zs×Zt)}(r:KT H a f)(k:Zd):eR (bz a k) ((atKey f k).map (·.2)):=by
 induction r with
 |nil=>exact True.intro
 | @cons p q l d h t i=>
   let⟨g,_,j⟩:=h;by_cases e:p.1=k
   ·let c:q.1=k:=g.symm.trans e;let b:atKey (q::d) k\q.2:=by simp[atKey,ajg,c]
    rw[cY e,b];rwa[j]
   ·let c:¬q.1=k:=λz=>e (g.trans z)
    let b:atKey (q::d) k=atKey d k:=by simp[atKey,ajg,c]
    rw[cO e,b];rwa[i]
theorem KT.repl {a:List (Zd×V)}{xs:List (Zd×Zs×Zt)}(r:KT H a xs)(k:Zd){y:V}{u:Zt}(d:RelV y u):
 KT H (a.map λb=>if b.1=k then (b.1,y) else b) (xs.map (putAt k u)):=by
 induction r with
 |nil=>exact .nil
 | @cons p q e j h t c=>
   rw[ahK,ahK];rwa[.cons ?_ c];let⟨i,g,f⟩:=h;unfold putAt
   cbv
theorem KT.put {a:List (Zd×V)}{c:List (Zd×Zs×Zt)}(r:KT H a c)(k:Zd){b:Zs}{y:V}{u:Zt}(f:H b\.tup (k.map kV))(d:RelV y u):
 KT H (putK a k y) (storedH c k b u):=by
 let e:(a.any λg=>decide (g.1=k))=(atKey c k).isSome:=by
  rw[my,(r.val k).qW,Option.isSome_map]
 unfold putK storedH;rw[e];by_cases q:(atKey c k).isSome=true
 ·rw[agX q,agX q];rwa[r.repl k d]
 ·rw[agT q,agT q];rwa[Paired.snoc r ⟨2,f,d⟩]
def KT.keeps {a:List (Zd×V)}{c:List (Zd×Zs×Zt)}(r:KT H a c)(d:∀b ys,H b\.tup ys->I b\.tup ys):KT I a c:=
 Paired.Jh r λ_ _ z=>⟨z.1,d^z.2.1,z.2.2⟩
section
variable {P:Program}{w:World}{H:Hp}{h:Heap}{a:Zs}
def L1 {u:HO}(ok:dH P w H h)(e:Rd H a u):bV P w H h a u:=e.ok ok
def pR {b:List (Key×V)}(ok:dH P w H h)(e:Rd H a (.dK b)):⇑b<=sizeLine/\(a==sysModules)=false/\∃c,KV b c/\h.DictOf (bQ P w) a c:=
 show bV P w H h a (.dK b) from L1 ok e
def sN {b:List (Key×V)}(ok:dH P w H h)(e:H a\.dK b):⇑b<=sizeLine/\(a==sysModules)=false/\∃c,KV b c/\h.DictOf (bQ P w) a c:=pR ok (.inl e)
def mz {c:Zd}(ok:dH P w H h)(e:H a\.tup (c.map kV)):(tupleKind (bQ P w)).is h c a:=by
 let⟨_,b,r,o,g,f,n,d⟩:=(show bV P w H h a (.tup (c.map kV)) from ok a _ e);rwa[o,b.toArray,n,g,f,d,by simpa using yC r]
theorem pS {b:List (Zd×V)}(ok:dH P w H h)(e:Rd H a (.dT b)):⇑b<=sizeLine/\(a==sysModules)=false/\
 ∃d,KT H b d/\h.DictOfH (tupleKind (bQ P w)) a d:=by
 let⟨z,y,d,r,o,v,k,s,i,n,j,u⟩:=(show bV P w H h a (.dT b) from L1 ok e);rwa[⟨z,y,d,r,o,v,k,s,i,n,j,λx c=>?_,u⟩]
 let all:∀{l:List (Zd×V)} {m:List (Zd×Zs×Zt)},KT H l m->∀x∈m,(tupleKind (bQ P w)).is h x.1 x.2.1:=by
  intro l m q
  induction q with
  |nil=>intro x c;rwa[nomatch c]
  | @cons p q A B f t g=>
    intro x c;rcases agN.mp c with e|c
    ·subst e;rwa[mz ok (by rw[<-f.1];rwa[f.2.1])]
    ·rwa[g x c]
 rwa[all r x c]
theorem L3 {b:List (Zd×V)}(ok:dH P w H h)(e:H a\.dT b):⇑b<=sizeLine/\(a==sysModules)=false/\
 ∃c,KT H b c/\h.DictOfH (tupleKind (bQ P w)) a c:=pS ok (.inl e)
end
def fY (H:Hp)(a:Zs)(y:V)(r:Zc):Prop:=
 (∃c k,Rd H a (.dK c)/\y=kV k/\r=bz c k)\/∃c k b,Rd H a (.dT c)/\y=↑b/\H b\.tup (k.map kV)/\r=bz c k
def qX (H:Hp)(a:Zs)(y v:V)(d:Hp):Prop:=
 (∃c k,H a\.dK c/\y=kV k/\⇑c<sizeLine/\d=upd H a (.dK (putK c k v)))\/
 ∃c k b,H a\.dT c/\y=↑b/\H b\.tup (k.map kV)/\⇑c<sizeLine/\d=upd H a (.dT (putK c k v))
def fY.k {b:List (Key×V)}{k:Key}(e:H a\.dK b):fY H a (kV k) (bz b k):=.inl ⟨b,k,.inl e,22⟩
def qX.k {b:List (Key×V)}{k:Key}(e:H a\.dK b)(c:⇑b<sizeLine):qX H a (kV k) q (upd H a (.dK (putK b k q))):=.inl ⟨b,k,e,2,c,2⟩
section
variable {X:Cx}{pins:List (Zs×Obj)}{σ:St}{H:Hp}{s:Zu}{a:Zs}{y v:V}{u r:Zt}{o:Zc}{A:Around}{E:Zt->Zu->Prop}
def Inv.big (I:Inv X pins σ H s):sysModules<↥s:=by
 let h:mainGlobals<↥s:=(I.mod.glob.keeps I.bk).lt;rwa[ajI ⋯ h]
theorem GY (x:A.units+ 1<cLine)(I:Inv X pins σ H s)(g:fY H a y (some v))(q:RelV y u)(h:∀d t,Inv X pins σ H t->RelV v d->Q d t):
 X⁻¹ A (getItem ↑a u) Q E s:=by
 rcases g with ⟨f,k,e,m,l⟩|⟨f,k,b,e,m,F,l⟩
 ·subst m;let⟨z,C,D,rel,n⟩:=pR I.aO e;let⟨d,i,c⟩:=eR.some_of (v:=v) (o:=valueAt D k) ([l]▸rel.val k);rwa[wpAny_getItem_of (jL q) n.mapOf i (h d _ (I.tok _) c)]
 ·subst m;cases (show u=Value.ref b from q);let⟨z,C,B,rel,n⟩:=pS I.aO e;let⟨d,i,c⟩:=eR.some_of (v:=v) (o:=(atKey B k).map (·.2)) ([l]▸rel.val k);let⟨p,w,j⟩:=ahM.mp i;rwa[wpAny_getItem_heap (aiK x) (mz I.aO F) n w ?_];rw[j];rwa[h d _ (I.tok _) c]
theorem NV (n:A.units+ 1<cLine)(I:Inv X pins σ H s)(g:fY H a y o)(j:RelV y u)(h:∀m,Inv X pins σ H m->Q (.bool (!o.isSome)) m):
 X⁻¹ A (compareOp .NotIn u ↑a) Q E s:=by
 rcases g with ⟨c,k,e,d,l⟩|⟨c,k,b,e,d,p,l⟩
 ·subst d;let⟨z,i,w,rel,f⟩:=pR I.aO e;rwa[wpAny_notIn_of (jL j) i f.mapOf ?_];rw[<-(rel.val k).qW,<-l];rwa[h _ (I.tok _)]
 ·subst d;cases (show u=Value.ref b from j);let⟨z,i,t,rel,f⟩:=pS I.aO e;rwa[wpAny_notIn_heap (aiK n) (mz I.aO p) i f ?_];let q:=(rel.val k).qW;rw[Option.isSome_map]at q;rw[<-q,<-l];rwa[h _ (I.tok _)]
theorem j7 {t':Nat}{c:HO}(I:Inv X pins σ H s)(mu:tM (H a))(f:Heap.SameBut a s.heap h)(g:∃q,h.get? a\q)(new:bV X.prog X.w (upd H a c) h a c):
 Inv X pins σ (upd H a c) { s with heap:=h,toks:=t' }:=
 I.write (x:=a) (e:=a) mu (.inl rfl) (λb q d z=>(f.2 b d).trans z) g new
theorem qY {b:List (Key×V)}{c:List (Key×Zt)}(z:⇑b<=sizeLine)(d:(a==sysModules)=false)(rel:KV b c)(e:h.DictOf (bQ P w) a c):
 bV P w I h a (.dK b):=⟨z,d,c,rel,e⟩
theorem GZ (T:A.units+ 1<cLine)(d:Inv X pins σ H s)(g:qX H a y v I)(D:RelV y u)(F:RelV v r)(h:∀L,Inv X pins σ I L->U () L):
 X⁻¹ A (setItem ↑a u r) U E s:=by
 rcases g with ⟨f,k,e,p,l,n⟩|⟨f,k,b,e,p,M,l,n⟩
 ·subst p n;let⟨z,B,W,rel,w⟩:=sN d.aO e;let x:⇑W<=sizeLine:=by rw[<-⇑rel];rwa[z]
  let C:⇑(putK f k v)<=sizeLine:=by have:=gW f k v;ext
  rwa[wpAny_setItem_pairs (hsz:=x) (jL D) w λJ i t=>h _ ?_]
  let R:∃q,J.get? a\q:=let ⟨q,_,_,j,_⟩:=i;⟨q,j⟩
  rwa[j7 d ([e]▸True.intro) t R (qY C B (rel.put k F) i)]
 ·subst p n;cases (show u=Value.ref b from D);let⟨z,B,xs,rel,w⟩:=L3 d.aO e;let x:⇑xs<=sizeLine:=by rw[<-Paired.length rel];rwa[z]
  let C:⇑(putK f k v)<=sizeLine:=by have:=gW f k v;ext
  rwa[wpAny_setItem_heap (hsz:=x) (aiK T) (mz d.aO M) w λJ i t=>h _ ?_]
  let⟨q,Y,P,j,N,Q,O,_,S⟩:=i;rwa[j7 d ([e]▸True.intro) t ⟨q,j⟩ ⟨C,B,_,(rel.put k M F).keeps λc ys G=>?_,q,Y,P,j,N,Q,O,S⟩];rw[ak (bX G e (λz=>nomatch z))];rwa[G]
end
section
variable {X:Cx}{pins:List (Zs×Obj)}{σ:St}{H:Hp}{s:Zu}{a:Zs}{kvs:List (Key×V)}{k:Key}{u:Zt}{A:Around}{E:Zt->Zu->Prop}
theorem L4 {more:Zk}(I:Inv X pins σ H s)(e:H a\.dK kvs)(f:RelV (kV k) u)(l:bz kvs k\q)(j:more=[]\/∃x,more=[x])
 (h:∀d p,Inv X pins σ (upd H a (.dK (e8 kvs k))) p->RelV q d->Q d p):X⁻¹ A (call (.builtin "dict.pop") (↑a::u::more)) Q E s:=by
 let⟨z,D,n,rel,m⟩:=sN I.aO e;let⟨d,v,g⟩:=eR.some_of (v:=q) (o:=valueAt n k) (by rw[<-l];rwa[rel.val k])
 let r:(keyPart u).isSome=true:=by
  cases k with
  |inl i=>let⟨t,b⟩:=(show ∃t,u=Value.int i t from f);subst b;rfl
  |inr x=>let⟨t,b⟩:=(show ∃t,u=Value.str x t from f);subst b;rfl
 let w:argsOk "dict.pop" ⟨↑a::u::more,[]⟩:=by
  rcases j with b|⟨x,b⟩
  ·subst b;rwa[PySem.F.args_dict_pop_2 _ _]
  ·subst b;rwa[PySem.F.args_dict_pop_3^_]
 refine ai3 ajh m.typeIs PySem.F.entry_dict_pop w (meets_dict_pop_there (bQ X.prog X.w) a (jL f) more j r)
  ⟨n,d,m,by rw[<-⇑rel];rwa[z],v,λF c B=>h d _ ?_ g⟩
 let y:∃b,F.get? a\b:=let ⟨b,_,_,C,_⟩:=c;⟨b,C⟩
 rwa[j7 I ([e]▸True.intro) B y (qY (agJ (JD kvs k) z) D (rel.drop k) c)]
theorem QF {r:Zt}(I:Inv X pins σ H s)(e:H a\.dK kvs)(b:RelV (kV k) u)(l:bz kvs k=none)(h:∀d,Inv X pins σ H d->Q r d):
 X⁻¹ A (call (.builtin "dict.pop") [↑a,u,r]) Q E s:=by
 let⟨z,g,c,rel,f⟩:=sN I.aO e;let m:valueAt c k=none:=eR.none_of (by rw[<-l];rwa[rel.val k])
 let j:(keyPart u).isSome=true:=by
  cases k with
  |inl i=>let⟨t,q⟩:=(show ∃t,u=Value.int i t from b);subst q;rfl
  |inr x=>let⟨t,q⟩:=(show ∃t,u=Value.str x t from b);subst q;rfl
 rwa[ai3 ajh f.typeIs PySem.F.entry_dict_pop (PySem.F.args_dict_pop_3^_) (meets_dict_pop_default (bQ X.prog X.w) a (jL b) g j r) ⟨c,f,m,h _ (I.tok _)⟩]
end
def QG (i:Expr):Prop:=∀b a,subscripted i false b a=operate [b,a] (getItem b a)
theorem NW {env:Env}{value slice:Expr}{T id:String}
 (k:typeLookup (.type T) "__getitem__"=pure (some (.builtin id))) (g:QG slice)
 (h:(P<|>w) A (eval value env) (λo d=>(P<|>w) A (eval slice env) (λi a=>a.TypeIs o T/\(P<|>w) A (getItem o i) Q E a) E d) E s):
 (P<|>w) A (eval (.Subscript value slice p) env) Q E s:=by
 rwa[Subscript_ (ahA h (λo d e=>ahA e (λi a b=>?_) λ_ _ x=>x) λ_ _ x=>x)];let⟨j,b⟩:=b;rwa[ags ?_];rwa[ags (wpAny_specialOf j k ?_)]
 let fin:(P<|>w) A (subscripted slice false o i) (λr c=>(P<|>w) A (letTemporaryGo value o r >>=λ_=>pure r) Q E c) E a:=by
  rw[g o i];rwa[wpAny_operating (ahA b (λr c f=>ags (wpAny_letTemporaryGo (agz f))) λ_ _ x=>x)]
 first
  |rwa[agz (ags fin)]
  |rwa[ags (agz (ags fin))]
  |rwa[ags fin]
def CP {c:Zc}(I:Inv X o D H s)(g:fY H a q c):s.TypeIs ↑a "dict":=by
 rcases g with ⟨d,k,e,_,_⟩|⟨d,k,b,e,_,_,_⟩
 ·let⟨_,_,h,_,f⟩:=pR I.aO e;rwa[f.typeIs]
 ·let⟨_,_,i,_,f⟩:=pS I.aO e;rwa[f.typeIs]
inductive QH (x y:V) (H:Hp) (Q:VK):Prop
 |mk (a:Zs) (v:V):x=↑a->fY H a y (some v)->Q v H->QH x y H Q
def U1 (td c:TE):TE:=λ a H Q=>td a H λx b=>c a b λy d=>QH x y d Q
def NX (e td:TE):TE:=λ b H Q=>e b H λy d=>td b d λx c=>∃a o,x=↑a/\fY c a y o/\Q (.bl (!o.isSome)) c
inductive QI (x y v:V) (H:Hp) (N:Hp->Prop):Prop
 |mk (a:Zs) (H4:Hp):x=↑a->qX H a y v H4->N H4->QI x y v H N
def U2 (td e c:TE):TS:=λD a H=>c a H λv d=>td a d λx f=>e a f λy b=>QI x y v b (D.nx a)
section
variable {X:Cx}{o i value:Expr}{pos pos':Pos}{td ty tv:TE}
def DL (t:X.A.units+ 1<cLine)(l:PE X o td)(k:PE X i ty)(q:QG i):PE X (.Subscript o i pos) (U1 td ty):=by
 intro b s d H Q I h;rwa[NW PySem.F.slot_dict_getitem.lookup q (aZ (l b s d H _ I h) λu w ζ=>?_)];let⟨x,A,r,m,z⟩:=ζ;rwa[aZ (k b w d A _ r z) λC E ζ=>?_];let⟨y,B,f,j,a,v,ex,g,n⟩:=ζ;subst ex;obtain rfl:u=Value.ref a:=m;rwa[CP f g,GY t f g j λD F p c=>⟨v,B,p,c,n⟩]
def G0 (q:X.A.units+ 1<cLine)(j:PE X i ty)(f:PE X o td):PC X .NotIn i o (NX ty td):=by
 intro b s c H Q I h;rwa[aZ (j b s c H _ I h) λA r ζ=>?_];let⟨y,w,p,d,t⟩:=ζ;rwa[aZ (f b r c w _ p t) λu B ζ=>?_];let⟨x,z,n,k,a,v,ex,g,l⟩:=ζ
 subst ex;obtain rfl:u=Value.ref a:=k;rwa[NV q n g d λC m=>⟨.bl (!v.isSome),z,m,2,l⟩]
theorem sO (B:X.A.units+ 1<cLine)(l:PE X o td)(k:PE X i ty)(G:PE X value tv)(w:swapsWith value (some (.Subscript o i pos')) pos.line X.env=pure false):
 PS X (.Assign [.Subscript o i pos'] value pos) (U2 td ty tv):=by
 intro b s c H D I h;rwa[wpAny_Assign_Subscript (aZ (G b s c H _ I h) λr C ζ=>?_) w];let⟨v,J,A,p,F⟩:=ζ;rwa[aZ (l b C c J _ A F) λu q ζ=>?_];let⟨x,L,z,m,n⟩:=ζ;rwa[aZ (k b q c L _ z n) λN O ζ=>?_];let⟨y,M,t,f,a,d,ex,g,E⟩:=ζ;subst ex;obtain rfl:u=Value.ref a:=m;rwa[GZ B t g f p λP j=>⟨c,d,j,E⟩]
end
def Am (h:Heap)(a:sysModules<h.objs.size):bV P w H (h.push ("dict">>>.dict #[])) h.objs.size (.dK []):=
 ⟨agW _,agS.mpr (ahQ (ag2 a)),[],.nil,Heap.DictOf.new h⟩
def JF (h:Heap)(a:sysModules<h.objs.size):bV P w H (h.push ("dict">>>.dict #[])) h.objs.size (.dT []):=
 ⟨agW _,agS.mpr (ahQ (ag2 a)),[],.nil,_,#[],(0),agK _ rfl,⟨222⟩,22,aij⟩
def QJ:TE:=λ_ H Q=>∀p,H p=none->Q ↑p (upd H p (.dK []))
def QK:TE:=λ_ H Q=>∀p,H p=none->Q ↑p (upd H p (.dT []))
section
variable {X:Cx}{pos:Pos}
def fJ:PE X (.Dict [] [] pos) QJ:=λb s d H Q I h=>
 wpAny_Dict_empty ⟨↑↥s,_,I.laid (a:=↥s) (o:=.dK []) (t':=s.toks) (λ_ _ q=>agt _ q) (agA _) (Am s.heap I.big),2,h _ (I.aO.fresh (agA _))⟩
def JG:PE X (.Dict [] [] pos) QK:=λb s d H Q I h=>
 wpAny_Dict_empty ⟨↑↥s,_,I.laid (a:=↥s) (o:=.dT []) (t':=s.toks) (λ_ _ q=>agt _ q) (agA _) (JF s.heap I.big),2,h _ (I.aO.fresh (agA _))⟩
end
def An:List (TE×TE)->St->Hp->(List (V×V)->Hp->Prop)->Prop
 |[],_,H,Q=>Q [] H
 |(b,e)::r,a,H,Q=>b a H λx f=>e a f λy g=>An r a g λd c=>Q ((x,y)::d) c
abbrev VV:List (V×V)->List (Zt×Zt)->Prop:=Paired λp q=>RelV p.1 q.1/\RelV p.2 q.2
def L5 (X:Cx)(d:Pos)(keys:List (Option Expr))(values:Zr)(b:List (TE×TE)):Prop:=
 ∀(a:List (Zs×Obj)) (s:Zu) (c:St) (H:Hp) (Q:List (V×V)->Hp->Prop),Inv X a c H s->An b c H Q->
  X⁻¹ X.A (evalPairs (pairTrees keys values X.env d)) (λg h=>∃f e,Inv X a c e h/\VV f g/\Q f e) X.xe s
def NZ:L5 X p [] [] []:=λa s b H Q I h=>pairTrees_nil_walk ⟨[],H,I,.nil,h⟩
theorem JH {k:Expr}{g:List (Option Expr)}{d f:TE}{b:List (TE×TE)}(q:PE X k d)(D:PE X e f)(o:L5 X p g C b):
 L5 X p (some k::g) (e::C) ((d,f)::b):=λa s c H Q I h=>
 pairTrees_cons_walk (aZ (q a s c H _ I h) λu z ⟨x,E,w,j,B⟩=>aZ (D a z c E _ w B) λL r ⟨y,F,v,i,m⟩=>
  aZ (o a r c F _ v m) λG J ζ=>by let⟨l,n,t,rel,A⟩:=ζ;rwa[⟨(x,y)::l,n,t,.cons ⟨j,i⟩ rel,A⟩])
def iU (a more:List (Key×V)):List (Key×V):=more.foldl (λacc b=>putK acc b.1 b.2) a
def KV.merge:∀{more:List (Key×V)} {rs:List (Key×Zt)} {a:List (Key×V)} {b:List (Key×Zt)},KV more rs->KV a b->KV (iU a more) (merged b rs):=by
 intro more rs a b r
 induction r generalizing a b with
 |nil=>intro q;rwa[q]
 | @cons p q f g h t c=>
   intro d
   let e:KV (putK a p.1 p.2) (stored b q.1 q.2):=by
    have:=d.put p.1 h.2;rw[<-h.1];rwa[this]
   rwa[c e]
theorem lj:∀(more a:List (Key×V)),⇑(iU a more)<=⇑a+ ⇑more
 |[],a=>by show ⇑a<=⇑a+ 0;ext
 |p::r,a=>by
  let b:=lj r (putK a p.1 p.2);let c:=gW a p.1 p.2;show ⇑(iU (putK a p.1 p.2) r)<=_;rw[agV];ext
theorem vA {P:Program}{w:World}:∀{d:List (Key×V)} {f:List (Zt×Zt)},VV (d.map λg=>(kV g.1,g.2)) f->∃e,Carries (bQ P w) f e/\KV d e
 |[],_,r=>by ext r;rwa[[],True.intro,.nil]
 |p::d,_,r=>by
  cases r with
  | @cons a b as bs h t=>
    let⟨e,c,q⟩:=vA (P:=P) (w:=w) t;let⟨j,i⟩:=b;rwa[(p.1,i)::e,⟨jL h.1,2,c⟩,.cons ⟨2,h.2⟩ q]
def U4 (b:List (TE×TE)):TE:=λ f H Q=>∀p,H p=none->An b f (upd H p (.dK [])) λe d=>d p\.dK []/\∃a:List (Key×V),e=a.map (λc=>(kV c.1,c.2))/\⇑a<=15/\Q ↑p (upd d p (.dK (iU [] a)))
theorem N0 {keys:List (Option Expr)}{values:Zr}{g:List (TE×TE)}(h:L5 X p keys values g)(i:keys.all (·.isSome)=true)(L:⇑keys=⇑values)(m:keys≠[])
 (j:⇑keys<=15):PE X (.Dict keys values p) (U4 g):=by
 intro f s v H Q I q;let G:=I.aO.fresh (agA ↥s);let C:=I.laid (a:=↥s) (o:=.dK []) (h':=s.heap.push ("dict">>>.dict #[])) (t':=s.toks) (λ_ _ q=>agt _ q) (agA _) (Am s.heap I.big);rwa[wpAny_Dict_walk (knd:=bQ X.prog X.w) i L m j (aZ (h f _ v _ _ C (q _ G)) λS R ζ=>?_)];let⟨N,T,k,rel,e,b,r,lk,n⟩:=ζ;subst r;let⟨x,c,rk⟩:=vA (P:=X.prog) (w:=X.w) rel;let⟨z,J,M,B,D⟩:=sN k.aO e;ext B;rwa[⟨x,c,D,λl d A=>⟨↑↥s,152,n⟩⟩]
 let E:⇑(iU [] b)<=sizeLine:=by
  let u:=lj b [];rw[ahZ]at u;rw[sizeLine_eq];ext
 let t:∃q,l.get? ↥s\q:=let ⟨q,_,_,F,_⟩:=d;⟨q,F⟩
 rwa[j7 k ([e]▸True.intro) A t (qY E J (rk.merge .nil) d)]
structure M1 (X:Cx) (o:Expr) (m:Str) (apos:Pos) (e:Expr) (cF:Pos):Prop where
 base:attributeBase o m X.env (eval o X.env)=eval o X.env
 few:((backTo cF (starEach [e] X.env)).all (λx=>!x.1) && (backToKw cF (keywordEach [] X.env)).all (λx=>x.1.isSome)
  && decide (⇑([e]:Zr)+ ⇑([]:List Keyword)+ (if ([]:List Keyword).isEmpty then 0 else 1)<30))=true
 line:(apos.endLine==cF.line)=true
 trees:backTo cF (starEach [e] X.env)=[(false,eval e X.env)]
structure M2 (X:Cx) (o:Expr) (m:Str) (apos:Pos) (e f:Expr) (cF:Pos):Prop where
 base:attributeBase o m X.env (eval o X.env)=eval o X.env
 few:((backTo cF (starEach [e,f] X.env)).all (λx=>!x.1) && (backToKw cF (keywordEach [] X.env)).all (λx=>x.1.isSome)
  && decide (⇑([e,f]:Zr)+ ⇑([]:List Keyword)+ (if ([]:List Keyword).isEmpty then 0 else 1)<30))=true
 line:(apos.endLine==cF.line)=true
 trees:backTo cF (starEach [e,f] X.env)=[(false,eval e X.env),(false,eval f X.env)]
def DM (H:Hp)(a:Zs):Prop:=(∃b,Rd H a (.dK b))\/∃b,Rd H a (.dT b)
theorem mB (I:Inv X o D H s)(d:DM H a):
 s.TypeIs ↑a "dict"/\(∀b,Value.ref a=↑b->∃c,s.heap.get? b\c/\c.dict=none)/\(a==sysModules)=false:=by
 rcases d with ⟨g,e⟩|⟨g,e⟩
 ·let⟨_,j,l,_,f⟩:=pR I.aO e;rwa[⟨f.typeIs,λb q=>?_,j⟩];ext q;let⟨c,_,_,i,h,_⟩:=f;rwa[c,i,h.2.1]
 ·let⟨_,j,k,_,f⟩:=pS I.aO e;rwa[⟨f.typeIs,λb q=>?_,j⟩];ext q;let⟨c,_,_,i,h,_⟩:=f;rwa[c,i,h.2.1]
section
variable {X:Cx}{pins:List (Zs×Obj)}{σ:St}{H:Hp}{s:Zu}{a:Zs}{y d:V}{u r:Zt}{o:Zc}{A:Around}{E:Zt->Zu->Prop}
theorem QL (q:A.units+ 1<cLine)(I:Inv X pins σ H s)(g:fY H a y o)(m:RelV y u)(h:∀n p,Inv X pins σ H p->RelV (o.getD .non) n->Q n p):
 X⁻¹ A (call (.builtin "dict.get") [↑a,u]) Q E s:=by
 rcases g with ⟨f,k,e,i,l⟩|⟨f,k,b,e,i,v,l⟩
 ·subst i;let⟨z,j,w,rel,c⟩:=pR I.aO e;rwa[ai3 ail c.typeIs aja (PySem.F.args_dict_get_2 _ _) (meets_dict_get (bQ X.prog X.w) a (jL m) j) ⟨_,c.mapOf,h _ _ (I.tok _) ?_⟩];rw[l];rwa[(rel.val k).getD rfl]
 ·subst i;cases (show u=Value.ref b from m);let⟨z,j,t,rel,c⟩:=pS I.aO e;rwa[ai3 ail c.typeIs aja (PySem.F.args_dict_get_2 _ _) (meetsH_dict_get (tupleKind (bQ X.prog X.w)) a b j) ⟨aiK q,k,t,mz I.aO v,c,h _ _ (I.tok _) ?_⟩];rw[l];rwa[(rel.val k).getD rfl]
theorem QM (q:A.units+ 1<cLine)(I:Inv X pins σ H s)(g:fY H a y o)(m:RelV y u)(rd:RelV d r)(h:∀n p,Inv X pins σ H p->RelV (o.getD d) n->Q n p):
 X⁻¹ A (call (.builtin "dict.get") [↑a,u,r]) Q E s:=by
 rcases g with ⟨f,k,e,i,l⟩|⟨f,k,b,e,i,v,l⟩
 ·subst i;let⟨z,j,w,rel,c⟩:=pR I.aO e;rwa[ai3 ail c.typeIs aja (PySem.F.args_dict_get_3^_) (meets_dict_get_default (bQ X.prog X.w) a (jL m) j r) ⟨_,c.mapOf,h _ _ (I.tok _) ?_⟩];rw[l];rwa[(rel.val k).getD rd]
 ·subst i;cases (show u=Value.ref b from m);let⟨z,j,t,rel,c⟩:=pS I.aO e;rwa[ai3 ail c.typeIs aja (PySem.F.args_dict_get_3^_) (meetsH_dict_get_default (tupleKind (bQ X.prog X.w)) a b j r) ⟨aiK q,k,t,mz I.aO v,c,h _ _ (I.tok _) ?_⟩];rw[l];rwa[(rel.val k).getD rd]
end
inductive DN (x:V) (H:Hp) (G:Zs->Prop):Prop
 |mk (a:Zs):x=↑a->DM H a->G a->DN x H G
def QN (td e:TE):TE:=λ c H Q=>td c H λx b=>DN x b λa=>e c b λy d=>∃o,fY d a y o/\Q (o.getD .non) d
inductive QO (ty tx:TE) (σ:St) (x:V) (H1:Hp) (Q:VK):Prop
 |mk (a:Zs):x=↑a->DM H1 a->(ty σ H1 λy H2=>tx σ H2 λz H3=>∃o,fY H3 a y o/\Q (o.getD z) H3)->QO ty tx σ x H1 Q
def QP (td c tx:TE):TE:=λ a H Q=>td a H λx b=>QO c tx a x b Q
inductive QQ (a:Zs) (y:V) (H:Hp) (Q:VK):Prop
 |mk (kvs:List (Key×V)) (k:Key) (v:V):H a\.dK kvs->y=kV k->bz kvs k\v->Q v (upd H a (.dK (e8 kvs k)))->QQ a y H Q
def QR (td d:TE):TE:=λ c H Q=>td c H λx b=>DN x b λa=>d c b λy e=>QQ a y e Q
inductive JK (a:Zs) (y z:V) (H:Hp) (Q:VK):Prop
 |mk (kvs:List (Key×V)) (k:Key):H a\.dK kvs->y=kV k->(∀v,bz kvs k\v->Q v (upd H a (.dK (e8 kvs k))))->(bz kvs k=none->Q z H)->JK a y z H Q
def QS (td e tx:TE):TE:=λ b H Q=>td b H λx c=>DN x c λa=>e b c λy f=>tx b f λz d=>JK a y z d Q
section
variable {X:Cx}{o e f:Expr}{apos cF:Pos}{td ty tx:TE}
def JL (w:X.A.units+ 1<cLine)(l:PE X o td)(r:PE X e ty)(m:M1 X o "get" apos e cF):PE X (.Call (.Attribute o "get" apos) [e] [] cF) (QN td ty):=by
 intro b s i H Q I h;rwa[aiV m.base m.few m.line ahU ail PySem.F.type_dict_get (aZ (l b s i H _ I h) λu z ζ=>?_)];let⟨x,C,j,n,a,ex,d,A⟩:=ζ;subst ex;obtain rfl:u=Value.ref a:=n;let⟨B,q,_⟩:=mB j d;erw[B,q];rw[m.trees];rwa[ahE rfl (aia (ahy (aZ (r b z i C _ j A) λE G ζ=>?_)))];let⟨y,D,v,k,L,g,p⟩:=ζ;rwa[ah4 ?_];rwa[QL w v g k λF J t c=>⟨_,D,t,c,p⟩]
def mC (E:X.A.units+ 1<cLine)(p:PE X o td)(w:PE X e ty)(A:PE X f tx)(m:M2 X o "get" apos e f cF):PE X (.Call (.Attribute o "get" apos) [e,f] [] cF) (QP td ty tx):=by
 intro b s c H Q I h;rwa[aiV m.base m.few m.line ahU ail PySem.F.type_dict_get (aZ (p b s c H _ I h) λu F ζ=>?_)];let⟨x,M,j,q,a,ex,d,J⟩:=ζ;subst ex;obtain rfl:u=Value.ref a:=q;let⟨L,t,_⟩:=mB j d;erw[L,t];rw[m.trees]
 rwa[ahE rfl (aia (ahy (aZ (w b F c M _ j J) λO B ζ=>?_)))];let⟨y,N,D,k,r⟩:=ζ;rwa[ ahy (aZ (A b B c N _ D r) λR S ζ=>?_)];let⟨z,v,C,l,U,g,G⟩:=ζ;rwa[ah4 ?_]
 rwa[QM E C g k l λP T n i=>⟨_,v,n,i,G⟩]
def JM (n:PE X o td)(w:PE X e ty)(m:M1 X o "pop" apos e cF):PE X (.Call (.Attribute o "pop" apos) [e] [] cF) (QR td ty):=by
 intro b s g H Q I h;rwa[aiV m.base m.few m.line ahU ajh PySem.F.type_dict_pop (aZ (n b s g H _ I h) λu C ζ=>?_)];let⟨x,G,i,p,a,ex,d,E⟩:=ζ;subst ex;obtain rfl:u=Value.ref a:=p;let⟨F,t,_⟩:=mB i d;erw[F,t];rw[m.trees];rwa[ahE rfl (aia (ahy (aZ (w b C g G _ i E) λJ M ζ=>?_)))];let⟨y,O,B,j,q,k,v,D,z,l,r⟩:=ζ;rwa[ah4 ?_];subst z;rwa[L4 B D j l (.inl rfl) λL N A c=>⟨v,_,A,c,r⟩]
def uD (w:PE X o td)(E:PE X e ty)(G:PE X f tx)(m:M2 X o "pop" apos e f cF):PE X (.Call (.Attribute o "pop" apos) [e,f] [] cF) (QS td ty tx):=by
 intro b s i H Q I h;rwa[aiV m.base m.few m.line ahU ajh PySem.F.type_dict_pop (aZ (w b s i H _ I h) λu N ζ=>?_)];let⟨x,U,q,A,a,ex,d,P⟩:=ζ;subst ex;obtain rfl:u=Value.ref a:=A;let⟨R,C,_⟩:=mB q d;erw[R,C];rw[m.trees]
 rwa[ahE rfl (aia (ahy (aZ (E b N i U _ q P) λW L ζ=>?_)))];let⟨y,V,M,n,B⟩:=ζ;rwa[ ahy (aZ (G b L i V _ M B) λJ Z ζ=>?_)];let⟨z,D,p,t,g,k,r,F,O,S⟩:=ζ;rwa[ah4 ?_]
 subst F
 cases l:bz g k with
 |some v=>exact L4 p r n l (.inr ⟨J,2⟩) λY T c j=>⟨v,_,c,j,O v l⟩
 |none=>exact QF p r n l λT c=>⟨z,D,c,t,S l⟩
end
section
variable {X:Cx}{pins:List (Zs×Obj)}{σ:St}{H:Hp}{s:Zu}{h':Heap}
theorem Inv.uE {fp:Zn}{o:HO}{t':Nat}(I:Inv X pins σ H s)(k:∀b u,b∉fp->s.heap.get? b\u->h'.get? b\u)(f:∀b∈fp,pH X pins H b)
 (h:↥s<=a) (new:bV X.prog X.w (upd H a o) h' a o):Inv X pins σ (upd H a o) { s with heap:=h',toks:=t' }:=by
 let g:=I.aO.fresh h;let i:∀b u,H b\u->b∉fp:=λb u e z=>by rw[(f b z).1]at e;ext e
 refine I.step (g':=s.gens) (d':=s.drawn) (ch:=fp) (λb d=>⟨(f b d).2.2.2.1,(f b d).2.1,(f b d).2.2.2.2.1,(f b d).2.2.2.2.2⟩) (λb o _ _ hc e _=>k b o hc e) (λb o _ _ hc e _=>⟨o.slots,k b o hc e⟩)
  (λb o _ e n=>[ak (ag2 (agY (agQ e) h))]▸n) (λb o hc e=>⟨o,k b o hc e⟩) (λb t e=>[ak (ax e g)]▸e)
  (λb o u e=>[ak (ax e g)]▸e) (λb x e=>⟨#[],by rw[ak (ax e g),e];simp⟩) (λm j=>?_) (λb u e=>?_) I.bare
 ·let⟨o,w,p,l,r⟩:=j;rwa[o,w,p,k _ o (λz=>(f _ z).2.1 rfl) l,r]
 ·by_cases d:b=a
  ·subst d;rw[ah]at e;ext e;rwa[new]
  ·rw[ak d]at e;refine(I.aO b u e).fk (λc v hc q=>k c v ?_ q) (λc q=>[ak (ax q g)]▸q) λc t q=>by rw[ak (ax q g)];rwa[q]
   rcases hc with z|z
   ·rw[z];rwa[i b u e]
   ·rwa[i c _ z]
def Inv.xI {fp:Zn}{t':Nat}(I:Inv X pins σ H s)(k:∀b u,b∉fp->s.heap.get? b\u->h'.get? b\u)(a:∀b∈fp,pH X pins H b):Inv X pins σ H { s with heap:=h',toks:=t' }:=by
 let f:∀b u,H b\u->b∉fp:=λb u e z=>by rw[(a b z).1]at e;ext e
 refine I.step (g':=s.gens) (d':=s.drawn) (ch:=fp) (λb d=>⟨(a b d).2.2.2.1,(a b d).2.1,(a b d).2.2.2.2.1,(a b d).2.2.2.2.2⟩) (λb o _ _ hc e _=>k b o hc e) (λb o _ _ hc e _=>⟨o.slots,k b o hc e⟩)
  (λb o _ e n=>n) (λb o hc e=>⟨o,k b o hc e⟩) (λb j e=>e) (λb o u e=>e) (λb p e=>⟨#[],by rw[e];simp⟩) (λm g=>?_) (λb u e=>?_) I.bare
 ·let⟨o,l,i,h,r⟩:=g;rwa[o,l,i,k _ o (λz=>(a _ z).2.1 rfl) h,r]
 ·rwa[(I.aO b u e).fk (λc v hc q=>k c v ?_ q) (λc q=>q) λc j q=>q]
  rcases hc with z|z
  ·rw[z];rwa[f b u e]
  ·rwa[f c _ z]
end
namespace En
section
variable {prog:Program}{w:World}{A:Around}{E:Zt->Zu->Prop}{s:Zu}
theorem yD {it:Zs}{fp:Zn}{P:Nat->Zt->Prop}{St:Nat->Heap->Prop}{Q:Zl->Zu->Prop}(D:Draws prog w A.in1 it fp n P St)
 (he:IsEnum s.heap a it z v) (hst:St i s.heap) (iV:i<n) (oF:a≠it) (V3:a∉fp)
 (hQ:∀x h' I,P i x->IsEnumOut h' a it (z+ 1) x ↥s->St (i+ 1) h'->h'.get? ↥s\("tuple">>>.seq #[.int z I,x])->
  (∀b o,b≠a->b≠it->s.heap.get? b\o->h'.get? b\o)->Q (some ↑↥s) { s with heap:=h',toks:=I+ 1 }):
 (prog<|>w) A (pyNext ↑a) Q E s:=by
 let hT:s.TypeIs ↑a "enumerate":=⟨_,he,2⟩;unfold pyNext;rwa[ags (wpAny_attempt (ahw (name:=Str.ofString "__next__") hT aji (ahB aji hT F.entry_enumerate_next ?_ (F.args_enumerate_next_1 _))))];let⟨U,g,d,ae1,os⟩:=s;show wpAny _ _ (field ↑a 2 >>=_) _ _ _;rwa[ags (ahv he rfl (x:=↑it) rfl (ags (D.item i _ _ _ iV hst λx j I hPx O h=>?_)))];replace h:Heap.SameBut it U j:=h;let C:IsEnum j a it z v:=(h.2 a oF).trans he;show wpAny _ _ (field ↑a 3 >>=_) _ _ ⟨j,g,d,I,os⟩;rwa[ags (ahv C rfl (x:=rawInt z) rfl ?_)];show wpAny _ _ (field ↑a 4 >>=_) _ _ ⟨j,g,d,I,os⟩;rwa[ags (ahv C rfl (x:=.none) rfl ?_)];show wpAny _ _ (mkInt z >>=_) _ _ ⟨j,g,d,I,os⟩;rwa[ags (wpAny_mkInt ?_)];show wpAny _ _ (setField ↑a 3 (rawInt (z+ 1)) >>=_) _ _ ⟨j,g,d,I+ 1,os⟩;rwa[ags (ahO C (by simp) λG t f=>?_)];replace f:Heap.SameBut a j G:=f;replace t:IsEnum G a it (z+ 1) v:=t;show wpAny _ _ (setField ↑a 4 .none >>=_) _ _ ⟨G,g,d,I+ 1,os⟩;rwa[ags (ahO t (by simp) λp r e=>?_)];replace e:Heap.SameBut a G p:=e;replace r:IsEnum p a it (z+ 1) v:=r;show wpAny _ _ (newTuple [.int z I,x] >>=_) _ _ ⟨p,g,d,I+ 1,os⟩;rwa[ags (wpAny_newTuple ?_)];let B:IsEnum (p.push ("tuple">>>.seq #[.int z I,x])) a it (z+ 1) v:=agt _ r;generalize u:p.push ("tuple">>>.seq #[.int z I,x])=H at B;let V:p.objs.size=U.objs.size:=by rw[e.1,f.1,h.1]
 let tW:a<U.objs.size:=agQ he;let W:H.get? U.objs.size\("tuple">>>.seq #[.int z I,x]):=by rw[<-u,<-V];rwa[agK _ rfl]
 let X:∀b o,b≠a->b≠it->U.get? b\o->H.get? b\o:=λb o c Y Z=>by
  rw[<-u];rwa[agt _ (e.extBut b o c (f.extBut b o c (h.extBut b o Y Z)))]
 let T:St (i+ 1) H:=D.frame _ _ _ O λb Z o y=>by
  let c:b≠a:=λq=>V3 (q ▸ Z)
  rw[<-u];rwa[agt _ (e.extBut b o c (f.extBut b o c y))]
 show wpAny _ _ (Builtin.SmallTypes.ownedTupleIsFree ↑a >>=_) _ _ ⟨H,g,d,I+ 1,os⟩;rw[V];clear u r e t f C h O V p G j;rwa[ags ?_];unfold Builtin.SmallTypes.ownedTupleIsFree;rwa[ags (ahv B rfl (x:=.none) rfl (agz ?_))];simp only[aj0];rwa[ags (aj2 (ags (ahv B rfl (x:=v) rfl (ags (ahO B (by simp) λN M l=>?_)))))];replace l:Heap.SameBut a H N:=l;replace M:IsEnum N a it (z+ 1) x:=M;show wpAny _ _ (Builtin.SmallTypes.ownedTupleHandOut ↑a ↑U.objs.size >>=_) _ _ ⟨N,g,d,I+ 1,os⟩;rwa[ags ?_];unfold Builtin.SmallTypes.ownedTupleHandOut;rwa[ags (ahO M (by simp) λS L k=>?_)];replace k:Heap.SameBut a N S:=k;replace L:IsEnumOut S a it (z+ 1) x U.objs.size:=L;rwa[ahO L (by simp) λR J m=>?_]
 replace m:Heap.SameBut a S R:=m;replace J:IsEnumOut R a it (z+ 1) x U.objs.size:=J;rwa[ags (aj3 (agz ⟨12,agz (hQ x R I hPx J ?_ ?_ ?_)⟩))]
 ·exact D.frame _ _ _ T λb Z o y=>by
   let c:b≠a:=λq=>V3 (q ▸ Z)
   rwa[m.extBut b o c (k.extBut b o c (l.extBut b o c y))]
 ·rwa[m.extBut _ _ (ahL tW) (k.extBut _ _ (ahL tW) (l.extBut _ _ (ahL tW) W))]
 ·rwa[λb o c Y Z=>m.extBut b o c (k.extBut b o c (l.extBut b o c (X b o c Y Z)))]
theorem N2 {T newId:String}{self a:Zt}{kw:List (Str×Zt)}(f:typeLookup (.type T) "__init__"=pure (some (.builtin "object.__init__")))(e:Bind.madeBy (.type T)=pure (some newId))(b:(some newId !=some "object.__new__")=true):
 Meets (Builtin.«object.__init__» ⟨[self,a],kw⟩) (λ_ R s=>s.TypeIs self T/\R (.ok (.ret .none)) s):=by
 rwa[Meets.of_wp λprog w A R s c=>?_]
 let⟨g,d⟩:=c
 repeat (any_goals (first|assumption|wp_step))
 rwa[12,d]
def U6 (a b:Zt):checkTypeCall "enumerate" ⟨[a],[("start",b)]⟩=pure ():=by kernel_rfl
def U9 (a b:Zt):checkBuiltinCall "enumerate.__new__" ⟨[.type "enumerate",a],[("start",b)]⟩=pure ():=by kernel_rfl
theorem Va (a b c:Zt):argsOk "object.__init__" ⟨[a,b],[("start",c)]⟩:=by
 unfold argsOk;rw[signature?_of (id:="object.__init__") (n:=['_','_','t','i','n','i','_','_']) (o:=['t','c','e','j','b','o']) (by kernel_rfl) F.owner_object]
 kernel_rfl
end
end En
inductive Vb (t:TT) (σ:St) (H:Hp) (Q:(Bool->Hp->Prop)):Prop
 |mk (G:Bool->Hp->Prop):t σ H G->(∀c H',G c H'->Q c H')->Vb t σ H Q
def CXw (P:Program)(w:World):lF:=λa H s E e c=>∃(x C:Zs) (B:Heap) (d:Hp) (g:Zt),e=↑x/\c.os=s.os/\AllBare c.gens/\Heap.FlyingW B a x ↑C g c.heap/\
 Un (cH a) [] H d s.heap c.heap/\dH P w d B/\(∀b o,s.heap.get? b\o->H b=none->b∉cH a->B.get? b\o)/\(∀b o,s.heap.get? b\o->b∉cH a->∃f,B.get? b\f)/\E ↑C none d
section
variable {X:Cx}{pos:Pos}
abbrev TJ:=St->Hp->Zh->VK->Prop
def PJ (X:Cx)(c:Zr)(t:TJ):Prop:=
 ∀(a:List (Zs×Obj)) (s:Zu) (b:St) (H:Hp) (acc:Zh) (Q:VK),Inv X a b H s->t b H acc Q->X⁻¹ X.A (joinParts (tx acc) (evalEach c X.env)) (EP X a b Q) X.xe s
def QT:PJ X [] (λ b H acc Q=>⇑acc<=1000000/\Q (.str (tx acc)) H):=λa s b H acc Q I h=>
 joinParts_nil ⟨.str (tx acc),H,I.tok _,⟨12⟩,h.2⟩ ([GV]▸agJ h.1 ⋯)
def DP {d:TE}{t:TJ}(g:PE X e d)(f:PJ X C t)(i:evalEach (e::C) X.env=eval e X.env::evalEach C X.env:=by rfl):
 PJ X (e::C) (λ b H acc Q=>d b H λv c=>∃l,v=.str (tx l)/\⇑acc+ ⇑l<=1000000/\t b c (acc++l) Q):=by
 intro a s b H acc Q I h;rw[i];rwa[joinParts_cons (aZ (g a s b H _ I h) λv k ζ=>?_)];let⟨x,c,j,r,l,m,n,q⟩:=ζ;subst m;let⟨o,rfl⟩:=r;erw[5]
 ·rw[GW,GV,agw];rwa[agJ n ⋯]
 ·rw[GW];rwa[f a k b c (acc++l) Q j q]
def G3 {b:Expr}{t:TJ}(h:PJ X (e::b::C) t)(d:evalEach (e::b::C) X.env=eval e X.env::eval b X.env::evalEach C X.env:=by rfl):PE X (.JoinedStr (e::b::C) pos) (λ c H Q=>t c H [] Q):=by
 intro a s c H Q I q;rwa[JoinedStr_many ?_];have:=h a s c H [] Q I q;rw[d]at this;rwa[this]
def N3 {d:TE}(f:PE X e d):PE X (.FormattedValue e (-1) none pos) (λ b H Q=>d b H λv c=>∃n:Int,v=.int n/\n.natAbs<10000000000/\Q (.str (tx (Ai n))) c):=by
 intro a s b H Q I h;rwa[FormattedValue_plain (aZ (f a s b H _ I h) λv l ζ=>?_)];let⟨x,c,g,r,n,i,j,q⟩:=ζ;subst i;let⟨k,rfl⟩:=r;rwa[formatField_int_small (GX j) ?_];rwa[.str (tx (Ai n)),c,g.tok _,⟨_,by rw[UZ (toString n:Str)];rfl⟩,q]
abbrev Ao:Zk:=[.type "ValueError",.type "Exception",.type "BaseException",.type "object"]
end
def bV.get {o:HO}(x:bV P w H h a o):∃u,h.get? a\u:=by
 cases o with
 |lst d=>let⟨_,_,_,_,e⟩:=x;rwa[_,e]
 |tup d=>let⟨_,_,_,c,e,_⟩:=x;rwa[_,e]
 |dK b=>let⟨_,_,_,_,o,_,_,e,_⟩:=x;rwa[_,e]
 |dT b=>let⟨_,_,_,_,o,_,_,e,_⟩:=x;rwa[_,e]
 |set S n=>let⟨o,_,_,_,e,_⟩:=x;rwa[_,e]
 |ins C dx fs=>let⟨_,_,_,e,_⟩:=x;rwa[_,e]
 |own y=>exact x
 |xd fs=>let⟨_,⟨_,_,_,e,_⟩,_⟩:=x;rwa[_,e]
 |eS lo g=>let⟨_,_,_,e⟩:=x;rwa[_,e]
 |cW c u=>let⟨e,_⟩:=x;rwa[_,e]
 |fw i=>rwa[_,show h.get? a=some _ from x]
 |met f y=>rwa[_,show h.get? a=some _ from x]
 |ext j=>let⟨_,e,_⟩:=x;rwa[e]
def Fh (x C:Zs)(h:Heap):Prop:=∃a b,h.get? x\a/\a.cls=↑C/\a.data=.fields b
def ExO (x C:Zs):HO:=.ext (Fh x C)
def Thr (X:Cx)(a:List (Zs×Obj))(e:St)(d:Hp)(x C:Zs)(s:Zu):Prop:=
 ∃(B:Heap) (c:Hp) (s1:Zu) (g:Zt),Inv X a e c s1/\s.os=s1.os/\AllBare s.gens/\Heap.FlyingW B X.stack x ↑C g s.heap/\Un (cH X.stack) [] c d s1.heap s.heap/\dH X.prog X.w d B/\
  (∀b o,s1.heap.get? b\o->c b=none->b∉cH X.stack->B.get? b\o)/\(∀b o,s1.heap.get? b\o->b∉cH X.stack->∃f,B.get? b\f)
section
variable {X:Cx}{pins:List (Zs×Obj)}{σ:St}{x:Zs}{s:Zu}
def Inv.L6 {s1:Zu}(I:Inv X pins σ H s1){b:Zs}(c:b∈cH X.stack):∃o,s1.heap.get? b\o/\∀a,o.data≠.fields a:=by
 let⟨_,o,e,n⟩:=I.stack.mem c;rwa[o,e,n]
abbrev Cx.yE (X:Cx) (x:Zs):Cx:={ X with A:=X.A.mark (some ↑x),calm:=false,xe:=λ_ _=>False }
def Inv.yE (I:Inv X pins σ H s)(x:Zs):Inv (X.yE x) pins σ H s:=
 ⟨⟨I.ok.mod,I.ok.kind,I.ok.glob,I.ok.blt,I.ok.above,I.ok.inj,I.ok.has,I.ok.zS,(λz=>by ext z),I.ok.frames,I.ok.Dr,I.ok.Lx,I.ok.bs,I.ok.qS,I.ok.ur,I.ok.xq,I.ok.jc,I.ok.tN⟩,I.os,I.bare,I.base,I.loc,I.cell,I.free,I.gH,I.pin,I.aO,I.len⟩
def Inv.zM (ok:X.Ok)(I:Inv (X.yE x) pins σ H s):Inv X pins σ H s:=⟨ok,I.os,I.bare,I.base,I.loc,I.cell,I.free,I.gH,I.pin,I.aO,I.len⟩
theorem sP {M:Model}(I:Inv X pins σ H s)(hN:X.N.Nodup)(G:X.N[i]?\f)(g:X.env.scope.names.lookup f=some .local)
 (h:∀L,Inv X pins (σ.set i none) H L->U () L):wpAny M A (do bindName X.env f .none;unbindBehindTheSuite X.env f p) U E s:=by
 let⟨m,V,Y⟩:=id I.loc;let t:(X.env.scope.kind==.class || (X.env.scope.kind==.module && X.env.locals !=X.env.globals))=false:=by rw[I.ok.kind];rfl
 let u:i < ⇑σ:=by rw[I.len];rwa[(agx.mp G).1]
 rwa[wpAny_nameGoes_keeps g V t λh' v D n=>?_]
 let l:∀b o,X.eA.heap.get? b\o->b≠X.env.locals:=λb o e=>ag2 (agY (agQ e) I.ok.above)
 rwa[h _ ⟨I.ok,I.os,I.bare,⟨λb o e k F g=>(n.2 b (l b o e)).trans (I.base.keep b o e k F g),λb o e k F g=>?_,I.base.free,λb o e g=>?_,I.base.hU,I.base.gG,I.base.hV⟩,⟨_,D,λj y Q r w P=>?_⟩,λy c e=>?_,I.free,I.gH,λa O=>?_,λb R e=>?_,by simpa using I.len⟩]
 ·let⟨W,r⟩:=I.base.slot b o e k F g;rwa[W,(n.2 b (l b o e)).trans r]
 ·let⟨Z,r⟩:=I.base.there b o e g;rwa[Z,(n.2 b (l b o e)).trans r]
 ·by_cases B:j=i
  ·subst B;rw[ahs u]at w;ext w
  ·rw[ahV (ahQ B)]at w;let⟨T,N,q⟩:=Y j y Q r w P;erw[T,N];rcases q with ⟨k,e⟩|⟨k,c,e,z⟩
   ·rwa[.inl ⟨k,?_⟩];have:y≠f:=λe=>B (uv hN r (e ▸ G))
    simp[this,e]
   ·rwa[.inr ⟨k,c,e,z.sameBut n (I.lE y c e)⟩]
 ·let⟨J,z⟩:=I.cell y c e;rwa[J,z.sameBut n (I.lE y c e)]
 ·let⟨e,k,ne,S,d⟩:=I.pin a O;rwa[(n.2 a.1 ne).trans e,k,ne,S,d]
 ·rwa[(I.aO b R e).fk (λc J hc q=>(n.2 c ?_).trans q) (λ_ q=>q) λ_ _ q=>q]
  rintro rfl;rcases hc with rfl|hc
  ·rw[I.free]at e;ext e
  ·rw[I.free]at hc;ext hc
end
abbrev XR:=Zs->St->Hp->Prop
def XP (X:Cx)(a:List (Zs×Obj))(R:XR)(e:Zt)(s:Zu):Prop:=∃x C b H,e=↑x/\Thr X a b H x C s/\R C b H
abbrev TH:=Ends->Zs->St->Hp->Prop
def Fh.Vc {M:Model}{x:Zs}(p:Fh x a h):PySem.W.Looks M h (typeOf ↑x) ↑a:=by
 let⟨o,_,c,b,_⟩:=p;rwa[b ▸ (PySem.W.Looks.ld c).andThen .now]
end L2
namespace L2
open PySem PySem.Spec PyProof.Rows PySem.Calls PySem.W Builtin Builtin.ObjectAttr Builtin.Getset_descriptor
structure afd (K:Za1) (C:Zs):Prop where
 ga:findIn K ↑C "__getattribute__"=some (some (.builtin "BaseException.__getattribute__"))
 gt:findIn K ↑C "__getattr__"=some none
 cl:isClsIn K C=true
 at_:findIn K ↑C "__class__"=some (some (.builtin "object.__class__"))
 gs:specialIn K (.builtin "object.__class__") "__get__"=some (some (.builtin "getset_descriptor.__get__"))
 tk:takesIn K (.builtin "object.__class__")\true
 mo:mroIn K C (.type "object")\true
 be:subIn K ↑C (.type "BaseException")\true
end L2
namespace L2
open PySem PySem.Spec PyProof.Rows
section
variable {P:Program}{w:World}{K:Za1}{mg:Str->Zl}{base:Heap}
theorem qU.okN {h:lF}{qual:Str}{st:Stmt}{fd:FuncData}{e:Zp}{k:Nat}{sp:Sp}(F:qU K x qual st a fd)(S:aS Z e (aB st))(len:∀d H Q E,sp d H Q E->⇑d=⇑e)
 (c:∀(b:Zt) (A:Around) (outer:Zq) (s:Zu) (H:Hp) (d:Zb) (Q:VK) (E:XK),cx k (A.deeper (envOfC qual (aB st) ↥s a b))->sp d H Q E->
  ∃t,iL (cy h P w K mg base Z qual (aB st) a b A outer s H E).tO (cD st) t/\t { nx:=λ_ n=>Q .non n,rt:=Q } (start Z d) H):dq P w K mg base h (k+ 1) a fd e sp:=by
 let⟨o,q,kV,doc,pm,p,b,ct,j,rfl,lk,f⟩:=F.ex;rwa[zL lk f S len λA outer s H d Q E l g=>?_]
 let⟨t,m,i⟩:=c b A outer s H d Q E l g;rwa[t,m.tO,i]
end
section
variable {prog:Program}{w:World}{A:Around}{R:Result->Zu->Prop}{s:Zu}
theorem zi {elt target iter:Expr}{scope:Scope}{it acc:Zt}{env:Env}(I:Nat->Zu->Prop)
 (turn:∀n s,I n s->(prog<|>w) A (pyNext it) (λr c=>match r with
  |none=>R (.ok .next) c
  |some v=>(prog<|>w) A (letOwnedTupleGo target it v) (λ_ l=>(prog<|>w) A (assign target env v) (λ_ i=>(prog<|>w) A (isTrue e env (eval e env)) (λb a=>
   match b with
   |true=>(prog<|>w) A (eval elt env) (λx f=>(prog<|>w) A (call (.builtin "list.append") [acc,x]) (λ_ k=>∃m,m<n/\I m k) (λ_ _=>False) f) (λ_ _=>False) a
   |false=>∃m,m<n/\I m a) (λ_ _=>False) i) (λ_ _=>False) l) (λ_ _=>False) c) (λ_ _=>False) s)
 (n:Nat) (h:I n s):codeAny (model prog w) A (.compLoop (.ListComp elt [⟨target,iter,[e],(0)⟩] scope p) 0 it acc env) R s:=by
 rwa[codeAny_loop rfl I (λn s y=>?_) n h];rwa[wpAny_noted ?_];rwa[ags (ajm (ags (ahA (turn n s y) (λr c g=>?_) λ_ _ d=>d.elim)))]
 cases r with
 |none=>exact agz g
 |some v=>
  rwa[ags (ahA g (λ_ l q=>?_) λ_ _ d=>d.elim)];rwa[ags (ahA q (λ_ i t=>ags (wpAny_tests_one (ahA t (λok f j=>?_) λ_ _ d=>d.elim))) λ_ _ d=>d.elim)]
  cases ok with
  |false=>exact agz ⟨2,j⟩
  |true=>
   rwa[ags (ags (ahA j (λx k u=>ags (ahA u (λ_ a o=>agz (agz ⟨2,o⟩)) λ_ _ d=>d.elim)) λ_ _ d=>d.elim))]
end
def JN (g:TT)(j:TE)(f:St)(Q:VK)(J:It)(k:Hp):Prop:=∃W:Nat->Nat->Zb->Hp->Prop,(∃m,W 0 m [] k)/\∀i m ys a,W i m ys a->
 (J.stop i a/\⇑ys<=sizeLine/\∀D,a D=none->Q ↑D (upd a D (.lst ys)))\/
 (J.go i a/\⇑ys<sizeLine/\∀x e,J.ml i a x e->g (some x::f) e λb d=>match b with
  |true=>j (some x::f) d λy h=>∃c,c<m/\W (i+ 1) c (ys++[y]) h
  |false=>∃c,c<m/\W (i+ 1) c ys d)
def oH (c:TI)(e:St->St)(b:TT)(d:TE):TE:=λ a H Q=>c a H (JN b d (e a) Q)
end L2
namespace L2
open PySem PySem.Spec PyProof.Rows
def JP {x:Int}(b:0<=x)(a:x<=100000):¬(!Builtin.List.listFitsIndex x)=true:=by
 have:Builtin.List.listFitsIndex x=true:=by
  unfold Builtin.List.listFitsIndex;simp;ext
 cbv
def QV (x:Int)(a:Zt):Zm->Zm:=λxs=>have k:=if x<0 then (x+ ((xs.size:Nat):Int)).toNat else min x.toNat xs.size;(xs.extract 0 k).push a++xs.extract k
theorem G4 (l:Zs)(a:Zk)(n:Nat)(x:Int)(t:Tok)(c:Zt)(d:0<=x)(e:x<=100000)(b:a.toArray.size<=sizeLine):
 Meets (Builtin.«list.insert» ⟨[↑l,.int x t,c],[]⟩) (λ_ R s=>s.heap.get? l\{ cls:=.type "list",dict:=none,data:=.seq a.toArray n,slots:=#[] }/\R (.ok (.ret Value.none)) { s with heap:=s.heap.update l (Obj.mapSeq (QV x c)),toks:=s.toks }):=
 PySem.AutoListH.list_insert_list_int_val_1 l a.toArray n x t c (JP d e) b
def N4 {w':Zt}(a:i<=⇑N):QV (i:Int) w' N.toArray=(N.take i++[w']++N.drop i).toArray:=by
 let b:(if (i:Int)<0 then ((i:Int)+ ((N.toArray.size:Nat):Int)).toNat else min (i:Int).toNat N.toArray.size)=i:=by
  rw[agT ∅,agL,ag4];ext
 show (N.toArray.extract 0 (if (i:Int)<0 then ((i:Int)+ ((N.toArray.size:Nat):Int)).toNat else min (i:Int).toNat N.toArray.size)).push w'++N.toArray.extract (if (i:Int)<0 then ((i:Int)+ ((N.toArray.size:Nat):Int)).toNat else min (i:Int).toNat N.toArray.size)=_
 cbv
section
variable {X:Cx}
inductive DQ (x:V) (vs:Zb) (H:Hp) (Q:VK):Prop
 |mk (l:Zs) (xs:Zb) (i:Nat) (y:V):x=↑l->vs=[.int i,y]->H l\.lst xs->⇑xs<sizeLine->i<=⇑xs->i<=100000->Q .non (upd H l (.lst (xs.take i++[y]++xs.drop i)))->DQ x vs H Q
theorem xJ:DF X "list.insert" DQ:=by
 intro d s G H x L v D Q I m p h;let⟨l,xs,i,y,rfl,rfl,j,A,C,o,q⟩:=h;ext m;let⟨u,b,rfl,⟨t,rfl⟩,k⟩:=vals2 p;let⟨z,a,n,r,N,e⟩:=I.pK j;let rl:=⇑r
 let c:a.toArray.size<=sizeLine:=by
  rw[agL,<-rl];rwa[ajB A]
 let B:Vals (xs.take i++[y]++xs.drop i) (a.take i++[b]++a.drop i):=((r.take i).append (.cons k .nil)).append (r.drop i)
 let hlen:⇑(xs.take i++[y]++xs.drop i)<=sizeLine:=by
  simp only[agw,ag8,aho,agV,ahZ];ext
 let J:=I.Ac (t':=s.toks) j e (N4 (w':=b) (show i<=⇑a by omega)) B hlen;let f:(0:Int)<=(i:Int):=Int.natCast_nonneg i;let g:(i:Int)<=100000:=∅
 generalize (i:Int)=w at f g J ⊢;let M:=G4 l a n w t b f g c;rwa[ajH F.slot_list_insert ⟨_,e,2⟩ F.entry_list_insert (F.args_list_insert_3^_) M ⟨e,5⟩];rwa[.non,_,J,2,q]
end
end L2
namespace L2
open PySem PySem.Spec PyProof.Rows
def mD (h:n∈B):∃i:Nat,B[i]?\n/\∀j,j<i->B[j]?≠some n:=by
 induction B with
 |nil=>ext h
 |cons a B b=>
  by_cases e:a=n
  ·rwa[(0),by rw[e];rfl,λj c=>∅]
  ·let⟨i,f,d⟩:=b ((agN.mp h).resolve_left (ahQ e));rwa[⟨i+ 1,f,λj c=>?_⟩]
   cases j with
   |zero=>exact λz=>e (Za0 z)
   |succ j=>exact d j ∅
inductive Vd (x:V) (y:V) (H:Hp) (Q:VK):Prop
 |mk (a b:Zs) (ns ms:Zg):x=↑a->y=↑b->H a\.lst (ao ns)->H b\.lst (ao ms)->Q (.bl (decide (ns=ms))) H->Vd x y H Q
def eS (lo:Int)(n:Nat):Zg:=(List.range n).map λi:Nat=>lo+ (i:Int)
def oJ (lo:Int)(n:Nat):⇑(eS lo n)=n:=by unfold eS;cbv
noncomputable def QW {lo:Int}(h:i<n):(eS lo n)[i]?\(lo+ (i:Int)):=by
 unfold eS;rw[agR,ai5 h];rfl
theorem Ap:∀(zs:Zg) (us:Zk),⇑us=⇑zs->(∀(i:Nat) (z:Int) (u:Zt),zs[i]?\z->us[i]?\u->∃t,u=.int z t)->Vals (ao zs) us
 |[],[],_,_=>.nil
 |z::zs,u::us,a,h=>.cons (h 0 z u rfl rfl) (Ap zs us (by simpa using a) λi z u c b=>h (i+ 1) z u c b)
 |[],_::_,a,_=>by simp at a
 |_::_,[],a,_=>by simp at a
def Fj {lo:Int}{acc:Zm}(h:ItemsOf (λi v=>∃t,v=Value.int (lo + (i:Int)* 1) t) acc n):Vals (ao (eS lo n)) acc.toList:=by
 rwa[Ap _ _ ?_ λi z u a c=>?_]
 ·rw[oJ,aie];rwa[h.1]
 ·let b:i<n:=by
   have:=(agx.mp a).1;rw[oJ]at this;rwa[this]
  rw[QW b]at a;let⟨t,e⟩:=h.2 i u (by cbv)
  cbv
section
variable {X:Cx}{a:Expr}{ta:TA}{p p2 pos Aq:Pos}
def YQ (ta:TA):TE:=λ e H Q=>ta e H λd c=>∃j:Nat,d=[.int j]/\j<=10000/\∀l,c l=none->Q ↑l (upd c l (.lst (ao (eS 0 j))))
theorem list_range {Q:VK}{lo:Int}{t u v:Tok}(k:X.calm=true)(I:Inv X o D H s)(y:0<=lo)(m:lo<=10000)(x:0<=z)(r:z<=10000)
 (q:∀l,H l=none->Q ↑l (upd H l (.lst (ao (eS lo (z - lo).toNat))))):X⁻¹ X.A (call (.type "list") [↑↥s]) (EP X o D Q) X.xe { s with heap:=s.heap.push ("range">>>.fields #[.int lo t,.int z u,.int 1 v]),toks:=n }:=by
 let i:Inv X o D H { s with heap:=s.heap.push ("range">>>.fields #[.int lo t,.int z u,.int 1 v]),toks:=n }:=I.kept λb d e=>agt _ e
 let g:Builtin.Range.rangeSize lo z 1=(((z - lo).toNat:Nat):Int):=by rw[rangeSize_one];split <;> ext
 rwa[call_list_range (n:=(z - lo).toNat) (I.ok.hd k) (IsRange.new ..) (small_one ∅ ∅ ∅ ∅) g ∅ λB h f j kp A hit=>?_]
 rwa[⟨↑_,_,i.laid (t':=h) (o:=.lst (ao (eS lo (z - lo).toNat))) kp (agA _) ⟨5,f.toList,j,Fj hit,5⟩,2,q _ (i.aO.fresh (agA _))⟩]
 ·rw[aL,oJ];rwa[agJ (show (z - lo).toNat<=10000 by omega) ⋯]
 ext
theorem qp (x:X.calm=true)(g:Gl X "list")(f:X.mg "list"=none)(v:Gl X "range")(i:X.mg "range"=none)(m:PA X [a] ta)(o:starEach [a] X.env=[(false,eval a X.env)]:=by rfl)
 (d:starEach [.Call (.Name "range" p) [a] [] pos] X.env=[(false,eval (.Call (.Name "range" p) [a] [] pos) X.env)]:=by rfl):PE X (.Call (.Name "list" p2) [.Call (.Name "range" p) [a] [] pos] [] Aq) (YQ ta):=by
 intro c s n H Q I h;rwa[ahH (gS I g f boot_list ?_)];rwa[ahz ?_ d rfl];rw[d];show wpAny _ _ (spliced ((false,eval (.Call (.Name "range" p) [a] [] pos) X.env)::backTo Aq [])) _ _ s;rwa[ahy ?_];rwa[Call_ (gS I v i boot_range (ahz (aZ (m pos c s n H _ I h) λz A ζ=>?_) o rfl))];let⟨B,C,u,k,w⟩:=ζ;let⟨j,e,y,q⟩:=w;subst e
 cases k with
 |cons r l=>
  ext l;let⟨t,rfl⟩:=r;rwa[call_range_1 (ah4 ?_)];rwa[list_range x u ∅ ∅ ∅ ∅ (by simpa using q)]
end
def dJ (H:Hp)(rs:Zn)(rows:Za3):Prop:=⇑rs=⇑rows/\∀(i:Nat) (r:Zs) (a:Zg),rs[i]?\r->rows[i]?\a->H r\(.lst (ao a))
def TabAt (H:Hp)(a:Zs)(rows:Za3):Prop:=∃rs:Zn,H a\.lst (rs.map V.ref)/\dJ H rs rows
def dJ.same {rs:Zn}{rows:Za3}(h:dJ H rs rows)(s:aq H I):dJ I rs rows:=⟨h.1,λi r ns b a=>s^h.2 i r ns b a⟩
def TabAt.same {rows:Za3}(h:TabAt H a rows)(s:aq H I):TabAt I a rows:=by
 let⟨rs,c,b⟩:=h;rwa[rs,s^c,b.same s]
def kL {rs:Zn}:∀{a:Zk},Vals (rs.map V.ref) a->a=rs.map Value.ref:=by
 induction rs with
 |nil=>intro a r;ext r;rfl
 |cons c rs d=>
  intro a r
  cases r with
  |cons e b=>ext e;rw[d b];rfl
def sQ {a:Type} [DecidableEq a]{ns ms:List a}(h:⇑ns=⇑ms):(List.range ⇑ns).all (λj=>decide (ns[j]?=ms[j]?))=decide (ns=ms):=by
 rw[ahR,List.all_eq_true,ahn];constructor
 ·intro b;rwa[aif λi=>?_]
  cbv
 cbv
section
variable {X:Cx}{pins:List (Zs×Obj)}{σ:St}{H:Hp}{s:Zu}{A:Around}
def N5 (I:Inv X pins σ H s){r q:Zs}{ns ms:Zg}(m:H r\.lst (ao ns))(o:H q\.lst (ao ms))(f:A.units<cLine):SeqAt.RcAt A s ↑r ↑q (decide (ns=ms)):=by
 let⟨p,a,d,_⟩:=I.list (aH.of m);let⟨b,h,g,_⟩:=I.list (aH.of o);let c:=⇑a;let k:=⇑h;rw[aL]at c k;by_cases i:⇑ns=⇑ms
 ·have:=SeqAt.RcAt.lists (A:=A) (e:=λj=>decide (ns[j]?=ms[j]?)) d.isList g.isList (by cbv) f (λj n l=>xD a h j n l);rw[agL,<-c,sQ i]at this;ext
 ·let e:decide (ns=ms)=false:=ahu (λz=>i (by rw[z]));rw[e];rwa[SeqAt.RcAt.lists_lengths d.isList g.isList ?_ f]
  cbv
def N6 (I:Inv X pins σ H s){r q:Zs}{f d:Zg}(g:H r\.lst (ao f))(c:H q\.lst (ao d))(h:A.units<cLine):SeqAt.EqAt A s ↑r ↑q (decide (f=d)):=by
 by_cases e:r=q
 ·subst e
  have:f=d:=by
   rw[g]at c;injection c with c
   injection c with c
   unfold ao at c;rwa[(List.map_inj_right (λa b z=>V.int.inj z)).mp c]
  rw[aha this];rwa[SeqAt.EqAt.same _]
 ·rwa[SeqAt.EqAt.of_refs e (N5 I g c h)]
theorem vC (I:Inv X pins σ H s){rs a:Zn}{ns ms:Za3}(c:dJ H rs ns)(f:dJ H a ms)(i:A.units<cLine)(j:Nat)(o:j<(rs.map Value.ref).toArray.size)(m:j<(a.map Value.ref).toArray.size):
 SeqAt.EqAt A s (rs.map Value.ref).toArray[j] (a.map Value.ref).toArray[j] (decide (ns[j]?=ms[j]?)):=by
 let b:j<⇑rs:=by simpa using o
 let g:j<⇑a:=by simpa using m
 let d:j<⇑ns:=by rw[<-c.1];rwa[b]
 let e:j<⇑ms:=by rw[<-f.1];rwa[g]
 let h:(rs.map Value.ref).toArray[j]=↑rs[j]:=by simp
 let k:(a.map Value.ref).toArray[j]=↑a[j]:=by simp
 rw[h,k];let p:=c.2 j rs[j] ns[j] (agv b) (agv d);let l:=f.2 j a[j] ms[j] (agv g) (agv e);have:=N6 (A:=A) I p l i;rw[agv d,agv e]
 let n:decide (some ns[j]=some ms[j])=decide (ns[j]=ms[j]):=by
  rw[ahR,ahn,ahn];rwa[Za0,ahT some]
 rw[n];rwa[this]
end
section
variable {X:Cx}
inductive L7 (x:V) (y:V) (H:Hp) (Q:VK):Prop
 |mk (a b:Zs) (ns ms:Za3):x=↑a->y=↑b->TabAt H a ns->TabAt H b ms->Q (.bl (decide (ns=ms))) H->L7 x y H Q
def DR (A:X.A.units+ 1<cLine):fQ X (compareOp .Eq) L7:=by
 intro g s F H x y v u Q I o m h;let⟨a,b,ns,ms,rfl,rfl,⟨G,t,c⟩,⟨J,D,d⟩,q⟩:=h;ext o;ext m;let⟨E,n,k,_⟩:=I.list (aH.of t);let⟨i,B,l,_⟩:=I.list (aH.of D);let C:=kL n;let p:=kL B;subst C p;by_cases f:⇑ns=⇑ms
 ·rwa[SeqAt.eq_listAt (e:=λj=>decide (ns[j]?=ms[j]?)) k.isList l.isList (by simp[c.1,d.1,f]) ∅ (λj w r=>vC I c d A j w r) ⟨.bl (decide (ns=ms)),H,I,5,q⟩];show _=Value.bool (decide (ns=ms));rw[agL,agy,c.1,sQ f]
 ·let e:decide (ns=ms)=false:=ahu (λz=>f (by rw[z]));rw[e]at q;rwa[SeqAt.eq_list_lengthsAt k.isList l.isList ?_ ∅ ⟨.bl false,H,I,2,q⟩];simp[c.1,d.1,f]
inductive L8 (x:V) (y:V) (H:Hp) (Q:VK):Prop
 |mk (a b:Zs) (ns ms:Za3):x=↑a->y=↑b->TabAt H a ns->TabAt H b ms->Q (.bl (!decide (ns=ms))) H->L8 x y H Q
def N7 (A:X.A.units+ 1<cLine):fQ X (compareOp .NotEq) L8:=by
 intro g s F H x y v u Q I o m h;let⟨a,b,ns,ms,rfl,rfl,⟨G,t,c⟩,⟨J,D,d⟩,q⟩:=h;ext o;ext m;let⟨E,n,k,_⟩:=I.list (aH.of t);let⟨i,B,l,_⟩:=I.list (aH.of D);let C:=kL n;let p:=kL B;subst C p;by_cases f:⇑ns=⇑ms
 ·rwa[SeqAt.RcNeAt.lists (e:=λj=>decide (ns[j]?=ms[j]?)) k.isList l.isList (by simp[c.1,d.1,f]) ∅ (λj w r=>vC I c d A j w r) X.prog X.w X.xe _ ⟨.bl (!decide (ns=ms)),H,I,5,q⟩];show _=Value.bool (!decide (ns=ms));rw[agL,agy,c.1,sQ f]
 ·let e:decide (ns=ms)=false:=ahu (λz=>f (by rw[z]));rw[e]at q;rwa[ajs k.isList l.isList ?_ ∅ X.prog X.w X.xe _ ⟨.bl true,H,I,2,q⟩];simp[c.1,d.1,f]
inductive L9 (x:V) (y:V) (H:Hp) (Q:VK):Prop
 |mk (a b:Zs) (ns ms:Zg):x=↑a->y=↑b->H a\.lst (ao ns)->H b\.lst (ao ms)->Q (.bl (!decide (ns=ms))) H->L9 x y H Q
def DS (k:X.A.units<cLine):fQ X (compareOp .NotEq) L9:=by
 intro d s D H x y v u Q I p o h;let⟨a,b,ns,ms,rfl,rfl,w,B,q⟩:=h;ext p;ext o;let⟨C,c,i,_⟩:=I.list (aH.of w);let⟨f,m,l,_⟩:=I.list (aH.of B);let g:=⇑c;let r:=⇑m;rw[aL]at g r;by_cases n:⇑ns=⇑ms
 ·rwa[SeqAt.RcNeAt.lists (e:=λj=>decide (ns[j]?=ms[j]?)) i.isList l.isList (by cbv) k (λj A t=>xD c m j A t) X.prog X.w X.xe _ ⟨.bl (!decide (ns=ms)),H,I,5,q⟩];show _=Value.bool (!decide (ns=ms));rw[agL,<-g,sQ n]
 ·let e:decide (ns=ms)=false:=ahu (λz=>n (by rw[z]));rw[e]at q;rwa[ajs i.isList l.isList ?_ k X.prog X.w X.xe _ ⟨.bl true,H,I,2,q⟩]
  cbv
inductive Ma (xs:Zb) (H:Hp) (Q:VK):Prop
 |mk (b:Bool):xs=[.bl b]->Q (.int (if b=true then 1 else 0)) H->Ma xs H Q
def G5:i6 X (.type "int") Ma:=by
 intro a s f H e d Q I r h;let⟨b,rfl,q⟩:=h;let⟨u,rfl,c⟩:=vals1 r;ext c;rwa[call_int_bool ⟨.int _,H,I.tok _,⟨12⟩,q⟩]
def Ar (h:X.K=K):GD X (Jt K):=by subst h;rwa[bO]
def N8 (h:X.K=K):GD X (Ju K):=by subst h;rwa[dX]
def zj (h:X.K=K):i6 X (.builtin "len") (Fg K):=by subst h;rwa[bM]
theorem jM {z:Str}{scope:Scope}(g:closureFor scope X.env=pure [(f,c),(z,d)])(B:X.env.cells.lookup f\c)(C:X.env.cells.lookup z\d)(r:∀q∈scope.names,q.2≠.cell)(v:scope.kind=.function)
 (y:∀q∈scope.names,q.2=.local->scope.names.lookup q.1=some .local) (u:scope.names.lookup x=some .local) (a:∀q∈scope.names,q.2=.free->q.1=f\/q.1=z) (b:x≠f/\x≠z/\f≠z) (s:X.N[i]?\f) (t:X.N[j]?\z)
 (m:X.env.kindOf f=some .cell) (l:X.env.kindOf z=some .cell) (n:X.env.scope.kind=.function) (o:scope.names.lookup f=some .free) (p:scope.names.lookup z=some .free):dY X x [f,z] [i,j] scope [(f,c),(z,d)] where
 Af:=g
 sub:=λw e h=>by
  cbv
 cell:=r
 kind:=v
 names:=y
 own:=u
 has:=λw h=>by
  let e:w=f\/w=z:=by
   rcases h with h|h
   ·rwa[a _ (gU h (.inl rfl) r) rfl]
   ·rwa[a _ (gU h (.inr rfl) r) rfl]
  cbv
 nd:=by simp[b.1,b.2.1,b.2.2]
 len:=rfl
 at_:=λk w h=>by
  match k,h with
  |0,h=>
   let e:f=w:=by simpa using h
   subst e;rwa[i,2,s,.inl m,c,by simp[aiG],.inl (cM n m o)]
  |1,h=>
   let e:z=w:=by simpa using h
   subst e;let A:(z==f)=false:=agS.mpr (λq=>b.2.2 q.symm);rwa[j,2,t,.inl l,d,by simp[aiG,A],.inl (cM n l p)]
  |k+ 2,h=>simp at h
end
def bT (H:Hp)(a:Zn)(ws:Za3):Prop:=⇑a=⇑ws/\∀(i:Nat) (p:Zs) (w:Zg),a[i]?\p->ws[i]?\w->H p\(.tup (ao w))
def bG (H:Hp)(a:Zs)(c:Za3):Prop:=∃b:Zn,H a\.lst (b.map V.ref)/\bT H b c
def bT.keep {ws:Za3}(h:bT H F ws)(s:∀p a,H p\.tup a->I p\.tup a):bT I F ws:=⟨h.1,λi p w c b=>s^h.2 i p w c b⟩
def bT.same {ws:Za3}(h:bT H F ws)(s:aq H I):bT I F ws:=h.keep λp a e=>s^e
def bG.same {ws:Za3}(h:bG H a ws)(s:aq H I):bG I a ws:=by
 let⟨b,d,c⟩:=h;rwa[b,s^d,c.same s]
def bT.snoc {ps:Zn}{ws:Za3}(h:bT H ps ws)(e:H a\.tup (ao l)):bT H (ps++[a]) (ws++[l]):=by
 rwa[⟨by rw[agw,agw,h.1];rfl,λi q u c b=>?_⟩];by_cases d:i<⇑ps
 ·rw[agF d]at c;rw[agF (by rw[<-h.1];rwa[d])]at b;rwa[h.2 i q u c b]
 ·rw[agI ∅]at c;rw[agI (by rw[<-h.1];omega)]at b;rw[agC.mp (agu c),agC.mp (agu b)];rwa[e]
inductive Ve (x:V) (y:V) (H:Hp) (Q:VK):Prop
 |mk (a b:Zs) (ns ms:Za3):x=↑a->y=↑b->bG H a ns->bG H b ms->Q (.bl (decide (ns=ms))) H->Ve x y H Q
section
variable {X:Cx}
inductive Vf (x:V) (y:V) (H:Hp) (Q:VK):Prop
 |mk (k:Int) (a:Zs) (ns:Zg):x=.int k->y=↑a->H a\.lst (ao ns)->Q (.bl (decide (k∈ns))) H->Vf x y H Q
inductive JQ (x:V) (y:V) (H:Hp) (Q:VK):Prop
 |mk (k:Int) (a:Zs) (ns:Zg):x=.int k->y=↑a->H a\.lst (ao ns)->Q (.bl (!decide (k∈ns))) H->JQ x y H Q
def isInt (k:Int):Zt->Bool
 |.int z _=>z==k
 |_=>false
inductive DT (x:V) (vs:Zb) (H:Hp) (Q:VK):Prop
 |mk (a:Zs) (ns:Zg) (k:Int):x=↑a->vs=[.int k]->H a\.lst (ao ns)->k∈ns->(∀i:Nat,ns[i]?\k->(∀j,j<i->ns[j]?≠some k)->Q (.int i) H)->DT x vs H Q
def G6 (h:z∈l):∃i:Nat,l[i]?\z/\∀j,j<i->l[j]?≠some z:=by
 induction l with
 |nil=>ext h
 |cons a l c=>
  by_cases e:a=z
  ·rwa[(0),by rw[e];rfl,λj d=>∅]
  ·let⟨i,g,f⟩:=c ((agN.mp h).resolve_left (ahQ e));rwa[⟨i+ 1,g,λj d=>?_⟩]
   cases j with
   |zero=>exact λb=>e (Za0 b)
   |succ j=>exact f j ∅
theorem zk:DF X "list.index" DT:=by
 intro A s R H x S v P Q I E G h;let⟨a,ns,k,rfl,rfl,M,c,q⟩:=h;ext E;let⟨u,rfl,J⟩:=G.one;let⟨t,rfl⟩:=J;let⟨z,b,n,r,N,e⟩:=I.pK M;rw[aL]at z N;let⟨i,l,B⟩:=G6 c;let O:i<⇑ns:=(agx.mp l).1
 let at_:∀(m:Nat) (c:m<b.toArray.size),isInt k b.toArray[m]=decide (ns[m]?\k):=λm c=>by
  let d:m<⇑b:=by simpa using c
  let g:ns[m]?\(ns[m]'∅):=agv ∅
  let⟨w,j,f,rfl⟩:=r.get (cK g)
  let o:b.toArray[m]=Value.int (ns[m]'∅) f:=by
   rw[List.getElem_toArray];rwa[Za0 ((agv d).symm.trans j)]
  rw[o,g];show (ns[m]'∅==k)=_;rw[ahR,ajC,ahn];rwa[λz=>by rw[z],λz=>Za0 z]
 let C:(sizeLine:Nat)<2 ^ 62:=⋯
 refine ajH F.slot_list_index ⟨_,e,2⟩ F.entry_list_index (F.args_list_index_2 _ _)
  (SeqAt.list_indexAt a b.toArray n none #[] (.int k t) (isInt k) i (by rw[agL];omega) ∅ ([at_]▸aha l) (λm c p=>[at_]▸ahu (B m p))) ⟨e,λy D=>?_,5⟩
 ·let⟨m,c,L⟩:=ais.mp (Array.mem_toList_iff.mpr D);let d:m<⇑b:=by simpa using c
  let g:ns[m]?\(ns[m]'∅):=agv ∅
  let⟨w,j,f,rfl⟩:=r.get (cK g)
  let o:y=Value.int (ns[m]'∅) f:=by
   rw[<-L];rwa[Za0 ((agv d).symm.trans j)]
  rw[o];rwa[SeqAt.EqAt.int_int _ f k t]
 ·rwa[.int i,H,I.tok _,⟨12⟩,q i l B]
end
def As (K:Za1)(a:Zs):It:=
 ⟨λi H=>∃xs x,aH K H a xs/\xs[i]?\x,λi H x b=>∃p v,H p=none/\(∀ys,aH K H a ys->ys[i]?\v)/\x=↑p/\b=upd H p (.tup [.int (i:Int),v]),λi H=>∃xs,aH K H a xs/\⇑xs=i⟩
def oK {o u:Obj}(c:h.get? a\o)(e:h.get? b\u)(d:o.cls≠u.cls):a≠b:=λz=>by
 cbv
theorem Fm {elts:Zr}{x1:Nat}{tp:Pos}(e it a:Zs)(QX:e≠it):
 Turn P w K (.Tuple elts x1 tp) (As K a) [e,it] e (λi h=>(∃c,IsEnum h e it (i:Int) c)/\h.IsListIter it a i) where
 mem:=by simp
 obj:=λi h st b g=>by
  let⟨⟨c,l⟩,o,ho,L,hd⟩:=st
  cbv
 keep:=λi h U st k=>by
  let⟨⟨c,l⟩,hl⟩:=st;rwa[⟨c,k e (by simp) _ l⟩,hl.at λo e=>k it (by simp) o e]
 item:=by
  intro X hP hw hK L i v s σ H E I G st hg;subst hP hw hK;let⟨⟨c,l⟩,j⟩:=st;let⟨xs,x,N,M⟩:=hg;let⟨d,Y,p,hz⟩:=I.list N;let⟨u,hu,ru⟩:=Y.get M;let hit:=p.isList;let⟨o1,m,W,G7⟩:=id hit;let⟨o2,n,yF,T⟩:=id j;let t:a≠it:=oK m n (by cbv);let hea:e≠a:=oK l m (by cbv);let D:=Draws.list (prog:=X.prog) (w:=X.w) (A:=X.A.in1) (I.ok.hd L) it a t d.toArray;let tW:e<↥s:=agQ l;let V4:i<⇑d:=(agx.mp hu).1;rwa[En.yD D l ⟨j,hit⟩ ∅ QX (by cbv) λy U tk O ho QY C hk=>?_]
  let ey:u=y:=by
   let h2:d[i]?\y:=by simpa using O
   rwa[Za0 (hu.symm.trans h2)]
  subst ey;erw[12];rwa[wpAny_letOwnedTupleGo_enum ho λr QZ f=>?_]
  let S:r.get? ↥s\("tuple">>>.seq #[.int (i:Int) tk,u]):=(f.2 _ (ahL tW)).trans C
  let Z:∀b J,b∉[e,it]->s.heap.get? b\J->r.get? b\J:=λb J g q=>by
   let h1:b≠e:=λz=>g (by simp[z])
   let h2:b≠it:=λz=>g (by simp[z])
   rwa[(f.2 b h1).trans (hk b J h1 h2 q)]
  let V:=I.aO.fresh (agA ↥s);rwa[⟨↑↥s,_,I.uE (fp:=[e,it]) (a:=↥s) (o:=.tup [.int (i:Int),x]) (h':=r) (t':=tk+ 1) Z G (agA _) ?_,2,⟨_,x,V,λys hy=>[I.ux hy N]▸M,22⟩,⟨⟨u,5⟩,5⟩,λb g=>?_⟩]
  ·rwa[by show 2<=sizeLine;decide,[.int (i:Int) tk,u],.cons ⟨12⟩ (.cons ru .nil),_,S,212]
  ·cbv
  ·exact(D.frame _ _ _ QY λb g o q=>(f.2 b (by
    cbv)).trans q).1
  ·rw[ak]
   ·rwa[(G b g).1]
   ·intro z;subst z;rcases agN.mp g with z|g
    ·cbv
    ·rwa[absurd (agQ n) (by rw[<-agC.mp g];rwa[ahN _])]
 done:=by
  intro X hP hw hK L i v s σ H E I G st hg;subst hP hw hK;let⟨⟨c,l⟩,j⟩:=st;let⟨xs,N,M⟩:=hg;let⟨d,Y,p,hz⟩:=I.list N;let hit:=p.isList;let⟨o1,m,W,G7⟩:=id hit;let⟨o2,n,yF,T⟩:=id j;let t:a≠it:=oK m n (by cbv);let D:=Draws.list (prog:=X.prog) (w:=X.w) (A:=X.A.in1) (I.ok.hd L) it a t d.toArray;let R:d.toArray.size=i:=by rw[agL,<-⇑Y];rwa[M]
  rwa[wpAny_pyNext_enum_endD D l ([R]▸⟨j,hit⟩) λU eb=>⟨2,I.xI (fp:=[e,it]) (t':=s.toks) (λb o g q=>eb b o (λz=>g (by simp[z])) q) G⟩]
 self:=λA i s Q E st h=>by
  let⟨⟨c,l⟩,_⟩:=st;let C:s.TypeIs ↑e "enumerate":=⟨_,l,2⟩;rwa[wpAny_pyIter_slot C ajj (ahB ajj C F.entry_enumerate_iter ?_ (F.args_enumerate_iter_1 _))];show wpAny _ _ (ret ↑e) _ _ s;rwa[agz ⟨12,"enumerate",_,C,aji.lookup,h⟩]
section
variable {X:Cx}
def Q0 (K:Za1)(d:TA):TI:=λ f H R=>d f H λc b=>∃a,c=[↑a]/\(∃e,aH K b a e)/\R (As K a) b
def Au {k:TE}{elts:Zr}{c g:Pos}(E:Gl X "enumerate")(v:X.mg "enumerate"=none)(z:PE X e k)(o:starEach [e] X.env=[(false,eval e X.env)]:=by rfl):
 PI X (.Tuple elts n p) (.Call (.Name "enumerate" c) [e] [] g) (Q0 X.K (jJ k j3)):=by
 intro a s m H R I h;rwa[Call_ (gS I E v boot_enumerate (ahz (aZ ((ae z aj o) g a s m H _ I h) λJ s1 ζ=>?_) o rfl))];let⟨Q,t,f,y,F⟩:=ζ;let⟨l,rfl,⟨O,D⟩,q⟩:=F;let⟨u,rfl,A⟩:=vals1 y;ext A;let⟨G,L,pl,N⟩:=f.list D;rwa[call_enumerate_list pl.isList λr i hit x B=>?_]
 let C:Inv X a m t (s1<*r):=f.kept (t':=s1.toks) B;let T:=Fm (P:=X.prog) (w:=X.w) (K:=X.K) (elts:=elts) (x1:=n) (tp:=p) (↥s1+ 1) ↥s1 l (Nat.succ_ne_self _);rwa[T.self _ 0 (s1<*r) _ _ ⟨⟨_,i⟩,hit⟩ ⟨1111,t,2,C,T,⟨⟨_,i⟩,hit⟩,λb j=>?_,q⟩];rcases agN.mp j with d|j
 ·subst d;rwa[f.pJ (aiN _) (f.aO.fresh (aiN _))]
 ·rw[agC.mp j];rwa[f.pJ (agA _) (f.aO.fresh (agA _))]
end
theorem yG {xs:Zb}{g:TG}{l:TS}(b:Nat->St->Hp->Prop)(o:b 0 D H)(z:∀i D H,i<=⇑xs->b i D H->aH K H a xs)
 (u:∀i v D H p,xs[i]?\v->H p=none->b i D H->g ↑p D (upd H p (.tup [.int (i:Int),v])) λ c j=>l { G with nx:=b (i+ 1),ct:=b (i+ 1),bk:=G.nx } c j) (w:∀ D H,b ⇑xs D H->G.nx D H):
 ∃W:Nat->Nat->St->Hp->Prop,(∃m,W 0 m D H)/\∀i m D H,W i m D H->
  ((As K a).stop i H/\G.nx D H)\/((As K a).go i H/\∃N:St->Hp->Prop,(∀ d f,N d f->∃k,k<m/\W (i+ 1) k d f)/\∀x f,(As K a).ml i H x f->g x D f λ c j=>l { G with nx:=N,ct:=N,bk:=G.nx } c j):=by
 erw[λi m D H=>m=⇑xs - i/\i<=⇑xs/\b i D H,⟨⇑xs,by simp,agW _,o⟩];rintro i m D H ⟨rfl,n,p⟩;let q:=z i D H n p;by_cases h:i<⇑xs
 ·rwa[.inr ⟨⟨xs,_,q,agv h⟩,b (i+ 1),λ d f t=>⟨⇑xs - (i+ 1),32,h,t⟩,λx f y=>?_⟩];let⟨r,v,s,B,rfl,rfl⟩:=y;rwa[u i v D H r (B xs q) s p]
 ·let e:i=⇑xs:=∅
  subst e;rwa[.inl ⟨⟨xs,q,2⟩,w D H p⟩]
namespace En
open AutoSeq1 (wpAny_loadPart')
theorem Fo (l:Zs)(items:Zm)(n:Nat)(dct:Zo)(p:Array Zl)(k:Int)(u:Tok)(q:0<=k)(m:k<1000):
 Meets (Builtin.«enumerate.__new__» ⟨[.type "enumerate",↑l],[("start",.int k u)]⟩) (λ_ R s=>s.heap.get? l\{ cls:=.type "list",dict:=dct,data:=.seq items n,slots:=p }/\
  R (.ok (.ret (↑(s.heap.push ("list_iterator">>>.fields #[↑l,.int 0 0])).objs.size)))
    { s with heap:=(s.heap.push ("list_iterator">>>.fields #[↑l,.int 0 0])).push ("enumerate">>>.fields #[.none,.bool false,↑↥s,rawInt k,.none,.none]) }):=
 .of_wp λe w A R s h=>by
  let⟨o,g,d,j,os⟩:=s;let⟨a,h⟩:=h;let f:=sub_enumerate;let r:=AutoSeq1.idx_int;let b:Heap.IsList (Shared.heap ⟨o,g,d,j,os⟩) l items:=⟨_,a,2,n,2⟩
  let i:(!Builtin.SmallTypes.fitsIndex k)=false:=by
   unfold Builtin.SmallTypes.fitsIndex;simp;ext
  wp_walk using aiW a
  rwa[wpAny_stack_any λst=>agz ?_]
  split
  ·rename_i c _ _ _ _ _;cases (c==Value.type "enumerate")
   ·wp_walk using aiW a,aiU b
    rwa[12,h]
   ·wp_walk using aiW a,aiU b
    rwa[12,h]
  ·wp_walk using aiW a,aiU b
   rwa[12,h]
section
variable {prog:Program}{w:World}{A:Around}{E:Zt->Zu->Prop}{s:Zu}
theorem CQ {items:Zm}{k:Int}{u:Tok}(O:s.heap.IsList a items)(U:0<=k)(v:k<1000)
 (h:∀t,IsEnum t (↥s+ 1) ↥s k .none->t.IsListIter ↥s a 0->(∀b o,s.heap.get? b\o->t.get? b\o)->Q ↑(↥s+ 1) (s<*t)):
 (prog<|>w) A (call (.type "enumerate") [↑a] [("start",.int k u)]) Q E s:=by
 let⟨⟨X,dct,dt,Y⟩,Z,l,n,G⟩:=O;replace l:X=.type "list":=l;replace G:dt=.seq items n:=G;subst l G;let i:=F.called_enumerate;let⟨c,tl,H⟩:=i.mro;let B:=i.made;let J:=i.sub;let V:=U6 ↑a (.int k u);let x:=U9 ↑a (.int k u);rwa[ajn (codeAny_of_tree ?_)];show wpAny _ _ (callAny (.type "enumerate") _) _ _ _;rwa[agz ⟨Code.quiet_builtin _ ⋯,ajP F.entry_type_call ?_⟩];rw[Around.under_plain (weight_type_call_type "enumerate" [↑a] [("start",.int k u)]) (units_type_call_type "enumerate" [↑a] [("start",.int k u)])];let h1:=i.notType;let h2:=i.canCreate
 repeat (any_goals (first|assumption|wp_step))
 rwa[ai2 (ait i.plain F.entry_enumerate_new (wpAny_of_eq x (Fo a items n dct Y k u U v prog w A.in1 (wants (λobj f=>f.TypeIs obj "enumerate"/\Q obj f) E) s ⟨Z,5⟩))) λr f D=>?_]
 ·let M:(s.heap.push ("list_iterator">>>.fields #[↑a,.int 0 0])).objs.size=↥s+ 1:=aii ..;show _/\_;rw[M]
  let I:IsEnum ((s.heap.push ("list_iterator">>>.fields #[↑a,.int 0 0])).push ("enumerate">>>.fields #[.none,.bool false,↑↥s,rawInt k,.none,.none])) (↥s+ 1) ↥s k .none:=by
   let q:=agK (s.heap.push ("list_iterator">>>.fields #[↑a,.int 0 0])) (o:=("enumerate">>>.fields #[.none,.bool false,↑↥s,rawInt k,.none,.none])) rfl;rw[M]at q;rwa[q]
  rwa[⟨_,I,2⟩,h _ I ⟨_,agt _ (agK _ rfl),22⟩ λb o y=>agt _ (agt _ y)]
 cases r with
 |error e=>exact D
 |ok fl=>
  cases fl with
  |ret obj=>
   let⟨L,N⟩:=D;let P:=i.init.lookup;let S:=i.init.bind obj;let z:=Va obj ↑a (.int k u);let C:(λ(_:Around) (R:Result->Zu->Prop) (s:Zu)=>s.TypeIs obj "enumerate"/\R (.ok (.ret .none)) s) A.in1 (wants (λr j=>r=.none/\Q obj j) E) f:=⟨L,2,N⟩;let W:=N2 (T:="enumerate") (self:=obj) (a:=↑a) (kw:=[("start",.int k u)]) i.init.lookup i.made ⋯
   repeat (any_goals (first|assumption|wp_step))
   rwa[ai2 (ait i.init.plain F.entry_object_init (i.init.check _ _ _ _ _ _ _ _ L z (W prog w A.in1 _ f C))) λp j g=>?_]
   cases p with
   |error e=>exact g
   |ok m=>
    cases m with
    |ret r=>
     let⟨rfl,N⟩:=g
     repeat (any_goals (first|assumption|wp_step))
    |_=>exact g.elim
  |_=>exact D.elim
end
end En
def sR (K:Za1)(a:Zs)(n:Int):It:=
 ⟨λi H=>∃xs x,aH K H a xs/\xs[i]?\x,λi H x b=>∃p v,H p=none/\(∀ys,aH K H a ys->ys[i]?\v)/\x=↑p/\b=upd H p (.tup [.int (n+ (i:Int)),v]),λi H=>∃xs,aH K H a xs/\⇑xs=i⟩
theorem CT {elts:Zr}{x1:Nat}{tp:Pos}(e it a:Zs)(n:Int)(QX:e≠it):
 Turn P w K (.Tuple elts x1 tp) (sR K a n) [e,it] e (λi h=>(∃c,IsEnum h e it (n+ (i:Int)) c)/\h.IsListIter it a i) where
 mem:=by simp
 obj:=λi h st b g=>by
  let⟨⟨c,l⟩,o,ho,M,hd⟩:=st
  cbv
 keep:=λi h V st k=>by
  let⟨⟨c,l⟩,hl⟩:=st;rwa[⟨c,k e (by simp) _ l⟩,hl.at λo e=>k it (by simp) o e]
 item:=by
  intro X hP hw hK M i B s σ H E I J st hg;subst hP hw hK;let⟨⟨c,l⟩,j⟩:=st;let⟨xs,x,O,N⟩:=hg;let⟨d,Z,p,hz⟩:=I.list O;let⟨u,hu,ru⟩:=Z.get N;let hit:=p.isList;let⟨o1,m,Y,G7⟩:=id hit;let⟨o2,r,yF,U⟩:=id j;let v:a≠it:=oK m r (by cbv);let hea:e≠a:=oK l m (by cbv);let D:=Draws.list (prog:=X.prog) (w:=X.w) (A:=X.A.in1) (I.ok.hd M) it a v d.toArray;let tW:e<↥s:=agQ l;let V4:i<⇑d:=(agx.mp hu).1;rwa[En.yD D l ⟨j,hit⟩ ∅ QX (by cbv) λy V tk R ho QY G hk=>?_]
  let ey:u=y:=by
   let h2:d[i]?\y:=by simpa using R
   rwa[Za0 (hu.symm.trans h2)]
  subst ey;erw[12];rwa[wpAny_letOwnedTupleGo_enum ho λt QZ f=>?_]
  let T:t.get? ↥s\("tuple">>>.seq #[.int (n+ (i:Int)) tk,u]):=(f.2 _ (ahL tW)).trans G
  let Q5:∀b L,b∉[e,it]->s.heap.get? b\L->t.get? b\L:=λb L g q=>by
   let h1:b≠e:=λz=>g (by simp[z])
   let h2:b≠it:=λz=>g (by simp[z])
   rwa[(f.2 b h1).trans (hk b L h1 h2 q)]
  let W:=I.aO.fresh (agA ↥s);rwa[⟨↑↥s,_,I.uE (fp:=[e,it]) (a:=↥s) (o:=.tup [.int (n+ (i:Int)),x]) (h':=t) (t':=tk+ 1) Q5 J (agA _) ?_,2,⟨_,x,W,λys hy=>[I.ux hy O]▸N,22⟩,⟨⟨u,5⟩,5⟩,λb g=>?_⟩]
  ·rwa[by show 2<=sizeLine;decide,[.int (n+ (i:Int)) tk,u],.cons ⟨12⟩ (.cons ru .nil),_,T,212]
  ·cbv
  ·exact(D.frame _ _ _ QY λb g o q=>(f.2 b (by
    cbv)).trans q).1
  ·rw[ak]
   ·rwa[(J b g).1]
   ·intro z;subst z;rcases agN.mp g with z|g
    ·cbv
    ·rwa[absurd (agQ r) (by rw[<-agC.mp g];rwa[ahN _])]
 done:=by
  intro X hP hw hK M i B s σ H E I J st hg;subst hP hw hK;let⟨⟨c,l⟩,j⟩:=st;let⟨xs,O,N⟩:=hg;let⟨d,Z,p,hz⟩:=I.list O;let hit:=p.isList;let⟨o1,m,Y,G7⟩:=id hit;let⟨o2,r,yF,U⟩:=id j;let v:a≠it:=oK m r (by cbv);let D:=Draws.list (prog:=X.prog) (w:=X.w) (A:=X.A.in1) (I.ok.hd M) it a v d.toArray;let S:d.toArray.size=i:=by rw[agL,<-⇑Z];rwa[N]
  rwa[wpAny_pyNext_enum_endD D l ([S]▸⟨j,hit⟩) λV eb=>⟨2,I.xI (fp:=[e,it]) (t':=s.toks) (λb o g q=>eb b o (λz=>g (by simp[z])) q) J⟩]
 self:=λA i s Q E st h=>by
  let⟨⟨c,l⟩,_⟩:=st;let G:s.TypeIs ↑e "enumerate":=⟨_,l,2⟩;rwa[wpAny_pyIter_slot G ajj (ahB ajj G F.entry_enumerate_iter ?_ (F.args_enumerate_iter_1 _))];show wpAny _ _ (ret ↑e) _ _ s;rwa[agz ⟨12,"enumerate",_,G,aji.lookup,h⟩]
theorem Fq {xs:Zb}{g:TG}{l:TS}(b:Nat->St->Hp->Prop)(o:b 0 D H)(A:∀i D H,i<=⇑xs->b i D H->aH K H a xs)
 (u:∀i v D H p,xs[i]?\v->H p=none->b i D H->g ↑p D (upd H p (.tup [.int (z+ (i:Int)),v])) λ c j=>l { G with nx:=b (i+ 1),ct:=b (i+ 1),bk:=G.nx } c j) (w:∀ D H,b ⇑xs D H->G.nx D H):
 ∃W:Nat->Nat->St->Hp->Prop,(∃m,W 0 m D H)/\∀i m D H,W i m D H->
  ((sR K a z).stop i H/\G.nx D H)\/((sR K a z).go i H/\∃N:St->Hp->Prop,(∀ d f,N d f->∃k,k<m/\W (i+ 1) k d f)/\∀x f,(sR K a z).ml i H x f->g x D f λ c j=>l { G with nx:=N,ct:=N,bk:=G.nx } c j):=by
 erw[λi m D H=>m=⇑xs - i/\i<=⇑xs/\b i D H,⟨⇑xs,by simp,agW _,o⟩];rintro i m D H ⟨rfl,n,p⟩;let q:=A i D H n p;by_cases h:i<⇑xs
 ·rwa[.inr ⟨⟨xs,_,q,agv h⟩,b (i+ 1),λ d f t=>⟨⇑xs - (i+ 1),32,h,t⟩,λx f y=>?_⟩];let⟨r,v,s,C,rfl,rfl⟩:=y;rwa[u i v D H r (C xs q) s p]
 ·let e:i=⇑xs:=∅
  subst e;rwa[.inl ⟨⟨xs,q,2⟩,w D H p⟩]
def eB (h:Heap)(d:Zs)(b:Array DictEntry)(a:Nat):Prop:=∃o,h.get? d\o/\o.ExactDict/\o.data=.dict b a
namespace Dk
section
variable {prog:Program}{w:World}{A:Around}{E:Zt->Zu->Prop}{s:Zu}{d:Zs}{es:Array DictEntry}{ep:Nat}
def typ (a:eB s.heap d es ep):s.TypeIs ↑d "dict":=let ⟨o,b,c,_⟩:=a;⟨o,b,c.1⟩
theorem iter (g:(d==sysModules)=false)(c:eB s.heap d es ep)
 (f:Q ↑↥s { s with heap:=s.heap.push ("dict_keyiterator">>>.fields #[↑d,.int 0 0,.int es.size 0,.int ep 0]) }):(prog<|>w) A (pyIter ↑d) Q E s:=by
 let b:=typ c;let⟨o,e,h,a⟩:=c;rwa[wpAny_pyIter_slot b F.slot_dict_iter (ahB F.slot_dict_iter b F.entry_dict_iter ?_ (F.args_dict_iter_1 _))];unfold Builtin.«dict.__iter__»;rwa[ags ?_];unfold Builtin.Dict.dictSlotNone;rwa[ags (ajk b ?_)];show wpAny _ _ (pure (Value.ref d)) _ _ s;rwa[agz ?_];show wpAny _ _ (Builtin.Dict.showsAll d >>=_) _ _ s;unfold Builtin.Dict.showsAll;rw[agT (by cbv)];rwa[ags (agz (ags (aiz e a (ags (ajl e a ?_)))))];rwa[ags (ahg (agz ⟨12,"dict_keyiterator",_,⟨_,agK _ rfl,2⟩,ah6.lookup,by simpa [rawInt] using f⟩))]
theorem item {it:Zs}{en:DictEntry}{Q:Zl->Zu->Prop}(hit:s.heap.IsKeyIter it d i es.size ep)(g:eB s.heap d es ep)(j:es[i]?\en)
 (k:∀g1,g1.IsKeyIter it d (i+ 1) es.size ep->Heap.SameBut it s.heap g1->Q (some en.key) (s<*g1)):(prog<|>w) A (pyNext ↑it) Q E s:=by
 let⟨o,e,l,c⟩:=id hit;let⟨m,b,h,a⟩:=id g;unfold pyNext;rwa[ags (wpAny_attempt (ahw (name:=Str.ofString "__next__") hit.typeIs ah6 (ahB ah6 hit.typeIs F.entry_dict_keyiterator_next ?_ (F.args_dict_keyiterator_next_1 _))))];rwa[ags (agz (ags (ags ?_)))]
 first|rwa[ags (aiq hit.typeIs (agz ?_))]|rwa[ags (aiX hit.typeIs (agz ?_))]
 rwa[ags (wpAny_fieldsOf e c ?_)];let own:Builtin.Dict_items.ownsTuple "dict_keyiterator"=false:=⋯
 simp only[own,ajd,ajo];show wpAny _ _ (if (Value.ref d==Value.none)=true then _ else _) _ _ s;rw[agT (show ¬((Value.ref d==Value.none)=true) from ahm)];rwa[ags (agz (ags (aiz b a ?_)))];rw[agT (by simp)];rwa[ags (agz (ags (ajl b a ?_)))];rw[agT (by simp)];rwa[agz ?_];simp only[show ¬((i:Int)<0) from by ext,ajo,ag4,j];rwa[ags ?_]
 first|rwa[ags (aiq hit.typeIs (agz ?_))]|rwa[ags (aiX hit.typeIs (agz ?_))]
 rwa[ags (wpAny_isOneOf_keyiter hit.typeIs ?_)];show wpAny _ _ (setField ↑it 1 (rawInt ((i:Int)+ 1)) >>=_) _ _ s;rwa[ags (aiO e c (by simp) ?_)]
 let f:(s.heap.update it (Obj.mapFields (·.setIfInBounds 1 (rawInt ((i:Int)+ 1))))).IsKeyIter it d (i+ 1) es.size ep:=
  ⟨_,ahh _ e (aiL (ah8 c _)),(Obj.cls_mapFields ..).trans l,by rw[ah8 c];simp[rawInt]⟩
 rwa[ags (ahF ?_)];rwa[ags (wpAny_isOneOf_keyiter (s:={ s with heap:=s.heap.update it (Obj.mapFields (·.setIfInBounds 1 (rawInt ((i:Int)+ 1)))) }) f.typeIs ?_)];show wpAny _ _ (pure en.key) _ _ _;rwa[agz (agz ⟨12,agz (k _ f (ah3 ..))⟩)]
theorem fin {it:Zs}{Q:Zl->Zu->Prop}(n:A.handled=none)(hit:s.heap.IsKeyIter it d i es.size ep)(j:eB s.heap d es ep)(l:es[i]?=none)
 (k:∀h,Heap.ExtBut it s.heap h->Q none (s<*h)):(prog<|>w) A (pyNext ↑it) Q E s:=by
 let⟨o,f,q,g⟩:=id hit;let⟨r,e,p,c⟩:=id j;unfold pyNext;rwa[ags (wpAny_attempt (ahw (name:=Str.ofString "__next__") hit.typeIs ah6 (ahB ah6 hit.typeIs F.entry_dict_keyiterator_next ?_ (F.args_dict_keyiterator_next_1 _))))];rwa[ags (agz (ags (ags ?_)))]
 first|rwa[ags (aiq hit.typeIs (agz ?_))]|rwa[ags (aiX hit.typeIs (agz ?_))]
 rwa[ags (wpAny_fieldsOf f g ?_)];let own:Builtin.Dict_items.ownsTuple "dict_keyiterator"=false:=⋯
 simp only[own,ajd,ajo];show wpAny _ _ (if (Value.ref d==Value.none)=true then _ else _) _ _ s;rw[agT (show ¬((Value.ref d==Value.none)=true) from ahm)];rwa[ags (agz (ags (aiz e c ?_)))];rw[agT (by simp)];rwa[ags (agz (ags (ajl e c ?_)))];rw[agT (by simp)];rwa[agz ?_];simp only[show ¬((i:Int)<0) from by ext,ajo,ag4,l];rwa[ags ?_]
 first|rwa[ags (aiq hit.typeIs (agz ?_))]|rwa[ags (aiX hit.typeIs (agz ?_))]
 show wpAny _ _ (setField ↑it 0 .none >>=_) _ _ s;rwa[ags (aiO f g (by simp) ?_)];show wpAny _ _ (newExc (.type "StopIteration") [] >>=_) _ _ _;rwa[ags ?_];simp only[newExc,newTuple];rwa[ags (ahg ?_ (by size_fits))];rwa[ags (m:=firstArgMember _ _) (wpAny_of_eq (a:=Value.none) (by first|rfl|(simp only[firstArgMember];rfl)) ?_)];rwa[ahg ?_ (by size_fits)];simp only[raiseNew];rwa[ags (wpAny_handled ?_)];rw[show A.in1.handled=none from n];rwa[ags (agz (wpAny_throw ?_))];rwa[ags (wpAny_isInstance (T:="StopIteration") (b:=true) ⟨_,agK _ rfl,2⟩ isSubtype_stop ?_)];rwa[agz (k _ (((ah3 ..).extBut.push _).push _))]
def eB.at (x:eB h d es ep)(e:∀o,h.get? d\o->g.get? d\o):eB g d es ep:=let ⟨o,a,r⟩:=x;⟨o,e _ a,r⟩
theorem walks (p:A.handled=none)(I:Zs)(j:d≠I):Walks prog w A I [I,d] [I] es.size (λi v=>∃g,es[i]?\g/\v=g.key) (λi h=>h.IsKeyIter I d i es.size ep/\eB h d es ep) where
 sub:=λb c=>by cbv
 frame:=λ_ _ _ st m=>⟨st.1.at λo e=>m I (by simp) o e,eB.at st.2 λo e=>m d (by simp) o e⟩
 item:=λi s Q E l st a=>by
  rwa[item (en:=es[i]) st.1 st.2 (by simp[l]) λk n f=>?_]
  rwa[a _ k s.toks ⟨_,by simp[l],2⟩ ⟨n,eB.at st.2 λo e=>f.extBut _ _ j e⟩ λb o c e=>f.extBut b o (λh=>c (by simp[h])) e]
 done:=λs Q E st a=>fin p st.1 st.2 (by simp) λk f=>a k s.toks λb o c e=>f b o (λh=>c (by simp[h])) e
 self:=λ_ _ _ _ st a=>wpAny_pyIter_keyiter st.1 a
theorem hint {Q:Bool->Zu->Prop}(e:eB s.heap d es ep)(h:Q false s):(prog<|>w) A (Builtin.List.listLengthHint ↑d) Q E s:=by
 unfold Builtin.List.listLengthHint;rwa[ags (wpAny_specialOf (typ e) F.slot_dict_len.lookup ?_)];generalize c:("dict.__len__":String)=f
 wp_delta
 rw[show splitId f=some ("dict","__len__") from by subst c;decide];subst c;rwa[ags (wpAny_isInstance (T:="dict") (b:=true) (typ e) (by rw[isSubtype_type];kernel_rfl) ?_)];rwa[ajQ (λa=>absurd a ⋯) (λ_=>?_)];rwa[ajQ (λ_=>?_) (λa=>absurd ⋯ a)];rwa[ags (aiI (T:="dict") (typ e) (agz h))]
theorem extend {R:Result->Zu->Prop}(Y:A.handled=none)(Z:(d==sysModules)=false)(n:eB s.heap d es ep)(hlen:es.size<=sizeLine)(S:Zs)(res:Zt)(t:Nat)(N:s.heap.get? S\("list">>>.seq #[] t))
 (O:∀g1 P c m,(∀b o,b≠S->s.heap.get? b\o->g1.get? b\o)->g1.get? S\{ cls:=.type "list",dict:=none,data:=.seq c m,slots:=#[] }->
  ItemsOf (λi v=>∃M,es[i]?\M/\v=M.key) c es.size->R (.ok (.ret res)) { s with heap:=g1,toks:=P }):
 (prog<|>w) A.in1 (Builtin.List.listExtendWith ↑S ↑d res)
  (λfin l=>match fin with|.done f=>R (.ok f) l|.again m=>m.quiet=true/\codeAny (model prog w) A m R l) (λe l=>R (.error e) l) s:=by
 let k:S≠d:=λe=>by
  let⟨o,J,hc,L⟩:=n
  cbv
 let I:d<↥s:=by let⟨o,J,_⟩:=n;rwa[agQ J]
 let y:S≠↥s:=ag2 (agQ N);let D:d≠↥s:=ag2 I;unfold Builtin.List.listExtendWith;rwa[ags (aiI (T:="dict") (typ n) ?_)];let V:Builtin.List.listSameRef ↑S ↑d=false:=by simp[Builtin.List.listSameRef,k]
 let Q:(Value.type "dict"==Value.type "list")=false:=⋯
 let U:(Value.type "dict"==Value.type "tuple")=false:=⋯
 simp only[V,Q,U,Bool.or_false,ajd,ajo];rwa[ags (iter Z n ?_)];let j:eB (s.heap.push ("dict_keyiterator">>>.fields #[↑d,.int 0 0,.int es.size 0,.int ep 0])) d es ep:=eB.at n λo e=>agt _ e
 rwa[ags (ahF (hint (s:={ s with heap:=s.heap.push ("dict_keyiterator">>>.fields #[↑d,.int 0 0,.int es.size 0,.int ep 0]) }) j ?_))];let g:=agt ("dict_keyiterator">>>.fields #[↑d,.int 0 0,.int es.size 0,.int ep 0]) N;let r:(s.heap.push ("dict_keyiterator">>>.fields #[↑d,.int 0 0,.int es.size 0,.int ep 0])).IsKeyIter ↥s d 0 es.size ep:=⟨_,agK _ rfl,22⟩;let kp:∀b o,s.heap.get? b\o->(s.heap.push ("dict_keyiterator">>>.fields #[↑d,.int 0 0,.int es.size 0,.int ep 0])).get? b\o:=λb o e=>agt _ e
 generalize s.heap.push ("dict_keyiterator">>>.fields #[↑d,.int 0 0,.int es.size 0,.int ep 0])=q at g r kp j ⊢;rwa[ajQ (λ_=>?_) (λC=>absurd ⋯ C)];rwa[ags (aj2 ?_)];rwa[ags ?_];show wpAny _ _ (updateSeq S (·.push .none) >>=λ_=>updateSeq S (·.pop)) _ _ _;rwa[ags (aiY g rfl ?_)];let x:=ahh (Obj.mapSeq (·.push Value.none)) g rfl;rwa[aiY (hz:=by seq_fits) x rfl ?_];let B:=ahh (Obj.mapSeq (·.pop)) x rfl;let h:∀b o,b≠S->q.get? b\o->((q.update S (Obj.mapSeq (·.push Value.none))).update S (Obj.mapSeq (·.pop))).get? b\o:=λb o z e=>(ahj^ahQ z).trans ((ahj^ahQ z).trans e)
 let W:=(walks (prog:=prog) (w:=w) (A:=A.in1) (d:=d) (es:=es) (ep:=ep) Y ↥s D).toS
 let H:S∉[↥s,d]:=λa=>by
  rcases agN.mp a with e|a
  ·rwa[y e]
  ·rwa[k (agC.mp a)]
 rwa[agz ⟨ai6 F.plain_extend_loop _,?_⟩];rwa[codeAny_extend_loopS W hlen S H res es.size 0 _ #[] _ rfl (agW _) ⟨r.at λo e=>h _ o (ahQ y) e,eB.at j λo e=>h _ o (ahQ k) e⟩ B (ItemsOf.nil _) λl c m u G p=>?_]
 rw[Moved.eq_with u];rwa[O l.heap l.toks c m (λb o z e=>u.heap b o (λa=>?_) (h b o z (kp b o e))) G p];rcases agN.mp a with X|a
 ·rwa[z X]
 ·rwa[absurd (agQ e) (by rw[agC.mp a];rwa[ahN _])]
def init {R:Result->Zu->Prop}(z:A.handled=none)(B:(d==sysModules)=false)(r:eB s.heap d es ep)(hlen:es.size<=sizeLine)(S:Zs)(q:s.heap.get? S\("list">>>.seq #[]))
 (x:∀g1 l a c,(∀b o,b≠S->s.heap.get? b\o->g1.get? b\o)->g1.get? S\{ cls:=.type "list",dict:=none,data:=.seq a c,slots:=#[] }->
  ItemsOf (λi v=>∃u,es[i]?\u/\v=u.key) a es.size->R (.ok (.ret .none)) { s with heap:=g1,toks:=l }):
 (prog<|>w) A.in1 (Builtin.«list.__init__» ⟨[↑S,↑d],[]⟩)
  (λfin k=>match fin with|.done f=>R (.ok f) k|.again c=>c.quiet=true/\codeAny (model prog w) A c R k) (λe k=>R (.error e) k) s:=by
 let n:d≠S:=λe=>by
  let⟨o,C,D,t⟩:=r
  cbv
 show wpAny _ _ (do let old <-Builtin.List.listItems ↑S;Builtin.List.listUpdate ↑S (λ_=>#[]);letGo old.toList.reverse;Builtin.List.listExtendWith ↑S ↑d .none) _ _ s;rwa[ags ?_];unfold Builtin.List.listItems;rwa[ags (ai8 q rfl (agz ?_))];show wpAny _ _ (updateSeq S (λ_=>#[]) >>=λ_=>letGo (#[]:Zm).toList.reverse >>=λ_=>Builtin.List.listExtendWith ↑S ↑d .none) _ _ s;rwa[ags (aiY q rfl ?_)];let p:=ahh (Obj.mapSeq (λ_=>(#[]:Zm))) q rfl;let h:∀b o,b≠S->s.heap.get? b\o->(s.heap.update S (Obj.mapSeq (λ_=>(#[]:Zm)))).get? b\o:=λb o j e=>(ahj^ahQ j).trans e
 rwa[ags (aj3 ?_)];rwa[extend (s:={ s with heap:=s.heap.update S (Obj.mapSeq (λ_=>(#[]:Zm))) }) z B (eB.at r λo e=>h _ o n e) hlen S .none _ p λg1 l a c y m g=>?_]
 rwa[x g1 l a c (λb o j e=>y b o j (h b o j e)) m g]
theorem G8 (t:A.handled=none)(u:(d==sysModules)=false)(p:eB s.heap d es ep)(hlen:es.size<=sizeLine)
 (q:∀g1 h a k,(∀b o,s.heap.get? b\o->g1.get? b\o)->g1.get? ↥s\{ cls:=.type "list",dict:=none,data:=.seq a k,slots:=#[] }->ItemsOf (λi v=>∃m,es[i]?\m/\v=m.key) a es.size->Q ↑↥s { s with heap:=g1,toks:=h }):
 (prog<|>w) A (call (.type "list") [↑d]) Q E s:=by
 rwa[callType_codes (Q₁:=λobj c=>obj=↑↥s/\c={ s with heap:=s.heap.push ("list">>>.seq #[]) }) F.called_list (F.typeCall_list_1 _) F.entry_list_init (code_list_new _ ⟨22⟩) λobj c g=>?_]
 let⟨rfl,rfl⟩:=g;let n:(s.heap.push ("list">>>.seq #[])).get? ↥s\("list">>>.seq #[]):=agK _ rfl;rwa[⟨⟨_,n,2⟩,F.args_list_init_2 _ _,init (A:=A.in1) (s:={ s with heap:=s.heap.push ("list">>>.seq #[]) }) t u (eB.at p λo e=>agt _ e) hlen _ n λg1 h a k r j f=>?_⟩];rwa[2,q g1 h a k (λb o e=>r b o (ag2 (agQ e)) (agt _ e)) j f]
end
end Dk
structure MDef (K:Za1) (C:Zs) (x q:Str) (st:Stmt) (ps:Zp) (f:Zs) (fd:FuncData):Prop where
 F:qU K x q st f fd
 m:Meth K C x f
 b:Binds K fd ps []
open PySem.W (KasT kas_rev kas_asc kas_desc kas_tail3 kas_descPart kas_count kas_place kas_bin kas_sort kas_ask kas_ask_eq kas_runs kas_st kas_range kas_item kas_item_eq)
namespace Srt
def Gd {b:Type}(P:Nat->Nat->Prop)(f:Nat->Nat->Bool):KasT b->(b->Prop)->Prop
 |.ret a,Q=>Q a
 |.ask i j k,Q=>P i j/\Gd P f (k (f i j)) Q
section
variable {n:Nat}{key:Nat->Int}
structure Pr (n:Nat) (p:Array Nat):Prop where
 sz:p.size=n
 lt:∀i,i<n->p.getD i 0<n
 inj:∀i j,i<n->j<n->p.getD i 0=p.getD j 0->i=j
def Up (key:Nat->Int)(p:Array Nat)(m:Nat):Prop:=∀i j,i<j->j<m->key (p.getD i 0)<key (p.getD j 0)
def Dn (key:Nat->Int)(p:Array Nat)(m:Nat):Prop:=∀i j,i<j->j<m->key (p.getD j 0)<key (p.getD i 0)
def Ok (n:Nat)(key:Nat->Int)(i j:Nat):Prop:=i<n/\j<n/\key i≠key j
def Inj (n:Nat)(key:Nat->Int):Prop:=∀i j,i<n->j<n->key i=key j->i=j
abbrev ask (key:Nat->Int) (i j:Nat):Bool:=decide (key i<key j)
end
end Srt
end L2
namespace L2
open PySem PySem.Spec PyProof.Rows
def G9:typeLookup (.type "list") "keys"=pure none:=by rw[typeLookup_type,builtinLookup_eq_fast];kernel_rfl
theorem JR {n:Zm}{k:Nat}{Q:Zl->Zu->Prop}
 (l:s.heap.get? a\("list">>>.seq n k)) (q:A.handled=none)
 (h:∀i j,(∀b o,s.heap.get? b\o->i.get? b\o)->Q none { s with heap:=i,toks:=j }):
 (P<|>w) A (getAttr? ↑a "keys") Q E s:=by
 let⟨p,g,d,j,os⟩:=s;let m:∀f,(⟨p,g,d,f,os⟩:Zu).TypeIs ↑a "list":=λ_=>⟨_,l,2⟩
 let x:=sub_AttributeError;let r:=F.slot_list_getattribute.lookup;let z:=F.slot_list_getattribute.bind ↑a;let t:=am_list_getattr_none;unfold getAttr? getAttrBy? getAttrBy
 repeat (any_goals (first|assumption|rwa[m _]|((with_reducible show wpAny _ _ (call (Value.builtin "list.__getattribute__") _ _) _ _ _);rwa[ajH F.slot_list_getattribute (m _) am_entry_list_getattribute (F.args_list_getattribute_2 _ _) (meets_getattribute_miss_list a n k #[] "keys" _ G9 (by decide) (by decide)) ⟨l,q,λi f e c=>?_⟩])|wp_step))
 let⟨u,y,v⟩:=c.there;show wpAny _ _ (getattributeRaised _ _ _ _ _ _ _) _ _ _;unfold getattributeRaised
 repeat (any_goals (first|assumption|wp_step))
 rwa[h^c.keeps]
def oM:entryFor table "dict.update.loop"=some Builtin.«dict.update.loop»:=entryFor_of_fast (by kernel_rfl)
def iD:plainId "dict.update.loop"=true:=⋯
section
variable {prog:Program} {w:World} {K:Type} [DecidableEq K] {knd:KeyKind prog w K} {A:Around} {E:Zt->Zu->Prop}
theorem Fs {R:Result->Zu->Prop}{it l:Zs}{its:Zk}{rs:List (K×Zt)}(hh:A.in1.handled=none)(N:l≠it)(t:d≠it)(U:d≠l)(hlen:⇑its=⇑rs)(hsz:⇑rs<=sizeLine):
 ∀(k i:Nat) (s:Zu),⇑its - i=k->i<=⇑its->s.heap.IsListIter it l i->s.heap.IsList l its.toArray->s.heap.DictOf knd d (merged [] (rs.take i))->
 (∀(j:Nat) (u:Zt) (f:K×Zt),its[j]?\u->rs[j]?\f->∃p a,u=↑p/\p≠d/\p≠it/\knd.is f.1 a=true/\IsTup s.heap p #[a,f.2])->
 (∀m H,m.DictOf knd d (merged [] rs)->(∀b o,b≠d->b≠it->s.heap.get? b\o->m.get? b\o)->R (.ok (.ret .none)) { s with heap:=m,toks:=H })->
 codeAny (model prog w) A (.builtin "dict.update.loop" ⟨[↑d,↑it,rawInt (i:Int),.none],[]⟩) R s:=by
 let W:=Walks.list (prog:=prog) (w:=w) (A:=A.in1) hh it l N its.toArray;let c:∀b:Zs,b≠it->b∉[it]:=λb h z=>h (agC.mp z)
 intro k
 induction k with
 |zero=>
  intro i s hk I hit hl L P M;let ei:i=⇑its:=∅
  rwa[ajP oM ?_];rw[ajt iD _];show wpAny _ A.in1 (pyNext ↑it >>=_) _ _ s;rwa[ags (W.done s _ _ ⟨by cbv,hl⟩ λm H kp=>?_)];show wpAny _ A.in1 (Builtin.Dict.addKeywords d [] >>=_) _ _ _;rwa[ags (agz (agz ?_))];rw[aiD ∅]at L;let⟨od,x1,V,y,q⟩:=id L;rwa[M m H ⟨od,x1,V,kp _ _ (c _ t) y,q⟩ λb o _ h e=>kp b o (c _ h) e]
 |succ k ih=>
  intro i s hk I hit hl L P M;let iV:i<⇑its:=∅
  rwa[ajP oM ?_];rw[ajt iD _];show wpAny _ A.in1 (pyNext ↑it >>=_) _ _ s;rwa[ags (W.item i s _ _ ∅ ⟨hit,hl⟩ λv m H hP Y kp=>?_)];let⟨C,S⟩:=Y;let yH:its[i]?\v:=by simpa using hP
  let x:rs[i]?\(rs[i]'∅):=agv ∅
  generalize rs[i]'∅=f at x;let⟨p,a,rfl,pd,pi,D,o,ho,hc,n,B⟩:=P i v f yH x;let G:=kp _ _ (c _ pi) ho;let Z:rs.take (i+ 1)=rs.take i++[f]:=by rw[aix,x];rfl
  let hd2:m.DictOf knd d (merged [] (rs.take i)):=by
   let⟨od,x1,V,y,q⟩:=id L;rwa[od,x1,V,kp _ _ (c _ t) y,q]
  let O:=merged_length_le ([]:List (K×Zt)) (rs.take i)
  let F:⇑(merged [] (rs.take i))<=sizeLine:=by
   rw[ag8,ahZ]at O;ext
  show wpAny _ A.in1 (holding [Value.ref p] _ >>=_) _ _ _;rwa[ags (ahF ?_)];rwa[ags (aj7 ?_)];show wpAny _ A.in1 (typeOf (Value.ref p) >>=_) _ _ _;rwa[ags (aiI (T:="tuple") ⟨o,G,hc⟩ ?_)];rw[agX ⋯];rwa[ags (ai8 G B ?_)];rwa[agz ?_];show wpAny _ A.in1 (holding [a,f.2] (dictSet d a f.2)) _ _ _;rwa[ahF (wpAny_dictSet_pairs D hd2 (λg Mb sb=>?_) F)];let J:∀b o,b≠d->m.get? b\o->g.get? b\o:=λb o h e=>(sb.2 b h).trans e
  rwa[agz ⟨ai6 iD _,5⟩];let r:rawInt ((i:Int)+ 1)=rawInt (((i+ 1:Nat)):Int):=rfl;rw[r];rwa[ih (i+ 1) _ ∅ ∅ (C.at λo e=>J _ _ (ahQ t) e) (S.at λo e=>J _ _ (ahQ U) e) ?_ ?_ ?_]
  ·rw[Z,merged,aiZ];rwa[Mb]
  ·intro j u kv2 y q;let⟨p,a,rfl,a1,a2,a3,o,b1,b2⟩:=P j u kv2 y q;rwa[p,a,2,a1,a2,a3,o,J _ _ a1 (kp _ _ (c _ a2) b1),b2]
  ·intro q tk2 Q X;rwa[M q tk2 Q λb o h I e=>X b o h I (J _ _ h (kp _ _ (c _ I) e))]
theorem xK {rs:List (K×Zt)}(I:A.handled=none)(hlen:⇑N=⇑rs)(t:⇑rs<=sizeLine)
 (O:s.heap.get? a\("list">>>.seq N.toArray n))
 (S:∀(j:Nat) (u:Zt) (m:K×Zt),N[j]?\u->rs[j]?\m->∃p d,u=↑p/\knd.is m.1 d=true/\IsTup s.heap p #[d,m.2])
 (R:∀r D,r.DictOf knd ↥s (merged [] rs)->(∀b o,s.heap.get? b\o->r.get? b\o)->Q ↑↥s { s with heap:=r,toks:=D }):
 (prog<|>w) A (call (.type "dict") [↑a]) Q E s:=by
 rwa[callType_codes (Q₁:=λobj f=>obj=↑↥s/\f={ s with heap:=s.heap.push ("dict">>>.dict #[]) }) F.kt_called_dict (F.kt_typeCall_dict_1 _) F.entry_dict_init (kt_code_dict_new _ ⟨22⟩) ?_];rintro obj f ⟨rfl,rfl⟩;let c:(s.heap.push ("dict">>>.dict #[])).DictOf knd ↥s []:=Heap.DictOf.new s.heap;let i:(s.heap.push ("dict">>>.dict #[])).get? a\("list">>>.seq N.toArray n):=agt _ O;let v:=agQ O;erw[c.typeIs,F.args_dict_init_2 _ _];unfold Builtin.«dict.__init__»;rwa[ags ?_];unfold Builtin.Dict.selfAndRest;rwa[ags (ajk c.typeIs ?_)];show wpAny _ _ (pure (↥s,[Value.ref a])) _ _ _;rwa[agz ?_];show wpAny _ _ (Builtin.Dict.updateFrom "dict.__init__" ↥s ↑a [] .none) _ _ _;unfold Builtin.Dict.updateFrom;rwa[ags (aiI (T:="list") ⟨_,i,2⟩ ?_)];rw[agX ⋯];rwa[ags (JR i I λg D kp=>?_)];rw[agX ⋯];rwa[ags (aj2 ?_)];let k:=kp^i;rwa[ags (aiU (items:=N.toArray) ⟨_,k,2,n,2⟩ ?_)]
 let h:↥s<g.objs.size:=by
  let⟨H,_,_,q,_⟩:=id c;rwa[agQ (kp^q)]
 let z:=agQ k;let J:∀b o,s.heap.get? b\o->(g.push ("list_iterator">>>.fields #[↑a,.int 0 0])).get? b\o:=λb o e=>agt _ (kp^agt _ e)
 rwa[agz ⟨ai6 iD _,Fs (knd:=knd) (A:=A.in1) (rs:=rs) (its:=N) (l:=a) (it:=g.objs.size) I (ag2 z) (ag2 h) (ahL v) hlen t ⇑N 0 _ rfl (agW _) ?_ ⟨_,agt _ k,2,n,2⟩ ?_ ?_ ?_⟩]
 ·rwa[_,agK _ rfl,22]
 ·let⟨H,W,V,q,x⟩:=id c;rwa[H,W,V,agt _ (kp^q),x]
 ·intro j u m q x;let⟨p,d,rfl,U,o,L,P⟩:=S j u m q x;let l:=agQ L;rwa[p,d,2,ag2 l,ag2 (ajI l h),U,o,J^L,P]
 ·intro r C y B;rwa[⟨2,R r C y λb o e=>?_⟩];let M:=agQ e;rwa[B b o (ag2 M) (ag2 (ajI M h)) (J^e)]
end
section
variable {X:Cx}
inductive Hc (xs:Zb) (H:Hp) (Q:VK):Prop
 |mk (l:Zs) (ps:Zn) (kvs:List (Key×V)):xs=[↑l]->H l\.lst (ps.map V.ref)->⇑ps=⇑kvs->(∀(i:Nat) (p:Zs) (kv:Key×V),ps[i]?\p->kvs[i]?\kv->H p\.tup [kV kv.1,kv.2])->(∀d,H d=none->Q ↑d (upd H d (.dK (iU [] kvs))))->Hc xs H Q
theorem JS (ok:dH P w H h):∀(c:Zn) (a:List (Key×V)),⇑c=⇑a->(∀(i:Nat) (p:Zs) (b:Key×V),c[i]?\p->a[i]?\b->H p\.tup [kV b.1,b.2])->
 ∃k:List (Key×Zt),KV a k/\∀(j:Nat) (p:Zs) (b:Key×Zt),c[j]?\p->k[j]?\b->∃f,(bQ P w).is b.1 f=true/\IsTup h p #[f,b.2]:=by
 intro c
 induction c with
 |nil=>exact λa l _=>by cases a with|nil=>exact⟨[],.nil,λj p b d=>by simp at d⟩|cons=>ext l
 |cons p c r=>
  intro a l n
  cases a with
  |nil=>ext l
  |cons b a=>
   let⟨k,o,y⟩:=r a (by simpa using l) λi q b d g=>n (i+ 1) q b (by simpa using d) (by simpa using g)
   obtain⟨-,z,s,t⟩:=ok p _ (n 0 p b rfl rfl);let⟨u,v,rfl,x,m⟩:=vals2 s;rwa[⟨(b.1,v)::k,.cons ⟨2,m⟩ o,λj q e d g=>?_⟩]
   cases j with
   |zero=>
    obtain rfl:p=q:=by simpa using d
    obtain rfl:(b.1,v)=e:=by simpa using g
    rwa[u,jL x,t]
   |succ j=>exact y j q e (by simpa using d) (by simpa using g)
def vD (M:X.calm=true):i6 X (.type "dict") Hc:=by
 intro m s P H R N Q I r h;let⟨l,k,a,rfl,J,hlen,w,q⟩:=h;let⟨u,rfl,t⟩:=vals1 r;ext t;let⟨D,L,c,y,G⟩:=I.aO l _ J;obtain rfl:=kL y;let⟨rs,i,F⟩:=JS I.aO k a hlen w;let E:⇑a=⇑rs:=⇑i;rw[agy]at D;rwa[xK (knd:=bQ X.prog X.w) (rs:=rs) (I.ok.hd M) (by cbv) ∅ G (λj u z b x=>?_) λg o B kp=>?_]
 ·rw[agR]at b
  cases d:k[j]? with
  |none=>rw[d]at b;ext b
  |some p=>
   rw[d]at b;let⟨f,v,C⟩:=F j p z d x;rwa[p,f,(Za0 b).symm,v,C]
 ·let n:KV (iU [] a) (merged [] rs):=KV.merge i .nil;let e:=lj a [];rw[ahZ]at e;rwa[↑↥s,_,I.laid (t':=o) kp (agA _) (qY ∅ (agS.mpr (ahQ (ag2 I.big))) n B),2,q _ (I.aO.fresh (agA _))]
end
section
variable {X:Cx}{pins:List (Zs×Obj)}{σ:St}{H:Hp}{s:Zu}{d:Zs}{u:HO}{o:Obj}
def Inv.freeze (I:Inv X pins σ H s)(e:H d\u)(mu:tM (some u))(g:s.heap.get? d\o):Inv X pins σ (upd H d (.cW o u)) s:=by
 let a:tM (H d):=by rw[e];rwa[mu]
 let b:∀c y,H c\.own y->c≠d:=λc y r z=>by subst z;rw[r]at a;rwa[a]
 let jb:∀c f,H c\.tup f->c≠d:=λc f r z=>by subst z;rw[r]at a;rwa[a]
 let new:bV X.prog X.w (upd H d (.cW o u)) s.heap d u:=(I.aO d u e).fk (λc v _ r=>r) (λc r=>[ak (b^r)]▸r) λc f r=>by rw[ak (jb^r)];rwa[r]
 rwa[j7 (t':=s.toks) I a (Heap.SameBut.refl _ _) ⟨o,g⟩ ⟨g,new⟩]
def Inv.Ft (I:Inv X pins σ H s)(e:H d\.cW o u)(mu:tM (some u))(t:∀o u,X.uq d≠some (.cW o u)):Inv X pins σ (upd H d u) s:=by
 let i:∀b,H b=none->b≠d:=λb n z=>by cbv
 let g:∀c y,H c\.own y->c≠d:=λc y r z=>by cbv
 let jb:∀c h,H c\.tup h->c≠d:=λc h r z=>by cbv
 rwa[⟨I.ok,I.os,I.bare,⟨I.base.keep,I.base.slot,λb j q n A=>?_,I.base.there,λb h q=>?_,λb j v q=>?_,λb l q=>?_⟩,I.loc,I.cell,5,λx c q=>?_,λp w=>?_,λb v q=>?_,I.len⟩]
 ·let f:=I.base.free b j q n A;rw[ak (i b f)];rwa[f]
 ·let f:=I.base.hU b h q;rw[ak (jb^f)];rwa[f]
 ·let f:=I.base.gG b j v q;rw[ak (λz=>t j v (by rw[<-z];rwa[q]))];rwa[f]
 ·let⟨m,f⟩:=I.base.hV b l q;erw[m];rw[ak (λz=>by cbv)];rwa[f]
 ·rw[ak (i _ I.free)];rwa[I.free]
 ·let f:=I.gH x c q;rw[ak (i _ f)];rwa[f]
 ·let⟨a,b,c⟩:=I.pin p w;rwa[⟨a,5,c⟩];rw[ak (i _ b)];rwa[b]
 ·let st:∀b v,bV X.prog X.w H s.heap b v->bV X.prog X.w (upd H d u) s.heap b v:=λb v q=>q.fk (λc v _ r=>r) (λc r=>[ak (g^r)]▸r) λc h r=>by rw[ak (jb^r)];rwa[r]
  by_cases k:b=d
  ·subst k;rw[ah]at q;obtain rfl:=Za0 q;rwa[st^(I.aO^e).2]
  ·rw[ak k]at q;rwa[st^I.aO b v q]
def Inv.JT (I:Inv X pins σ H s)(e:H d\u)(mu:tM (some u)):∀o u,X.uq d≠some (.cW o u):=λo v q=>by
 rw[I.base.gG d o v q]at e;ext e;rwa[mu]
def Vg (t:TS):TS:=λD σ H=>∃(d:Zs) (u:HO),H d\u/\tM (some u)/\
 t { nx:=λ b a=>∃o,a d\.cW o u/\D.nx b (upd a d u),rt:=λv a=>∃o,a d\.cW o u/\D.rt v (upd a d u),
     bk:=λ b a=>∃o,a d\.cW o u/\D.bk b (upd a d u),ct:=λ b a=>∃o,a d\.cW o u/\D.ct b (upd a d u) } σ H
def DU {st:Stmt}{t:TS}(h:PS X st t):PS X st (Vg t):=by
 intro pins s σ H D I q;let⟨d,u,e,mu,q⟩:=q;let i:=I.JT e mu;rwa[aZ (h pins s σ H _ I q) λf l p=>?_]
 cases f with
 |next=>let⟨a,j,c,o,g,b⟩:=p;rwa[a,_,c.Ft g mu i,b]
 |brk=>let⟨a,j,c,o,g,b⟩:=p;rwa[a,_,c.Ft g mu i,b]
 |cont=>let⟨a,j,c,o,g,b⟩:=p;rwa[a,_,c.Ft g mu i,b]
 |ret v=>let⟨k,a,j,c,r,o,g,b⟩:=p;rwa[k,a,_,c.Ft g mu i,r,b]
end
def Av (d:Zs)(o:Obj)(a:List (Key×V)):It:=
 ⟨λi H=>i<⇑a/\H d\.cW o (.dK a),λi H x c=>c=H/\∃b,a[i]?\b/\x=kV b.1,λi H=>⇑a<=i/\H d\.cW o (.dK a)⟩
def N9 {k:Key}(h:(bQ P w).is k v=true):RelV (kV k) v:=by
 cases k with
 |inl i=>
  let a:Value.isInt i v=true:=h
  cases v with
  |int j t=>simp[Value.isInt]at a;subst a;rwa[12]
  |_=>simp[Value.isInt]at a
 |inr x=>
  let a:Value.isStrOf x v=true:=h
  cases v with
  |str j t=>simp[Value.isStrOf]at a;subst a;rwa[12]
  |_=>simp[Value.isStrOf]at a
inductive Dt where
 |i (n:Int)|s (l:Zh)|n|b (k:Bool)|t (xs:List Dt)|l (xs:List Dt)
inductive bR (H:Hp):Nat->V->Dt->Prop where
 |i {k:Nat} {n:Int}:bR H k (.int n) (.i n)
 |s {k:Nat} {l:Zh}:bR H k (.str (tx l)) (.s l)
 |n {k:Nat}:bR H k .non .n
 |b {k:Nat} {c:Bool}:bR H k (.bl c) (.b c)
 |t {k:Nat} {a:Zs} {vs:Zb} {ds:List Dt}:H a\.tup vs->⇑vs=⇑ds->(∀(j:Nat) (v:V) (d:Dt),vs[j]?\v->ds[j]?\d->bR H k v d)->bR H (k+ 1) ↑a (.t ds)
 |l {k:Nat} {a:Zs} {vs:Zb} {ds:List Dt}:H a\.lst vs->⇑vs=⇑ds->(∀(j:Nat) (v:V) (d:Dt),vs[j]?\v->ds[j]?\d->bR H k v d)->bR H (k+ 1) ↑a (.l ds)
def bR.keep (j:∀a e,H a\.tup e->I a\.tup e)(g:∀a e,H a\.lst e->I a\.lst e){k:Nat}{v:V}{d:Dt}(h:bR H k v d):bR I k v d:=by
 induction h with
 |i=>exact .i
 |s=>exact .s
 |n=>exact .n
 |b=>exact .b
 |t a b c f=>exact .t (j^a) b f
 |l a b c f=>exact .l (g^a) b f
def bR.same (s:aq H I){k:Nat}{v:V}{d:Dt}(h:bR H k v d):bR I k v d:=h.keep (λ_ _ e=>s^e) (λ_ _ e=>s^e)
def bR.up {k:Nat}{d:Dt}(h:bR H k q d):bR H (k+ 1) q d:=by
 induction h with
 |i=>exact .i
 |s=>exact .s
 |n=>exact .n
 |b=>exact .b
 |t a b c e=>exact .t a b e
 |l a b c e=>exact .l a b e
def bR.le {k:Nat}{d:Dt}(h:bR H k q d)(a:k<=m):bR H m q d:=by
 let⟨j,rfl⟩:=Nat.exists_eq_add_of_le a;clear a
 induction j with
 |zero=>exact h
 |succ j b=>exact b.up
inductive Vh (x:V) (y:V) (H:Hp) (Q:VK):Prop
 |mk (d:Dt) (a b:Zs):x=↑a->y=↑b->bR H 8 x d->bR H 8 y d->Q (.bl true) H->Vh x y H Q
inductive Vi (x:V) (y:V) (H:Hp) (Q:VK):Prop
 |mk (d:Dt) (a b:Zs):x=↑a->y=↑b->bR H 8 x d->bR H 8 y d->Q (.bl false) H->Vi x y H Q
def nI (l:Zh):Zg:=l.map λn:Nat=>(n:Int)
def bZ (l:Zh):⇑(nI l)=⇑l:=agy ..
def jN (h:B[i]?\n):(nI B)[i]?\(n:Int):=by unfold nI;rw[agR,h];rfl
def iW (a b:Zh):nI (a++b)=nI a++nI b:=ag6 ..
def Q6 (l:Zh)(i n:Nat):(nI l).set i (n:Int)=nI (l.set i n):=by unfold nI;rw[List.map_set]
structure RS where
 L:Nat
 made:Nat
 rows:List Dt
 ways:List (List (Int×Nat))
 gaps:Za3
 aV:Zh
 called:List Zh
 aY:Zh
def wK (l:List (Int×Nat)):List (Key×V):=l.map λp=>(Sum.inl p.1,V.int p.2)
def gK (l:Zg):List (Key×V):=l.map λs=>(Sum.inl s,V.bl true)
noncomputable def fq (l:List (Int×Nat))(s:Int):Zi:=(l.find? λp=>decide (p.1=s)).map (·.2)
noncomputable def iS (l:List (Int×Nat))(s:Int)(r:Nat):List (Int×Nat):=if (l.any λp=>decide (p.1=s))=true then l.map λp=>if p.1=s then (p.1,r) else p else l++[(s,r)]
def Aw (l:List (Int×Nat)):⇑(wK l)=⇑l:=agy ..
def Q7 (l:Zg):⇑(gK l)=⇑l:=agy ..
def Q8 (a b:Int):decide ((Sum.inl a:Key)=Sum.inl b)=decide (a=b):=by
 cbv
theorem kM (s:Int):∀l:List (Int×Nat),bz (wK l) (Sum.inl s)=(fq l s).map λr:Nat=>V.int (r:Int)
 |[]=>rfl
 |p::l=>by
  let b:=kM s l;by_cases h:p.1=s
  ·let e:bz (wK (p::l)) (Sum.inl s)\(V.int p.2):=cY (p:=(Sum.inl p.1,V.int p.2)) (by rw[h]);let a:fq (p::l) s\p.2:=by unfold fq;rw[List.find?_cons_of_pos (by cbv)];rfl
   rw[e,a];rfl
  ·let e:bz (wK (p::l)) (Sum.inl s)=bz (wK l) (Sum.inl s):=cO (p:=(Sum.inl p.1,V.int p.2)) (λz=>h (Sum.inl.inj z));let a:fq (p::l) s=fq l s:=by unfold fq;rw[ajb (by simpa using h)]
   rw[e,a,b]
def Ax (l:List (Int×Nat))(s:Int)(r:Nat):putK (wK l) (Sum.inl s) (.int r)=wK (iS l s r):=by
 unfold putK iS
 let a:((wK l).any λb=>decide (b.1=Sum.inl s))=l.any λp=>decide (p.1=s):=by
  unfold wK;rw[List.any_map]
  congr 1
  funext p
  rwa[Q8 _ _]
 rw[a];split
 ·unfold wK;rw[ahe,ahe];rwa[aht λp _=>?_]
  cbv
 ·unfold wK;rw[ag6];rfl
def JV (l:List (Int×Nat))(s t:Int)(r:Nat):fq (iS l s r) t=if t=s then some r else fq l t:=by
 let c:=kM t (iS l s r);rw[<-Ax,pO,kM]at c
 let inj:∀a b:Zi,(a.map λr:Nat=>V.int (r:Int))=(b.map λr:Nat=>V.int (r:Int))->a=b:=λa b h=>by
  cases a <;> cases b <;> simp at h ⊢
  ext
 apply inj;rw[<-c];by_cases e:t=s
 ·rw[agX e,agX (by rw[e])];rfl
 ·rw[agT e,agT (λz=>e (Sum.inl.inj z))]
def JW (l:List (Int×Nat))(s:Int)(r:Nat):⇑(iS l s r)<=⇑l+ 1:=by
 unfold iS;split
 ·rw[agy];ext
 ·rw[agw];rwa[agA _]
def Ob (l:Zg)(s:Int):e8 (gK l) (Sum.inl s)=gK (l.filter λx=>decide (x≠s)):=by
 unfold e8 gK;rw[List.filter_map]
 congr 1
 rwa[aj4 λx _=>?_]
 cbv
theorem Hd (s:Int):∀l:Zg,bz (gK l) (Sum.inl s)=if s∈l then some (V.bl true) else none
 |[]=>rfl
 |x::l=>by
  by_cases h:x=s
  ·rw[agX (by cbv)];rwa[cY (p:=(Sum.inl x,V.bl true)) (by rw[h])]
  ·let e:bz (gK (x::l)) (Sum.inl s)=bz (gK l) (Sum.inl s):=cO (p:=(Sum.inl x,V.bl true)) (λz=>h (Sum.inl.inj z));rw[e,Hd s l]
   cbv
theorem yI:∀(more acc:List (Key×V)),((acc++more).map (·.1)).Nodup->iU acc more=acc++more
 |[],acc,_=>(ag9 _).symm
 |p::more,acc,h=>by
  let b:bz acc p.1=none:=by
   unfold bz;rw[List.find?_eq_none.mpr ?_];rfl;intro q a;rw[ahn];intro e;rw[ag6,ahD]at h;rwa[h.2.2 q.1 (aiA a) p.1 (aiA agM) e]
  show iU (putK acc p.1 p.2) more=_;rw[Al _ b,yI more (acc++[(p.1,p.2)]) ([ahq]▸h),ahq];rfl
structure RA where
 dx:Zs
 aR:Zs
 aW:Zs
 aG:Zs
 aE:Zs
 aC:Zs
 aN:Zs
 rs:Zn
 ws:Zn
 gs:Zn
 cs:Zn
noncomputable def ft (L made:Int)(a:RA):List (Str×V):=[("letters",.int L),("made",.int made),("rows",↑a.aR),("ways",↑a.aW),("gaps",↑a.aG),("elders",↑a.aE),("called",↑a.aC),("went",↑a.aN)]
def He (L m n:Int)(a:RA):bJ "made" (.int n) (ft L m a)=ft L n a:=by
 let h:¬(("letters":Str)="made"):=⋯
 unfold ft;simp only[bJ,agT h,aj0]
def vE (L m:Int)(a:RA):(ft L m a).lookup ("letters":Str)\(.int L):=by kernel_rfl
def sS (L m:Int)(a:RA):(ft L m a).lookup ("made":Str)\(.int m):=by kernel_rfl
def sT (L m:Int)(a:RA):(ft L m a).lookup ("rows":Str)\↑a.aR:=by kernel_rfl
def iE (L m:Int)(a:RA):(ft L m a).lookup ("ways":Str)\↑a.aW:=by kernel_rfl
def sU (L m:Int)(a:RA):(ft L m a).lookup ("gaps":Str)\↑a.aG:=by kernel_rfl
def jq (L m:Int)(a:RA):(ft L m a).lookup ("elders":Str)\↑a.aE:=by kernel_rfl
def nF (L m:Int)(a:RA):(ft L m a).lookup ("called":Str)\↑a.aC:=by kernel_rfl
def sV (L m:Int)(a:RA):(ft L m a).lookup ("went":Str)\↑a.aN:=by kernel_rfl
def cL (L m:Int)(a:RA){x:Str}(h:x∉(["letters","made","rows","ways","gaps","elders","called","went"]:Zp)):(ft L m a).lookup x=none:=by
 simp only[agN,ahl,aiM,not_or]at h;let⟨i,f,e,c,j,g,d,b⟩:=h;unfold ft;simp only[List.lookup,agS.mpr i,agS.mpr f,agS.mpr e,agS.mpr c,agS.mpr j,agS.mpr g,agS.mpr d,agS.mpr b]
theorem dO:∀{fs:List (Str×V)},fs.lookup f=none->bJ f q fs=fs++[(f,q)]
 |[],_=>rfl
 |(g,x)::r,h=>by
  by_cases e:g=f
  ·cbv
  ·let a:(f==g)=false:=agS.mpr (ahQ e);simp only[List.lookup,a]at h;show (if g=f then _ else _)=_;rw[agT e,dO h];rfl
inductive mE:Dt->Prop where
 |i {n:Int}:mE (.i n)
 |s {l:Zh}:mE (.s l)
 |t {ds:List Dt}:⇑ds<=100000->(∀d∈ds,mE d)->mE (.t ds)
def bR.fT (p:∀a g,H a\.tup g->I a\.tup g){k:Nat}{v:V}{d:Dt}(h:bR H k v d)(m:mE d):bR I k v d:=by
 induction h with
 |i=>exact .i
 |s=>exact .s
 |n=>exact .n
 |b=>exact .b
 |t a b c e=>
  cases m with
  |t _ o=>exact .t (p^a) b λj v d q f=>e j v d q f (o d (agu f))
 |l a b c e=>ext m
def Each {a:Type}(R:Zs->a->Prop)(b:Zn)(xs:List a):Prop:=⇑b=⇑xs/\∀(i:Nat) (p:Zs) (x:a),b[i]?\p->xs[i]?\x->R p x
def Each.imp {e:Type}{R b:Zs->e->Prop}{a:List e}(h:Each R F a)(f:∀p x,p∈F->x∈a->R p x->b p x):Each b F a:=
 ⟨h.1,λi p x d c=>f p x (agu d) (agu c) (h.2 i p x d c)⟩
def Each.snoc {d:Type}{R:Zs->d->Prop}{ps:Zn}{xs:List d}{x:d}(h:Each R ps xs)(f:R a x):Each R (ps++[a]) (xs++[x]):=by
 rwa[⟨by rw[agw,agw,h.1];rfl,λi q y c b=>?_⟩];by_cases e:i<⇑ps
 ·rw[agF e]at c;rw[agF (by rw[<-h.1];rwa[e])]at b;rwa[h.2 i q y c b]
 ·rw[agI ∅]at c;rw[agI (by rw[<-h.1];omega)]at b;rw[agC.mp (agu c),agC.mp (agu b)];rwa[f]
theorem Each.at {a:Type}{R:Zs->a->Prop}{d:List a}(h:Each R F d){i:Nat}{x:a}(b:d[i]?\x):∃p,F[i]?\p/\R p x:=by
 let c:i<⇑F:=by rw[h.1];rwa[(agx.mp b).1]
 rwa[_,agv c,h.2 i _ x (agv c) b]
def Each.mem {c:Type}{R:Zs->c->Prop}{xs:List c}(h:Each R F xs){p:Zs}(d:p∈F):∃x,x∈xs/\R p x:=by
 let⟨i,a⟩:=ahc d;let b:i<⇑xs:=by rw[<-h.1];rwa[(agx.mp a).1]
 rwa[_,agu (agv b),h.2 i p _ a (agv b)]
def Each.set {d:Type}{R b:Zs->d->Prop}{xs:List d}{x:d}(h:Each R F xs)(g:F[i]?\a)(m:b a x)(l:F.Nodup)(f:∀q y,q∈F->q≠a->R q y->b q y):Each b F (xs.set i x):=by
 rwa[⟨[agZ]▸h.1,λj q y c k=>?_⟩];by_cases e:i=j
 ·cbv
 ·rw[ahV e]at k;rwa[f q y (agu c) (λz=>?_) (h.2 j q y c k)];subst z;rwa[e ((List.getElem?_inj (agx.mp g).1 l).mp (g.trans c.symm))]
noncomputable def RA.lists (a:RA):Zn:=a.aR::a.aW::a.aG::a.aE::a.aC::a.aN::a.cs
def RA.eJ (a:RA):Zn:=a.ws++a.gs
def RA.own (a:RA)(r b:Zs):Prop:=b=r\/b∈a.lists\/b∈a.eJ
structure ay (C:Zs) (H:Hp) (r:Zs) (S:RS) (a:RA):Prop where
 ins:H r\(.ins C a.dx (ft S.L S.made a))
 hR:H a.aR\(.lst (a.rs.map V.ref))
 hW:H a.aW\(.lst (a.ws.map V.ref))
 hG:H a.aG\(.lst (a.gs.map V.ref))
 hE:H a.aE\(.lst (ao (nI S.aV)))
 hC:H a.aC\(.lst (a.cs.map V.ref))
 hN:H a.aN\(.lst (ao (nI S.aY)))
 rR:Each (λp d=>bR H 4 ↑p d) a.rs S.rows
 rW:Each (λp l=>H p\.dK (wK l)) a.ws S.ways
 rG:Each (λp l=>H p\.dK (gK l)) a.gs S.gaps
 rC:Each (λp l=>H p\.lst (ao (nI l))) a.cs S.called
 flat:∀d∈S.rows,mE d
 iM:a.lists.Nodup
 mF:a.eJ.Nodup
section
variable {C:Zs}{H H':Hp}{r:Zs}{S:RS}{a:RA}
def ay.keep (h:ay C H r S a)(k:∀b o,a.own r b->H b\o->H' b\o)(l:∀b g,H b\.tup g->H' b\.tup g):ay C H' r S a:=by
 let c:∀b o,b∈a.lists->H b\o->H' b\o:=λb o f=>k b o (.inr (.inl f))
 let i:∀b o,b∈a.eJ->H b\o->H' b\o:=λb o f=>k b o (.inr (.inr f))
 rwa[k _ _ (.inl rfl) h.ins,c _ _ (by simp[RA.lists]) h.hR,c _ _ (by simp[RA.lists]) h.hW,c _ _ (by simp[RA.lists]) h.hG,c _ _ (by simp[RA.lists]) h.hE,c _ _ (by simp[RA.lists]) h.hC,c _ _ (by simp[RA.lists]) h.hN,h.rR.imp λp x _ j e=>e.fT l (h.flat x j),h.rW.imp λp x d _ e=>i _ _ (agU _ d) e,h.rG.imp λp x d _ e=>i _ _ (agB _ d) e,h.rC.imp λp x d _ e=>c _ _ (by simp[RA.lists,d]) e,h.flat,h.iM,h.mF]
def ay.same (h:ay C H r S a)(s:aq H H'):ay C H' r S a:=h.keep (λ_ _ _ e=>s^e) (λ_ _ e=>s^e)
def ay.there (h:ay C H r S a){b:Zs}(c:a.own r b):∃o,H b\o:=by
 rcases c with rfl|c|c
 ·rwa[⟨_,h.ins⟩]
 ·unfold RA.lists at c;simp only[agN]at c;rcases c with rfl|rfl|rfl|rfl|rfl|rfl|c
  ·rwa[⟨_,h.hR⟩]
  ·rwa[⟨_,h.hW⟩]
  ·rwa[⟨_,h.hG⟩]
  ·rwa[⟨_,h.hE⟩]
  ·rwa[⟨_,h.hC⟩]
  ·rwa[⟨_,h.hN⟩]
  ·let⟨x,_,e⟩:=h.rC.mem c;rwa[_,e]
 ·rcases agH.mp c with c|c
  ·let⟨x,_,e⟩:=h.rW.mem c;rwa[_,e]
  ·let⟨x,_,e⟩:=h.rG.mem c;rwa[_,e]
def ay.sW (h:ay C H r S a){b:Zs}{f:Zb}(e:H b\.tup f):¬a.own r b:=λc=>by
 rcases c with rfl|c|c
 ·rw[h.ins]at e;ext e
 ·unfold RA.lists at c;simp only[agN]at c;rcases c with rfl|rfl|rfl|rfl|rfl|rfl|c
  ·rw[h.hR]at e;ext e
  ·rw[h.hW]at e;ext e
  ·rw[h.hG]at e;ext e
  ·rw[h.hE]at e;ext e
  ·rw[h.hC]at e;ext e
  ·rw[h.hN]at e;ext e
  ·let⟨x,_,d⟩:=h.rC.mem c;cbv
 ·rcases agH.mp c with c|c
  ·let⟨x,_,d⟩:=h.rW.mem c;cbv
  ·let⟨x,_,d⟩:=h.rG.mem c;cbv
end
end L2
variable {S T:L2.RS}{O:L2.RA}
namespace L2
open PySem PySem.Spec PyProof.Rows
section
variable {C:Zs}{H:Hp}{r:Zs}{S:RS}{a:RA}
def fU:a.aR∈a.lists:=by simp[RA.lists]
def fV:a.aW∈a.lists:=by simp[RA.lists]
def i7:a.aG∈a.lists:=by simp[RA.lists]
def gL:a.aE∈a.lists:=by simp[RA.lists]
def iF:a.aC∈a.lists:=by simp[RA.lists]
def hJ:a.aN∈a.lists:=by simp[RA.lists]
def fZ (h:b∈a.cs):b∈a.lists:=by simp[RA.lists,h]
def dz (h:b∈a.ws):b∈a.eJ:=agU _ h
noncomputable def gb (h:b∈a.gs):b∈a.eJ:=agB _ h
def ay.Md (h:ay C H r S a){b:Zs}(c:b∈a.lists):∃d,H b\(.lst d):=by
 unfold RA.lists at c;simp only[agN]at c;rcases c with rfl|rfl|rfl|rfl|rfl|rfl|c
 ·rwa[⟨_,h.hR⟩]
 ·rwa[⟨_,h.hW⟩]
 ·rwa[⟨_,h.hG⟩]
 ·rwa[⟨_,h.hE⟩]
 ·rwa[⟨_,h.hC⟩]
 ·rwa[⟨_,h.hN⟩]
 ·let⟨x,_,e⟩:=h.rC.mem c;rwa[_,e]
def ay.qq (h:ay C H r S a){b:Zs}(c:b∈a.eJ):∃d,H b\(.dK d):=by
 rcases agH.mp c with c|c
 ·let⟨x,_,e⟩:=h.rW.mem c;rwa[_,e]
 ·let⟨x,_,e⟩:=h.rG.mem c;rwa[_,e]
def ay.rl (h:ay C H r S a){b:Zs}(c:b∈a.lists):r≠b:=by let⟨d,e⟩:=h.Md c;rwa[bX h.ins e (by cbv)]
def ay.rd (h:ay C H r S a){b:Zs}(c:b∈a.eJ):r≠b:=by let⟨d,e⟩:=h.qq c;rwa[bX h.ins e (by cbv)]
def ay.ld (h:ay C H r S a){b c:Zs}(d:b∈a.lists)(hc:c∈a.eJ):b≠c:=by
 let⟨f,e⟩:=h.Md d;let⟨ys,g⟩:=h.qq hc
 cbv
def ay.tl (h:ay C H r S a){b c:Zs}{e:Zb}(d:H b\.tup e)(hc:c∈a.lists):b≠c:=λz=>h.sW d (.inr (.inl ([z]▸hc)))
def ay.td (h:ay C H r S a){b c:Zs}{e:Zb}(d:H b\.tup e)(hc:c∈a.eJ):b≠c:=λz=>h.sW d (.inr (.inr ([z]▸hc)))
def ay.tr (h:ay C H r S a){b:Zs}{d:Zb}(c:H b\.tup d):b≠r:=λz=>h.sW c (.inl z)
def ay.Oc (h:ay C H r S a)(n:Nat):ay C (upd H r (.ins C a.dx (ft S.L n a))) r { S with made:=n } a:=by
 let c:∀b o,b∈a.lists->H b\o->upd H r (.ins C a.dx (ft S.L n a)) b\o:=λb o f e=>by rw[ak (h.rl f).symm];rwa[e]
 let g:∀b o,b∈a.eJ->H b\o->upd H r (.ins C a.dx (ft S.L n a)) b\o:=λb o f e=>by rw[ak (h.rd f).symm];rwa[e]
 rwa[ah,c _ _ fU h.hR,c _ _ fV h.hW,c _ _ i7 h.hG,c _ _ gL h.hE,c _ _ iF h.hC,c _ _ hJ h.hN,h.rR.imp λp x _ j e=>e.fT (λb k i=>[ak (h.tr i)]▸i) (h.flat x j),h.rW.imp λp x d _ e=>g _ _ (dz d) e,h.rG.imp λp x d _ e=>g _ _ (gb d) e,h.rC.imp λp x d _ e=>c _ _ (fZ d) e,h.flat,h.iM,h.mF]
def ay.jr (h:ay C H r S a){q:Zs}{o:HO}(c:q∈a.lists):upd H q o r\.ins C a.dx (ft S.L S.made a)/\(∀b x,b∈a.lists->b≠q->H b\x->upd H q o b\x)/\(∀b x,b∈a.eJ->H b\x->upd H q o b\x)/\∀b d,H b\.tup d->upd H q o b\(.tup d):=
 ⟨[ak (h.rl c)]▸h.ins,λb x _ n e=>[ak n]▸e,λb x f e=>[ak (h.ld c f).symm]▸e,λb d e=>[ak (h.tl e c)]▸e⟩
def vF (b:a.lists.Nodup):(a.aR≠a.aW/\a.aR≠a.aG/\a.aR≠a.aE/\a.aR≠a.aC/\a.aR≠a.aN)/\(a.aW≠a.aG/\a.aW≠a.aE/\a.aW≠a.aC/\a.aW≠a.aN)/\(a.aG≠a.aE/\a.aG≠a.aC/\a.aG≠a.aN)/\(a.aE≠a.aC/\a.aE≠a.aN)/\a.aC≠a.aN/\∀p∈a.cs,p≠a.aR/\p≠a.aW/\p≠a.aG/\p≠a.aE/\p≠a.aC/\p≠a.aN:=by
 unfold RA.lists at b
 cbv
def ay.Ay (h:ay C H r S a){p:Zs}{d:Dt}(n:bR H 4 ↑p d)(hd:mE d):ay C (upd H a.aR (.lst (a.rs.map V.ref++[↑p]))) r { S with rows:=S.rows++[d] } { a with rs:=a.rs++[p] }:=by
 let⟨m,b,g,i⟩:=h.jr (o:=.lst (a.rs.map V.ref++[↑p])) (fU (a:=a));obtain⟨⟨n1,n2,k,l,s⟩,-,-,-,-,j⟩:=vF h.iM
 rwa[⟨m,5,b _ _ fV n1.symm h.hW,b _ _ i7 n2.symm h.hG,b _ _ gL k.symm h.hE,b _ _ iF l.symm h.hC,b _ _ hJ s.symm h.hN,(h.rR.imp λq x _ c e=>e.fT i (h.flat x c)).snoc (n.fT i hd),h.rW.imp λq x f _ e=>g _ _ (dz f) e,h.rG.imp λq x f _ e=>g _ _ (gb f) e,h.rC.imp λq x f _ e=>b _ _ (fZ f) (j q f).1 e,λx c=>?_,h.iM,h.mF⟩]
 ·rw[ah,ag6];rfl
 ·rcases agH.mp c with c|c
  ·rwa[h.flat x c]
  cbv
def ay.Q9 (h:ay C H r S a){p:Zs}{l:List (Int×Nat)}(f:H p\.dK (wK l))(t:p∉a.eJ):ay C (upd H a.aW (.lst (a.ws.map V.ref++[↑p]))) r { S with ways:=S.ways++[l] } { a with ws:=a.ws++[p] }:=by
 let⟨j,b,g,i⟩:=h.jr (o:=.lst (a.ws.map V.ref++[↑p])) (fV (a:=a));obtain⟨⟨n1,-⟩,⟨n2,n,k,s⟩,-,-,-,u⟩:=vF h.iM;let d:upd H a.aW (.lst (a.ws.map V.ref++[↑p])) p\(.dK (wK l)):=by rw[ak (bX f h.hW (by cbv))];rwa[f]
 erw[j,b _ _ fU n1 h.hR,5,b _ _ i7 n2.symm h.hG,b _ _ gL n.symm h.hE,b _ _ iF k.symm h.hC,b _ _ hJ s.symm h.hN,h.rR.imp λq x _ m e=>e.fT i (h.flat x m),(h.rW.imp λq x c _ e=>g _ _ (dz c) e).snoc d,h.rG.imp λq x c _ e=>g _ _ (gb c) e,h.rC.imp λq x c _ e=>b _ _ (fZ c) (u q c).2.1 e,h.flat,h.iM]
 ·rw[ah,ag6];rfl
 ·show (a.ws++[p]++a.gs).Nodup;rw[ahq];rwa[(List.perm_middle.nodup_iff).mpr (ahb.mpr ⟨t,h.mF⟩)]
def ay.Rb (h:ay C H r S a){p:Zs}{l:Zg}(g:H p\.dK (gK l))(u:p∉a.eJ):ay C (upd H a.aG (.lst (a.gs.map V.ref++[↑p]))) r { S with gaps:=S.gaps++[l] } { a with gs:=a.gs++[p] }:=by
 let⟨m,b,i,k⟩:=h.jr (o:=.lst (a.gs.map V.ref++[↑p])) (i7 (a:=a));obtain⟨⟨-,n1,-⟩,⟨n2,-⟩,⟨s,n,t⟩,-,-,v⟩:=vF h.iM;let f:upd H a.aG (.lst (a.gs.map V.ref++[↑p])) p\(.dK (gK l)):=by rw[ak (bX g h.hG (by cbv))];rwa[g]
 erw[m,b _ _ fU n1 h.hR,b _ _ fV n2 h.hW,5,b _ _ gL s.symm h.hE,b _ _ iF n.symm h.hC,b _ _ hJ t.symm h.hN,h.rR.imp λq x _ d e=>e.fT k (h.flat x d),h.rW.imp λq x c _ e=>i _ _ (dz c) e,(h.rG.imp λq x c _ e=>i _ _ (gb c) e).snoc f,h.rC.imp λq x c _ e=>b _ _ (fZ c) (v q c).2.2.1 e,h.flat,h.iM]
 ·rw[ah,ag6];rfl
 ·show (a.ws++(a.gs++[p])).Nodup;rw[<-ahq];rwa[ahD.mpr ⟨h.mF,by simp,λx d y j z=>?_⟩];rw[agC.mp j]at z;rwa[u (z ▸ d)]
def ay.yJ (h:ay C H r S a)(d:Zh):ay C (upd H a.aE (.lst (ao (nI d)))) r { S with aV:=d } a:=by
 let⟨m,b,f,l⟩:=h.jr (o:=.lst (ao (nI d))) (gL (a:=a));obtain⟨⟨-,-,n1,-⟩,⟨-,n2,-⟩,⟨i,-⟩,⟨j,n⟩,-,g⟩:=vF h.iM
 rwa[m,b _ _ fU n1 h.hR,b _ _ fV n2 h.hW,b _ _ i7 i h.hG,ah,b _ _ iF j.symm h.hC,b _ _ hJ n.symm h.hN,h.rR.imp λq x _ k e=>e.fT l (h.flat x k),h.rW.imp λq x c _ e=>f _ _ (dz c) e,h.rG.imp λq x c _ e=>f _ _ (gb c) e,h.rC.imp λq x c _ e=>b _ _ (fZ c) (g q c).2.2.2.1 e,h.flat,h.iM,h.mF]
def ay.Od (h:ay C H r S a)(d:Zh):ay C (upd H a.aN (.lst (ao (nI d)))) r { S with aY:=d } a:=by
 let⟨m,b,f,l⟩:=h.jr (o:=.lst (ao (nI d))) (hJ (a:=a));obtain⟨⟨-,-,-,-,n1⟩,⟨-,-,-,n2⟩,⟨-,-,i⟩,⟨-,j⟩,n,g⟩:=vF h.iM
 rwa[m,b _ _ fU n1 h.hR,b _ _ fV n2 h.hW,b _ _ i7 i h.hG,b _ _ gL j h.hE,b _ _ iF n h.hC,ah,h.rR.imp λq x _ k e=>e.fT l (h.flat x k),h.rW.imp λq x c _ e=>f _ _ (dz c) e,h.rG.imp λq x c _ e=>f _ _ (gb c) e,h.rC.imp λq x c _ e=>b _ _ (fZ c) (g q c).2.2.2.2.2 e,h.flat,h.iM,h.mF]
def ay.Hf (h:ay C H r S a){p:Zs}{l:Zh}(k:H p\.lst (ao (nI l)))(u:p∉a.lists):ay C (upd H a.aC (.lst (a.cs.map V.ref++[↑p]))) r { S with called:=S.called++[l] } { a with cs:=a.cs++[p] }:=by
 let⟨m,b,i,j⟩:=h.jr (o:=.lst (a.cs.map V.ref++[↑p])) (iF (a:=a));obtain⟨⟨-,-,-,n1,-⟩,⟨-,-,n2,-⟩,⟨-,s,-⟩,⟨n,-⟩,t,v⟩:=vF h.iM;let f:p≠a.aC:=λz=>u ([z]▸iF)
 let d:upd H a.aC (.lst (a.cs.map V.ref++[↑p])) p\(.lst (ao (nI l))):=by rw[ak f];rwa[k]
 rwa[⟨m,b _ _ fU n1 h.hR,b _ _ fV n2 h.hW,b _ _ i7 s h.hG,b _ _ gL n h.hE,5,b _ _ hJ t.symm h.hN,h.rR.imp λq x _ g e=>e.fT j (h.flat x g),h.rW.imp λq x c _ e=>i _ _ (dz c) e,h.rG.imp λq x c _ e=>i _ _ (gb c) e,(h.rC.imp λq x c _ e=>b _ _ (fZ c) (v q c).2.2.2.2.1 e).snoc d,h.flat,5,h.mF⟩]
 ·rw[ah,ag6];rfl
 ·rwa[ahD.mpr ⟨h.iM,by simp,λx g y w z=>?_⟩]
  cbv
def ay.Hg (h:ay C H r S a){i:Nat}{p:Zs}(g:a.cs[i]?\p)(l:Zh):ay C (upd H p (.lst (ao (nI l)))) r { S with called:=S.called.set i l } a:=by
 let f:=agu g;let⟨m,b,j,k⟩:=h.jr (o:=.lst (ao (nI l))) (fZ f);obtain⟨-,-,-,-,-,z⟩:=vF h.iM;let⟨n1,n2,u,s,v,w⟩:=z p f
 let d:a.cs.Nodup:=by
  have:=h.iM;unfold RA.lists at this;simp only[ahb]at this;rwa[this.2.2.2.2.2.2]
 rwa[m,b _ _ fU n1.symm h.hR,b _ _ fV n2.symm h.hW,b _ _ i7 u.symm h.hG,b _ _ gL s.symm h.hE,b _ _ iF v.symm h.hC,b _ _ hJ w.symm h.hN,h.rR.imp λq x _ t e=>e.fT k (h.flat x t),h.rW.imp λq x c _ e=>j _ _ (dz c) e,h.rG.imp λq x c _ e=>j _ _ (gb c) e,h.rC.set g ah d λq y c n e=>b _ _ (fZ c) n e,h.flat,h.iM,h.mF]
def ay.DV (h:ay C H r S a){q:Zs}{o:HO}(c:q∈a.eJ):upd H q o r\.ins C a.dx (ft S.L S.made a)/\(∀b x,b∈a.eJ->b≠q->H b\x->upd H q o b\x)/\(∀b x,b∈a.lists->H b\x->upd H q o b\x)/\∀b d,H b\.tup d->upd H q o b\(.tup d):=
 ⟨[ak (h.rd c)]▸h.ins,λb x _ n e=>[ak n]▸e,λb x f e=>[ak (h.ld f c)]▸e,λb d e=>[ak (h.td e c)]▸e⟩
def ay.Az (h:ay C H r S a){i:Nat}{p:Zs}(f:a.ws[i]?\p)(l:List (Int×Nat)):ay C (upd H p (.dK (wK l))) r { S with ways:=S.ways.set i l } a:=by
 let d:=agu f;let⟨k,g,b,j⟩:=h.DV (o:=.dK (wK l)) (dz d);let nd:=ahD.mp h.mF
 rwa[k,b _ _ fU h.hR,b _ _ fV h.hW,b _ _ i7 h.hG,b _ _ gL h.hE,b _ _ iF h.hC,b _ _ hJ h.hN,h.rR.imp λq x _ m e=>e.fT j (h.flat x m),h.rW.set f ah nd.1 λq y c n e=>g _ _ (dz c) n e,h.rG.imp λq x c _ e=>g _ _ (gb c) (λz=>nd.2.2 p d q c z.symm) e,h.rC.imp λq x c _ e=>b _ _ (fZ c) e,h.flat,h.iM,h.mF]
def ay.Rc (h:ay C H r S a){i:Nat}{p:Zs}(f:a.gs[i]?\p)(l:Zg):ay C (upd H p (.dK (gK l))) r { S with gaps:=S.gaps.set i l } a:=by
 let d:=agu f;let⟨k,g,b,j⟩:=h.DV (o:=.dK (gK l)) (gb d);let nd:=ahD.mp h.mF
 rwa[k,b _ _ fU h.hR,b _ _ fV h.hW,b _ _ i7 h.hG,b _ _ gL h.hE,b _ _ iF h.hC,b _ _ hJ h.hN,h.rR.imp λq x _ m e=>e.fT j (h.flat x m),h.rW.imp λq x c _ e=>g _ _ (dz c) (λz=>nd.2.2 q c p d z) e,h.rG.set f ah nd.2.1 λq y c n e=>g _ _ (gb c) n e,h.rC.imp λq x c _ e=>b _ _ (fZ c) e,h.flat,h.iM,h.mF]
end
noncomputable def RS.j8 (S:RS)(i:Nat)(l:List (Int×Nat)):RS:={ S with ways:=S.ways.set i l }
noncomputable def RS.setG (S:RS)(i:Nat)(l:Zg):RS:={ S with gaps:=S.gaps.set i l }
def RS.way (S:RS)(c:Nat):List (Int×Nat):=S.ways.getD c []
def RS.gap (S:RS)(c:Nat):Zg:=S.gaps.getD c []
def RS.by (S:RS)(c:Nat)(z:Int):Zi:=fq (S.way c) z
def RS.b6 (S:RS)(c:Nat)(z:Int)(d:Nat):RS:=S.j8 c (iS (S.way c) z d)
def RS.lL (S:RS)(c:Nat)(z:Int):RS:=S.setG c ((S.gap c).filter λx=>decide (x≠z))
def RS.keep (S:RS)(c:Nat)(z:Int)(d:Nat):RS:=(((S.b6 c z d).b6 d (-z) c).lL c z).lL d (-z)
def qZ (c:Nat)(z:Int)(n:Nat):Dt:=.t [.s [110,101,119],.i c,.i z,.i n]
noncomputable def RS.grown (S:RS)(c:Nat)(z:Int)(gaps:Zg):RS:={ S with made:=S.made+ 1,rows:=S.rows++[qZ c z S.made],ways:=S.ways++[[]],gaps:=S.gaps++[gaps],aV:=S.aV++[S.made],called:=S.called++[[S.made]] }
def RS.make (S:RS)(c:Nat)(z:Int)(gaps:Zg):RS:=(S.grown c z gaps).keep c z S.made
noncomputable def RS.new (L:Nat)(gaps:Zg):RS:=⟨L,(1),[],[[]],[gaps],[0],[[0]],[]⟩
structure RS.Wf (S:RS):Prop where
 w:⇑S.ways=S.made
 g:⇑S.gaps=S.made
 e:⇑S.aV=S.made
 c:⇑S.called=S.made
section
variable {X:Cx}{e:Expr}{f:Str}{ta:TE}{pos:Pos}
def Oe (b:X.K=K)(c:PE X e ta)(a:attributeBase e f X.env (eval e X.env)=eval e X.env):PE X (.Attribute e f pos) (Ql K ta f):=by
 subst b;rwa[aF c a]
end
theorem kO {J:It}{o:TE}{Q:VK}(n:Nat)(q:Nat->V)(R:Hp->V->Nat->Prop)(z:∀u b v i,aq u b->R u v i->R b v i)(s:n<=sizeLine)
 (k:∀(i:Nat) b,aq H b->i<n->J.go i b) (A:∀(i:Nat) (x:V) (b d:Hp),aq H b->i<n->J.ml i b x d->d=b/\x=q i) (g:∀b,aq H b->J.stop n b)
 (E:∀(i:Nat) (b:Hp) (y:VK),i<n->aq H b->(∀v d,aq b d->R d v i->y v d)->o (some (q i)::D) b y)
 (B:∀a b ys,aq H b->b a=none->⇑ys=n->(∀(i:Nat) (v:V),ys[i]?\v->R b v i)->Q ↑a (upd b a (.lst ys))):qV o D Q J H:=by
 erw[λi m ys b=>m=n - i/\i<=n/\⇑ys=i/\aq H b/\∀(j:Nat) (v:V),ys[j]?\v->R b v j,⟨n,by simp,agW _,2,λ_ _ e=>e,λj v h=>by simp at h⟩];rintro i m ys b ⟨rfl,M,r,s2,p⟩;by_cases c:i<n
 ·rwa[.inr ⟨k i b s2 c,3,λx d l=>?_⟩];let⟨rfl,rfl⟩:=A i x b d s2 c l;rwa[E i _ _ c s2 λv L t G=>⟨n - (i+ 1),32,c,by rw[agw,r];rfl,s2.trans t,λj w f=>?_⟩]
  by_cases C:j<⇑ys
  ·rw[agF C]at f;rwa[z _ _ _ _ t (p j w f)]
  ·rw[agI ∅]at f
   let F:j - ⇑ys=0:=by
    have:=(agx.mp f).1;rw[ahI]at this;ext
   rw[F]at f;have:j=i:=∅
   subst this;rw[<-Za0 f];rwa[G]
 ·let e:i=n:=∅
  subst e;rwa[.inl ⟨g b s2,3,λa I=>B a b ys s2 I r p⟩]
theorem sX {P:Nat->Zs->Prop}:∀(ys:Zb) (k:Nat),(∀(i:Nat) (v:V),ys[i]?\v->∃p,v=↑p/\P (k+ i) p)->∃a:Zn,ys=a.map V.ref/\∀(i:Nat) (p:Zs),a[i]?\p->P (k+ i) p
 |[],_,_=>⟨[],2,λi p h=>by simp at h⟩
 |v::ys,k,h=>by
  let⟨p,rfl,f⟩:=h 0 v rfl
  let⟨a,rfl,c⟩:=sX (P:=P) ys (k+ 1) λi w b=>by
   let⟨q,e,d⟩:=h (i+ 1) w (by simpa using b)
   cbv
  rwa[⟨p::a,2,λi q d=>?_⟩]
  cases i with
  |zero=>cbv
  |succ i=>
   cbv
theorem jt {f:Str}{v:V}{n:Nat}:∀{fs:List (Str×V)},⇑fs<=n->⇑(bJ f v fs)<=n+ 1
 |[],h=>by show 1<=n+ 1;ext
 |(g,x)::r,h=>by
  show ⇑(if g=f then (g,v)::r else (g,x)::bJ f v r)<=n+ 1;rw[agV]at h;split
  ·rw[agV];ext
  ·have:=jt (f:=f) (v:=v) (n:=n - 1) (fs:=r) ∅;rw[agV];ext
def qu (K:Za1):PySem.W.kitOne K (.type "int") (.type "tuple")\false:=by first|rfl|kernel_rfl
def q9 (K:Za1):PySem.W.kitOne K (.type "int") (.type "list")\false:=by first|rfl|kernel_rfl
def rh (K:Za1):PySem.W.kitOne K (.type "int") (.type "dict")\false:=by first|rfl|kernel_rfl
def qv (K:Za1):PySem.W.kitOne K (.type "str") (.type "tuple")\false:=by first|rfl|kernel_rfl
def ri (K:Za1):PySem.W.kitOne K (.type "str") (.type "list")\false:=by first|rfl|kernel_rfl
def rj (K:Za1):PySem.W.kitOne K (.type "str") (.type "dict")\false:=by first|rfl|kernel_rfl
theorem rn:∀{d:List DictEntry} {f:List (Key×Zt)} {c:List (Key×V)},Pairs (bQ P w) d f->KV c f->Vals (c.map λh=>kV h.1) (d.map (·.key))
 |[],_,_,.nil,r=>by ext r;rwa[.nil]
 |e::d,_,_,.cons i j g,r=>by
  cases r with
  |cons a b=>
   rw[ahK,ahK];rwa[.cons ?_ (rn g b)];rw[a.1];rwa[N9 i]
theorem pairs_len:∀{b:List DictEntry} {a:List (Key×Zt)},Pairs (bQ P w) b a->⇑b=⇑a
 |_,_,.nil=>rfl
 |_,_,.cons _ _ h=>by rw[agV,agV,pairs_len h]
section
variable {X:Cx}
inductive Hh (xs:Zb) (H:Hp) (Q:VK):Prop
 |mk (d:Zs) (kvs:List (Key×V)):xs=[↑d]->H d\.dK kvs->(∀l,H l=none->Q ↑l (upd H l (.lst (kvs.map λkv=>kV kv.1))))->Hh xs H Q
def jO (O:X.calm=true):i6 X (.type "list") Hh:=by
 intro p s T H V P Q I r h;let⟨d,c,rfl,F,q⟩:=h;let⟨u,rfl,z⟩:=vals1 r;ext z;let⟨D,k,G,rel,o,j,S,A,m,e,U,t,W⟩:=sN I.aO F;let hlen:⇑c=⇑G:=⇑rel;let n:=pairs_len t;let x:j.size=⇑c:=by rw[<-aie,n,hlen]
 rwa[Dk.G8 (I.ok.hd O) k ⟨o,A,m,e⟩ ∅ λM y a J l f b=>?_]
 let E:a.toList=j.toList.map (·.key):=by
  rwa[aif λi=>?_]
  rw[aje,agR,aje]
  cases g:a[i]? with
  |none=>
   let B:j.size<=i:=by
    let w:a.size<=i:=Array.getElem?_eq_none_iff.mp g;rw[b.1]at w;rwa[w]
   rw[ajW B];rfl
  |some v=>
   let⟨Y,L,rfl⟩:=b.2 i v g;rw[L];rfl
 let N:a=(j.toList.map (·.key)).toArray:=by rw[<-E]
 rw[N]at f;let g:=rn t rel;rwa[↑↥s,_,I.laid (t':=y) l (agA _) (show bV X.prog X.w _ M _ (.lst (c.map λC=>kV C.1)) from ⟨[agy]▸D,_,J,g,f⟩),2,q _ (I.aO.fresh (agA _))]
end
section
variable {C:Zs}{H:Hp}{r:Zs}{S:RS}{a:RA}
def ay.Rf (h:ay C H r S a){i:Nat}(n:i<⇑a.ws){q:Zs}{l:List (Int×Nat)}(f:H q\.dK (wK l))(v:q∉a.eJ):ay C (upd H a.aW (.lst ((a.ws.map V.ref).set i ↑q))) r { S with ways:=S.ways.set i l } { a with ws:=a.ws.set i q }:=by
 let⟨F,g,A,B⟩:=h.jr (o:=.lst ((a.ws.map V.ref).set i ↑q)) (fV (a:=a));obtain⟨⟨n1,-⟩,⟨n2,N,G,O⟩,-,-,-,Q⟩:=vF h.iM;let k:upd H a.aW (.lst ((a.ws.map V.ref).set i ↑q)) q\(.dK (wK l)):=by rw[ak (bX f h.hW f!"")];rwa[f]
 let nd:=ahD.mp h.mF
 erw[F,g _ _ fU n1 h.hR,5,g _ _ i7 n2.symm h.hG,g _ _ gL N.symm h.hE,g _ _ iF G.symm h.hC,g _ _ hJ O.symm h.hN,h.rR.imp λq x _ d e=>e.fT B (h.flat x d),5,h.rG.imp λq x f _ e=>A _ _ (gb f) e,h.rC.imp λq x f _ e=>g _ _ (fZ f) (Q q f).2.1 e,h.flat,h.iM]
 ·show upd H a.aW _ a.aW\.lst ((a.ws.set i q).map V.ref);rw[ah,List.map_set]
 ·rwa[⟨by show ⇑(a.ws.set i q)=⇑(S.ways.set i l);rw[agZ,agZ];rwa[h.rW.1],λj p x P D=>?_⟩];let b:(a.ws.set i q)[j]?\p:=P
  let c:(S.ways.set i l)[j]?\x:=D
  by_cases z:i=j
  ·subst z;rw[ahs n]at b;rw[ahs (by rw[<-h.rW.1];rwa[n])]at c;obtain rfl:=Za0 b;obtain rfl:=Za0 c;rwa[k]
  ·rw[ahV z]at b c;rwa[A _ _ (dz (agu b)) (h.rW.2 j p x b c)]
 ·show (a.ws.set i q++a.gs).Nodup;let I:q∉a.ws:=λz=>v (agU _ z)
  let w:q∉a.gs:=λz=>v (agB _ z)
  rwa[ahD.mpr ⟨5,nd.2.1,λx d y m z=>?_⟩]
  ·have:∀(l:Zn) (i:Nat),l.Nodup->q∉l->(l.set i q).Nodup:=by
    intro l
    induction l with
    |nil=>intro i _ _;simp
    |cons x l E=>
     intro i L s;let⟨J,t⟩:=ahb.mp L;let M:q≠x:=λz=>s ([z]▸agM)
     let u:q∉l:=λz=>s (ag3 _ z)
     cases i with
     |zero=>exact ahb.mpr ⟨u,t⟩
     |succ i=>
      rwa[ahb.mpr ⟨λz=>?_,E i t u⟩];rcases aiP z with z|z
      ·rwa[J z]
      ·rwa[M z.symm]
   rwa[this a.ws i nd.1 I]
  ·rcases aiP d with d|d
   ·rwa[nd.2.2 x d y m z]
   ·rw[<-d,z]at w;rwa[w m]
end
def Og (l:List (Int×Nat))(s:Int):e8 (wK l) (Sum.inl s)=wK (l.filter λp=>decide (p.1≠s)):=by
 unfold e8 wK;rw[List.filter_map]
 congr 1
 rwa[aj4 λx _=>?_]
 cbv
def Hi (l:List (Int×Nat))(s t:Int):fq (l.filter λp=>decide (p.1≠s)) t=if t=s then none else fq l t:=by
 induction l with
 |nil=>split <;> rfl
 |cons p l a=>
  let b:∀(q:Int×Nat) (m:List (Int×Nat)),fq (q::m) t=if q.1=t then some q.2 else fq m t:=λq m=>by
   unfold fq
   cbv
  cbv
abbrev Way:=Nat×Int×Nat
abbrev Ze:=List Way
def RS.av (S:RS)(c:Nat):Nat:=S.aV.getD c 0
def RS.b8 (S:RS)(c:Nat):Zh:=S.called.getD c []
def gX (c:Nat)(z:Int)(x y:Nat):Dt:=.t [.s [109,101,101,116],.i c,.i z,.i x,.i y]
noncomputable def RS.joined (S:RS)(c:Nat)(z:Int)(x y:Nat):RS:=
 { S with rows:=S.rows++[gX c z x y],aY:=S.aY++[y],aV:=(S.b8 y).foldl (λa n=>a.set n x) S.aV,called:=S.called.set x (S.b8 x++S.b8 y) }
def RS.oN (S:RS)(c:Nat)(z:Int):RS:=S.j8 c ((S.way c).filter λp=>decide (p.1≠z))
def ju (c:Nat)(st:RS×Ze)(p:Int×Nat):RS×Ze:=(if p.2≠c then st.1.oN p.2 (-p.1) else st.1,st.2++[(c,p.1,p.2)])
def RS.oO (S:RS)(c:Nat)(a:Ze):RS×Ze:=(S.way c).foldl (ju c) (S.j8 c [],a)
def RS.meet (S:RS)(c:Nat)(z:Int)(x y:Nat)(a:Ze):RS×Ze:=(S.joined c z (min x y) (max x y)).oO (max x y) a
def RS.takeIn (S:RS)(a:Ze)(w:Way):RS×Ze:=
 if (S.by (S.av w.1) w.2.1).getD (S.av w.2.2)≠S.av w.2.2 then S.meet (S.av w.1) w.2.1 ((S.by (S.av w.1) w.2.1).getD (S.av w.2.2)) (S.av w.2.2) a
 else if (S.by (S.av w.2.2) (-w.2.1)).getD (S.av w.1)≠S.av w.1 then S.meet (S.av w.2.2) (-w.2.1) ((S.by (S.av w.2.2) (-w.2.1)).getD (S.av w.1)) (S.av w.1) a
 else (S.keep (S.av w.1) w.2.1 (S.av w.2.2),a)
structure Fu (S:RS) (c:Nat):Prop where
 nd:((S.way c).map (·.1)).Nodup
 lt:∀q∈S.way c,q.2<S.made
 bk:∀q∈S.way c,q.2≠c->(S.by q.2 (-q.1)).isSome=true
def je {l:List (Int×Nat)}(a:n<⇑S.ways):(S.j8 n l).way m=if m=n then l else S.way m:=by
 unfold RS.j8 RS.way
 cbv
def jv (a:n<⇑S.ways):(S.b6 n z i).by m y=if m=n/\y=z then some i else S.by m y:=by
 unfold RS.b6 RS.by;rw[je a];by_cases h:m=n
 ·subst h;rw[agX rfl,JV]
  cbv
 cbv
def Fv (a:n<⇑S.ways):(S.oN n z).by m y=if m=n/\y=z then none else S.by m y:=by
 unfold RS.oN RS.by;rw[je a];by_cases h:m=n
 ·subst h;rw[agX rfl,Hi]
  cbv
 ·rw[agT h,agT (λq=>h q.1)]
def Oh {l:List (Int×Nat)}(a:n<⇑S.ways):(S.j8 n l).by m z=if m=n then fq l z else S.by m z:=by
 unfold RS.by;rw[je a];split <;> rfl
def cZ (c:Nat)(S:RS)(a:Ze)(b:List (Int×Nat)):RS×Ze:=b.foldl (ju c) (S.j8 c [],a)
def ie (c:Nat)(S:RS)(a:Ze)(b:List (Int×Nat))(p:Int×Nat):cZ c S a (b++[p])=ju c (cZ c S a b) p:=by unfold cZ;cbv
theorem snoc_ind {b:Type}{P:List b->Prop}(f:P [])(d:∀l x,P l->P (l++[x])):∀l,P l:=λl=>by
 have:∀n (l:List b),⇑l=n->P l:=by
  intro n
  induction n with
  |zero=>cbv
  |succ n c=>
   intro l e;let a:l≠[]:=λz=>by rw[z]at e;ext e
   rw[<-aiu a];rwa[d^(c _ (by rw[List.length_dropLast];omega))]
 rwa[this _ l rfl]
def yK (c:Nat)(S:RS)(a:Ze):∀b:List (Int×Nat),(cZ c S a b).2=a++b.map λp=>(c,p.1,p.2):=by
 rwa[snoc_ind (by simp[cZ]) λb p d=>?_]
 rw[ie];show (cZ c S a b).2++_=_
 cbv
def gF (c:Nat)(S:RS)(a:Ze):∀b:List (Int×Nat),(cZ c S a b).1.ways.length=⇑S.ways/\(cZ c S a b).1={ S with ways:=(cZ c S a b).1.ways }:=by
 rwa[snoc_ind ⟨by simp[cZ,RS.j8],2⟩ λb p d=>?_]
 rw[ie];unfold ju;by_cases h:p.2≠c
 ·simp only[h,aj0,ai0,ne_eq];erw[5]
  ·show ⇑(List.set^_)=_;rw[agZ];rwa[d.1]
  ·unfold RS.oN RS.j8;rw[d.2]
 ·simp only[h,ajo];rwa[d]
def xM {c:Ze}(m:n<⇑S.ways):∀f:List (Int×Nat),(∀q∈f,q.2<⇑S.ways)->∀d z,(cZ n S c f).1.by d z=if d=n\/∃q∈f,q.2=d/\z= -q.1 then none else S.by d z:=by
 rwa[snoc_ind (λ_ d z=>?_) λf p j i d z=>?_]
 ·show (S.j8 n []).by d z=_;rw[Oh m];by_cases h:d=n
  ·rw[agX h,agX (.inl h)];rfl
  cbv
 ·let g:=j (λq a=>i q (agU _ a)) d z;let k:=i p (agB _ agM);rw[ie];unfold ju;by_cases h:p.2≠n
  ·simp only[h,aj0,ai0,ne_eq];rw[Fv ([(gF n S c f).1]▸k),g];by_cases e:d=p.2/\z= -p.1
   ·rw[agX e,agX (.inr ⟨p,agB _ agM,e.1.symm,e.2⟩)]
   ·rw[agT e];by_cases b:d=n\/∃q∈f,q.2=d/\z= -q.1
    ·rw[agX b,agX (b.imp id λζ=>by let⟨q,a,r⟩:=ζ;rwa[⟨q,agU _ a,r⟩])]
    ·rw[agT b,agT];rintro (q|⟨q,a,r⟩)
     ·rwa[b (.inl q)]
     ·rcases agH.mp a with a|a
      ·rwa[b (.inr ⟨q,a,r⟩)]
      ·rw[agC.mp a]at r;rwa[e ⟨r.1.symm,r.2⟩]
  ·simp only[h,ajo];rw[g];let l:p.2=n:=ajq.mp h;by_cases b:d=n\/∃q∈f,q.2=d/\z= -q.1
   ·rw[agX b,agX (b.imp id λζ=>by let⟨q,a,r⟩:=ζ;rwa[⟨q,agU _ a,r⟩])]
   ·rw[agT b,agT];rintro (q|⟨q,a,r⟩)
    ·rwa[b (.inl q)]
    ·rcases agH.mp a with a|a
     ·rwa[b (.inr ⟨q,a,r⟩)]
     ·rw[agC.mp a]at r;rwa[b (.inl (r.1.symm.trans l))]
inductive Cg (R:Za2):Nat->Nat->Prop where
 |refl (a:Nat):Cg R a a
 |symm {a b:Nat}:Cg R a b->Cg R b a
 |trans {a b c:Nat}:Cg R a b->Cg R b c->Cg R a c
 |step {a a' b b':Nat} {z:Int}:R a z b->R a' z b'->Cg R a a'->Cg R b b'
def Cg.mono {e:Za2}(h:∀a z b,R a z b->e a z b){a b:Nat}(c:Cg R a b):Cg e a b:=by
 induction c with
 |refl=>exact .refl _
 |symm _ d=>exact .symm d
 |trans _ _ f g=>exact .trans f g
 |step r1 r2 _ d=>exact .step (h _ _ _ r1) (h _ _ _ r2) d
def Im (S:RS)(R:Za2)(c:Nat)(z:Int)(d:Nat):Prop:=∃a b,R a z b/\S.av a=c/\S.av b=d
def iN (S:RS)(a:Ze)(c:Nat)(z:Int)(d:Nat):Prop:=S.by c z=some d\/∃w∈a,(S.av w.1=c/\w.2.1=z/\S.av w.2.2=d)\/(S.av w.1=d/\w.2.1= -z/\S.av w.2.2=c)
structure Good (S:RS) (pend:Ze) (R:Za2):Prop where
 wf:S.Wf
 el:∀c,c<S.made->S.av c<=c/\S.av (S.av c)=S.av c
 ca:∀e,e<S.made->S.av e=e->∀c,c∈S.b8 e↔c<S.made/\S.av c=e
 cb:∀e c,c∈S.b8 e->c<S.made
 cn:∀e,(S.b8 e).Nodup
 kn:∀c,((S.way c).map (·.1)).Nodup
 st:∀c z d,S.by c z=some d->c<S.made/\d<S.made/\S.av c=c/\S.av d=d
 sy:∀c z d,S.by c z=some d->S.by d (-z)=some c
 pl:∀w∈pend,w.1<S.made/\w.2.2<S.made
 rl:∀c z d,R c z d->c<S.made/\d<S.made/\R d (-z) c
 cv:∀c z d,R c z d->iN S pend (S.av c) z (S.av d)
 so:∀c z d,S.by c z=some d->Im S R c z d
 sp:∀w∈pend,Im S R (S.av w.1) w.2.1 (S.av w.2.2)
 cg:∀c,c<S.made->Cg R c (S.av c)
section
variable {S:RS}{pend:Ze}{R:Za2}
def Good.lt (h:Good S pend R){c:Nat}(hc:c<S.made):S.av c<S.made:=agE (h.el c hc).1 hc
def Im.back (h:Good S pend R){c d:Nat}{z:Int}(i:Im S R c z d):Im S R d (-z) c:=by
 let⟨a,f,r,b,e⟩:=i;rwa[f,a,(h.rl _ _ _ r).2.2,e,b]
def Good.must (h:Good S pend R){c x y:Nat}{z:Int}(i:Im S R c z x)(j:Im S R c z y):Cg R x y:=by
 let⟨p,m,r1,d,g⟩:=i;let⟨n,o,r2,f1,l⟩:=j;let⟨f,l2,_⟩:=h.rl _ _ _ r1;let⟨e,k,_⟩:=h.rl _ _ _ r2;let a1:=h.cg _ f;let a2:=h.cg _ l2;let b:=h.cg _ e;let a:=h.cg _ k;rw[d]at a1;rw[g]at a2;rw[f1]at b;rw[l]at a;rwa[a2.symm.trans ((Cg.step r1 r2 (a1.trans b.symm)).trans a)]
theorem Good.keep (h:Good S pend R){c d:Nat}{z:Int}(hc:c<S.made)(hd:d<S.made)(F:S.av c=c)(ed:S.av d=d)(i:Im S R c z d)(J:S.by c z=none\/S.by c z=some d)(H:S.by d (-z)=none\/S.by d (-z)=some c){f:Ze}(y:∀w∈f,w∈pend)
 (A:∀w∈pend,w∉f->S.av w.1=c/\w.2.1=z/\S.av w.2.2=d):Good (S.keep c z d) f R:=by
 let u:c<⇑S.ways:=by rw[h.wf.w];rwa[hc]
 let v:d<⇑S.ways:=by rw[h.wf.w];rwa[hd]
 let k:∀a s,(S.keep c z d).by a s=if a=d/\s= -z then some c else if a=c/\s=z then some d else S.by a s:=λa s=>by
  show ((S.b6 c z d).b6 d (-z) c).by a s=_;rw[jv (by show d<⇑(S.ways.set c _);rw[agZ];rwa[v]),jv u]
 let t:∀a s b,S.by a s=some b->(S.keep c z d).by a s=some b:=λa s b e=>by
  rw[k];by_cases g:a=d/\s= -z
  ·rw[agX g];let⟨rfl,rfl⟩:=g;rcases H with q|q <;> rw[q]at e <;> ext e
   rfl
  ·rw[agT g];by_cases j:a=c/\s=z
   ·rw[agX j];let⟨rfl,rfl⟩:=j;rcases J with q|q <;> rw[q]at e <;> ext e
    rfl
   ·rw[agT j];rwa[e]
 let el:∀a,(S.keep c z d).av a=S.av a:=λa=>rfl
 let new:∀a s b,(S.keep c z d).by a s=some b->(a=d/\s= -z/\b=c)\/(a=c/\s=z/\b=d)\/S.by a s=some b:=λa s b e=>by
  rw[k]at e;by_cases g:a=d/\s= -z
  ·rw[agX g]at e;rwa[.inl ⟨g.1,g.2,(Za0 e).symm⟩]
  ·rw[agT g]at e;by_cases j:a=c/\s=z
   ·rw[agX j]at e;rwa[.inr (.inl ⟨j.1,j.2,(Za0 e).symm⟩)]
   ·rw[agT j]at e;rwa[.inr (.inr e)]
 let m:(S.keep c z d).by d (-z)=some c:=by rw[k,agX ⟨22⟩]
 let put2:(S.keep c z d).by c z=some d:=by
  rw[k];by_cases g:c=d/\z= -z
  ·rw[agX g,g.1]
  ·rw[agT g,agX ⟨22⟩]
 let o:∀(l:List (Int×Nat)) (s:Int) (r:Nat),(l.map (·.1)).Nodup->((iS l s r).map (·.1)).Nodup:=λl s r G=>by
  unfold iS;split
  ·rw[ahe]
   have:((λx:Int×Nat=>x.1) ∘ λp:Int×Nat=>if p.1=s then (p.1,r) else p)=λx=>x.1:=by
    funext p
    show (if p.1=s then (p.1,r) else p).1=p.1;split <;> rfl
   rw[this];rwa[G]
  ·rename_i q;rw[ag6];rwa[ahD.mpr ⟨G,by simp,λa I b L e=>q ?_⟩];let⟨p,y,rfl⟩:=ahp.mp I;have:b=s:=by simpa using L
   rwa[List.any_eq_true.mpr ⟨p,y,aha (e.trans this)⟩]
 rwa[⟨⟨55,h.wf.e,h.wf.c⟩,h.el,h.ca,h.cb,h.cn,λa=>?_,λa s b e=>?_,λa s b e=>?_,λw n=>h.pl w (y w n),h.rl,λa s b r=>?_,λa s b e=>?_,λw n=>h.sp w (y w n),h.cg⟩]
 ·show ⇑((List.set^_).set _ _)=S.made;rw[agZ,agZ];rwa[h.wf.w]
 ·show ⇑((List.set^_).set _ _)=S.made;rw[agZ,agZ];rwa[h.wf.g]
 ·show ((((S.b6 c z d).b6 d (-z) c).way a).map (·.1)).Nodup;unfold RS.b6;rw[je (by show d<⇑(S.ways.set c _);rw[agZ];rwa[v])]
  let k1:∀a,(((S.j8 c (iS (S.way c) z d)).way a).map (·.1)).Nodup:=λa=>by
   rw[je u];split
   ·rwa[o _ _ _ (h.kn c)]
   ·rwa[h.kn a]
  split
  ·rwa[o _ _ _ (k1 d)]
  ·rwa[k1 a]
 ·rcases new a s b e with ⟨rfl,rfl,rfl⟩|⟨rfl,rfl,rfl⟩|e
  ·rwa[⟨hd,hc,ed,F⟩]
  ·rwa[⟨hc,hd,F,ed⟩]
  ·rwa[h.st a s b e]
 ·rcases new a s b e with ⟨rfl,rfl,rfl⟩|⟨rfl,rfl,rfl⟩|e
  ·rw[air];rwa[put2]
  ·rwa[m]
  ·rwa[t _ _ _ (h.sy _ _ _ e)]
 ·rcases h.cv a s b r with q|⟨w,n,q⟩
  ·rwa[.inl (t _ _ _ q)]
  ·by_cases C:w∈f
   ·rwa[.inr ⟨w,C,q⟩]
   ·let⟨f1,E,D⟩:=A w n C;rwa[.inl ?_];show (S.keep c z d).by (S.av a) s=some (S.av b);rcases q with ⟨g,j,B⟩|⟨g,j,B⟩
    ·rw[<-g,<-j,<-B,f1,E,D];rwa[put2]
    ·let M:s= -z:=by rw[<-E,j,air]
     rw[<-g,<-B,f1,D,M];rwa[m]
 ·rcases new a s b e with ⟨rfl,rfl,rfl⟩|⟨rfl,rfl,rfl⟩|e
  ·rwa[Im.back h i]
  ·rwa[i]
  ·rwa[h.so a s b e]
end
theorem AB (x:Nat):∀(l b:Zh) (a:Nat),(∀n∈l,n<⇑b)->(l.foldl (λb n=>b.set n x) b).getD a 0=if a∈l then x else b.getD a 0
 |[],b,a,_=>by simp
 |n::l,b,a,h=>by
  rw[List.foldl_cons,AB x l (b.set n x) a (λm c=>[agZ]▸h m (ag3 _ c))]
  cbv
theorem yL (x:Nat):∀(l a:Zh),⇑(l.foldl (λa n=>a.set n x) a)=⇑a
 |[],_=>rfl
 |n::l,a=>by rw[List.foldl_cons,yL x l,agZ]
def ro {l:List (Int×Nat)}{r:Nat}(h:fq l z\r):(z,r)∈l:=by
 let⟨q,a,rfl⟩:=ahM.mp h
 cbv
def jw {l:List (Int×Nat)}(a:(l.map (·.1)).Nodup){q:Int×Nat}(h:q∈l):fq l q.1\q.2:=by
 induction l with
 |nil=>ext h
 |cons p l b=>
  unfold fq;rw[ahK,ahb]at a;by_cases e:p.1=q.1
  ·cbv
  ·rw[ajb (by simpa using e)];rcases agN.mp h with rfl|h
   ·rwa[absurd rfl e]
   ·rwa[b a.2 h]
theorem lM:∀(n:Nat) (l:Zh),l.Nodup->(∀x∈l,x<n)->⇑l<=n
 |0,[],_,_=>agA _
 |0,a::l,_,h=>absurd (h a (agM ..)) ∅
 |n+ 1,l,b,h=>by
  by_cases c:n∈l
  ·have:=lM n (l.erase n) (b.erase n) (λx d=>by
    cbv)
   rw[ai1 c]at this;ext
  ·have:=lM n l b (λx d=>by
    cbv)
   ext
theorem rq:∀(k l:Zg),l.Nodup->(∀x∈l,x∈k)->⇑l<=⇑k
 |[],[],_,_=>agA _
 |[],a::l,_,h=>by have:=h a agM;cbv
 |y::k,l,b,h=>by
  by_cases c:y∈l
  ·have:=rq k (l.erase y) (b.erase y) (λx d=>by
    cbv)
   rw[ai1 c]at this;rw[agV];ext
  ·have:=rq k l b (λx d=>by
    cbv)
   rw[agV];ext
def Oi {pend:Ze}(i:n<⇑S.ways)(f:∀a,((S.way a).map (·.1)).Nodup):∀c:List (Int×Nat),(∀q∈c,q.2<⇑S.ways)->∀a,(((cZ n S pend c).1.way a).map (·.1)).Nodup:=by
 rwa[snoc_ind (λ_ a=>?_) λc p e d a=>?_]
 ·show (((S.j8 n []).way a).map (·.1)).Nodup;rw[je i];split
  ·rwa[aij]
  ·rwa[f a]
 ·let b:=e (λq g=>d q (agU _ g));rw[ie];unfold ju;by_cases h:p.2≠n
  ·simp only[h,aj0,ai0,ne_eq];unfold RS.oN;rw[je ([(gF n S pend c).1]▸d p (agB _ agM))];split
   ·rwa[List.Nodup.sublist (List.Sublist.map _ aiB) (b p.2)]
   ·rwa[b a]
  ·simp only[h,ajo];rwa[b a]
section
variable {S:RS}{pend:Ze}{R:Za2}
def iN.back (h:Good S pend R){b:RS}{a:Ze}(sy:∀c z d,b.by c z=some d->b.by d (-z)=some c){c d:Nat}{z:Int}(i:iN b a c z d):iN b a d (-z) c:=by
 rcases i with q|⟨w,j,q⟩
 ·rwa[.inl (sy _ _ _ q)]
 ·rwa[.inr ⟨w,j,?_⟩];rcases q with ⟨f,g,e⟩|⟨f,g,e⟩
  ·rwa[.inr ⟨f,by rw[g,air],e⟩]
  ·rwa[.inl ⟨f,g,e⟩]
theorem Good.meet (h:Good S pend R){c x y:Nat}{z:Int}(hx:S.by c z=some x)(hy:y<S.made)(ey:S.av y=y)(hxy:x≠y)(iy:Im S R c z y){d:Ze}(hp:∀w∈d,w∈pend)
 (hcv:∀w∈pend,w∉d->(S.av w.1=c/\w.2.1=z/\S.av w.2.2=y)\/(S.av w.1=y/\w.2.1= -z/\S.av w.2.2=c)):
 Good (S.meet c z x y d).1 (S.meet c z x y d).2 R/\(∀a,(S.meet c z x y d).1.av a=if S.av a=max x y then min x y else S.av a)/\(S.meet c z x y d).2=d++(S.way (max x y)).map (λp=>(max x y,p.1,p.2)):=by
 let⟨hc,hxm,ec,ex⟩:=h.st _ _ _ hx;let A:Cg R x y:=h.must (h.so _ _ _ hx) iy;let T:min x y<S.made:=∅
 let F:max x y<S.made:=∅
 let L:min x y<max x y:=∅
 let U:S.av (min x y)=min x y:=by rcases aim x y with q|q;rw[aiC ∅];rwa[ex];rw[ajw ∅];rwa[ey]
 let J:S.av (max x y)=max x y:=by rcases aim x y with q|q;rw[aj8 ∅];rwa[ey];rw[ajR ∅];rwa[ex]
 let H:x=min x y\/x=max x y:=∅
 let N:y=min x y\/y=max x y:=∅
 let j:Cg R (max x y) (min x y):=by
  rcases aim x y with q|q
  ·rw[aj8 (by omega),aiC (by omega)];rwa[A.symm]
  ·rw[ajR ∅,ajw ∅];rwa[A]
 unfold RS.meet;generalize max x y=v at F L J H N j ⊢;generalize min x y=u at T L U H N j ⊢;let I:v<⇑S.ways:=by rw[h.wf.w];rwa[F]
 let G:∀q∈S.way v,q.2<⇑S.ways:=λq E=>by
  rw[h.wf.w];rwa[(h.st v q.1 q.2 (jw (h.kn v) E)).2.1]
 let hP:((S.joined c z u v).oO v d)=cZ v (S.joined c z u v) d (S.way v):=rfl;rw[hP];let rest:=gF v (S.joined c z u v) d (S.way v);let V:∀a s,(S.joined c z u v).by a s=S.by a s:=λa s=>rfl
 let Z:∀a s,(cZ v (S.joined c z u v) d (S.way v)).1.by a s=if a=v\/S.by a s=some v then none else S.by a s:=λa s=>by
  rw[xM (S:=S.joined c z u v) I _ G,V]
  have:(a=v\/∃q∈S.way v,q.2=a/\s= -q.1)↔(a=v\/S.by a s=some v):=by
   rwa[or_congr Iff.rfl ⟨5,λe=>?_⟩]
   ·rintro ⟨q,E,rfl,rfl⟩;rwa[h.sy _ _ _ (jw (h.kn v) E)]
   ·have:=ro (h.sy _ _ _ e);rwa[_,this,2,(air s).symm]
  simp only[this]
 let o:(cZ v (S.joined c z u v) d (S.way v)).2=d++(S.way v).map λp=>(v,p.1,p.2):=yK _ _ _ _
 let O:=Oi (S:=S.joined c z u v) (pend:=d) I h.kn (S.way v) G
 let heq:∀a,(cZ v (S.joined c z u v) d (S.way v)).1.av a=if S.av a=v then u else S.av a:=λa=>by
  rw[rest.2];show ((S.b8 v).foldl (λC n=>C.set n u) S.aV).getD a 0=_;rw[AB u _ _ _ (λn hn=>[h.wf.e]▸h.cb v n hn)];by_cases i:a<S.made
  ·have:=h.ca v F J a;by_cases e:S.av a=v
   ·cbv
   ·rw[agT (λq=>e (this.mp q).2),agT e];rfl
  ·let Q:S.av a=0:=by unfold RS.av;rw[agD,ahd (by rw[h.wf.e];omega)];rfl
   rw[agT (λq=>i (h.cb v a q)),agT ∅];rfl
 let k:∀e,(cZ v (S.joined c z u v) d (S.way v)).1.b8 e=if e=u then S.b8 u++S.b8 v else S.b8 e:=λe=>by
  rw[rest.2];show (S.called.set u (S.b8 u++S.b8 v)).getD e []=_;rw[agD];by_cases q:e=u
  ·subst q;rw[ahs ([h.wf.c]▸T),agX rfl];rfl
  ·rw[ahV (ahQ q),agT q];unfold RS.b8;cbv
 let f:(cZ v (S.joined c z u v) d (S.way v)).1.made=S.made:=by rw[rest.2];rfl
 let M:(cZ v (S.joined c z u v) d (S.way v)).1.Wf:=by
  erw[[rest.1,f]▸h.wf.w,55]
  ·rw[rest.2];rwa[h.wf.g]
  ·rw[rest.2];show ⇑((S.b8 v).foldl (λC n=>C.set n u) S.aV)=S.made;rw[yL];rwa[h.wf.e]
  ·rw[rest.2];show ⇑(S.called.set u (S.b8 u++S.b8 v))=S.made;rw[agZ];rwa[h.wf.c]
 generalize (cZ v (S.joined c z u v) d (S.way v)).2=P2 at o ⊢;generalize (cZ v (S.joined c z u v) d (S.way v)).1=g at rest Z O heq k f M ⊢;rwa[⟨5,heq,o⟩]
 let bo:∀a s b,g.by a s=some b↔S.by a s=some b/\a≠v/\b≠v:=λa s b=>by
  cbv
 let nv2:∀a,g.av (S.av a)=g.av a:=λa=>by
  rw[heq,heq];by_cases i:a<S.made
  ·rw[(h.el a i).2]
  ·let Q:∀a,¬a<S.made->S.av a=0:=λa i=>by unfold RS.av;rw[agD,ahd (by rw[h.wf.e];omega)];rfl
   rw[Q a i];have:S.av 0=0:=by have:=(h.el 0 ∅).1;ext
   rw[this]
 let t:∀{a b},S.av a=S.av b->g.av a=g.av b:=λ{a b} e=>by cbv
 let D:∀a s b,g.by a s=some b->g.by b (-s)=some a:=λa s b e=>by
  rw[bo]at e ⊢;rwa[h.sy _ _ _ e.1,e.2.2,e.2.1]
 let std:∀{a},S.av a=a->g.av a=if a=v then u else a:=λ{a} e=>by rw[heq,e]
 let kept:∀p s q,S.by p s=some q->iN g P2 (g.av p) s (g.av q):=λp s q e=>by
  let⟨lp,lq,ep,eq⟩:=h.st _ _ _ e;by_cases h1:p=v
  ·rwa[.inr ⟨(v,s,q),5,.inl ⟨by rw[h1],22⟩⟩];rw[o];rw[h1]at e;rwa[agB _ (ahp.mpr ⟨(s,q),ro e,2⟩)]
  ·by_cases h2:q=v
   ·rwa[.inr ⟨(v,-s,p),5,.inr ⟨by rw[h2],22⟩⟩];rw[o];let e':=h.sy _ _ _ e;rw[h2]at e';rwa[agB _ (ahp.mpr ⟨(-s,p),ro e',2⟩)]
   ·rwa[.inl ?_]
    cbv
 let eu2:g.av u=u:=by rw[std U,agT ∅]
 let ev2:g.av v=u:=by rw[std J,agX rfl]
 let W:g.av x=g.av y:=by
  let l:g.av x=u:=by cbv
  let m:g.av y=u:=by cbv
  rw[l,m]
 let imq:∀{a b s},Im S R (S.av a) s (S.av b)->Im g R (g.av a) s (g.av b):=λ{a b s} ζ=>by let⟨a',b',r,e1,e2⟩:=ζ;rwa[⟨a',b',r,t e1,t e2⟩]
 rwa[⟨M,λa i=>?_,λe he ee a=>?_,λe a i=>?_,λe=>?_,O,λa s b e=>?_,D,λw hw=>?_,λa s b r=>?_,λa s b r=>?_,λa s b e=>?_,λw hw=>?_,λa i=>?_⟩]
 ·rw[f]at i;let⟨P,l2⟩:=h.el a i;rw[heq]
  cbv
 ·rw[f]at he ⊢;rw[k];let nev:e≠v:=λz=>by rw[z,ev2]at ee;ext
  by_cases q:e=u
  ·subst q;rw[agX rfl,agH,h.ca _ T U,h.ca v F J,heq]
   cbv
  ·rw[agT q]
   let Q:S.av e=e:=by
    rw[heq]at ee;by_cases B:S.av e=v
    ·cbv
    ·cbv
   rw[h.ca e he Q,heq]
   cbv
 ·rw[f];rw[k]at i;split at i
  ·rcases agH.mp i with i|i
   ·rwa[h.cb^i]
   ·rwa[h.cb^i]
  ·rwa[h.cb^i]
 ·rw[k];split
  ·rwa[ahD.mpr ⟨h.cn _,h.cn _,λa i b hb e=>?_⟩];let l:=((h.ca _ T U a).mp i).2;let m:=((h.ca v F J b).mp hb).2;rw[e,m]at l;ext
  ·rwa[h.cn _]
 ·rw[bo]at e;let⟨P,l2,l3,l4⟩:=h.st _ _ _ e.1;rwa[[f]▸P,[f]▸l2,by rw[std l3,agT e.2.1],by rw[std l4,agT e.2.2]]
 ·rw[f];rw[o]at hw;rcases agH.mp hw with hw|hw
  ·rwa[h.pl w (hp w hw)]
  ·let⟨q,E,rfl⟩:=ahp.mp hw;rwa[F,(h.st v q.1 q.2 (jw (h.kn v) E)).2.1]
 ·rw[f];rwa[h.rl a s b r]
 ·rcases h.cv a s b r with q|⟨w,hw,q⟩
  ·cbv
  ·by_cases hm:w∈d
   ·rwa[.inr ⟨w,by cbv,?_⟩];rcases q with ⟨l,m,B⟩|⟨l,m,B⟩
    ·rwa[.inl ⟨t l,m,t B⟩]
    ·rwa[.inr ⟨t l,m,t B⟩]
   ·let base:iN g P2 (g.av c) z (g.av y):=by rw[<-W];rwa[kept _ _ _ hx]
    let one:∀{p q:Nat},S.av p=c->S.av q=y->g.av p=g.av c/\g.av q=g.av y:=λ{p q} e1 e2=>⟨by cbv,by cbv⟩
    rcases hcv w hw hm with ⟨f1,X,f3⟩|⟨f1,X,f3⟩
    ·rcases q with ⟨l,m,B⟩|⟨l,m,B⟩
     ·cbv
     ·let⟨g1,Y⟩:=one (l.symm.trans f1) (B.symm.trans f3);let C:s= -z:=by rw[<-X,m,air]
      rw[g1,Y,C];rwa[iN.back h D base]
    ·rcases q with ⟨l,m,B⟩|⟨l,m,B⟩
     ·let⟨g1,Y⟩:=one (B.symm.trans f3) (l.symm.trans f1);let C:s= -z:=by rw[<-m,X]
      rw[g1,Y,C];rwa[iN.back h D base]
     cbv
 ·rw[bo]at e;let⟨P,l2,l3,l4⟩:=h.st _ _ _ e.1;have:=h.so _ _ _ e.1
  cbv
 ·rw[o]at hw;rcases agH.mp hw with hw|hw
  ·rwa[imq (h.sp w (hp w hw))]
  ·let⟨q,E,rfl⟩:=ahp.mp hw;let e:=jw (h.kn v) E;let⟨P,l2,l3,l4⟩:=h.st v q.1 q.2 e;have:=h.so _ _ _ e
   cbv
 ·rw[f]at i;rw[heq];split
  ·rename_i q;have:=h.cg a i;rw[q]at this;rwa[this.trans j]
  ·rwa[h.cg a i]
end
def RS.stand (S:RS):Nat:=(List.range S.made).countP λc=>decide (S.av c=c)
theorem lO {p p':Nat->Bool}{v:Nat}(h:∀a,p' a=(p a && decide (a≠v)))(b:p v=true):∀n,(List.range n).countP p'+ (if v<n then 1 else 0)=(List.range n).countP p
 |0=>rfl
 |n+ 1=>by
  let d:=lO h b n;rw[ah9,List.countP_append,List.countP_append,<-d];rw[List.countP_singleton,List.countP_singleton,h n];by_cases e:n=v
  ·subst e;rw[b,agT (ahN n),agX (ahS n)];simp
  ·have:decide (n≠v)=true:=aha e;rw[this,Bool.and_true];let c:(v<n+ 1)=(v<n):=propext ⟨λ_=>∅,λ_=>∅⟩;simp only[c];ext
def mu (k:Nat)(S:RS)(pend:Ze):Nat:=S.stand* (k+ 1)+ ⇑pend
section
variable {S:RS}{pend:Ze}{R:Za2}{w:Way}{ks:Zg}
def Good.Hj (h:Good S pend R)(g:∀c z d,R c z d->z∈ks)(c:Nat):⇑(S.way c)<=⇑ks:=by
 have:=rq ks ((S.way c).map (·.1)) (h.kn c) (λx e=>by
  let⟨q,f,rfl⟩:=ahp.mp e;let⟨a,b,r,_⟩:=h.so c q.1 q.2 (jw (h.kn c) f);rwa[g _ _ _ r])
 rw[agy]at this;rwa[this]
def Good.Rg (h:Good S pend R)(c:Nat):⇑(S.b8 c)<=S.made:=lM _ _ (h.cn c) λx a=>h.cb c x a
theorem Good.take (h:Good S (pend++[w]) R)(Q:∀c z d,R c z d->z∈ks):Good (S.takeIn pend w).1 (S.takeIn pend w).2 R/\mu ⇑ks (S.takeIn pend w).1 (S.takeIn pend w).2<mu ⇑ks S (pend++[w])/\(S.takeIn pend w).1.made=S.made/\(S.takeIn pend w).1.L=S.L/\
 ((S.takeIn pend w).1.stand=S.stand/\(S.takeIn pend w).1.rows=S.rows/\(S.takeIn pend w).1.aY=S.aY\/(S.takeIn pend w).1.stand+ 1=S.stand/\∃c z x y,S.by c z=some x/\Im S R c z y/\y<S.made/\S.av y=y/\x≠y/\(S.takeIn pend w).1.rows=S.rows++[gX c z (min x y) (max x y)]/\(S.takeIn pend w).1.aY=S.aY++[max x y]/\∀a,(S.takeIn pend w).1.av a=if S.av a=max x y then min x y else S.av a):=by
 let hw:=h.pl w (agB _ agM);let l:=h.sp w (agB _ agM);let hc:=h.lt hw.1;let hd:=h.lt hw.2;let k:=(h.el _ hw.1).2;let ed:=(h.el _ hw.2).2;let F:∀x∈pend,x∈pend++[w]:=λx f=>agU _ f
 let last:∀x∈pend++[w],x∉pend->x=w:=λx f nx=>by
  cbv
 let met:∀{c x y:Nat} {z:Int},S.by c z=some x->y<S.made->S.av y=y->x≠y->Im S R c z y->((S.av w.1=c/\w.2.1=z/\S.av w.2.2=y)\/(S.av w.1=y/\w.2.1= -z/\S.av w.2.2=c))->
  Good (S.meet c z x y pend).1 (S.meet c z x y pend).2 R/\mu ⇑ks (S.meet c z x y pend).1 (S.meet c z x y pend).2<mu ⇑ks S (pend++[w])/\(S.meet c z x y pend).1.made=S.made/\(S.meet c z x y pend).1.L=S.L/\(S.meet c z x y pend).1.stand+ 1=S.stand/\(S.meet c z x y pend).1.rows=S.rows++[gX c z (min x y) (max x y)]/\(S.meet c z x y pend).1.aY=S.aY++[max x y]/\∀a,(S.meet c z x y pend).1.av a=if S.av a=max x y then min x y else S.av a:=by
  intro c x y z f L o s V n;let⟨g,I,N⟩:=h.meet f L o s V F (λx f nx=>[last x f nx]▸n);let⟨hc,M,k,ex⟩:=h.st _ _ _ f;let rest:=(gF (max x y) (S.joined c z (min x y) (max x y)) pend ((S.joined c z (min x y) (max x y)).way (max x y))).2
  let E:(S.meet c z x y pend).1.made=S.made:=by
   show (cZ (max x y) (S.joined c z (min x y) (max x y)) pend ((S.joined c z (min x y) (max x y)).way (max x y))).1.made=_;rw[rest];rfl
  let O:(S.meet c z x y pend).1.L=S.L:=by
   show (cZ (max x y) (S.joined c z (min x y) (max x y)) pend ((S.joined c z (min x y) (max x y)).way (max x y))).1.L=_;rw[rest];rfl
  let P:(S.meet c z x y pend).1.rows=S.rows++[gX c z (min x y) (max x y)]:=by
   show (cZ (max x y) (S.joined c z (min x y) (max x y)) pend ((S.joined c z (min x y) (max x y)).way (max x y))).1.rows=_;rw[rest];rfl
  let T:(S.meet c z x y pend).1.aY=S.aY++[max x y]:=by
   show (cZ (max x y) (S.joined c z (min x y) (max x y)) pend ((S.joined c z (min x y) (max x y)).way (max x y))).1.aY=_;rw[rest];rfl
  let J:S.av (max x y)=max x y:=by rcases aim x y with q|q;rw[aj8 ∅];rwa[o];rw[ajR ∅];rwa[ex]
  let H:(S.meet c z x y pend).1.stand+ 1=S.stand:=by
   unfold RS.stand;rw[E]
   have:=lO (p:=λc=>decide (S.av c=c)) (p':=λa=>decide ((S.meet c z x y pend).1.av a=a)) (v:=max x y) (λa=>by
    rw[I,ahR,ah0,ahn,ahn,ahn];by_cases q:S.av a=max x y
    ·rw[agX q];constructor
     ·intro e;let j:S.av (min x y)=min x y:=by rcases aim x y with q|q;rw[aiC ∅];rwa[ex];rw[ajw ∅];rwa[o]
      rw[e]at j;ext
     ·rintro ⟨U,j⟩;rwa[absurd (U.symm.trans q) j]
    ·rw[agT q];rwa[λe=>⟨e,λj=>q ([j]▸J)⟩,λe=>e.1]) (aha J) S.made
   rw[agX ∅]at this;rwa[this]
  let X:=h.Hj Q (max x y);rwa[⟨g,5,E,O,H,P,T,I⟩];unfold mu;rw[N,<-H,agw,agw,agy,aj5,Nat.one_mul];ext
 unfold RS.takeIn;by_cases i:(S.by (S.av w.1) w.2.1).getD (S.av w.2.2)≠S.av w.2.2
 ·rw[agX i]
  cases e:S.by (S.av w.1) w.2.1 with
  |none=>rw[e]at i;rwa[absurd rfl i]
  |some x=>
   rw[e]at i;let⟨r,A,D,u,t,m,B,C⟩:=met e hd ed i l (.inl ⟨222⟩);rwa[r,A,D,u,.inr ⟨t,11,x,_,e,l,hd,ed,i,m,B,C⟩]
 ·rw[agT i];by_cases b:(S.by (S.av w.2.2) (-w.2.1)).getD (S.av w.1)≠S.av w.1
  ·rw[agX b]
   cases e:S.by (S.av w.2.2) (-w.2.1) with
   |none=>rw[e]at b;rwa[absurd rfl b]
   |some x=>
    rw[e]at b;let G:=Im.back h l;let⟨r,A,D,u,t,m,B,C⟩:=met e hc k b G (.inr ⟨2,(air _).symm,2⟩);rwa[r,A,D,u,.inr ⟨t,11,x,_,e,G,hc,k,b,m,B,C⟩]
  ·rw[agT b]
   let k1:S.by (S.av w.1) w.2.1=none\/S.by (S.av w.1) w.2.1=some (S.av w.2.2):=by
    cases e:S.by (S.av w.1) w.2.1 with
    |none=>exact .inl rfl
    |some x=>rw[e]at i;rwa[.inr (ahT some (ajq.mp i))]
   let k2:S.by (S.av w.2.2) (-w.2.1)=none\/S.by (S.av w.2.2) (-w.2.1)=some (S.av w.1):=by
    cases e:S.by (S.av w.2.2) (-w.2.1) with
    |none=>exact .inl rfl
    |some x=>rw[e]at b;rwa[.inr (ahT some (ajq.mp b))]
   rwa[⟨h.keep hc hd k ed l k1 k2 F (λx f nx=>[last x f nx]▸⟨222⟩),522,.inl ⟨222⟩⟩];show S.stand* _+ ⇑pend<S.stand* _+ ⇑(pend++[w]);rw[agw];have:⇑([w]:Ze)=1:=rfl;ext
def Good.fin (h:Good S [] R){a b:Nat}(i:a<S.made)(j:b<S.made):S.av a=S.av b↔Cg R a b:=by
 let det:∀{a d b f:Nat} {z:Int},R a z b->R d z f->S.av a=S.av d->S.av b=S.av f:=λ{a d b f z} r1 r2 e=>by
  rcases h.cv _ _ _ r1 with p|⟨w,l,_⟩
  ·rcases h.cv _ _ _ r2 with q|⟨w,l,_⟩
   ·cbv
   cbv
  cbv
 constructor
 ·intro e;let k:=h.cg a i;let o:=h.cg b j;rw[e]at k;rwa[k.trans o.symm]
 ·intro c;clear i j
  induction c with
  |refl=>rfl
  |symm _ g=>exact g.symm
  |trans _ _ m n=>exact m.trans n
  |step r1 r2 _ g=>exact det r1 r2 g
def Good.rx (h:Good S [] R){c d:Nat}{z:Int}:S.by c z=some d↔Im S R c z d:=by
 constructor
 ·rwa[h.so c z d]
 ·rintro ⟨b,e,r,rfl,rfl⟩;rcases h.cv _ _ _ r with q|⟨w,a,_⟩
  ·rwa[q]
  cbv
end
noncomputable def fu (R:Za2)(c:Nat)(z:Int)(d:Nat):Za2:=λa s b=>R a s b\/(a=c/\s=z/\b=d)\/(a=d/\s= -z/\b=c)
def ig:∀a s b,R a s b->fu R n z m a s b:=λ_ _ _ r=>.inl r
def j9:fu R n z m n z m:=.inr (.inl ⟨222⟩)
theorem pT (L:Nat)(g:Zg):Good (RS.new L g) [] (λ_ _ _=>False) where
 wf:=⟨2222⟩
 el:=λc a=>by
  have:c=0:=by have:c<1:=a;ext
  subst this;rwa[agA _,2]
 ca:=λe f _ c=>by
  have:e=0:=by have:e<1:=f;ext
  subst this;show c∈[0]↔c<1/\(RS.new L g).av c=0
  cbv
 cb:=λe c a=>by
  have:(RS.new L g).b8 e=[0]\/(RS.new L g).b8 e=[]:=by
   rcases e with _|e
   ·rwa[.inl rfl]
   ·rwa[.inr rfl]
  show c<1
  cbv
 cn:=λe=>by
  rcases e with _|e
  ·show [0].Nodup;simp
  ·rwa[aij]
 kn:=λc=>by
  rcases c with _|c <;> rwa[aij]
 st:=λc z d h=>by
  have:(RS.new L g).by c z=none:=by rcases c with _|c <;> rfl
  cbv
 sy:=λc z d h=>by
  have:(RS.new L g).by c z=none:=by rcases c with _|c <;> rfl
  cbv
 pl:=λw b=>by ext b
 rl:=λ_ _ _ h=>h.elim
 cv:=λ_ _ _ h=>h.elim
 so:=λc z d h=>by
  have:(RS.new L g).by c z=none:=by rcases c with _|c <;> rfl
  cbv
 sp:=λw b=>by ext b
 cg:=λc a=>by
  have:c=0:=by have:c<1:=a;ext
  subst this;rwa[.refl _]
section
variable {S:RS}{R:Za2}
def Good.lay (h:Good S [] R){c d:Nat}(z:Int)(hc:c<S.made)(hd:d<S.made)(rows:List Dt):Good { S with rows:=rows } [(c,z,d)] (fu R c z d) where
 wf:=⟨h.wf.w,h.wf.g,h.wf.e,h.wf.c⟩
 el:=h.el
 ca:=h.ca
 cb:=h.cb
 cn:=h.cn
 kn:=h.kn
 st:=h.st
 sy:=h.sy
 pl:=λw f=>by rw[agC.mp f];rwa[hc,hd]
 rl:=by
  rintro a s b (r|⟨rfl,rfl,rfl⟩|⟨rfl,rfl,rfl⟩)
  ·let⟨n,i,m⟩:=h.rl _ _ _ r;rwa[n,i,.inl m]
  ·rwa[hc,hd,.inr (.inr ⟨222⟩)]
  ·rwa[hd,hc,.inr (.inl ⟨2,air _,2⟩)]
 cv:=by
  rintro a s b (r|⟨rfl,rfl,rfl⟩|⟨rfl,rfl,rfl⟩)
  ·rcases h.cv _ _ _ r with q|⟨w,f,_⟩
   ·rwa[.inl q]
   ·ext f
  ·rwa[.inr ⟨_,agM,.inl ⟨rfl,rfl,rfl⟩⟩]
  ·rwa[.inr ⟨_,agM,.inr ⟨rfl,(air _).symm,rfl⟩⟩]
 so:=λa s b e=>by
  let⟨l,k,r,o,g⟩:=h.so a s b e;rwa[l,k,.inl r,o,g]
 sp:=λw f=>by
  rw[agC.mp f];rwa[c,d,j9,22]
 cg:=λa j=>(h.cg a j).mono ig
def fy (hw:S.Wf)(c:Nat)(z:Int)(g:Zg)(a:Nat):(S.grown c z g).av a=if a=S.made then S.made else S.av a:=by
 unfold RS.av;show (S.aV++[S.made]).getD a 0=_;rw[agD];by_cases e:a=S.made
 ·rw[agX e,e,agI ([hw.e]▸agA _),hw.e,ain];rfl
 ·rw[agT e,agD];by_cases q:a<S.made
  ·rw[agF ([hw.e]▸q)]
  ·rw[ahd (by rw[agw,hw.e];show S.made+ 1<=a;omega),ahd (by rw[hw.e];omega)]
def rA (hw:S.Wf)(c:Nat)(z:Int)(g:Zg)(a:Nat):(S.grown c z g).b8 a=if a=S.made then [S.made] else S.b8 a:=by
 unfold RS.b8;show (S.called++[[S.made]]).getD a []=_;rw[agD];by_cases e:a=S.made
 ·rw[agX e,e,agI ([hw.c]▸agA _),hw.c,ain];rfl
 ·rw[agT e,agD];by_cases q:a<S.made
  ·rw[agF ([hw.c]▸q)]
  ·rw[ahd (by rw[agw,hw.c];show S.made+ 1<=a;omega),ahd (by rw[hw.c];omega)]
def nH (d:S.Wf)(c:Nat)(z:Int)(g:Zg)(a:Nat):(S.grown c z g).way a=S.way a:=by
 unfold RS.way;show (S.ways++[[]]).getD a []=_;rw[agD,agD];by_cases q:a<⇑S.ways
 ·rw[agF q]
 ·rw[agI ∅,ahd (l:=S.ways) ∅];by_cases b:a - ⇑S.ways=0
  ·rw[b];rfl
  ·cbv
def Good.make (h:Good S [] R){c:Nat}{z:Int}(hc:c<S.made)(A:S.av c=c)(B:S.by c z=none)(g:Zg):Good (S.make c z g) [] (fu R c z S.made):=by
 let hw:=h.wf;let d:∀a,a<S.made->(S.grown c z g).av a=S.av a:=λa m=>by rw[fy hw,agT ∅]
 let j:(S.grown c z g).av S.made=S.made:=by rw[fy hw,agX rfl]
 let f:∀a s,(S.grown c z g).by a s=S.by a s:=λa s=>by unfold RS.by;rw[nH hw]
 let G:Good (S.grown c z g) [(c,z,S.made)] (fu R c z S.made):=by
  rwa[⟨⟨5555⟩,λa m=>?_,λe y ee a=>?_,λe a m=>?_,λe=>?_,λa=>?_,λa s b e=>?_,λa s b e=>?_,λw hw=>?_,55,λa s b e=>?_,λw hw=>?_,λa m=>?_⟩]
  ·show ⇑(S.ways++[[]])=S.made+ 1;rw[agw,hw.w];rfl
  ·show ⇑(S.gaps++[_])=S.made+ 1;rw[agw,hw.g];rfl
  ·show ⇑(S.aV++[_])=S.made+ 1;rw[agw,hw.e];rfl
  ·show ⇑(S.called++[_])=S.made+ 1;rw[agw,hw.c];rfl
  ·let t:a<S.made+ 1:=m;by_cases e:a=S.made
   ·rw[e,j];rwa[agA _,j]
   ·let p:a<S.made:=∅
    rw[d a p];let⟨l,k⟩:=h.el a p;rwa[l,[d _ ∅]▸k]
  ·let C:e<S.made+ 1:=y;show _↔a<S.made+ 1/\_;rw[rA hw,fy hw];by_cases q:e=S.made
   ·subst q;rw[agX rfl,agC];constructor
    ·rintro rfl;rwa[3,by cbv]
    ·rintro ⟨l,k⟩;by_cases n:a=S.made
     ·rwa[n]
     ·rw[agT n]at k;have:=(h.el a ∅).1;ext
   ·let p:e<S.made:=∅
    rw[d e p]at ee;rw[agT q,h.ca e p ee a]
    cbv
  ·show a<S.made+ 1;rw[rA hw]at m;split at m
   ·rw[agC.mp m];ext
   ·rwa[ah5 (h.cb e a m)]
  ·rw[rA hw];split
   ·simp
   ·rwa[h.cn e]
  ·rw[nH hw];rwa[h.kn a]
  ·rw[f]at e;let⟨l,k,n,D⟩:=h.st a s b e;rwa[ah5 l,ah5 k,[d a l]▸n,[d b k]▸D]
  ·rw[f]at e ⊢;rwa[h.sy a s b e]
  ·rw[agC.mp hw];rwa[ah5 hc,ahS _]
  ·rintro a s b (r|⟨rfl,rfl,rfl⟩|⟨rfl,rfl,rfl⟩)
   ·let⟨l,k,n⟩:=h.rl _ _ _ r;rwa[ah5 l,ah5 k,.inl n]
   ·rwa[ah5 hc,ahS _,.inr (.inr ⟨222⟩)]
   ·rwa[ahS _,ah5 hc,.inr (.inl ⟨2,air _,2⟩)]
  ·rintro a s b (r|⟨rfl,rfl,rfl⟩|⟨rfl,rfl,rfl⟩)
   ·let⟨l,k,_⟩:=h.rl _ _ _ r;rcases h.cv _ _ _ r with q|⟨w,hw,_⟩
    ·rwa[.inl (by rw[d a l,d b k,f];rwa[q])]
    ·ext hw
   ·rwa[.inr ⟨_,agM,.inl ⟨rfl,rfl,rfl⟩⟩]
   ·rwa[.inr ⟨_,agM,.inr ⟨rfl,(air _).symm,rfl⟩⟩]
  ·rw[f]at e;let⟨v,u,r,o,x⟩:=h.so a s b e;let⟨l,k,_⟩:=h.rl _ _ _ r;rwa[v,u,.inl r,[d v l]▸o,[d u k]▸x]
  ·rw[agC.mp hw];rwa[c,S.made,j9,22]
  ·let t:a<S.made+ 1:=m;by_cases e:a=S.made
   ·rw[e,j];rwa[.refl _]
   ·rw[d a ∅];rwa[(h.cg a ∅).mono ig]
 let o:(S.grown c z g).av c=c:=by rw[d c hc];rwa[A]
 let i:=G.sp _ agM;rw[show (c,z,S.made).1=c from rfl,show (c,z,S.made).2.2=S.made from rfl,o,j]at i;rwa[G.keep (ah5 hc) (ahS _) o j i (.inl ([f]▸B)) (.inl ?_) (λw hw=>by ext hw) (λw hw _=>[agC.mp hw]▸⟨o,2,j⟩)];rw[f]
 cases e:S.by S.made (-z) with
 |none=>rfl
 |some b=>have:=(h.st _ _ _ e).1;ext
end
def YR (n:Nat)(s:Int):Za2:=λa z b=>(z=s/\b=a+ 1/\b<n)\/(z= -s/\a=b+ 1/\a<n)
inductive Vj (x:V) (y:V) (H:Hp) (Q:VK):Prop
 |mk (a b:Zs) (xs:Zb) (t:Str):x=↑a->y=↑b->H a\.tup xs->H b\.tup [.str t]->(xs=[]\/(∃n,xs=[.int n])\/∃t',xs=[.str t'])->Q (.bl (decide (xs=[V.str t]))) H->Vj x y H Q
section
variable {X:Cx}
theorem Fw {z v:Str}{scope:Scope}(l:closureFor scope X.env=pure [(f,c),(z,d),(v,a)])(I:X.env.cells.lookup f\c)(J:X.env.cells.lookup z\d)(L:X.env.cells.lookup v\a)(A:∀q∈scope.names,q.2≠.cell)(F:scope.kind=.function)
 (G:∀q∈scope.names,q.2=.local->scope.names.lookup q.1=some .local) (E:scope.names.lookup x=some .local) (e:∀q∈scope.names,q.2=.free->q.1=f\/q.1=z\/q.1=v) (b:(x≠f/\x≠z/\x≠v)/\f≠z/\f≠v/\z≠v) (C:X.N[i]?\f) (D:X.N[j]?\z) (H:X.N[n]?\v)
 (o:X.env.kindOf f=some .cell) (m:X.env.kindOf z=some .cell) (p:X.env.kindOf v=some .cell) (g:X.env.scope.kind=.function) (s:scope.names.lookup f=some .free) (y:scope.names.lookup z=some .free) (t:scope.names.lookup v=some .free):dY X x [f,z,v] [i,j,n] scope [(f,c),(z,d),(v,a)] where
 Af:=l
 sub:=λw q h=>by
  cbv
 cell:=A
 kind:=F
 names:=G
 own:=E
 has:=λw h=>by
  let B:w=f\/w=z\/w=v:=by
   rcases h with h|h
   ·rwa[e _ (gU h (.inl rfl) A) rfl]
   ·rwa[e _ (gU h (.inr rfl) A) rfl]
  cbv
 nd:=by simp[b.1.1,b.1.2.1,b.1.2.2,b.2.1,b.2.2.1,b.2.2.2]
 len:=rfl
 at_:=λk w h=>by
  match k,h with
  |0,h=>
   let a:f=w:=by simpa using h
   subst a;rwa[i,2,C,.inl o,c,by simp[aiG],.inl (cM g o s)]
  |1,h=>
   let a:z=w:=by simpa using h
   subst a;let u:(z==f)=false:=agS.mpr (λq=>b.2.1 q.symm);rwa[j,2,D,.inl m,d,by simp[aiG,u],.inl (cM g m y)]
  |2,h=>
   let B:v=w:=by simpa using h
   subst B;let u:(v==f)=false:=agS.mpr (λq=>b.2.2.1 q.symm);let r:(v==z)=false:=agS.mpr (λq=>b.2.2.2 q.symm);rwa[n,2,H,.inl p,a,by simp[aiG,u,r],.inl (cM g p t)]
  |k+ 3,h=>simp at h
end
end L2
namespace L2
def jf {a z:TS}(h:let b:TS:=z;aP a b G D H):(aP a z) G D H:=h
def fK {b a z:TS}(h:let d:TS:=z;let c:TS:=aP a d;aP b c G D H):(aP b (aP a z)) G D H:=h
def ik {c a b z:TS}(h:let e:TS:=z;let d:TS:=aP b e;let f:TS:=aP a d;aP c f G D H):(aP c (aP a (aP b z))) G D H:=h
def uF {d b c a z:TS}(h:let e:TS:=z;let g:TS:=aP a e;let f:TS:=aP c g;let i:TS:=aP b f;aP d i G D H):(aP d (aP b (aP c (aP a z)))) G D H:=h
noncomputable def mG {e c d a b z:TS}(h:let g:TS:=z;let f:TS:=aP b g;let j:TS:=aP a f;let i:TS:=aP d j;let k:TS:=aP c i;aP e k G D H):(aP e (aP c (aP d (aP a (aP b z))))) G D H:=h
def pU {f c e a b d z:TS}(h:let m:TS:=z;let i:TS:=aP d m;let g:TS:=aP b i;let k:TS:=aP a g;let j:TS:=aP e k;let l:TS:=aP c j;aP f l G D H):(aP f (aP c (aP e (aP a (aP b (aP d z)))))) G D H:=h
def AF {b e g d c a f z:TS}(h:let l:TS:=z;let o:TS:=aP f l;let j:TS:=aP a o;let i:TS:=aP c j;let n:TS:=aP d i;let k:TS:=aP g n;let m:TS:=aP e k;aP b m G D H):(aP b (aP e (aP g (aP d (aP c (aP a (aP f z))))))) G D H:=h
def JX {b e i d c a f g z:TS}(h:let p:TS:=z;let m:TS:=aP g p;let q:TS:=aP f m;let k:TS:=aP a q;let j:TS:=aP c k;let o:TS:=aP d j;let l:TS:=aP i o;let n:TS:=aP e l;aP b n G D H):(aP b (aP e (aP i (aP d (aP c (aP a (aP f (aP g z)))))))) G D H:=h
def Hk {e i l g f c j k d a z:TS}(h:let b:TS:=z;let o:TS:=aP a b;let t:TS:=aP d o;let q:TS:=aP k t;let u:TS:=aP j q;let n:TS:=aP c u;let m:TS:=aP f n;let s:TS:=aP g m;let p:TS:=aP l s;let r:TS:=aP i p;aP e r G D H):(aP e (aP i (aP l (aP g (aP f (aP c (aP j (aP k (aP d (aP a z)))))))))) G D H:=h
def Hl {l o r n m j p q k c d b a z:TS}(h:let e:TS:=z;let i:TS:=aP a e;let f:TS:=aP b i;let g:TS:=aP d f;let u:TS:=aP c g;let y:TS:=aP k u;let w:TS:=aP q y;let B:TS:=aP p w;let t:TS:=aP j B;let s:TS:=aP m t;let A:TS:=aP n s;let v:TS:=aP r A;let x:TS:=aP o v;aP l x G D H):(aP l (aP o (aP r (aP n (aP m (aP j (aP p (aP q (aP k (aP c (aP d (aP b (aP a z))))))))))))) G D H:=h
theorem args_is1 {b:Type}:∀{us:List b},⇑us=1->∃a,us=[a]
 |[a],_=>⟨a,2⟩
theorem args_is2 {c:Type}:∀{us:List c},⇑us=2->∃b a,us=[b,a]
 |[b,a],_=>⟨b,a,2⟩
theorem args_is3 {d:Type}:∀{us:List d},⇑us=3->∃c a b,us=[c,a,b]
 |[c,a,b],_=>⟨c,a,b,2⟩
theorem args_is4 {e:Type}:∀{us:List e},⇑us=4->∃d a c b,us=[d,a,c,b]
 |[d,a,c,b],_=>⟨d,a,c,b,2⟩
theorem args_is5 {f:Type}:∀{us:List f},⇑us=5->∃e a d c b,us=[e,a,d,c,b]
 |[e,a,d,c,b],_=>⟨e,a,d,c,b,2⟩
theorem args_is6 {g:Type}:∀{us:List g},⇑us=6->∃f a d c b e,us=[f,a,d,c,b,e]
 |[f,a,d,c,b,e],_=>⟨f,a,d,c,b,e,2⟩
structure eK (S:RS) (R:Za2) (ks:Zg):Prop where
 sub:∀c,c<S.made->(S.gap c).Sublist ks
 im:∀c,c<S.made->S.av c=c->∀z∈ks,z∉S.gap c->∃d,Im S R c z d
 by_:∀c z d,S.by c z=some d->z∉S.gap c
section
variable {S:RS}{pend:Ze}{R:Za2}{ks:Zg}
def jx {x:Nat}(a:n<⇑S.gaps):(S.lL n z).gap x=if x=n then (S.gap n).filter (λy=>decide (y≠z)) else S.gap x:=by
 unfold RS.lL RS.setG RS.gap
 cbv
def yM:(S.lL n z).gaps.length=⇑S.gaps:=by
 rwa[agZ ..]
def pV {x:Nat}(b:n<⇑S.gaps)(c:m<⇑S.gaps):y∈(S.keep n z m).gap x↔y∈S.gap x/\¬(x=n/\y=z)/\¬(x=m/\y= -z):=by
 unfold RS.keep;let a:∀x,((S.b6 n z m).b6 m (-z) n).gap x=S.gap x:=λx=>rfl
 rw[jx ([yM]▸c),jx (by rwa[b]),jx (by rwa[b]),a,a,a]
 cbv
def rB {x:Nat}(d:n<⇑S.gaps)(e:m<⇑S.gaps):((S.keep n z m).gap x).Sublist (S.gap x):=by
 unfold RS.keep;let b:∀x,((S.b6 n z m).b6 m (-z) n).gap x=S.gap x:=λx=>rfl
 rw[jx ([yM]▸e),jx (by rwa[d]),jx (by rwa[d]),b,b,b];by_cases c:x=m
 ·subst c;rw[agX rfl];by_cases a:x=n
  ·subst a;rw[agX rfl];rwa[List.Sublist.trans aiB aiB]
  ·rw[agT a];rwa[aiB]
 ·rw[agT c];by_cases a:x=n
  ·subst a;rw[agX rfl];rwa[aiB]
  cbv
def DW {x:Nat}(b:n<⇑S.ways)(a:m<⇑S.ways):(S.keep n z m).by x y=if x=m/\y= -z then some n else if x=n/\y=z then some m else S.by x y:=by
 show (((S.b6 n z m).b6 m (-z) n)).by x y=_;rw[jv (by unfold RS.b6 RS.j8;rw[agZ];rwa[a]),jv b]
def eK.keep (h:eK S R ks)(g:Good S pend R){c d:Nat}{z:Int}(hc:c<S.made)(hd:d<S.made)(i:Im S R c z d):eK (S.keep c z d) R ks:=by
 let l:c<⇑S.gaps:=by rw[g.wf.g];rwa[hc]
 let a:d<⇑S.gaps:=by rw[g.wf.g];rwa[hd]
 rwa[⟨λx f=>(rB l a).trans (h.sub x f),λx f ex y n m=>?_,λx y e j=>?_⟩]
 ·rw[pV l a]at m;by_cases k:x=c/\y=z
  ·rw[k.1,k.2];rwa[d,i]
  ·by_cases b:x=d/\y= -z
   ·rw[b.1,b.2];rwa[c,i.back g]
   ·rwa[h.im x f ex y n λq=>m ⟨q,k,b⟩]
 ·rw[DW ([g.wf.w]▸hc) ([g.wf.w]▸hd)]at j;rw[pV l a];rintro ⟨q,p,o⟩;rw[agT o,agT p]at j;rwa[h.by_ x y e j q]
def JY {x:Nat}:(S.meet n z x m pend).1.gaps=S.gaps:=by
 have:=(gF (max x m) (S.joined n z (min x m) (max x m)) pend ((S.joined n z (min x m) (max x m)).way (max x m))).2;have:=ahT RS.gaps this;rwa[this]
theorem eK.meet (h:eK S R ks)(g:Good S pend R){c x y:Nat}{z:Int}(o:S.by c z=some x)(E:y<S.made)(H:S.av y=y)(u:x≠y){d:Ze}
 (made:(S.meet c z x y d).1.made=S.made) (av:∀a,(S.meet c z x y d).1.av a=if S.av a=max x y then min x y else S.av a):eK (S.meet c z x y d).1 R ks:=by
 let k:∀a,(S.meet c z x y d).1.gap a=S.gap a:=λa=>by unfold RS.gap;rw[JY]
 let⟨_,n,_,ex⟩:=g.st _ _ _ o;let j:max x y<S.made:=by rcases ajJ x y with q|q <;> ext
 let fk:∀a,a<S.made->(S.meet c z x y d).1.av a=a->S.av a=a/\a≠max x y:=λa i e=>by
  rw[av]at e;let p:=(g.el a i).1;by_cases q:S.av a=max x y
  ·rw[agX q]at e;ext
  ·cbv
 rwa[⟨λa i=>[k]▸h.sub a (by rw[<-made];rwa[i]),λa i A s v m=>?_,λa s b D=>?_⟩]
 ·rw[k]at m;let⟨C,F⟩:=fk a (by rw[<-made];rwa[i]) A;let⟨b,B,t,r,I,G⟩:=h.im a (by rw[<-made];rwa[i]) C s v m;rwa[_,B,t,r,by cbv,2]
 ·rw[k]
  let l:∀q∈(S.joined c z (min x y) (max x y)).way (max x y),q.2<(S.joined c z (min x y) (max x y)).ways.length:=λq w=>by
   show q.2<⇑S.ways;rw[g.wf.w];rwa[(g.st _ _ _ (jw (g.kn (max x y)) w)).2.1]
  let f:(cZ (max x y) (S.joined c z (min x y) (max x y)) d ((S.joined c z (min x y) (max x y)).way (max x y))).1.by a s=some b:=D;rw[xM (by show max x y<⇑S.ways;rw[g.wf.w];rwa[j]) _ l]at f;split at f
  ·ext f
  ·rwa[h.by_ a s b f]
def yN {x:Nat}:(S.meet n z x m pend).1.made=S.made:=by
 have:=(gF (max x m) (S.joined n z (min x m) (max x m)) pend ((S.joined n z (min x m) (max x m)).way (max x m))).2;have:=ahT RS.made this;rwa[this]
def eK.take {w:Way}(hG:eK S R ks)(h:Good S (pend++[w]) R):eK (S.takeIn pend w).1 R ks:=by
 let hw:=h.pl w (agB _ agM);let f:=h.sp w (agB _ agM);let hc:=h.lt hw.1;let hd:=h.lt hw.2;let g:=(h.el _ hw.1).2;let ed:=(h.el _ hw.2).2;let i:∀x∈pend,x∈pend++[w]:=λx b=>agU _ b
 let last:∀x∈pend++[w],x∉pend->x=w:=λx b nx=>by
  cbv
 unfold RS.takeIn;by_cases c:(S.by (S.av w.1) w.2.1).getD (S.av w.2.2)≠S.av w.2.2
 ·rw[agX c]
  cases e:S.by (S.av w.1) w.2.1 with
  |none=>cbv
  |some x=>
   rw[e]at c;let⟨_,d,_⟩:=h.meet e hd ed c f i (λx b nx=>[last x b nx]▸.inl ⟨222⟩);rwa[hG.meet h e hd ed c yN d]
 ·rw[agT c];by_cases a:(S.by (S.av w.2.2) (-w.2.1)).getD (S.av w.1)≠S.av w.1
  ·rw[agX a]
   cases e:S.by (S.av w.2.2) (-w.2.1) with
   |none=>rw[e]at a;rwa[absurd rfl a]
   |some x=>
    rw[e]at a;let⟨_,d,_⟩:=h.meet e hc g a (f.back h) i (λx b nx=>[last x b nx]▸.inr ⟨2,(air _).symm,2⟩);rwa[hG.meet h e hc g a yN d]
  ·rw[agT a];rwa[hG.keep h hc hd f]
def eK.more {e:Za2}(h:eK S R ks)(k:∀a z b,R a z b->e a z b):eK S e ks:=⟨h.sub,λc hc f z hz m=>by
 let⟨d,g,l,r,i,j⟩:=h.im c hc f z hz m;rwa[d,g,l,k _ _ _ r,i,j],h.by_⟩
def eK.rows (h:eK S R ks)(rows:List Dt):eK { S with rows:=rows } R ks:=⟨h.sub,h.im,h.by_⟩
def Oj (L:Nat)(g:Zg):eK (RS.new L g) (λ_ _ _=>False) g:=by
 rwa[⟨λc a=>?_,λc a _ z f b=>?_,λc z d e=>?_⟩]
 ·let a:c<1:=a;rw[show c=0 by ext];rwa[List.Sublist.refl _]
 ·let a:c<1:=a;rw[show c=0 by ext]at b;rwa[absurd f b]
 ·have:(RS.new L g).by c z=none:=by rcases c with _|c <;> rfl
  cbv
def eK.make (h:eK S R ks)(g:Good S [] R){c:Nat}{z:Int}(hc:c<S.made)(E:S.av c=c)(L:S.by c z=none):eK (S.make c z ks) (fu R c z S.made) ks:=by
 let v:∀x,(S.grown c z ks).gap x=if x=S.made then ks else S.gap x:=λx=>by
  unfold RS.gap;show (S.gaps++[ks]).getD x []=_;rw[agD,agD];by_cases i:x=S.made
  ·subst i;rw[agX rfl,agI ([g.wf.g]▸agA _),g.wf.g,ain];rfl
  ·rw[agT i];by_cases I:x<⇑S.gaps
   ·rw[agF I]
   ·have:=g.wf.g;rw[agI ∅,ahd (by rw[ahI];omega),ahd ∅]
 let B:∀x y,(S.grown c z ks).by x y=S.by x y:=λx y=>by unfold RS.by;rw[nH g.wf]
 let m:c<(S.grown c z ks).gaps.length:=by show c<⇑(S.gaps++[ks]);rw[agw,g.wf.g];ext
 let j:S.made<(S.grown c z ks).gaps.length:=by show S.made<⇑(S.gaps++[ks]);rw[agw,g.wf.g,ahI];ext
 let u:c<(S.grown c z ks).ways.length:=by show c<⇑(S.ways++[[]]);rw[agw,g.wf.w];ext
 let p:S.made<(S.grown c z ks).ways.length:=by show S.made<⇑(S.ways++[[]]);rw[agw,g.wf.w,ahI];ext
 let ee:∀x,(S.make c z ks).av x=if x=S.made then S.made else S.av x:=λx=>fy g.wf c z ks x
 let l:∀a s b,S.by a s=some b->a≠S.made:=λa s b e q=>by have:=(g.st _ _ _ e).1;ext
 rwa[⟨λx i=>?_,λx i ex y w f=>?_,λx y e n=>?_⟩]
 ·rwa[(rB m j).trans ?_];rw[v];by_cases q:x=S.made
  ·cbv
  ·rw[agT q];let i:x<S.made+ 1:=i;rwa[h.sub x ∅]
 ·let f:y∉((S.grown c z ks).keep c z S.made).gap x:=f;rw[pV m j,v]at f;by_cases t:x=c/\y=z
  ·erw[S.made,c,S.made,[t.2]▸j9,5]
   ·cbv
   cbv
  ·by_cases o:x=S.made/\y= -z
   ·erw[c,S.made,c,[o.2]▸.inr (.inr ⟨222⟩),5]
    ·rw[ee,agX rfl,o.1]
    ·rw[ee,agT ∅];rwa[E]
   ·by_cases q:x=S.made
    ·rw[agX q]at f;rwa[absurd ⟨w,t,o⟩ f]
    ·rw[agT q]at f;let i:x<S.made+ 1:=i;rw[ee,agT q]at ex;let⟨d,F,D,r,G,A⟩:=h.im x ∅ ex y w λk=>f ⟨k,t,o⟩
     let J:=g.rl _ _ _ r;rwa[d,F,D,.inl r,[ee,agT ∅]▸G,[ee,agT ∅]▸A]
 ·let n:((S.grown c z ks).keep c z S.made).by x y=some e:=n;rw[DW u p,B]at n;show y∉((S.grown c z ks).keep c z S.made).gap x;rw[pV m j,v];rintro ⟨q,H,C⟩;rw[agT C,agT H]at n;rw[agT (l _ _ _ n)]at q;rwa[h.by_ x y e n q]
def eK.fin (h:eK S R ks)(g:Good S [] R)(nd:ks.Nodup){c:Nat}(hc:c<S.made)(f:S.av c=c):S.gap c=ks.filter λz=>(S.by c z).isNone:=by
 let sl:∀{l k:Zg},l.Sublist k->k.Nodup->l=k.filter λz=>decide (z∈l):=λ{l k} s=>by
  induction s with
  |slnil=>intro _;rfl
  |cons a s b=>
   cbv
  |cons_cons a s b=>
   intro m;let j:=ahb.mp m;rw[ajS (by simp)]
   congr 1
   conv=>lhs;rw[b j.2]
   rwa[aj4 λz hz=>?_]
   cbv
 rw[sl (h.sub c hc) nd];rwa[aj4 λz hz=>?_]
 cases e:S.by c z with
 |some d=>
  have:=h.by_ c z d e;simp[this]
 |none=>
  by_cases q:z∈S.gap c
  ·simp[q]
  ·let⟨d,i⟩:=h.im c hc f z hz q;have:=g.rx.mpr i
   cbv
end
end L2
namespace L2
open PySem PySem.Spec PyProof.Rows
structure Fly (B:Heap) (l:Zq) (x:Zs) (cls a0:Zt) (h:Heap):Prop where
 stays:B.StaysIn h
 new:B.get? x=none
 afe:h.FunFrames B l
 tr:∃fl,h.TracedAtW B x cls a0 fl
theorem Ol {tg:Expr}(d it:Zs)(o:Obj)(n:Array DictEntry)(ep:Nat)(a:List (Key×V))(y:o.data=.dict n ep):Turn P w K tg (Av d o a) [it] it (λi h=>h.IsKeyIter it d i n.size ep) where
 mem:=by simp
 obj:=λi h st b m=>by
  let e:b=it:=by simpa using m
  subst e;let⟨o,e,c,d⟩:=st
  cbv
 keep:=λi h C st k=>st.at λo e=>k it (by simp) o e
 item:=by
  intro X hP N Z hc i g s σ H E I A st T;subst hP N Z;let⟨z,U⟩:=T;obtain⟨f,-,G,W,rel,o2,Q,O,t,L,r,h4,B,h6⟩:=I.aO d _ U;rw[f]at t;obtain rfl:=Za0 t;rw[y]at r;injection r with Y J
  subst Y J;let hv:=rn B rel;let p:=pairs_len B;let l:⇑a=⇑W:=KV.length rel;let D:n.size=⇑a:=by rw[<-aie,p,l]
  let j:n[i]?\(n[i]'∅):=Array.getElem?_eq_getElem ∅
  generalize n[i]'∅=en at j;let u:a[i]?\(a[i]'z):=agv z
  generalize a[i]'z=R at u;let⟨u0,q,rk⟩:=hv.get (i:=i) (x:=kV R.1) (by cbv);rw[agR,aje,j]at q;obtain rfl:en.key=u0:=Za0 q;let⟨f0,S,f2,F,f4,M⟩:=A it (by simp);rwa[Dk.item st ⟨_,f,L,y⟩ j λC v sb=>?_]
  let I1:Inv X g σ H (s<*C):=I.turned (t':=s.toks) (λb o m e=>(sb.2 b m).trans e) f0 S F f4 M;let⟨oi,e,c,dd⟩:=id v;rwa[12,zJ (s:=(s<*C)) e c dd ⋯ ⟨kV R.1,H,I1,rk,⟨2,R,u,2⟩,v,λb m=>(A b m).1⟩]
 done:=by
  intro X hP N Z hc i g s σ H E I A st T;subst hP N Z;let⟨z,U⟩:=T;obtain⟨f,-,G,W,rel,o2,Q,O,t,L,r,h4,B,h6⟩:=I.aO d _ U;rw[f]at t;obtain rfl:=Za0 t;rw[y]at r;injection r with Y J
  subst Y J;let p:=pairs_len B;let l:⇑a=⇑W:=KV.length rel;let D:n.size=⇑a:=by rw[<-aie,p,l]
  let⟨f0,S,f2,F,f4,M⟩:=A it (by simp);rwa[Dk.fin (I.ok.hd hc) st ⟨_,f,L,y⟩ (ajW ∅) λC eb=>⟨2,I.turned (t':=s.toks) (λb o m e=>eb b o m e) f0 S F f4 M⟩]
 self:=λ_ _ _ _ _ st h=>wpAny_pyIter_keyiter st h
section
variable {X:Cx}{tg:Expr}
def iDK (tl:TE):TI:=λ c H R=>tl c H λx b=>∃d a,x=↑d/\b d\.dK a/\∀o,R (Av d o a) (upd b d (.cW o (.dK a)))
def Vk {tl:TE}(B:PE X e tl):PI X tg e (iDK tl):=by
 intro c s v H R I h;rwa[aZ (B c s v H _ I h) λu s1 ζ=>?_];let⟨x,L,f,r,d,j,ex,n,q⟩:=ζ
 subst ex;ext r;obtain⟨-,i,G,rel,o,p,k,m,t,l,C,F,E⟩:=f.aO d _ n;rwa[Dk.iter i ⟨o,m,t,l⟩ ?_];let y:=(f.freeze n True.intro m).kept (h':=s1.heap.push ("dict_keyiterator">>>.fields #[↑d,.int 0 0,.int p.size 0,.int k 0])) (t':=s1.toks) λb o a=>agt _ a
 let T:=Ol (P:=X.prog) (w:=X.w) (K:=X.K) (tg:=tg) d ↥s1 o p k j l;rwa[⟨111112,y,T,⟨_,agK _ rfl,22⟩,λb A=>?_,q o⟩];rw[agC.mp A];let g:=f.aO.fresh (agA ↥s1);rwa[f.pJ (agA _) ([ak (λz=>by cbv)]▸g)]
end
theorem Rh {o:Obj}{kvs:List (Key×V)}{g:TG}{n:TS}(a:Nat->St->Hp->Prop)(s:a 0 D H)(z:∀i D H,i<=⇑kvs->a i D H->H d\.cW o (.dK kvs))
 (v:∀i j D H,kvs[i]?\j->a i D H->g (kV j.1) D H λ b k=>n { G with nx:=a (i+ 1),ct:=a (i+ 1),bk:=G.nx } b k) (w:∀ D H,a ⇑kvs D H->G.nx D H):
 ∃W:Nat->Nat->St->Hp->Prop,(∃m,W 0 m D H)/\∀i m D H,W i m D H->
  ((Av d o kvs).stop i H/\G.nx D H)\/((Av d o kvs).go i H/\∃N:St->Hp->Prop,(∀ c f,N c f->∃l,l<m/\W (i+ 1) l c f)/\∀x f,(Av d o kvs).ml i H x f->g x D f λ b k=>n { G with nx:=N,ct:=N,bk:=G.nx } b k):=by
 erw[λi m D H=>m=⇑kvs - i/\i<=⇑kvs/\a i D H,⟨⇑kvs,by simp,agW _,s⟩];rintro i m D H ⟨rfl,r,p⟩;let q:=z i D H r p;by_cases h:i<⇑kvs
 ·rwa[.inr ⟨⟨h,q⟩,a (i+ 1),λ c f t=>⟨⇑kvs - (i+ 1),32,h,t⟩,λx f y=>?_⟩];let⟨rfl,j,u,rfl⟩:=y;rwa[v i j D _ u p]
 ·let e:i=⇑kvs:=∅
  subst e;rwa[.inl ⟨⟨agA _,q⟩,w D H p⟩]
inductive V5 (a:Zs) (y z:V) (H:Hp) (Q:VK):Prop
 |mk (kvs:List (Key×V)) (k:Key):H a\.dK kvs->y=kV k->⇑kvs<sizeLine->(∀v,bz kvs k\v->Q v H)->(bz kvs k=none->Q z (upd H a (.dK (putK kvs k z))))->V5 a y z H Q
def Vl (td e tx:TE):TE:=λ b H Q=>td b H λx c=>DN x c λa=>e b c λy f=>tx b f λz d=>V5 a y z d Q
section
variable {X:Cx}{o e f:Expr}{apos cF:Pos}{td ty tx:TE}
def nJ (G:PE X o td)(n:PE X e ty)(R:PE X f tx)(m:M2 X o "setdefault" apos e f cF):PE X (.Call (.Attribute o "setdefault" apos) [e,f] [] cF) (Vl td ty tx):=by
 intro c s p H Q I h;rwa[aiV m.base m.few m.line ahU aiv PySem.F.type_dict_setdefault (aZ (G c s p H _ I h) λu Z ζ=>?_)];let⟨x,H1,A,J,a,ex,d,q1⟩:=ζ;subst ex;obtain rfl:u=Value.ref a:=J;let⟨t1,N,_⟩:=mB A d;erw[t1,N];rw[m.trees]
 rwa[ahE rfl (aia (ahy (aZ (n c Z p H1 _ A q1) λiv T ζ=>?_)))];let⟨y,H2,U,F,L⟩:=ζ;rwa[ ahy (aZ (R c T p H2 _ U L) λS s3 ζ=>?_)];let⟨z,O,t,w,g,k,C,P,iV,q3,q4⟩:=ζ;rwa[ah4 ?_]
 subst P;let⟨V,D,E,rel,B⟩:=sN t.aO C;let b:=rel.val k;let r:⇑E<=sizeLine:=by rw[<-⇑rel];rwa[V]
 rwa[ai3 aiv B.typeIs PySem.F.entry_dict_setdefault (PySem.F.args_dict_setdefault_3^_) (kt_meets_setdefault (bQ X.prog X.w) a (jL F) D S) ⟨E,B,r,λv hv=>?_,λY g1 i M=>?_⟩]
 ·rw[hv]at b
  cases l:bz g k with
  |none=>rw[l]at b;rwa[b.elim]
  |some j=>
   rw[l]at b;rwa[j,O,t.tok _,b,q3 j l]
 ·rw[Y]at b
  cases l:bz g k with
  |some j=>rw[l]at b;rwa[b.elim]
  |none=>
   let hl:⇑(putK g k z)<=sizeLine:=by have:=gW g k z;ext
   let n:∃q,g1.get? a\q:=let ⟨q,_,_,W,_⟩:=i;⟨q,W⟩
   rwa[z,_,j7 t ([C]▸True.intro) M n (qY hl D (rel.put k w) i),w,q4 l]
end
namespace Di
section
variable {prog:Program}{w:World}{A:Around}{E:Zt->Zu->Prop}{s:Zu}{d:Zs}{es:Array DictEntry}{ep:Nat}
def meets (d:Zs)(b:(d==sysModules)=false):MeetsIn prog w (Builtin.«dict.items» ⟨[↑d],[]⟩) (λ_ R s=>(∃es ep,eB s.heap d es ep)/\R (.ok (.ret ↑↥s)) { s with heap:=s.heap.push ("dict_items">>>.fields #[↑d]) }):=
 .of_wp λA R s ζ=>by
  let⟨⟨es,ep,a⟩,h⟩:=ζ
  rwa[ags ?_];rwa[ags (ajk (Dk.typ a) ?_)];rwa[agz ?_];unfold Builtin.Dict.showsAll;rw[agT (by rw[b];decide)];rwa[ags (agz (ags (ahg (agz ⟨12,h⟩))))]
theorem iter (e:s.heap.IsItemsView a d)(h:eB s.heap d es ep)
 (i:Q ↑↥s { s with heap:=s.heap.push ("dict_itemiterator">>>.fields #[.none,.bool false,↑d,.int 0 0,.int es.size 0,.int ep 0,.none,.none]) }):(prog<|>w) A (pyIter ↑a) Q E s:=by
 let⟨k,c,j,f⟩:=id e;let⟨o,g,l,b⟩:=id h;rwa[wpAny_pyIter_slot e.typeIs F.slot_dict_items_iter (ahB F.slot_dict_items_iter e.typeIs F.entry_dict_items_iter ?_ (F.args_dict_items_iter_1 _))];rwa[ags (agz (ags ?_))];rwa[ags (ahv c f (x:=↑d) rfl (agz (ags ?_)))];rwa[ags (aiz g b (ags (ajl g b ?_)))];let own:Builtin.Dict_items.ownsTuple "dict_itemiterator"=true:=⋯
 simp only[own,aj0];rwa[ahg (agz ⟨12,"dict_itemiterator",_,⟨_,agK _ rfl,2⟩,ah1.lookup,5⟩) (by simp only[sizeOk,Builtin.Dict_items.ownedTupleFields,agL,agw,agV,ahZ,sizeLine_eq];omega)];simpa [rawInt,Builtin.Dict_items.ownedTupleFields] using i
theorem item {it:Zs}{en:DictEntry}{ok:Zt}{Q:Zl->Zu->Prop}(hit:IsItemIter s.heap it d i es.size ep ok v)(y:eB s.heap d es ep)(C:es[i]?\en)
 (z:∀g,IsItemIterOut g it d (i+ 1) es.size ep en.key en.val ↥s->g.get? ↥s\("tuple">>>.seq #[en.key,en.val])->
  (∀b o,b≠it->s.heap.get? b\o->g.get? b\o)->Q (some ↑↥s) (s<*g)):(prog<|>w) A (pyNext ↑it) Q E s:=by
 let⟨f,p,q,n,os⟩:=s;let⟨P,l,J,h⟩:=id y;let c:Shared.TypeIs ⟨f,p,q,n,os⟩ ↑it "dict_itemiterator":=⟨_,hit,2⟩;rwa[ags (wpAny_attempt (ahw (name:=Str.ofString "__next__") c ah1 (ahB ah1 c F.entry_dict_itemiterator_next ?_ (F.args_dict_itemiterator_next_1 _))))];rwa[ags (agz (ags (ags ?_)))]
 first|(rwa[ags (aio c (agz ?_))];skip)|(rwa[ags (aiQ c (agz ?_))];skip)
 rwa[ags (wpAny_fieldsOf hit rfl ?_)];let own:Builtin.Dict_items.ownsTuple "dict_itemiterator"=true:=⋯
 show wpAny _ _ (if (Value.ref d==Value.none)=true then _ else _) _ _ _;rw[agT (show ¬((Value.ref d==Value.none)=true) by cbv)];rwa[ags (agz (ags (aiz l h ?_)))];rw[agT (by simp)];rwa[ags (agz (ags (ajl l h ?_)))];rw[agT (by simp)];rwa[agz ?_];simp only[show ¬((i:Int)<0) by ext,ajo,ag4,C];rwa[ags ?_]
 first|(rwa[ags (aio c (agz ?_))];skip)|(rwa[ags (aiQ c (agz ?_))];skip)
 rwa[ags (wpAny_isOneOf_itemiter c ?_)];show wpAny _ _ (setField ↑it 3 (rawInt ((i:Int)+ 1)) >>=_) _ _ ⟨f,p,q,n,os⟩
 rwa[ags (ahO hit (by simp) λg1 u s1=>?_)];let m:Shared.TypeIs ⟨g1,p,q,n,os⟩ ↑it "dict_itemiterator":=⟨_,u,2⟩;rwa[ags (ahF (ags (wpAny_isOneOf_itemiter m (ags (wpAny_isOneOf_itemiter m ?_)))))];rwa[ags (wpAny_newTuple ?_)];let j:IsItemIter (g1.push ("tuple">>>.seq #[en.key,en.val])) it d (i+ 1) es.size ep ok v:=agt _ u;generalize k:g1.push ("tuple">>>.seq #[en.key,en.val])=g2 at j;let z1:g1.objs.size=f.objs.size:=s1.1;let M:it<f.objs.size:=agQ hit;let B:g2.get? f.objs.size\("tuple">>>.seq #[en.key,en.val]):=by rw[<-k,<-z1];rwa[agK _ rfl]
 let I:∀b o,b≠it->f.get? b\o->g2.get? b\o:=λb o a e=>by rw[<-k];rwa[agt _ (s1.extBut b o a e)]
 show wpAny _ _ (Builtin.Dict_items.ownedTupleIsFree ↑it >>=_) _ _ ⟨g2,p,q,n,os⟩;rw[z1];rwa[ags ?_];rwa[ags (ahv j rfl (x:=.none) rfl (agz ?_))];rwa[ags (ahv j rfl (x:=ok) rfl (ags (ahv j rfl (x:=v) rfl ?_)))];rwa[ags (ahO j (by simp) λO D s3=>?_)];rwa[ags (ahO D (by simp) λS G s4=>?_)];rwa[ags (ahO G (by simp) λR L s5=>?_)];rwa[ags (ahO L (by simp) λt H N=>?_)];let r:∀b o,b≠it->g2.get? b\o->t.get? b\o:=λb o a e=>N.extBut b o a (s5.extBut b o a (s4.extBut b o a (s3.extBut b o a e)))
 rwa[ags (aj3 (agz (agz ⟨12,agz (z t H (r _ _ (ahL M) B) λb o a e=>r b o a (I b o a e))⟩)))]
theorem fin {it:Zs}{ok:Zt}{Q:Zl->Zu->Prop}(l:A.handled=none)(hit:IsItemIter s.heap it d i es.size ep ok v)(h:eB s.heap d es ep)(k:es[i]?=none)
 (n:∀g,Heap.ExtBut it s.heap g->Q none (s<*g)):(prog<|>w) A (pyNext ↑it) Q E s:=by
 let⟨o,f,j,e⟩:=id h;let c:s.TypeIs ↑it "dict_itemiterator":=⟨_,hit,2⟩;rwa[ags (wpAny_attempt (ahw (name:=Str.ofString "__next__") c ah1 (ahB ah1 c F.entry_dict_itemiterator_next ?_ (F.args_dict_itemiterator_next_1 _))))];rwa[ags (agz (ags (ags ?_)))]
 first|(rwa[ags (aio c (agz ?_))];skip)|(rwa[ags (aiQ c (agz ?_))];skip)
 rwa[ags (wpAny_fieldsOf hit rfl ?_)];let own:Builtin.Dict_items.ownsTuple "dict_itemiterator"=true:=⋯
 show wpAny _ _ (if (Value.ref d==Value.none)=true then _ else _) _ _ s;rw[agT (show ¬((Value.ref d==Value.none)=true) by cbv)];rwa[ags (agz (ags (aiz f e ?_)))];rw[agT (by simp)];rwa[ags (agz (ags (ajl f e ?_)))];rw[agT (by simp)];rwa[agz ?_];simp only[show ¬((i:Int)<0) by ext,ajo,ag4,k];rwa[ags ?_]
 first|(rwa[ags (aio c (agz ?_))];skip)|(rwa[ags (aiQ c (agz ?_))];skip)
 show wpAny _ _ (setField ↑it 2 .none >>=_) _ _ s;rwa[ags (aiO hit rfl (by simp) ?_)];rwa[ags ?_];rwa[ags (m:=firstArgMember _ _) (wpAny_of_eq (a:=Value.none) (by first|rfl|(simp only[firstArgMember];rfl)) ?_)];rwa[ahg ?_ (by size_fits)];rwa[ags (wpAny_handled ?_)];rw[show A.in1.handled=none from l];rwa[ags (agz (wpAny_throw ?_))];rwa[ags (wpAny_isInstance (T:="StopIteration") (b:=true) ⟨_,agK _ rfl,2⟩ isSubtype_stop ?_)];rwa[agz (n _ (((ah3 ..).extBut.push _).push _))]
end
end Di
theorem yO {c b:Type}{R:c->b->Prop}:∀{e:List c} {ys:List b},Paired R e ys->∀{i:Nat} {x:c} {y:b},e[i]?\x->ys[i]?\y->R x y
 |[],_,h,i,x,y,a,_=>by simp at a
 |k::f,_,h,i,x,y,a,d=>by
  cases h with
  |cons g j=>
   cases i with
   |zero=>rw[<-Za0 a,<-Za0 d];rwa[g]
   |succ i=>exact yO j a d
def AG (d:Zs)(o:Obj)(a:List (Zd×V)):It:=
 ⟨λi H=>i<⇑a/\H d\.cW o (.dT a),λi H x c=>∃p kp b,a[i]?\b/\H p=none/\H kp\.tup (b.1.map kV)/\x=↑p/\c=upd H p (.tup [↑kp,b.2]),λi H=>⇑a<=i/\H d\.cW o (.dT a)⟩
theorem Om {elts:Zr}{x1:Nat}{tp:Pos}(d it:Zs)(o:Obj)(D:Array DictEntry)(ep:Nat)(c:List (Zd×V))(v:o.data=.dict D ep):
 Turn P w K (.Tuple elts x1 tp) (AG d o c) [it] it (λi h=>∃ok p,IsItemIter h it d i D.size ep ok p) where
 mem:=by simp
 obj:=λi h st b n=>by
  cbv
 keep:=λi h h' ζ k=>by let⟨ok,p,e⟩:=ζ;rwa[⟨ok,p,k it (by simp) _ e⟩]
 item:=by
  intro X hP hw hK hc i r s σ H E I C st Z;let⟨ok,p,hit⟩:=st;let⟨x,hd⟩:=Z;obtain⟨f,-,M,ys,B,o2,U,S,j,O,t,T,h5⟩:=I.aO d _ hd;rw[f]at j;obtain rfl:=Za0 j;rw[v]at t;injection t with e1 N
  subst e1 N;let yP:⇑c=⇑ys:=Paired.length B;let F:ys[i]?\(ys[i]'∅):=agv ∅
  generalize ys[i]'∅=y at F;let W:D[i]?\(entryOfKey (tupleKind (bQ X.prog X.w)) y):=by rw[entry_at T,F];rfl
  let l:c[i]?\(c[i]'x):=agv x
  generalize c[i]'x=u at l;let hk:u.1=y.1/\H y.2.1\.tup (u.1.map kV)/\RelV u.2 y.2.2:=yO B l F;let il:it<↥s:=agQ hit;rwa[Di.item hit ⟨_,f,O,v⟩ W λg G hT Y=>⟨12,wpAny_letOwnedTupleGo_items G λg2 QZ sb=>?_⟩]
  let J:g2.get? ↥s\("tuple">>>.seq #[↑y.2.1,y.2.2]):=(sb.2 _ (ahL il)).trans hT
  let R:∀b m,b∉[it]->s.heap.get? b\m->g2.get? b\m:=λb m n q=>by
   let j:b≠it:=λz=>n (by simp[z])
   rwa[(sb.2 b j).trans (Y b m j q)]
  let L:=I.aO.fresh (agA ↥s);rwa[⟨↑↥s,_,I.uE (fp:=[it]) (a:=↥s) (o:=.tup [↑y.2.1,u.2]) (h':=g2) (t':=s.toks) R C (agA _) ?_,2,⟨_,y.2.1,u,l,L,hk.2.1,22⟩,⟨11,QZ⟩,λb n=>?_⟩]
  ·rwa[by show 2<=sizeLine;decide,[↑y.2.1,y.2.2],.cons rfl (.cons hk.2.2 .nil),_,J,212]
  ·rw[agC.mp n,ak (ag2 il)];rwa[(C it (by simp)).1]
 done:=by
  intro X hP hw hK hc i r s σ H E I C st Z;let⟨ok,p,hit⟩:=st;let⟨x,hd⟩:=Z;obtain⟨f,-,M,ys,B,o2,U,S,j,O,t,T,h5⟩:=I.aO d _ hd;rw[f]at j;obtain rfl:=Za0 j;rw[v]at t;injection t with e1 N
  subst e1 N;let yP:⇑c=⇑ys:=Paired.length B;let hsz:D.size=⇑ys:=size_of_entries T;rwa[Di.fin (I.ok.hd hc) hit ⟨_,f,O,v⟩ (ajW ∅) λg eb=>⟨2,I.xI (fp:=[it]) (t':=s.toks) (λb m n q=>eb b m (λz=>n (by simp[z])) q) C⟩]
 self:=λA i s Q E ζ h=>by let⟨ok,p,hit⟩:=ζ;rwa[PySem.W.kcp_self hit h]
section
variable {X:Cx}
def iDI (tl:TE):TI:=λ c H R=>tl c H λx b=>∃d a,x=↑d/\b d\.dT a/\∀o,R (AG d o a) (upd b d (.cW o (.dT a)))
def Vm {tl:TE}{elts:Zr}{apos c:Pos}(O:PE X e tl)(f:attributeBase e "items" X.env (eval e X.env)=eval e X.env:=by rfl)(hline:(apos.endLine==c.line)=true:=by rfl):
 PI X (.Tuple elts n p) (.Call (.Attribute e "items" apos) [] [] c) (iDI tl):=by
 intro k s L H R I h;rwa[wpAny_Call_method0_late f hline (aZ (O k s L H _ I h) λu s1 ζ=>?_)];let⟨x,S,m,G,d,j,ex,D,q⟩:=ζ;subst ex;ext G;obtain⟨-,y,ys,U,o,t,l,C,E,B,V,Y⟩:=m.aO d _ D;let i:eB s1.heap d t l:=⟨o,C,E,B⟩;let A:DM S d:=.inr ⟨j,.inl D⟩;let⟨F,J,_⟩:=mB m A;rwa[⟨"dict","dict.items",ahU,PySem.F.slot_dict_items,PySem.F.type_dict_items,F,J,ahE rfl (PySem.evalArgs_none ?_)⟩];rwa[ai3 PySem.F.slot_dict_items F PySem.F.entry_dict_items (PySem.F.args_dict_items_1 _) (Di.meets d y) ⟨⟨t,l,i⟩,5⟩];let Q:(s1.heap.push ("dict_items">>>.fields #[↑d])).IsItemsView ↥s1 d:=⟨_,agK _ rfl,22⟩;let g:eB (s1.heap.push ("dict_items">>>.fields #[↑d])) d t l:=⟨o,agt _ C,E,B⟩;rwa[Di.iter (s:={ s1 with heap:=s1.heap.push ("dict_items">>>.fields #[↑d]) }) Q g ?_];let M:=(m.freeze D True.intro C).kept (h':=(s1.heap.push ("dict_items">>>.fields #[↑d])).push ("dict_itemiterator">>>.fields #[.none,.bool false,↑d,.int 0 0,.int t.size 0,.int l 0,.none,.none])) (t':=s1.toks) λb o a=>agt _ (agt _ a)
 let r:↥s1<=(s1.heap.push ("dict_items">>>.fields #[↑d])).objs.size:=by rw[aii];ext
 let T:=Om (P:=X.prog) (w:=X.w) (K:=X.K) (elts:=elts) (x1:=n) (tp:=p) d (s1.heap.push ("dict_items">>>.fields #[↑d])).objs.size o t l j B;rwa[⟨111112,M,T,⟨11,agK _ rfl⟩,λb N=>?_,q o⟩];rw[agC.mp N];let v:=m.aO.fresh r;rwa[m.pJ r ([ak (λz=>by cbv)]▸v)]
end
theorem Ri {o:Obj}{kvs:List (Zd×V)}{g:TG}{n:TS}(a:Nat->St->Hp->Prop)(s:a 0 D H)(C:∀i D H,i<=⇑kvs->a i D H->H d\.cW o (.dT kvs))
 (z:∀i h D H p kp,kvs[i]?\h->H p=none->H kp\.tup (h.1.map kV)->a i D H->g ↑p D (upd H p (.tup [↑kp,h.2])) λ b k=>n { G with nx:=a (i+ 1),ct:=a (i+ 1),bk:=G.nx } b k) (B:∀ D H,a ⇑kvs D H->G.nx D H):
 ∃W:Nat->Nat->St->Hp->Prop,(∃m,W 0 m D H)/\∀i m D H,W i m D H->
  ((AG d o kvs).stop i H/\G.nx D H)\/((AG d o kvs).go i H/\∃N:St->Hp->Prop,(∀ c f,N c f->∃l,l<m/\W (i+ 1) l c f)/\∀x f,(AG d o kvs).ml i H x f->g x D f λ b k=>n { G with nx:=N,ct:=N,bk:=G.nx } b k):=by
 erw[λi m D H=>m=⇑kvs - i/\i<=⇑kvs/\a i D H,⟨⇑kvs,by simp,agW _,s⟩];rintro i m D H ⟨rfl,r,p⟩;let q:=C i D H r p;by_cases j:i<⇑kvs
 ·rwa[.inr ⟨⟨j,q⟩,a (i+ 1),λ c f v=>⟨⇑kvs - (i+ 1),32,j,v⟩,λx f y=>?_⟩];let⟨A,kp,h,w,t,u,rfl,rfl⟩:=y;rwa[z i h D _ A kp w t u p]
 ·let e:i=⇑kvs:=∅
  subst e;rwa[.inl ⟨⟨agA _,q⟩,B D H p⟩]
theorem uG:∀(n:Nat) (l:Zg) (lo:Int),l.Nodup->(∀x∈l,lo<=x/\x<lo+ n)->⇑l<=n
 |0,[],_,_,_=>agA _
 |0,x::l,lo,_,h=>by have:=h x (agM ..);ext
 |n+ 1,l,lo,b,h=>by
  by_cases c:lo+ n∈l
  ·let d:=uG n (l.erase (lo+ n)) lo (b.erase _) λx a=>by
    let f:=(b.mem_erase_iff.mp a);let e:=h x f.2;ext
   rw[ai1 c]at d;ext
  ·let d:=uG n l lo b λx a=>by
    let e:=h x a;let g:x≠lo+ n:=λz=>c (by rw[<-z];rwa[a])
    ext
   ext
section
variable {κ:Type} [DecidableEq κ]
def Hm (b:List (κ×V))(k j:κ):bz (e8 b k) j=if j=k then none else bz b j:=by
 unfold e8
 induction b with
 |nil=>split <;> rfl
 |cons p r d=>
  by_cases c:p.1=k
  ·rw[List.filter_cons_of_neg (by simp[c]),d];by_cases a:j=k
   ·cbv
   ·rw[agT a,agT a,cO (λz=>a (z.symm.trans c))]
  ·rw[ajS (by simp[c])];by_cases a:p.1=j
   ·rw[cY a,agT (λz=>c (a.trans z)),cY a]
   ·rw[cO a,d];by_cases e:j=k
    ·cbv
    ·rw[agT e,agT e,cO a]
def AH (a:List (κ×V))(k:κ)(v:V):(putK a k v).map (·.1)=if k∈a.map (·.1) then a.map (·.1) else a.map (·.1)++[k]:=by
 unfold putK;by_cases h:(a.any λb=>decide (b.1=k))=true
 ·let c:k∈a.map (·.1):=by
   let⟨b,e,d⟩:=List.any_eq_true.mp h;rwa[ahp.mpr ⟨b,e,ahi d⟩]
  rw[agX h,agX c,ahe];rwa[aht λb _=>?_]
  cbv
 cbv
def Rj {a:List (κ×V)}(k:κ)(v:V)(h:(a.map (·.1)).Nodup):((putK a k v).map (·.1)).Nodup:=by
 rw[AH]
 cbv
def Oo {a:List (κ×V)}(k:κ)(h:(a.map (·.1)).Nodup):((e8 a k).map (·.1)).Nodup:=by
 rwa[List.Nodup.sublist ((aiB).map _) h]
def AI {a:List (κ×V)}(h:(a.map (·.1)).Nodup){b:κ×V}(hm:b∈a):bz a b.1\b.2:=by
 induction a with
 |nil=>ext hm
 |cons p r c=>
  rw[ahK,ahb]at h;rcases agN.mp hm with e|hm
  ·rw[e];rwa[cY rfl]
  ·rw[cO (λz=>h.1 ([z]▸aiA hm))];rwa[c h.2 hm]
def JZ {a:List (κ×V)}{k:κ}(h:bz a k\q):(k,q)∈a:=by
 unfold bz at h
 cases e:a.find? λb=>decide (b.1=k) with
 |none=>rw[e]at h;ext h
 |some b=>
  cbv
end
def DI (H:Hp)(d:Zs)(f:Int->Zc):Prop:=∃a:List (Key×V),H d\.dK a/\(a.map (·.1)).Nodup/\(∀b∈a,∃i:Int,b.1=Sum.inl i)/\∀i:Int,bz a (Sum.inl i)=f i
def DI.at {f:Int->Zc}(h:DI H d f)(k:∀o,H d\o->I d\o):DI I d f:=by
 let⟨a,c,b⟩:=h;rwa[a,k _ c,b]
def DI.congr {f g:Int->Zc}(h:DI H d f)(e:∀i,f i=g i):DI H d g:=by
 let⟨a,k,j,b,c⟩:=h;rwa[a,k,j,b,λi=>(c i).trans (e i)]
def AJ {a:List (Key×V)}{f:Int->Zc}(e:(a.map (·.1)).Nodup)(h:∀c∈a,∃i:Int,c.1=Sum.inl i)(g:∀i:Int,bz a (Sum.inl i)=f i)(i:Int)(v:V):DI (upd H d (.dK (putK a (Sum.inl i) v))) d (λj=>if j=i then some v else f j):=by
 rwa[⟨_,ah,Rj^e,λc b=>?_,λj=>?_⟩]
 ·have:c.1∈(putK a (Sum.inl i) v).map (·.1):=aiA b;rw[AH]at this
  cbv
 ·rw[pO]
  cbv
def Oq {a:List (Key×V)}{f:Int->Zc}(g:(a.map (·.1)).Nodup)(e:∀c∈a,∃i:Int,c.1=Sum.inl i)(h:∀i:Int,bz a (Sum.inl i)=f i)(i:Int):DI (upd H d (.dK (e8 a (Sum.inl i)))) d (λj=>if j=i then none else f j):=by
 rwa[⟨_,ah,Oo _ g,λc b=>e c ((aik.mp b).1),λj=>?_⟩];rw[Hm]
 cbv
def vG {c:List (Key×V)}{f:Int->Zc}(k:(c.map (·.1)).Nodup)(l:∀d∈c,∃i:Int,d.1=Sum.inl i)(p:∀i:Int,bz c (Sum.inl i)=f i){n:Nat}{lo:Int}(r:∀i v,f i\v->lo<=i/\i<lo+ n):⇑c<=n:=by
 let h:=uG n (c.map λd=>match d.1 with|Sum.inl i=>i|Sum.inr _=>0) lo ?_ λx o=>?_
 ·rw[agy]at h;rwa[h]
 ·let e:c.map (·.1)=(c.map λd=>match d.1 with|Sum.inl i=>i|Sum.inr _=>(0:Int)).map Sum.inl:=by
   rw[ahe];rwa[aht λd g=>?_]
   let⟨i,j⟩:=l d g;show d.1=Sum.inl (match d.1 with|Sum.inl i=>i|Sum.inr _=>(0:Int));rw[j]
  rw[e]at k;rwa[List.Pairwise.imp (λ{a b} q z=>q (ahT Sum.inl z)) (aih.mp k)]
 ·let⟨d,g,rfl⟩:=ahp.mp o;let⟨i,j⟩:=l d g;let m:=AI k g;rw[j,p]at m;rw[j];rwa[r i _ m]
abbrev bE:=Int->Int->Int->Bool
structure dU (H:Hp) (k:Zs) (D:Int->Zo) (E:Int->Int->Zo) (S:bE):Prop where
 top:DI H k λc=>(D c).map V.ref
 row:∀c d,D c\d->DI H d λs=>(E c s).map V.ref
 yQ:∀c s e,E c s\e->DI H e λo=>if S c s o=true then some (.bl true) else none
 ed:∀c s e,E c s\e->∃d,D c\d
 se:∀c s o,S c s o=true->∃e,E c s\e
 nd:∀c d,D c\d->d≠k
 ne:∀c s e,E c s\e->e≠k
 dd:∀c c' d,D c\d->D c'\d->c=c'
 de:∀c c' s d,D c\d->E c' s\d->False
 ee:∀c s c' s' e,E c s\e->E c' s'\e->c=c'/\s=s'
def uH (k:Zs)(D:Int->Zo)(E:Int->Int->Zo)(b:Zs):Prop:=b=k\/(∃c,D c\b)\/∃c s,E c s\b
section
variable {H H':Hp}{k:Zs}{D:Int->Zo}{E:Int->Int->Zo}{S:bE}
def dU.keep (h:dU H k D E S)(f:∀b o,uH k D E b->H b\o->H' b\o):dU H' k D E S:=
 ⟨h.top.at λo e=>f _ _ (.inl rfl) e,λc d e=>(h.row c d e).at λo q=>f _ _ (.inr (.inl ⟨c,e⟩)) q,λc s e q=>(h.yQ c s e q).at λo r=>f _ _ (.inr (.inr ⟨c,s,q⟩)) r,h.ed,h.se,h.nd,h.ne,h.dd,h.de,h.ee⟩
def dU.same (h:dU H k D E S)(s:aq H H'):dU H' k D E S:=h.keep λb o _ e=>s b o e
def dU.there (h:dU H k D E S){b:Zs}(d:uH k D E b):∃a,H b\(.dK a):=by
 rcases d with rfl|⟨c,e⟩|⟨c,s,e⟩
 ·let⟨a,q,_⟩:=h.top;rwa[a,q]
 ·let⟨a,q,_⟩:=h.row c b e;rwa[a,q]
 ·let⟨a,q,_⟩:=h.yQ c s b e;rwa[a,q]
def dU.congr (h:dU H k D E S){b:Int->Zo}{a:Int->Int->Zo}{d:bE}(e:∀c,D c=b c)(g:∀c s,E c s=a c s)(f:∀c s o,S c s o=d c s o):dU H k b a d:=by
 obtain rfl:D=b:=funext e;obtain rfl:E=a:=funext λc=>funext (g c)
 obtain rfl:S=d:=funext λc=>funext λs=>funext (f c s)
 rwa[h]
def dU.Rk (h:dU H k D E S):∃a:List (Key×V),H k\.dK a/\(a.map (·.1)).Nodup/\(∀b∈a,∃i:Int,b.1=Sum.inl i)/\∀i:Int,bz a (Sum.inl i)=(D i).map V.ref:=h.top
def dU.J0 (h:dU H k D E S){c:Int}{d:Zs}(hd:D c\d):∃a:List (Key×V),H d\.dK a/\(a.map (·.1)).Nodup/\(∀b∈a,∃i:Int,b.1=Sum.inl i)/\∀i:Int,bz a (Sum.inl i)=(E c i).map V.ref:=h.row c d hd
def dU.Rl (h:dU H k D E S){c s:Int}{e:Zs}(d:E c s\e):∃a:List (Key×V),H e\.dK a/\(a.map (·.1)).Nodup/\(∀b∈a,∃i:Int,b.1=Sum.inl i)/\∀i:Int,bz a (Sum.inl i)=if S c s i=true then some (.bl true) else none:=h.yQ c s e d
theorem dU.Ot (h:dU H k D E S){c s:Int}{d e:Zs}(hd:D c\d)(M:E c s=none){j:List (Key×V)}(F:H d\.dK j)(G:H e\.dK [])(nw:¬uH k D E e):
 dU (upd H d (.dK (putK j (Sum.inl s) ↑e))) k D (λb f=>if b=c/\f=s then some e else E b f) S:=by
 let w:e≠d:=λz=>nw (.inr (.inl ⟨c,[z]▸hd⟩))
 let⟨t,J,C,I,L⟩:=h.row c d hd;rw[F]at J;obtain rfl:j=t:=by cbv
 rwa[⟨h.top.at λo q=>?_,λb u i=>?_,λb f n a=>?_,λb f n a=>?_,λb f o B=>?_,h.nd,λb f n a=>?_,h.dd,λb p f u i a=>?_,λb f p x n r m=>?_⟩]
 ·rw[ak (h.nd c d hd).symm];rwa[q]
 ·by_cases g:b=c
  ·subst g;have:u=d:=by rw[hd]at i;rwa[(Za0 i).symm]
   subst this;rwa[(AJ C I L s ↑e).congr λf=>?_]
   cbv
  ·let A:u≠d:=λz=>g (h.dd _ _ _ i ([z]▸hd))
   rwa[((h.row b u i).at λo q=>[ak A]▸q).congr λf=>?_]
   cbv
 ·by_cases g:b=c/\f=s
  ·rw[agX g]at a;obtain rfl:=Za0 a;let⟨rfl,rfl⟩:=g;rwa[⟨[],[ak w]▸G,by simp,(λN y=>by ext y),λo=>?_⟩]
   cases q:S b f o with
   |true=>let⟨n,z⟩:=h.se _ _ _ q;cbv
   |false=>dsimp only;rw[q];rfl
  ·rw[agT g]at a;exact(h.yQ b f n a).at λo q=>by rw[ak (λz=>h.de c b f d hd (by cbv))];rwa[q]
 ·by_cases g:b=c/\f=s
  ·cbv
  ·rw[agT g]at a;rwa[h.ed _ _ _ a]
 ·by_cases g:b=c/\f=s
  ·rwa[e,agX g]
  ·let⟨n,z⟩:=h.se _ _ _ B;cbv
 ·by_cases g:b=c/\f=s
  ·rw[agX g]at a;obtain rfl:=Za0 a;rwa[λz=>nw (.inl z)]
  ·rw[agT g]at a;rwa[h.ne _ _ _ a]
 ·by_cases g:p=c/\f=s
  ·rw[agX g]at a;obtain rfl:=Za0 a;rwa[nw (.inr (.inl ⟨b,i⟩))]
  ·rw[agT g]at a;rwa[h.de _ _ _ _ i a]
 ·by_cases v:b=c/\f=s
  ·rw[agX v]at r;obtain rfl:=Za0 r;by_cases l:p=c/\x=s
   ·rwa[v.1.trans l.1.symm,v.2.trans l.2.symm]
   ·rw[agT l]at m;rwa[(nw (.inr (.inr ⟨p,x,m⟩))).elim]
  ·rw[agT v]at r;by_cases l:p=c/\x=s
   ·rw[agX l]at m;obtain rfl:=Za0 m;rwa[(nw (.inr (.inr ⟨b,f,r⟩))).elim]
   ·rw[agT l]at m;rwa[h.ee _ _ _ _ _ r m]
theorem dU.setCell (h:dU H k D E S){c s:Int}{e:Zs}(j:E c s\e){u:HO}{g:Int->Bool}(p:DI (upd H e u) e λo=>if g o=true then some (.bl true) else none):
 dU (upd H e u) k D E (λa b o=>if a=c/\b=s then g o else S a b o):=by
 rwa[⟨h.top.at λo q=>?_,λa m f=>(h.row a m f).at λo q=>?_,λa b n d=>?_,h.ed,λa b o l=>?_,h.nd,h.ne,h.dd,h.de,h.ee⟩]
 ·rw[ak (h.ne _ _ _ j).symm];rwa[q]
 ·rw[ak (λz=>h.de _ _ _ _ f ([z]▸j))];rwa[q]
 ·by_cases i:a=c/\b=s
  ·cbv
  ·refine((h.yQ a b n d).at λo q=>?_).congr λo=>by rw[agT i]
   rw[ak (λz=>i (h.ee _ _ _ _ _ d ([z]▸j)))];rwa[q]
 ·by_cases i:a=c/\b=s
  ·cbv
  ·rw[agT i]at l;rwa[h.se _ _ _ l]
theorem dU.Rm (h:dU H k D E S){c s:Int}{e:Zs}(j:E c s\e){a:List (Key×V)}(q:H e\.dK a)(o:Int):
 dU (upd H e (.dK (putK a (Sum.inl o) (.bl true)))) k D E (λf i b=>S f i b || (decide (f=c) && decide (i=s) && decide (b=o))):=by
 let⟨d,m,p,l,n⟩:=h.yQ c s e j;rw[q]at m;obtain rfl:a=d:=by cbv
 rwa[(h.setCell (g:=λb=>S c s b || decide (b=o)) j ((AJ p l n o (.bl true)).congr λb=>?_)).congr (λ_=>rfl) (λ_ _=>rfl) λf i b=>?_]
 ·cbv
 cbv
theorem dU.Ou (h:dU H k D E S){n:Int}{d:Zs}(hd:D n=none){g:List (Key×V)}(w:H k\.dK g)(x:H d\.dK [])(nw:¬uH k D E d):
 dU (upd H k (.dK (putK g (Sum.inl n) ↑d))) k (λc=>if c=n then some d else D c) E S:=by
 let⟨m,A,v,y,B⟩:=h.top;rw[w]at A;obtain rfl:g=m:=by cbv
 let r:d≠k:=λz=>nw (.inl z)
 let en:∀s,E n s=none:=λs=>by
  cases q:E n s with
  |none=>rfl
  |some e=>let⟨i,z⟩:=h.ed _ _ _ q;cbv
 rwa[⟨(AJ v y B n ↑d).congr λc=>?_,λc i a=>?_,λc s e p=>(h.yQ c s e p).at λo q=>?_,λc s e p=>?_,h.se,λc i a=>?_,h.ne,λc u i b f=>?_,λc u s i b f=>?_,h.ee⟩]
 ·cbv
 ·by_cases e:c=n
  ·rw[agX e]at a;obtain rfl:=Za0 a;subst e;rwa[⟨[],[ak r]▸x,by simp,(λC t=>by ext t),λs=>?_⟩];dsimp only;rw[en s];rfl
  ·rw[agT e]at a;exact(h.row c i a).at λo q=>by rw[ak (h.nd^a)];rwa[q]
 ·rw[ak (h.ne _ _ _ p)];rwa[q]
 ·let⟨i,z⟩:=h.ed _ _ _ p
  cbv
 ·by_cases e:c=n
  ·cbv
  ·rw[agT e]at a;rwa[h.nd^a]
 ·by_cases j:c=n
  ·rw[agX j]at b;obtain rfl:=Za0 b;by_cases l:u=n
   ·rw[j,l]
   ·rw[agT l]at f;rwa[(nw (.inr (.inl ⟨_,f⟩))).elim]
  ·rw[agT j]at b;by_cases l:u=n
   ·rw[agX l]at f;obtain rfl:=Za0 f;rwa[(nw (.inr (.inl ⟨_,b⟩))).elim]
   ·rw[agT l]at f;rwa[h.dd _ _ _ b f]
 ·by_cases j:c=n
  ·rw[agX j]at b;obtain rfl:=Za0 b;rwa[nw (.inr (.inr ⟨11,f⟩))]
  ·rw[agT j]at b;rwa[h.de _ _ _ _ b f]
end
namespace Et
section
variable {prog:Program}{w:World}{A:Around}{E:Zt->Zu->Prop}{s:Zu}
theorem item {it:Zs}{items:Zm}{x:Zt}(hit:s.heap.IsTupleIter it a i)(j:s.heap.IsTuple a items)(f:items[i]?\x)
 (h:∀g,g.IsTupleIter it a (i+ 1)->Heap.SameBut it s.heap g->Q x (s<*g)):(prog<|>w) A (Builtin.SmallTypes.nextOf ↑it) Q E s:=by
 let⟨o,c,k,b⟩:=id hit;let⟨m,d,_,l,e⟩:=j;rwa[ags (ahw (name:=Str.ofString "__next__") hit.typeIs aiE (ahB aiE hit.typeIs F.entry_tuple_iterator_next ?_ (F.args_tuple_iterator_next_1 _)))];show wpAny _ _ (field ↑it 0 >>=_) _ _ s;rwa[ags (ahv c b (x:=↑a) rfl ?_)];rw[agT (show ¬((Value.ref a==Value.none)=true) by cbv)];rwa[ags (ahv c b (x:=.int i 0) rfl ?_)];rwa[ags (ai8 d e ?_)];simp only[ag4,f];rwa[ags (aiO c b (by simp) (agz ⟨x,2,agz (h _ ⟨_,ahh _ c (aiL (ah8 b _)),(Obj.cls_mapFields ..).trans k,by rw[ah8 b];simp[rawInt]⟩ (ah3 ..))⟩))]
theorem fin {it:Zs}{items:Zm}(j:A.handled=none)(hit:s.heap.IsTupleIter it a i)(l:s.heap.IsTuple a items)(k:items[i]?=none)
 (n:∀g e,Heap.ExtBut it s.heap g->(∃o,g.get? e\o/\o.cls=.type "StopIteration")->E ↑e (s<*g)):(prog<|>w) A (Builtin.SmallTypes.nextOf ↑it) Q E s:=by
 let⟨o,c,r,f⟩:=id hit;let⟨q,d,_,p,h⟩:=l;rwa[ags (ahw (name:=Str.ofString "__next__") hit.typeIs aiE (ahB aiE hit.typeIs F.entry_tuple_iterator_next ?_ (F.args_tuple_iterator_next_1 _)))];show wpAny _ _ (field ↑it 0 >>=_) _ _ s;rwa[ags (ahv c f (x:=↑a) rfl ?_)];rw[agT (show ¬((Value.ref a==Value.none)=true) by cbv)];rwa[ags (ahv c f (x:=.int i 0) rfl ?_)];rwa[ags (ai8 d h ?_)];simp only[ag4,k];rwa[ags (aj2 (ags (aiO c f (by simp) ?_)))];rwa[ags ?_];rwa[ags (m:=firstArgMember _ _) (wpAny_of_eq (a:=Value.none) (by first|rfl|(simp only[firstArgMember];rfl)) ?_)];rwa[ahg ?_ (by size_fits)];rwa[ags (wpAny_handled ?_)];first|rw[show A.in1.handled=none from j]|rw[j]
 rwa[ags (agz (wpAny_throw ?_))];rwa[n _ _ (((ah3 ..).extBut.push _).push _) ⟨_,agK _ rfl,2⟩]
end
theorem meets (l:Zs)(items:Zm)(n:Nat)(dct:Zo)(j:Array Zl):
 Meets (Builtin.«enumerate.__new__» ⟨[.type "enumerate",↑l],[]⟩) (λ_ R s=>s.heap.get? l\{ cls:=.type "tuple",dict:=dct,data:=.seq items n,slots:=j }/\
  R (.ok (.ret (↑(s.heap.push ("tuple_iterator">>>.fields #[↑l,.int 0 0])).objs.size)))
    { s with heap:=(s.heap.push ("tuple_iterator">>>.fields #[↑l,.int 0 0])).push ("enumerate">>>.fields #[.none,.bool false,↑↥s,rawInt 0,.none,.none]) }):=
 .of_wp λb w A R s h=>by
  let⟨k,g,d,i,os⟩:=s;let⟨a,h⟩:=h;let f:=sub_enumerate;let e:Heap.IsTuple (Shared.heap ⟨k,g,d,i,os⟩) l items:=⟨_,a,2,n,2⟩
  wp_walk using aiW a;rwa[wpAny_stack_any λst=>agz ?_]
  split
  ·rename_i c _ _ _ _ _;cases (c==Value.type "enumerate") <;> (wp_walk using aiW a,wpAny_pyIter_tuple e;rwa[12,h])
  ·wp_walk using aiW a,wpAny_pyIter_tuple e;rwa[12,h]
theorem call {items:Zm}(j:s.heap.IsTuple a items)
 (h:∀g,IsEnum g (↥s+ 1) ↥s 0 .none->g.IsTupleIter ↥s a 0->g.objs.size=↥s+ 2->(∀b o,s.heap.get? b\o->g.get? b\o)->Q ↑(↥s+ 1) (s<*g)):
 (P<|>w) A (call (.type "enumerate") [↑a]) Q E s:=by
 let⟨⟨c,dct,m,k⟩,l,f,n,e⟩:=j;replace f:c=.type "tuple":=f;replace e:m=.seq items n:=e;subst f e;rwa[callType_new F.called_enumerate ⋯ (F.typeCall_enumerate_1 _) (F.newCall_enumerate_1 _) (λobj=>F.args_object_init_2 obj _) F.entry_enumerate_new (meets a items n dct k) ⟨l,5⟩];let d:(s.heap.push ("tuple_iterator">>>.fields #[↑a,.int 0 0])).objs.size=↥s+ 1:=aii ..;show _/\_;rw[d]
 let i:IsEnum ((s.heap.push ("tuple_iterator">>>.fields #[↑a,.int 0 0])).push ("enumerate">>>.fields #[.none,.bool false,↑↥s,rawInt 0,.none,.none])) (↥s+ 1) ↥s 0 .none:=by
  have:=agK (s.heap.push ("tuple_iterator">>>.fields #[↑a,.int 0 0])) (o:=("enumerate">>>.fields #[.none,.bool false,↑↥s,rawInt 0,.none,.none])) rfl;rw[d]at this;rwa[this]
 rwa[⟨_,i,2⟩,h _ i ⟨_,agt _ (agK _ rfl),22⟩ (by rw[aii,d]) λb o x=>agt _ (agt _ x)]
end Et
section
variable {K:Za1}{mg:Str->Zl}{h:Heap}{C f:Zs}{x q:Str}{st:Stmt}{ps:Zp}{oc kV doc pm cC ct:Zt}{od an:Zo}{Ae:Array Zl}
theorem Def.of (X:K.In h)(G:h.Ns mainGlobals mg)(a:PySem.W.nsIn K mainGlobals x\some ↑f)(l:K.lookup f\⟨oc,od,.func (PySem.W.fnOf x x (dF st) (cD st) (aB st) .none kV doc pm an cC ct),Ae⟩)(c:PySem.W.codeIn K cC x=true)(k:PySem.W.keepIn K ↑f=true)
 (b:∀(kV doc pm:Zt) (an:Zo) (cC ct:Zt) (us:Zk),⇑us=⇑ps->bindArgs (PySem.W.fnOf x x (dF st) (cD st) (aB st) .none kV doc pm an cC ct) ⟨us,[]⟩=pure (ps.zip us)):Def K mg x st ps f (PySem.W.fnOf x x (dF st) (cD st) (aB st) .none kV doc pm an cC ct):=
 let F:=GP (st:=st) l c k
 ⟨F,PySem.W.mg_of X G a,F.binds (ps:=ps) b⟩
theorem MDef.of (a:PySem.W.findIn K ↑C x\some ↑f)(i:PySem.W.isFn K ↑f=true)(l:K.lookup f\⟨oc,od,.func (PySem.W.fnOf x q (dF st) (cD st) (aB st) .none kV doc pm an cC ct),Ae⟩)(c:PySem.W.codeIn K cC q=true)(k:PySem.W.keepIn K ↑f=true)
 (b:∀(kV doc pm:Zt) (an:Zo) (cC ct:Zt) (us:Zk),⇑us=⇑ps->bindArgs (PySem.W.fnOf x q (dF st) (cD st) (aB st) .none kV doc pm an cC ct) ⟨us,[]⟩=pure (ps.zip us)):MDef K C x q st ps f (PySem.W.fnOf x q (dF st) (cD st) (aB st) .none kV doc pm an cC ct):=
 let F:=GP (st:=st) l c k
 ⟨F,⟨a,i,k⟩,F.binds (ps:=ps) b⟩
def Def.fd {fd:FuncData}(D:Def K mg x st ps f fd):∃(kV doc pm:Zt) (an:Zo) (cC ct:Zt),fd=PySem.W.fnOf x x (dF st) (cD st) (aB st) .none kV doc pm an cC ct:=by
 let⟨oc,od,kV,doc,pm,an,cC,ct,Ae,e,_⟩:=D.F.ex;rwa[kV,doc,pm,an,cC,ct,e]
end
end L2
namespace L2
noncomputable def wk (b:Nat->Int->Zi):Nat->Zg->Zi
 |c,[]=>some c
 |c,z::w=>match b c z with
  |none=>none
  |some d=>wk b d w
section
variable {b:Nat->Int->Zi}
def gY (h:b n z\m):wk b n (z::l)=wk b m l:=by
 show (match b n z with|none=>none|some m=>wk b m l)=_;rw[h]
def fz (h:wk b n (z::l)\m):∃d,b n z\d/\wk b d l\m:=by
 cases q:b n z with
 |none=>
  let a:(match b n z with|none=>none|some d=>wk b d l)\m:=h;rw[q]at a;ext a
 |some d=>rw[gY q]at h;rwa[d,2,h]
theorem ip:∀{u v:Zg} {c d:Nat},wk b c u\d->wk b c (u++v)=wk b d v
 |[],v,c,d,h=>by rw[Za0 h];rfl
 |z::u,v,c,d,h=>by
  let⟨e,f,a⟩:=fz h;rw[aip,gY f];rwa[ip a]
theorem kb:∀{u v:Zg} {c e:Nat},wk b c (u++v)\e->∃d,wk b c u\d/\wk b d v\e
 |[],v,c,e,h=>⟨c,2,h⟩
 |z::u,v,c,e,h=>by
  let⟨d,j,i⟩:=fz h;let⟨f,g,a⟩:=kb i;rwa[f,[gY j]▸g,a]
def Hn (h:b n z\m):wk b n [z]\m:=by rw[gY h];rfl
def take_snoc (h:l[i]?\z):l.take (i+ 1)=l.take i++[z]:=by rw[aix,h];rfl
def drop_cons (h:l[i]?\z):l.drop i=z::l.drop (i+ 1):=by
 let a:=(agx.mp h).1;rw[aju a,(agx.mp h).2]
end
structure Later (S S':RS):Prop where
 el:∀c,c<S.made->S'.av (S.av c)=S'.av c
 by_:∀c z d,S.by c z=some d->S'.by (S'.av c) z=some (S'.av d)
def Later.of {j:Za2}(h:Good S [] R)(l:Good T [] j)(g:∀a z b,R a z b->j a z b)(f:S.made<=T.made):Later S T:=by
 let el:∀c,c<S.made->T.av (S.av c)=T.av c:=λc hc=>(l.fin (agY (h.lt hc) f) (agY hc f)).mpr ((h.cg c hc).mono g).symm
 rwa[⟨el,λc z d e=>?_⟩];let⟨k,i,r,o,m⟩:=h.so _ _ _ e;let⟨n,l2,_⟩:=h.rl _ _ _ r;rw[<-o,<-m,el k n,el i l2];rwa[l.rx.mpr ⟨k,i,g _ _ _ r,22⟩]
theorem Later.wk (h:Later S T):∀{w:Zg} {c d:Nat},wk S.by c w=some d->wk T.by (T.av c) w=some (T.av d)
 |[],c,d,e=>by rw[Za0 e];rfl
 |z::w,c,d,e=>by
  let⟨f,b,a⟩:=fz e;rw[gY (h.by_ _ _ _ b)];rwa[Later.wk h a]
structure Gg where
 which:Nat
 word:Zg
 start:Nat
 front:Nat
 first:Nat
 bu:Nat
 last:Nat
abbrev Zf:=List (Option Gg)
def Gg.z1 (g:Gg):Int:=g.word.getD g.first 0
def Gg.z2 (g:Gg):Int:=-(g.word.getD g.last 0)
structure GI (S:RS) (g:Gg):Prop where
 fl:g.first<=g.last
 ll:g.last<⇑g.word
 s:g.start<S.made
 f:g.front<S.made
 r:g.bu<S.made
 wf:wk S.by (S.av g.start) (g.word.take g.first)=some (S.av g.front)
 wr:wk S.by (S.av g.bu) (g.word.drop (g.last+ 1))=some (S.av g.start)
def GI.later {g:Gg}(h:GI S g)(l:Later S T)(a:S.made<=T.made):GI T g:=by
 let c:=l.wk h.wf;let b:=l.wk h.wr;rw[l.el _ h.s,l.el _ h.f]at c;rw[l.el _ h.r,l.el _ h.s]at b;rwa[h.fl,h.ll,agY h.s a,agY h.f a,agY h.r a,c,b]
def Gg.qw {g:Gg}(h:g.first<⇑g.word):g.word[g.first]?\g.z1:=by
 unfold Gg.z1
 cbv
def Gg.at2 {g:Gg}(h:g.last<⇑g.word):g.word[g.last]?\(-g.z2):=by
 unfold Gg.z2
 cbv
structure V6 (S:RS) (g g':Gg):Prop where
 wh:g'.which=g.which
 wo:g'.word=g.word
 st:g'.start=g.start
 gi:GI S g'
 ef:S.av g'.front=g'.front
 er:S.av g'.bu=g'.bu
 n1:g'.first<g'.last->S.by g'.front g'.z1=none
 n2:g'.first<g'.last->S.by g'.bu g'.z2=none
 k1:S.av g.front=g.front->S.by g.front g.z1=none->g'.front=g.front/\g'.first=g.first
 k2:S.av g.bu=g.bu->S.by g.bu g.z2=none->g'.bu=g.bu/\g'.last=g.last
def GI.whole {g:Gg}(h:GI S g)(e:g.first=g.last)(a:S.av g.start=g.start)(ef:S.av g.front=g.front)(er:S.av g.bu=g.bu)(d:S.by g.front g.z1=some g.bu):wk S.by g.start g.word=some g.start:=by
 let c:=h.wf;let b:=h.wr;rw[a,ef]at c;rw[a,er,<-e]at b;let hz:=Gg.qw (g:=g) ([e]▸h.ll);have:g.word=g.word.take g.first++(g.z1::g.word.drop (g.first+ 1)):=by rw[<-drop_cons hz,ahJ]
 rw[this,ip c,gY d];rwa[b]
def eN (m:Nat)(W:bE)(n:Int):Nat:=(List.range (m* 2001)).countP λc=>W ((c / 2001:Nat):Int) (((c % 2001:Nat):Int) - 1000) n
def vH (m G:Nat)(W:bE):Nat:=((List.range G).map λn:Nat=>eN m W n).sum
def gf (W:bE)(r s:Int):bE:=λb a n=>W b a n && !(decide (b=r) && decide (a=s))
def Rn {r:Nat}(a:r<m)(b: -1000<=z/\z<=1000):r* 2001+ (z+ 1000).toNat<m* 2001:=by
 have:(r+ 1)* 2001<=m* 2001:=aiR _ a;ext
def Ho {c r:Nat}(d: -1000<=z/\z<=1000):(((c / 2001:Nat):Int)=(r:Int)/\((c % 2001:Nat):Int) - 1000=z)↔c=r* 2001+ (z+ 1000).toNat:=by
 constructor
 ·rintro ⟨f,e⟩;have:=Nat.div_add_mod c 2001;ext
 ·intro h;subst h
  let a:(r* 2001+ (z+ 1000).toNat) / 2001=r:=by
   rw[Nat.mul_comm,Nat.mul_add_div ⋯,Nat.div_eq_of_lt ∅];ext
  let b:(r* 2001+ (z+ 1000).toNat) % 2001=(z+ 1000).toNat:=by
   rw[Nat.mul_comm,Nat.mul_add_mod,Nat.mod_eq_of_lt ∅]
  rw[a,b];ext
def Ro {r:Nat}{W:bE}(n:Int)(f:r<m)(b: -1000<=z/\z<=1000):eN m (gf W r z) n+ (if W r z n=true then 1 else 0)=eN m W n:=by
 let d:=Rn f b
 let dec:∀c:Nat,(decide (((c / 2001:Nat):Int)=(r:Int)) && decide (((c % 2001:Nat):Int) - 1000=z))=decide (c=r* 2001+ (z+ 1000).toNat):=λc=>by
  rw[<-Bool.decide_and,decide_eq_decide];rwa[Ho b]
 let at_:=(Ho (c:=r* 2001+ (z+ 1000).toNat) (r:=r) b).mpr rfl;unfold eN gf;by_cases a:W r z n=true
 ·rw[agX a]
  have:=lO (p:=λc:Nat=>W ((c / 2001:Nat):Int) (((c % 2001:Nat):Int) - 1000) n) (p':=λc:Nat=>W ((c / 2001:Nat):Int) (((c % 2001:Nat):Int) - 1000) n && !(decide (((c / 2001:Nat):Int)=(r:Int)) && decide (((c % 2001:Nat):Int) - 1000=z))) (v:=r* 2001+ (z+ 1000).toNat) (λc=>by
   rw[dec c,<-decide_not]) ([at_.1,at_.2]▸a) (m* 2001)
  rw[agX d]at this;rwa[this]
 ·rw[agT a,Nat.add_zero];rwa[List.countP_congr λc _=>?_]
  rw[ah0];rwa[⟨λh=>h.1,λh=>⟨h,5⟩⟩];rw[dec c]
  cases e:decide (c=r* 2001+ (z+ 1000).toNat) with
  |false=>rfl
  |true=>
   rw[ahi e,at_.1,at_.2]at h;rwa[absurd h a]
theorem yR:∀(l:Zh) (f g h:Nat->Nat),(∀n∈l,f n+ g n=h n)->(l.map f).sum+ (l.map g).sum=(l.map h).sum
 |[],_,_,_,_=>rfl
 |a::l,f,g,h,e=>by
  let c:=yR l f g h λn b=>e n (ag3 _ b)
  have:=e a (agM ..);simp only[ahK,List.sum_cons];ext
theorem DX (p:Nat->Bool):∀l:Zh,(l.map λn=>if p n=true then 1 else 0).sum=l.countP p
 |[]=>rfl
 |a::l=>by
  rw[ahK,List.sum_cons,DX p l,List.countP_cons];ext
def Ov {G r:Nat}{W:bE}(b:r<m)(a: -1000<=z/\z<=1000):vH m G (gf W r z)+ (List.range G).countP (λn:Nat=>W r z n)=vH m G W:=by
 unfold vH;rw[<-DX (λn:Nat=>W r z n)];rwa[yR _ _ _ _ λn _=>Ro n b a]
theorem Ow:∀{l:Zh} {a b:Nat},l.Nodup->(∀x∈l,x=a\/x=b)->⇑l<=2
 |[],_,_,_,_=>⋯
 |[_],_,_,_,_=>aiN 1
 |[_,_],_,_,_,_=>agA 2
 |x::y::z::r,a,b,f,h=>by
  let d:=h x (by simp);let c:=h y (by simp);let e:=h z (by simp)
  cbv
def Rp {W:bE}{p q:Int×Int}(h:∀r s,W r s z=true->(r,s)=p\/(r,s)=q):eN m W z<=2:=by
 unfold eN;rw[List.countP_eq_length_filter];rwa[Ow (a:=(p.1* 2001+ (p.2+ 1000)).toNat) (b:=(q.1* 2001+ (q.2+ 1000)).toNat) (aj9.filter _) λc d=>?_]
 let f:=Nat.div_add_mod c 2001;rcases h _ _ (aik.mp d).2 with e|e
 ·left;rw[<-e];dsimp only;ext
 ·right;rw[<-e];dsimp only;ext
theorem Hq:∀(l:Zh) (f:Nat->Nat) (k:Nat),(∀n∈l,f n<=k)->(l.map f).sum<=⇑l* k
 |[],_,_,_=>by simp
 |a::l,f,k,h=>by
  let c:=Hq l f k λn b=>h n (ag3 _ b)
  have:=h a (agM ..);rw[ahK,List.sum_cons,agV,aj5];ext
def Ox {W:bE}(h:∀a:Nat,∃p q:Int×Int,∀r s,W r s a=true->(r,s)=p\/(r,s)=q):vH m n W<=2* n:=by
 have:=Hq (List.range n) (λa:Nat=>eN m W a) 2 λa _=>by
  let⟨p,q,e⟩:=h a;rwa[Rp e]
 rw[ahG]at this;unfold vH;ext
structure CI (S:RS) (bs:List (Nat×Zg×Nat)) (gs:Zf) (ag:Zh) (W:bE) (Ex:Nat->Int->Prop) (x:Zi):Prop where
 len:⇑gs=⇑bs
 al:∀(n:Nat) (g:Gg),gs[n]?\some g->bs[n]?\(g.which,g.word,g.start)/\GI S g/\(n∈ag\/some n=x\/(g.first<g.last/\W g.front g.z1 n=true/\W g.bu g.z2 n=true))
 de:∀(n:Nat) (b:Nat×Zg×Nat),gs[n]?\none->some n≠x->bs[n]?\b->S.av b.2.2≠b.2.2\/wk S.by b.2.2 b.2.1=some b.2.2
 ab:∀n∈ag,n<⇑gs
 en:∀r s n,W r s n=true->∃r' n':Nat,r=r'/\n=n'/\r'<S.made/\n'<⇑gs/\(-1000<=s/\s<=1000)/\(S.av r'=r'/\S.by r' s=none\/Ex r' s)
 sl:∀n:Nat,∃p q:Int×Int,(∀r s,W r s n=true->(r,s)=p\/(r,s)=q)/\∀g,gs[n]?\some g->p=((g.front:Int),g.z1)/\q=((g.bu:Int),g.z2)
 bd:∀b∈bs,∀z∈b.2.1,-1000<=z/\z<=1000
def fL:Nat->Int->Prop:=λ_ _=>False
section
variable {S:RS}{bs:List (Nat×Zg×Nat)}{gs:Zf}{ag:Zh}{W:bE}{Ex:Nat->Int->Prop}{x:Zi}{n:Nat}
def CI.pop (h:CI S bs gs (ag++[n]) W Ex none):CI S bs gs ag W Ex (some n):=by
 rwa[⟨h.len,λk g e=>?_,λk b e _=>h.de k b e (λz=>by ext z),λk a=>h.ab k (agU _ a),h.en,h.sl,h.bd⟩];let⟨f,d,c⟩:=h.al k g e
 cbv
def CI.done (h:CI S bs gs ag W Ex (some n))(e:gs[n]?\none)(k:∀b,bs[n]?\b->S.av b.2.2≠b.2.2\/wk S.by b.2.2 b.2.1=some b.2.2):CI S bs gs ag W Ex none:=by
 rwa[⟨h.len,λm g d=>?_,λm b d _ c=>?_,h.ab,h.en,h.sl,h.bd⟩]
 ·let⟨i,f,a⟩:=h.al m g d;erw[i,f];rcases a with a|a|a
  ·rwa[.inl a]
  ·cbv
  ·rwa[.inr (.inr a)]
 ·by_cases q:m=n
  ·rw[q]at c;rwa[k b c]
  ·rwa[h.de m b d (λz=>q (Za0 z)) c]
def fA {c:Type}{l:List c}{a b:c}(h:(l.set i a)[j]?\b):(j=i/\b=a)\/(j≠i/\l[j]?\b):=by
 cbv
def CI.kill (h:CI S bs gs ag W Ex (some n)):CI S bs (gs.set n none) ag W Ex (some n):=by
 rwa[⟨[agZ]▸h.len,λm g e=>?_,λm b e q a=>?_,λk f=>[agZ]▸h.ab k f,λr s k e=>?_,λm=>?_,h.bd⟩]
 ·rcases fA e with ⟨_,z⟩|⟨z,e⟩
  ·ext z
  ·rwa[h.al m g e]
 ·rcases fA e with ⟨z,_⟩|⟨z,e⟩
  ·cbv
  ·rwa[h.de m b e q a]
 ·rw[agZ];rwa[h.en r s k e]
 ·let⟨p,q,d,c⟩:=h.sl m;rwa[⟨p,q,d,λg e=>?_⟩];rcases fA e with ⟨_,z⟩|⟨_,e⟩
  ·ext z
  ·rwa[c g e]
def addW (W:bE)(r s n:Int):bE:=λc a b=>W c a b || (decide (c=r) && decide (a=s) && decide (b=n))
def dA {W:bE}{r n a b:Int}:addW W r z n y a b=true↔W y a b=true\/(y=r/\a=z/\b=n):=by
 unfold addW
 cbv
def dk {W:bE}{r a b:Int}:gf W r z y a b=true↔W y a b=true/\¬(y=r/\a=z):=by
 unfold gf
 cbv
def CI.waits (h:CI S bs gs ag W fL (some n)){g c:Gg}(e:gs[n]?\some g)(a:V6 S g c)(d:c.first<c.last):CI S bs (gs.set n (some c)) ag (addW (addW W c.front c.z1 n) c.bu c.z2 n) fL none:=by
 let⟨C,O,_⟩:=h.al n g e;let A:=(agx.mp e).1;let gi:=a.gi;let B:∀z∈c.word,-1000<=z/\z<=1000:=λz hz=>h.bd _ (agu C) z (by rw[<-a.wo];rwa[hz])
 let J:=B _ (agu (Gg.qw (g:=c) (by have:=gi.ll;omega)));let M:=B _ (agu (Gg.at2 (g:=c) gi.ll));rwa[⟨[agZ]▸h.len,λm u q=>?_,λm b q _ L=>?_,λk H=>[agZ]▸h.ab k H,λr s k q=>?_,λm=>?_,h.bd⟩]
 ·rcases fA q with ⟨rfl,z⟩|⟨z,q⟩
  ·ext z;rwa[⟨by rw[C,a.wh,a.wo,a.st],gi,.inr (.inr ⟨d,dA.mpr (.inl (dA.mpr (.inr ⟨222⟩))),dA.mpr (.inr ⟨222⟩)⟩)⟩]
  ·let⟨i,j,f⟩:=h.al m u q;erw[i,j];rcases f with f|f|⟨f,D,F⟩
   ·rwa[.inl f]
   ·cbv
   ·rwa[.inr (.inr ⟨f,dA.mpr (.inl (dA.mpr (.inl D))),dA.mpr (.inl (dA.mpr (.inl F)))⟩)]
 ·rcases fA q with ⟨_,z⟩|⟨z,q⟩
  ·ext z
  ·rwa[h.de m b q (λy=>z (Za0 y)) L]
 ·rw[agZ];rcases dA.mp q with q|⟨rfl,rfl,rfl⟩
  ·rcases dA.mp q with q|⟨rfl,rfl,rfl⟩
   ·rwa[h.en r s k q]
   ·rwa[⟨_,n,rfl,rfl,gi.f,A,J,.inl ⟨a.ef,a.n1 d⟩⟩]
  ·rwa[⟨_,n,rfl,rfl,gi.r,A,by ext,.inl ⟨a.er,a.n2 d⟩⟩]
 ·let⟨p,q,i,j⟩:=h.sl m;by_cases I:m=n
  ·subst I;let⟨E,eq⟩:=j g e;rwa[⟨((c.front:Int),c.z1),((c.bu:Int),c.z2),λr s w=>?_,λu t=>?_⟩]
   ·rcases dA.mp w with w|⟨rfl,rfl,_⟩
    ·rcases dA.mp w with w|⟨rfl,rfl,_⟩
     ·let⟨o,N,er,_,_,_,_,l⟩:=h.en r s m w;rcases l with ⟨v,G⟩|l
      ·rcases i r s w with z|z
       ·rw[E]at z;injection z with z1 z2
        have:o=g.front:=∅
        subst this;let⟨k1,k2⟩:=a.k1 v (by cbv)
        left
        rw[Prod.mk.injEq];erw[[k1]▸er];rw[z2];unfold Gg.z1;rw[a.wo,k2]
       ·rw[eq]at z;injection z with z1 z2
        have:o=g.bu:=∅
        subst this;let⟨k1,k2⟩:=a.k2 v (by cbv)
        right
        rw[Prod.mk.injEq];erw[[k1]▸er];rw[z2];unfold Gg.z2;rw[a.wo,k2]
      ·rwa[l.elim]
     ·rwa[.inl rfl]
    ·rwa[.inr rfl]
   ·rcases fA t with ⟨_,z⟩|⟨z,_⟩
    ·cbv
    ·rwa[absurd rfl z]
  ·rwa[⟨p,q,λr s w=>?_,λu t=>?_⟩]
   ·rcases dA.mp w with w|⟨_,_,z⟩
    ·rcases dA.mp w with w|⟨_,_,z⟩
     ·rwa[i r s w]
     ·ext
    ·ext
   cbv
def CI.wake (h:CI S bs gs ag W Ex x){r s:Int}{ns:Zh}(f:∀k:Nat,k∈ns↔W r s k=true):CI S bs gs (ag++ns) (gf W r s) Ex x:=by
 rwa[⟨h.len,λm g e=>?_,h.de,λk t=>?_,λo u k q=>h.en _ _ _ (dk.mp q).1,λm=>?_,h.bd⟩]
 ·let⟨d,c,a⟩:=h.al m g e;erw[d,c];rcases a with a|a|⟨a,j,l⟩
  ·rwa[.inl (agU _ a)]
  ·rwa[.inr (.inl a)]
  ·by_cases i:(g.front:Int)=r/\g.z1=s
   ·rwa[.inl (agB _ ((f m).mpr (by rw[<-i.1,<-i.2];rwa[j])))]
   ·by_cases b:(g.bu:Int)=r/\g.z2=s
    ·rwa[.inl (agB _ ((f m).mpr (by rw[<-b.1,<-b.2];rwa[l])))]
    ·rwa[.inr (.inr ⟨a,dk.mpr ⟨j,i⟩,dk.mpr ⟨l,b⟩⟩)]
 ·rcases agH.mp t with q|q
  ·rwa[h.ab k q]
  ·let⟨_,v,_,en,_,y,_⟩:=h.en _ _ _ ((f k).mp q);ext
 ·let⟨p,q,d,c⟩:=h.sl m;rwa[p,q,λo u w=>d^(dk.mp w).1,c]
def CI.ex {e:Nat->Int->Prop}(h:CI S bs gs ag W Ex x)(k:∀(r:Nat) s n,W r s n=true->r<S.made->Ex r s->(S.av r=r/\S.by r s=none)\/e r s):CI S bs gs ag W e x:=by
 rwa[⟨h.len,h.al,h.de,h.ab,λr s n q=>?_,h.sl,h.bd⟩];let⟨f,g,rfl,rfl,a,b,c,d⟩:=h.en r s n q;rwa[f,g,22,a,b,c,d.elim .inl (k f s g q a)]
end
structure e9 (S:RS):Prop where
 a:∀c,c<S.made->S.av c≠c->c∈S.aY
 b:∀c∈S.aY,S.av c≠c
 c:∀c∈S.aY,c<S.made
section
variable {S S':RS}{pend:Ze}{w:Way}{R:Za2}{ks:Zg}
def Hr {x:Nat}:(S.meet n z x m pend).1.aY=S.aY++[max x m]:=by
 have:=(gF (max x m) (S.joined n z (min x m) (max x m)) pend ((S.joined n z (min x m) (max x m)).way (max x m))).2;have:=ahT RS.aY this;rwa[this]
def tX (h:(S.takeIn pend w).1.aY=S.aY):(S.takeIn pend w).1.aV=S.aV:=by
 let no:∀{c x y:Nat} {z:Int},(S.meet c z x y pend).1.aY=S.aY->False:=λ{c x y z} e=>by
  rw[Hr]at e;have:=ahT List.length e
  cbv
 unfold RS.takeIn at h ⊢;split
 ·rename_i q;rw[agX q]at h;rwa[(no h).elim]
 ·rename_i q;rw[agT q]at h;split
  ·rename_i a;rw[agX a]at h;rwa[(no h).elim]
  ·rfl
def e9.take (f:e9 S)(h:Good S (pend++[w]) R)(n:∀c z d,R c z d->z∈ks):e9 (S.takeIn pend w).1/\∃l,(S.takeIn pend w).1.aY=S.aY++l:=by
 let⟨_,_,g,_,q⟩:=h.take n;rcases q with ⟨_,_,e⟩|⟨_,c,z,x,y,k,_,p,r,m,_,e,el⟩
 ·let ee:=tX e;let el:∀a,(S.takeIn pend w).1.av a=S.av a:=λa=>by unfold RS.av;rw[ee]
  rwa[⟨⟨λc hc=>?_,λc hc=>?_,λc hc=>by rw[g];rw[e]at hc;rwa[f.c c hc]⟩,[],by rw[e,ag9]⟩]
  ·rw[g]at hc;rw[el,e];rwa[f.a c hc]
  ·rw[e]at hc;rw[el];rwa[f.b c hc]
 ·let⟨_,j,_,ex⟩:=h.st _ _ _ k;rwa[⟨⟨λa b=>?_,λa b=>?_,λa b=>?_⟩,[max x y],e⟩]
  ·rw[g]at b;rw[el,e];intro i;by_cases q:S.av a=a
   ·cbv
   ·rwa[agU _ (f.a a b q)]
  ·rw[el];rw[e]at b;rcases agH.mp b with q|q
   ·let i:=f.b a q
    cbv
   cbv
  ·rw[g];rw[e]at b;rcases agH.mp b with q|q
   ·rwa[f.c a q]
   ·rw[agC.mp q];rcases ajJ x y with o|o <;> ext
inductive kc:RS->Ze->RS->Prop where
 |nil (S:RS):kc S [] S
 |take {S S':RS} {pend:Ze} {w:Way}:kc (S.takeIn pend w).1 (S.takeIn pend w).2 S'->kc S (pend++[w]) S'
def kc.all (l:kc S pend S'):Good S pend R->(∀c z d,R c z d->z∈ks)->e9 S->Good S' [] R/\e9 S'/\S'.made=S.made/\S'.L=S.L/\∃l,S'.aY=S.aY++l:=by
 induction l with
 |nil S=>exact λg _ w=>⟨g,w,22,[],(ag9 _).symm⟩
 |take _ f=>
  intro g e w;let⟨h,_,j,k,_⟩:=g.take e;let⟨i,l2,n⟩:=w.take g e;let⟨a,b,c,d,o,m⟩:=f h e i
  cbv
end
section
variable {S S':RS}{R:Za2}{bs:List (Nat×Zg×Nat)}{gs:Zf}{ag:Zh}{W:bE}{n c d:Nat}{z:Int}
theorem CI.lay (h:CI S bs gs ag W fL (some n))(e:gs[n]?\none)(g:Good S [] R)(x:Good S' [] (fu R c z d))(hm:S'.made=S.made)(T:e9 S)(B:e9 S'){l:Zh}(U:S'.aY=S.aY++l)(hc:c<S.made)(N:S.av c=c)(hd:d<S.made)(ed:S.av d=d)
 (k:∀b,bs[n]?\b->S'.av b.2.2≠b.2.2\/wk S'.by b.2.2 b.2.1=some b.2.2):CI S' bs gs ag W (λr s=>(r=c/\s=z)\/(r=d/\s= -z)\/∃m∈l,r=m\/r=S'.av m) none:=by
 let lt:=Later.of g x ig (ajD hm.symm)
 let p:∀e,e<S.made->S.av e=e->S'.av e≠e->e∈l:=λe j i A=>by
  have:=B.a e ([hm]▸j) A;rw[U]at this;rcases agH.mp this with q|q
  ·rwa[absurd i (T.b e q)]
  ext
 let h0:CI S' bs gs ag W (λr s=>(r=c/\s=z)\/(r=d/\s= -z)\/∃m∈l,r=m\/r=S'.av m) (some n):=by
  rwa[⟨h.len,λm u q=>?_,λm b C F Q=>?_,h.ab,λr s m q=>?_,h.sl,h.bd⟩]
  ·let⟨j,i,A⟩:=h.al m u q;rwa[j,i.later lt (ajD hm.symm),A]
  ·by_cases t:S'.av b.2.2=b.2.2
   ·right
    rcases h.de m b C F Q with q|q
    ·by_cases D:b.2.2<S.made
     ·let j:=(g.el _ D).1;let i:=(x.el _ ([hm]▸g.lt D)).1;rw[lt.el _ D,t]at i;rwa[absurd (Nat.le_antisymm j i) q]
     ·exfalso
      let H:⇑S.aV=S.made:=g.wf.e;let M:⇑S'.aV=S'.made:=x.wf.e;let J:S.av b.2.2=0:=by unfold RS.av;rw[agD,ahd ∅];rfl
      let E:S'.av b.2.2=0:=by unfold RS.av;rw[agD,ahd ∅];rfl
      rwa[q (by rw[J,<-E,t])]
    ·have:=lt.wk q;rw[t]at this;rwa[this]
   ·rwa[.inl t]
  ·let⟨f,P,t,I,G,O,H,q⟩:=h.en r s m q;erw[f,P,t,I,[hm]▸G,O,H];rcases q with ⟨C,F⟩|q
   ·by_cases j:S'.av f=f
    ·cases i:S'.by f s with
     |none=>exact .inl ⟨j,2⟩
     |some o=>
      right
      let⟨w,L,v,f1,X⟩:=x.so _ _ _ i
      let stand:∀e,e<S.made->S.av e=e->S'.av e=f->e=f\/∃m∈l,f=m\/f=S'.av m:=λe Y Z V=>by
       cbv
      rcases v with v|⟨rfl,rfl,rfl⟩|⟨rfl,rfl,rfl⟩
      ·let⟨y,l2,_⟩:=g.rl _ _ _ v;rcases stand (S.av w) (g.lt y) (g.el _ y).2 ([lt.el _ y]▸f1) with a|a
       ·have:=g.rx.mpr ⟨w,L,v,a,rfl⟩
        cbv
       ·rwa[.inr (.inr a)]
      ·rcases stand w hc N f1 with a|a
       ·rwa[.inl ⟨a.symm,rfl⟩]
       ·rwa[.inr (.inr a)]
      ·rcases stand w hd ed f1 with a|a
       ·rwa[.inr (.inl ⟨a.symm,rfl⟩)]
       ·rwa[.inr (.inr a)]
    ·rwa[.inr (.inr (.inr ⟨f,p f G C j,.inl rfl⟩))]
   ·rwa[q.elim]
 rwa[h0.done e k]
end
noncomputable def cf (a:Nat->Int->Zi):Nat->Zg->Zh
 |_,[]=>[]
 |r,z::c=>match a r z with
  |none=>[]
  |some b=>b::cf a b c
def yS {a:Nat->Int->Zi}{r:Nat}(h:a r z=none):cf a r (z::l)=[]:=by
 show (match a r z with|none=>[]|some b=>b::cf a b l)=[];rw[h]
def nK {a:Nat->Int->Zi}{r:Nat}(h:a r z\n):cf a r (z::l)=n::cf a n l:=by
 show (match a r z with|none=>[]|some n=>n::cf a n l)=_;rw[h]
def lZ (w:Nat)(p:Zh)(k:Nat):Dt:=.t [.s [114,117,108,101],.i w,.t (p.map λc:Nat=>Dt.i (c:Int)),.i k]
structure AK (ws:Za3) (nr:Nat) (S:RS) (which:Nat) (word:Zg) (start m c d:Nat) (z:Int):Prop where
 w:ws[which]?\word
 n:which<nr\/start=0
 s:start<S.made/\S.av start=start
 hz:word[m]?\z
 f:wk S.by start (word.take m)=some c
 r:wk S.by d (word.drop (m+ 1))=some start
 hc:c<S.made/\S.av c=c
 hd:d<S.made/\S.av d=d
 o:S.by c z≠some d
def pW (S:RS)(a:Nat)(word:Zg)(start m d:Nat):RS:={ S with rows:=S.rows++[lZ a ((start::cf S.by start (word.take m))++(d::cf S.by d (word.drop (m+ 1)))) m] }
inductive Tr (ws:Za3) (nr:Nat):RS->RS->Prop where
 |refl (S:RS):Tr ws nr S S
 |step {S S1 S2:RS} {which:Nat} {word:Zg} {start m c d:Nat} {z:Int}:Tr ws nr S S1->AK ws nr S1 which word start m c d z->kc (pW S1 which word start m d) [(c,z,d)] S2->Tr ws nr S S2
def DY (S:RS)(c:Nat)(word:Zg):Prop:=wk S.by c word=some c\/∃(i j f r:Nat) (y z:Int),i<j/\word[i]?\y/\word[j]?\z/\wk S.by c (word.take i)=some f/\S.by f y=none/\wk S.by r (word.drop (j+ 1))=some c/\S.by r (-z)=none
structure uI (rs ps:Za3) (S:RS):Prop where
 r:∀w∈rs,∀c,c<S.made->S.av c=c->DY S c w
 p:∀w∈ps,DY S 0 w
def UW (U:Za2):Nat->Zg->Nat->Prop
 |p,[],q=>p=q
 |p,z::w,q=>∃r,U p z r/\UW U r w q
structure Rq (ws:Za3) (nr M:Nat) (φ:Nat->Nat) (U:Za2):Prop where
 sy:∀p z q,U p z q->U q (-z) p
 fn:∀p z q q',U p z q->U p z q'->q=q'
 cl:∀(which:Nat) (word:Zg) (start m c d:Nat) (z:Int),ws[which]?\word->which<nr\/start=0->start<M->word[m]?\z->UW U (φ start) (word.take m) (φ c)->UW U (φ d) (word.drop (m+ 1)) (φ start)->U (φ c) z (φ d)
section
variable {S S':RS}{R:Za2}{φ:Nat->Nat}{U:Za2}{ks:Zg}
def AO (k:∀p z q d,U p z q->U p z d->q=d)(e:∀a z b,R a z b->U (φ a) z (φ b)){a b:Nat}(h:Cg R a b):φ a=φ b:=by
 induction h with
 |refl=>rfl
 |symm _ c=>exact c.symm
 |trans _ _ g j=>exact g.trans j
 |step i f _ c=>exact k _ _ _ _ (e _ _ _ i) ([c]▸e _ _ _ f)
def AQ (g:Good S [] R)(i:∀p z q e,U p z q->U p z e->q=e)(f:∀a z b,R a z b->U (φ a) z (φ b)){c d:Nat}{z:Int}(h:S.by c z=some d):U (φ c) z (φ d):=by
 let⟨l,o,r,m,n⟩:=g.so _ _ _ h;let⟨k,j,_⟩:=g.rl _ _ _ r;let t:=AO i f (g.cg _ k);let s:=AO i f (g.cg _ j)
 cbv
theorem AU (h:∀c z d,S.by c z=some d->U (φ c) z (φ d)):∀{w:Zg} {c d:Nat},wk S.by c w=some d->UW U (φ c) w (φ d)
 |[],c,d,e=>by rw[Za0 e];rfl
 |z::w,c,d,e=>by
  let⟨f,b,a⟩:=fz e;rwa[_,h _ _ _ b,AU h a]
theorem Tr.sound {ws:Za3}(t:Tr ws n S S')(md:Rq ws n m φ U)(x:∀w∈ws,∀z∈w,z∈ks/\-z∈ks):Good S [] R->e9 S->S.made<=m->(∀a z b,R a z b->z∈ks)->(∀a z b,R a z b->U (φ a) z (φ b))->
 ∃j,Good S' [] j/\e9 S'/\S'.made=S.made/\S'.L=S.L/\(∀a z b,R a z b->j a z b)/\(∀a z b,j a z b->z∈ks)/\∀a z b,j a z b->U (φ a) z (φ b):=by
 induction t with
 |refl=>exact λg w _ k h=>⟨R,g,w,22,λ_ _ _ r=>r,k,h⟩
 |step _ ra F q=>
  rename_i J I which word start f c d z _;intro g G C k h;let⟨B,g1,l,E,A,D,k1,o⟩:=q g G C k h;let p:=λc z d=>AQ (c:=c) (d:=d) (z:=z) g1 md.fn o
  let u:=md.cl which word start f c d z ra.w ra.n (by have:=ra.s.1;omega) ra.hz (AU p ra.f) (AU p ra.r);let hz:=x word (agu ra.w) z (agu ra.hz)
  let i:∀a y b,fu B c z d a y b->y∈ks:=by
   rintro a y b (r|⟨_,e,_⟩|⟨_,e,_⟩)
   ·rwa[k1 _ _ _ r]
   ·rw[e];rwa[hz.1]
   ·rw[e];rwa[hz.2]
  let⟨v,H,s,l2,_⟩:=F.all (g1.lay z ra.hc.1 ra.hd.1 _) i ⟨l.a,l.b,l.c⟩;erw[_,v,H,s.trans E,l2.trans A,λa y b r=>.inl (D _ _ _ r),i];rintro a y b (r|⟨rfl,rfl,rfl⟩|⟨rfl,rfl,rfl⟩)
  ·rwa[o _ _ _ r]
  ·rwa[u]
  ·rwa[md.sy _ _ _ u]
end
end L2
namespace L2
open PySem PySem.Spec PyProof.Rows
section
variable {X:Cx}
def Oy (K:Za1)(f:TA)(d:TE):TI:=λ b H R=>f b H λe g=>d b g λz c=>∃a n,e=[↑a]/\z=.int n/\0<=n/\n<1000/\(∃h,aH K c a h)/\R (sR K a n) c
def Rt (Q:V->Hp->Prop):Zb->Hp->Prop
 |[z],H=>Q z H
 |_,_=>False
theorem Oz {Q:V->Hp->Prop}:∀{a:Zb} {H:Hp},Rt Q a H->∃z,a=[z]/\Q z H
 |[z],_,h=>⟨z,2,h⟩
 |[],_,h=>h.elim
 |_::_::_,_,h=>h.elim
theorem Hs {b:Expr}{D F:TE}{elts:Zr}{d g kp:Pos}(Z:Gl X "enumerate")(J:X.mg "enumerate"=none)(O:PE X e D)(k:PE X b F)
 (E:starEach [e] X.env=(false,eval e X.env)::starEach [] X.env:=by rfl)
 (v:((backTo g (starEach [e] X.env)).any (·.1) || (backToKw g (keywordEach [⟨some "start",b,kp⟩] X.env)).any (·.1.isNone))=false:=by rfl):
 PI X (.Tuple elts n p) (.Call (.Name "enumerate" d) [e] [⟨some "start",b,kp⟩] g) (Oy X.K (jJ D j3) F):=by
 intro a s y H R I h;rwa[ahH (gS I Z J boot_enumerate ?_)];rwa[PySem.W.callWith_of (P:=λ_=>True) v (λ_ _=>⟨.machine,.inr (.inl rfl),λ_ _ _ _ _ q=>agz q⟩) (evalArgs_kw2 rfl (aZ ((ae O aj E) g a s y H _ I h) λus Y ζ=>?_) E)];let⟨vs,H1,W,r,q⟩:=ζ;rwa[aZ ((Dz k GC:PK X [⟨some "start",b,kp⟩] _) g a Y y H1 (Rt λz m=>∃e c,vs=[↑e]/\z=.int c/\0<=c/\c<1000/\(∃G,aH X.K m e G)/\R (sR X.K e c) m) W q) λws s2 ζ=>?_];let⟨zs,m,i,L,qz⟩:=ζ;rwa[⟨True.intro,5⟩]
 let⟨z,rfl,l,c,M,rfl,A,t,B,V⟩:=Oz qz;subst M;let⟨G,B⟩:=B;let⟨u,rfl,Q⟩:=vals1 r;ext Q;let⟨u2,rfl,N,rfl⟩:=vals1 L;let⟨its,rv,pl,hz⟩:=i.list B;show wpAny _ _ (call (.type "enumerate") [↑l] [("start",.int c N)]) _ _ s2;rwa[En.CQ pl.isList A t λo C hit S=>?_]
 let U:Inv X a y m (s2<*o):=i.kept (t':=s2.toks) S;let j:(∃x,IsEnum o (↥s2+ 1) ↥s2 (c+ ((0:Nat):Int)) x)/\o.IsListIter ↥s2 l 0:=⟨⟨_,[show c+ ((0:Nat):Int)=c by ext]▸C⟩,hit⟩;let T:=CT (P:=X.prog) (w:=X.w) (K:=X.K) (elts:=elts) (x1:=n) (tp:=p) (↥s2+ 1) ↥s2 l c (Nat.succ_ne_self _);rwa[T.self _ 0 (s2<*o) _ _ j ⟨1111,m,2,U,T,j,λb k=>?_,V⟩];rcases agN.mp k with f|k
 ·subst f;rwa[i.pJ (aiN _) (i.aO.fresh (aiN _))]
 ·rw[agC.mp k];rwa[i.pJ (agA _) (i.aO.fresh (agA _))]
end
section
variable {prog:Program} {w:World} {K:Type} [DecidableEq K] {knd:HeapKind prog w K} {A:Around} {E:Zt->Zu->Prop} {s:Zu} {d a:Zs} {k:K} {xs:List (K×Zs×Zt)}
theorem CV {dflt:Zt}(n:knd.room A)(b:knd.is s.heap k a)(r:s.heap.DictOfH knd d xs)
 (C:∀v,(atKey xs k).map (·.2)\v->Q v { s with toks:=s.toks+ knd.draws k })
 (x:atKey xs k=none->∀i,i.DictOfH knd d (storedH xs k a dflt)->Heap.SameBut d s.heap i->Q dflt { s with heap:=i,toks:=s.toks+ knd.draws k })
 (t:⇑xs<=sizeLine):(prog<|>w) A (dictSetDefault d ↑a dflt) Q E s:=by
 let⟨H,F,D,f,g2,c,h,o,m⟩:=r;unfold dictSetDefault
 first|(with_reducible rwa[ahF ?_])|skip
 rwa[ags (knd.pyHash n b (ags (wpAny_dictFind_heap (s:={ s with toks:=s.toks+ knd.draws k }) n b f c h o m (λno=>?_) (λj p l=>?_))))]
 ·let G:k∉xs.map (·.1):=not_mem_keys_of_get no;let g:=atKey_none_of_get no;rwa[ags (aj2 (ags (wpAny_updateDictKeys (hz:=by let e:=size_of_entries h;omega) (s:={ s with toks:=s.toks+ knd.draws k }) f c (agz (x g _ ?_ (ah3 ..))))))];erw[11,D+ 1,ahh _ f (Obj.isFreed_of_dict (Obj.data_mapDictKeys c _)),g2.mapDictKeys _,Obj.data_mapDictKeys c _,55]
  ·rw[storedH_new g];simp[h,entryOfKey]
  ·rw[storedH_new g];intro y u;rcases agH.mp u with q|q
   ·rwa[knd.keeps (o y q) f c (ah3 ..)]
   ·rw[agC.mp q];rwa[knd.keeps b f c (ah3 ..)]
  ·rw[storedH_new g,ag6,ahD]
   cbv
 ·let z:=atKey_of_get m l;rwa[ags (aiz (s:={ s with toks:=s.toks+ knd.draws k }) f c ?_)]
  let B:F[j]?\(entryOfKey knd (k,p)):=by
   rw[entry_at h j,l];rfl
  rw[B];rwa[ags (aj2 (agz (C _ (by rw[z];rfl))))]
theorem zl (knd:HeapKind prog w K)(d a:Zs)(f:(d==sysModules)=false)(dflt:Zt):MeetsIn prog w (Builtin.«dict.setdefault» ⟨[↑d,↑a,dflt],[]⟩) (λA R s=>knd.room A.in1/\∃k xs,knd.is s.heap k a/\s.heap.DictOfH knd d xs/\⇑xs<=sizeLine/\
 (∀v,(atKey xs k).map (·.2)\v->R (.ok (.ret v)) { s with toks:=s.toks+ knd.draws k })/\(atKey xs k=none->∀b,b.DictOfH knd d (storedH xs k a dflt)->Heap.SameBut d s.heap b->R (.ok (.ret dflt)) { s with heap:=b,toks:=s.toks+ knd.draws k })):=
 .of_wp λA R s ζ=>by
  let⟨m,k,xs,c,hm,l,n,j⟩:=ζ
  unfold Builtin.«dict.setdefault» Builtin.Dict.keyAndDefault;rwa[ags (ags (ajk hm.typeIs ?_))];show wpAny _ _ (pure (d,Value.ref a,some dflt)) _ _ s;rwa[agz ?_];show wpAny _ _ (if (d==sysModules)=true then _ else (dictSetDefault d ↑a dflt >>=_)) _ _ s;rw[f];rwa[ags (CV m c hm (λv h=>agz ⟨v,2,n v h⟩) (λg b e i=>agz ⟨dflt,2,j g b e i⟩) l)]
end
inductive Ru (a:Zs) (y z:V) (H:Hp) (Q:VK):Prop
 |mk (kvs:List (Zd×V)) (k:Zd) (b:Zs):H a\.dT kvs->y=↑b->H b\.tup (k.map kV)->⇑kvs<sizeLine->(∀v,bz kvs k\v->Q v H)->(bz kvs k=none->Q z (upd H a (.dT (putK kvs k z))))->Ru a y z H Q
def Rw (td e tx:TE):TE:=λ b H Q=>td b H λx c=>DN x c λa=>e b c λy f=>tx b f λz d=>Ru a y z d Q
section
variable {X:Cx}{o e f:Expr}{apos cF:Pos}{td ty tx:TE}
theorem J1 (hu:X.A.units+ 1<cLine)(N:PE X o td)(Z:PE X e ty)(hf:PE X f tx)(m:M2 X o "setdefault" apos e f cF):PE X (.Call (.Attribute o "setdefault" apos) [e,f] [] cF) (Rw td ty tx):=by
 intro j s t H Q I h;rwa[aiV m.base m.few m.line ahU aiv PySem.F.type_dict_setdefault (aZ (N j s t H _ I h) λu s1 ζ=>?_)];let⟨x,H1,E,O,a,ex,d,q1⟩:=ζ;subst ex;obtain rfl:u=Value.ref a:=O;let⟨t1,T,_⟩:=mB E d;erw[t1,T];rw[m.trees]
 rwa[ahE rfl (aia (ahy (aZ (Z j s1 t H1 _ E q1) λU s2 ζ=>?_)))];let⟨y,H2,I2,M,R⟩:=ζ;rwa[ ahy (aZ (hf j s2 t H2 _ I2 R) λfv s3 ζ=>?_)];let⟨z,C,n,B,i,k,b,A,ey,L,iV,q3,q4⟩:=ζ;rwa[ah4 ?_]
 subst ey;cases (show U=Value.ref b from M);let⟨hz,J,xs,rel,F⟩:=L3 n.aO A;let g:=rel.val k;let w:⇑xs<=sizeLine:=by rw[<-Paired.length rel];rwa[hz]
 rwa[ai3 aiv F.typeIs PySem.F.entry_dict_setdefault (PySem.F.args_dict_setdefault_3^_) (zl _ a b J fv) ⟨aiK hu,k,xs,mz n.aO L,F,w,λv hv=>?_,λhn g1 p S=>?_⟩]
 ·rw[hv]at g
  cases l:bz i k with
  |none=>rw[l]at g;rwa[g.elim]
  |some r=>
   rw[l]at g;rwa[r,C,n.tok _,g,q3 r l]
 ·rw[hn]at g
  cases l:bz i k with
  |some r=>rw[l]at g;rwa[g.elim]
  |none=>
   let hl:⇑(putK i k z)<=sizeLine:=by have:=gW i k z;ext
   let⟨q,es,W,G,P,Y,V,_,h5⟩:=p;rwa[⟨z,upd C a (.dT (putK i k z)),j7 n ([A]▸True.intro) S ⟨q,G⟩ ⟨hl,J,_,(rel.put k L B).keeps λc ys D=>?_,q,es,W,G,P,Y,V,h5⟩,B,q4 l⟩];rw[ak (bX D A (λz=>nomatch z))];rwa[D]
end
section
variable {H:Hp}{k:Zs}{D:Int->Zo}{E:Int->Int->Zo}{S:bE}
theorem dU.J9 (h:dU H k D E S){c s:Int}{d:Zs}(hd:D c\d){l:List (Key×V)}(A:H d\.dK l):
 dU (upd H d (.dK (e8 l (Sum.inl s)))) k D (λf g=>if f=c/\g=s then none else E f g) (gf S c s):=by
 let⟨m,C,w,B,F⟩:=h.row c d hd;rw[A]at C;obtain rfl:l=m:=by cbv
 let un:∀{f g:Int} {z:Zs},(if f=c/\g=s then none else E f g)\z->¬(f=c/\g=s)/\E f g\z:=λ{f g z} q=>by
  cbv
 rwa[⟨h.top.at λo q=>?_,λf p j=>?_,λf g n i=>?_,λf g n i=>h.ed _ _ _ (un i).2,λf g o u=>?_,h.nd,λf g n i=>h.ne _ _ _ (un i).2,h.dd,λf x g p j i=>h.de _ _ _ _ j (un i).2,λf g x G n y v=>h.ee _ _ _ _ _ (un y).2 (un v).2⟩]
 ·rw[ak (h.nd c d hd).symm];rwa[q]
 ·by_cases t:f=c
  ·subst t;obtain rfl:p=d:=by cbv
   rwa[(Oq w B F s).congr λg=>?_]
   cbv
  ·rwa[((h.row f p j).at λo q=>by rw[ak λz=>t (h.dd _ _ _ j ([z]▸hd))];rwa[q]).congr λg=>?_]
   cbv
 ·let⟨ne,r⟩:=un i;rwa[((h.yQ f g n r).at λo q=>[ak (λz=>h.de c f g d hd (by rw[<-z];rwa[r]))]▸q).congr λo=>?_]
  have:gf S c s f g o=S f g o:=by
   rw[ahR,dk];rwa[λz=>z.1,λz=>⟨z,ne⟩]
  rw[this]
 ·let⟨a,b⟩:=dk.mp u;let⟨e,r⟩:=h.se _ _ _ a
  cbv
end
structure Rx (k:Zs) (D:Int->Zo) (E:Int->Int->Zo) (W:bE) (O:Zs->Prop):Prop where
 o:∀b,uH k D E b->O b
 d:∀c x,D c\x->0<=c/\c<100000
 e:∀c s x,E c s\x-> -1000<=s/\s<=1000
 w:∀c s n,W c s n=true->0<=n/\n<100000
def oQ (H:Hp)(k:Zs)(W:bE)(O:Zs->Prop):Prop:=∃D E,dU H k D E W/\Rx k D E W O
def fB (H:Hp)(k:Zs)(W:bE)(O:Zs->Prop)(c:Int)(d:Zs):Prop:=∃D E,dU H k D E W/\Rx k D E W O/\D c\d
def pX (H:Hp)(k:Zs)(W:bE)(O:Zs->Prop)(c s:Int)(e:Zs):Prop:=∃D E,dU H k D E W/\Rx k D E W O/\E c s\e
def Ht (O:Zs->Prop)(p:Zs):Zs->Prop:=λb=>O b\/b=p
section
variable {H H':Hp}{k:Zs}{W:bE}{O:Zs->Prop}{c s:Int}{d e p:Zs}
def oQ.keep (h:oQ H k W O)(f:∀b o,O b->H b\o->H' b\o):oQ H' k W O:=by
 let⟨D,E,i,a⟩:=h;rwa[D,E,i.keep λb o g q=>f b o (a.o b g) q,a]
def oQ.qq (h:oQ H k W O):DM H k:=by
 let⟨D,E,b,_⟩:=h;let⟨a,q,_⟩:=b.top;rwa[.inl ⟨a,.inl q⟩]
theorem oQ.room (h:oQ H k W O)(t:H p=none)(hc:0<=c/\c<100000):∃a,upd H p (.dK []) k\.dK a/\⇑a<sizeLine/\(∀v,bz a (Sum.inl c)\v->∃d,v=↑d/\fB (upd H p (.dK [])) k W O c d)/\
 (bz a (Sum.inl c)=none->fB (upd (upd H p (.dK [])) k (.dK (putK a (Sum.inl c) ↑p))) k W (Ht O p) c p):=by
 let⟨D,E,m,f⟩:=h;let w:=aq.upd (o:=.dK []) t;let k1:=m.same w;let⟨a,r,u,y,l⟩:=k1.Rk;let nw:¬uH k D E p:=λz=>by let⟨B,q⟩:=m.there z;cbv
 rwa[⟨a,r,5,λv g=>?_,λg=>?_⟩]
 ·rwa[agE (vG (n:=100000) (lo:=0) u y l λi v g=>?_) ⋯]
  cases e:D i with
  |none=>rw[e]at g;ext g
  |some x=>have:=f.d i x e;ext
 ·rw[l]at g;let⟨d,hd,rfl⟩:=ahM.mp g;rwa[d,2,D,E,k1,f,hd]
 ·rw[l]at g;let hd:D c=none:=ajX.mp g;rwa[⟨_,E,k1.Ou hd r ah nw,⟨λb A=>?_,λj x q=>?_,f.e,f.w⟩,agX rfl⟩]
  ·rcases A with z|⟨j,z⟩|z
   ·rwa[.inl (f.o b (.inl z))]
   ·dsimp only at z;by_cases e:j=c
    ·rw[agX e]at z;rwa[.inr (Za0 z).symm]
    ·rw[agT e]at z;rwa[.inl (f.o b (.inr (.inl ⟨j,z⟩)))]
   ·rwa[.inl (f.o b (.inr (.inr z)))]
  ·by_cases e:j=c
   ·rw[e];rwa[hc]
   ·rw[agT e]at q;rwa[f.d j x q]
def fB.qq (h:fB H k W O c d):DM H d:=by
 let⟨D,E,f,g,a⟩:=h;let⟨b,q,_⟩:=f.row c d a;rwa[.inl ⟨b,.inl q⟩]
def fB.own (h:fB H k W O c d):O d:=by
 let⟨D,E,f,b,a⟩:=h;rwa[b.o d (.inr (.inl ⟨c,a⟩))]
def fB.same (h:fB H k W O c d)(s:aq H H'):fB H' k W O c d:=by
 let⟨D,E,f,b,a⟩:=h;rwa[D,E,f.same s,b,a]
theorem fB.cell (h:fB H k W O c d)(w:H p=none)(A: -1000<=s/\s<=1000):∃a,upd H p (.dK []) d\.dK a/\⇑a<sizeLine/\(∀v,bz a (Sum.inl s)\v->∃e,v=↑e/\pX (upd H p (.dK [])) k W O c s e)/\
 (bz a (Sum.inl s)=none->pX (upd (upd H p (.dK [])) d (.dK (putK a (Sum.inl s) ↑p))) k W (Ht O p) c s p):=by
 let⟨D,E,t,f,hd⟩:=h;let B:=aq.upd (o:=.dK []) w;let k1:=t.same B;let⟨a,u,y,C,r⟩:=k1.J0 hd;let nw:¬uH k D E p:=λz=>by let⟨G,q⟩:=t.there z;cbv
 rwa[⟨a,u,5,λv g=>?_,λg=>?_⟩]
 ·rwa[agE (vG (n:=2001) (lo:=-1000) y C r λi v g=>?_) ⋯]
  cases e:E c i with
  |none=>rw[e]at g;ext g
  |some x=>have:=f.e c i x e;ext
 ·rw[r]at g;let⟨e,m,rfl⟩:=ahM.mp g;rwa[e,2,D,E,k1,f,m]
 ·rw[r]at g;let m:E c s=none:=ajX.mp g;rwa[⟨D,_,k1.Ot hd m u ah nw,⟨λb F=>?_,f.d,λj l x q=>?_,f.w⟩,agX ⟨22⟩⟩]
  ·rcases F with z|z|⟨j,l,z⟩
   ·rwa[.inl (f.o b (.inl z))]
   ·rwa[.inl (f.o b (.inr (.inl z)))]
   ·dsimp only at z;by_cases e:j=c/\l=s
    ·rw[agX e]at z;rwa[.inr (Za0 z).symm]
    ·rw[agT e]at z;rwa[.inl (f.o b (.inr (.inr ⟨j,l,z⟩)))]
  ·by_cases e:j=c/\l=s
   ·rw[e.2];rwa[A]
   ·rw[agT e]at q;rwa[f.e j l x q]
def pX.own (h:pX H k W O c s e):O e:=by
 let⟨D,E,f,b,a⟩:=h;rwa[b.o e (.inr (.inr ⟨c,s,a⟩))]
def pX.put (h:pX H k W O c s e){n:Int}(m:0<=n/\n<100000):∃a,H e\.dK a/\⇑a<sizeLine/\oQ (upd H e (.dK (putK a (Sum.inl n) (.bl true)))) k (addW W c s n) O:=by
 let⟨D,E,g,b,f⟩:=h;let⟨a,j,l,o,r⟩:=g.Rl f;rwa[⟨a,j,5,D,E,g.Rm f j n,b.o,b.d,b.e,λu y t q=>?_⟩]
 ·rwa[agE (vG (n:=100000) (lo:=0) l o r λi v x=>?_) ⋯];by_cases w:W c s i=true
  ·have:=b.w _ _ _ w;ext
  cbv
 ·rcases dA.mp q with q|⟨_,_,q⟩
  ·rwa[b.w _ _ _ q]
  ·rw[q];rwa[m]
def oQ.get (h:oQ H k W O):∃o,fY H k (.int c) o/\((o=none/\∀s n,W c s n=false)\/∃d,o\↑d/\fB H k W O c d):=by
 let⟨D,E,a,l⟩:=h;let⟨i,b,r,q,j⟩:=a.Rk;let g:=fY.k (k:=Sum.inl c) b;rw[j]at g;erw[_,g]
 cases e:D c with
 |none=>
  rwa[.inl ⟨2,λs n=>?_⟩]
  cases w:W c s n with
  |false=>rfl
  |true=>
   let⟨x,f⟩:=a.se _ _ _ w;let⟨y,m⟩:=a.ed _ _ _ f
   cbv
 |some d=>exact .inr ⟨d,2,D,E,a,l,e⟩
theorem AV:∀{a:List (Key×V)},(a.map (·.1)).Nodup->(∀b∈a,∃n:Nat,b.1=Sum.inl (n:Int))->∃ns:Zh,a.map (λb=>kV b.1)=ao (nI ns)/\ns.Nodup/\∀n:Nat,n∈ns↔Sum.inl (n:Int)∈a.map (·.1)
 |[],_,_=>⟨[],2,aij,λn=>⟨(λz=>by ext z),(λz=>by ext z)⟩⟩
 |b::r,f,h=>by
  rw[ahK,ahb]at f;let⟨ns,i,o,l⟩:=AV f.2 λx j=>h x (ag3 _ j)
  let⟨m,g⟩:=h b (agM ..);rwa[⟨m::ns,5,ahb.mpr ⟨λz=>f.1 ([g]▸(l m).mp z),o⟩,λn=>?_⟩]
  ·rw[ahK,i,g];rfl
  cbv
def DZ {a:List (Key×V)}{v:V}(h:bz a (Sum.inl z)\v):Sum.inl z∈a.map (·.1):=ahp.mpr ⟨_,JZ h,2⟩
theorem fB.pop (h:fB H k W O c d)(s:Int):∃a,H d\.dK a/\(bz a (Sum.inl s)=none->∀n,W c s n=false)/\
 ∀v,bz a (Sum.inl s)\v->∃(e:Zs) (f:List (Key×V)) (ns:Zh),v=↑e/\e≠d/\H e\.dK f/\f.map (λt=>kV t.1)=ao (nI ns)/\ns.Nodup/\(∀n:Nat,n∈ns↔W c s n=true)/\oQ (upd H d (.dK (e8 a (Sum.inl s)))) k (gf W c s) O:=by
 let⟨D,E,m,l,hd⟩:=h;let⟨a,C,Q,S,F⟩:=m.J0 hd;rwa[⟨a,C,λu n=>?_,λv u=>?_⟩]
 ·rw[F]at u
  cases w:W c s n with
  |false=>rfl
  |true=>
   let⟨x,R⟩:=m.se _ _ _ w
   cbv
 ·rw[F]at u;let⟨e,A,rfl⟩:=ahM.mp u;let⟨f,M,B,I,J⟩:=m.Rl A
  let j:∀i:Int,Sum.inl i∈f.map (·.1)↔W c s i=true:=λi=>by
   constructor
   ·intro z;let⟨t,g,e⟩:=ahp.mp z;have:=AI B g
    cbv
   ·intro w;rwa[DZ (v:=.bl true) (by rw[J,agX w])]
  let⟨ns,N,G,L⟩:=AV B λt g=>by
   let⟨i,y⟩:=I t g;have:=l.w _ _ _ ((j i).mp (by rw[<-y];rwa[aiA g]));rwa[i.toNat,by rw[y];congr 1;ext]
  rwa[⟨e,f,ns,2,λz=>m.de _ _ _ _ hd (by rw[<-z];rwa[A]),M,N,G,λn=>(L n).trans (j n),11,m.J9 hd C,⟨λb P=>l.o b ?_,l.d,λo r x q=>?_,λo r n q=>l.w _ _ _ (dk.mp q).1⟩⟩]
  ·rcases P with z|z|⟨o,r,z⟩
   ·rwa[.inl z]
   ·rwa[.inr (.inl z)]
   ·dsimp only at z;by_cases e:o=c/\r=s
    ·cbv
    ·rw[agT e]at z;rwa[.inr (.inr ⟨o,r,z⟩)]
  ·by_cases e:o=c/\r=s
   ·rw[agX e]at q;ext q
   ·rw[agT e]at q;rwa[l.e _ _ _ q]
def Hu {P:Nat->Bool}{G:Nat}:∀{ns:Zh},ns.Nodup->(∀n∈ns,n<G/\P n=true)->⇑ns<=(List.range G).countP P:=by
 intro ns
 induction ns generalizing P with
 |nil=>exact λ_ _=>agW _
 |cons m r i=>
  intro g h;rw[ahb]at g;let⟨b,f⟩:=h m (agM ..);have:=lO (p:=P) (p':=λa=>P a && decide (a≠m)) (v:=m) (λa=>rfl) f G;rw[agX b]at this
  cbv
def xN {W:bE}{c s:Int}(h:∀n,W c s n=false):gf W c s=W:=by
 funext b a n
 rw[ahR,dk]
 cbv
end
end L2
namespace L2
section
variable {S:RS}{R:Za2}
theorem vI (g:Good S [] R):∀{w:Zg} {c d e:Nat},wk S.by c w=some e->wk S.by d w=some e->c=d
 |[],c,d,e,b,a=>by rw[Za0 b,Za0 a]
 |z::w,c,d,e,b,a=>by
  let⟨m,j,h⟩:=fz b;let⟨n,i,f⟩:=fz a;have:=vI g h f;subst this;let k:=g.sy _ _ _ j;let l:=g.sy _ _ _ i
  cbv
def Ka (g:Good S [] R){p c d m:Nat}{word:Zg}{z:Int}(h:DY S p word)(t:word[m]?\z)(o:wk S.by p (word.take m)=some c)(l:wk S.by d (word.drop (m+ 1))=some p):S.by c z=some d:=by
 let I:=(agx.mp t).1;rcases h with h|⟨i,j,f,r,y,s,D,v,w,E,M,H,u⟩
 ·have:word=word.take m++(z::word.drop (m+ 1)):=by rw[<-drop_cons t,ahJ]
  rw[this,ip o]at h;let⟨e,C,B⟩:=fz h;rw[C,vI g B l]
 ·exfalso
  let a:m<=i:=by
   rcases aim i m with q|q
   ·exfalso
    let e:word.take m=word.take i++(y::(word.take m).drop (i+ 1)):=by
     let k:(word.take m)[i]?\y:=by rw[List.getElem?_take,agX q];rwa[v]
     rw[<-drop_cons k];have:word.take i=(word.take m).take i:=by rw[List.take_take,aiC ∅]
     rw[this,ahJ]
    rw[e,ip E]at o;let⟨x,L,_⟩:=fz o
    cbv
   ·rwa[q]
  let b:j<=m:=by
   rcases aim m j with q|q
   ·exfalso
    let n:(word.drop (m+ 1))[j - (m+ 1)]?\s:=by rw[ajT,show m+ 1+ (j - (m+ 1))=j by ext];rwa[w]
    let e:word.drop (m+ 1)=(word.drop (m+ 1)).take (j - (m+ 1))++(s::word.drop (j+ 1)):=by
     have:word.drop (j+ 1)=(word.drop (m+ 1)).drop (j - (m+ 1)+ 1):=by rw[List.drop_drop];congr 1;ext
     rw[this,<-drop_cons n,ahJ]
    rw[e]at l;let⟨x,_,A⟩:=kb l;let⟨J,F,G⟩:=fz A;have:=vI g G H;subst this;rw[g.sy _ _ _ F]at u;ext u
   ·rwa[q]
  ext
theorem vJ {b:Nat->Int->Zi}:∀{w:Zg} {p q:Nat},UW (λp z q=>b p z\q) p w q->wk b p w\q
 |[],p,q,h=>by rw[show p=q from h];rfl
 |z::w,p,q,h=>by
  let⟨r,c,a⟩:=h;rw[gY c];rwa[vJ a]
end
end L2
namespace L2
open PySem PySem.Spec PyProof.Rows
theorem OB {CX:lF}{base:Heap}{k:Nat}{name qual:Str}{params:Arguments}{body:Expr}{scope:Scope}{pm:Zt}{i:Zp}
 {A:Around} {f:Zq} {s:Zu} {H:Hp} {g:Args} {us:Zk} {vs:Zb} {Q:VK} {E:XK} {t:TE} (S:aS Z i scope) (R:⇑vs=⇑i) (m:cx (k+ 1) A) (j:mw P w K M base A f s H)
 (B:s.heap.get? a\PySem.W.kla_obj name qual params body scope [] pm c v) (l:s.heap.CodeRec ↑c qual) (O:bindArgs (PySem.W.kla_fn name qual params body scope [] pm ↑c v) g=pure (i.zip us)) (r:Vals vs us)
 (C:PE (cy CX P w K M base Z qual scope a ↑c A f s H E) body t) (N:t (start Z vs) H Q):codeAny (model P w) A (.call ↑a g) (CR CX f P w H s Q E) s:=by
 let lim:s.heap.NoLimit:=j.mod.nolimit.keeps λb o e=>(j.bs b o e).1
 let h:∀y∈i.zip us,scope.names.lookup y.1=some .local\/(scope.names.lookup y.1=some .cell/\((cellsFrom (↥s+ 1) scope.names []).lookup y.1).isSome=true):=λζ z=>by
  let⟨n,d⟩:=ζ
  rcases S.par n (List.of_mem_zip z).1 with q|q
  ·rwa[.inl q]
  ·rwa[.inr ⟨q,ajU _ _ _ (.inl q)⟩]
 rwa[PySem.W.kla_callFunE m.depth B rfl S.co S.gen rfl l ?_];rw[O];rwa[agz (wpAny_newFunctionEnv_cells S.kind h λenv F p x=>?_)];subst F;rwa[⟨lim.keeps x.toInCall.keep,PySem.W.kla_codeExpr ?_⟩];let I:Inv (cy CX P w K M base Z qual scope a ↑c A f s H E) [] (start Z vs) H p:=yw S m.hd j R r x;rwa[ahA (C [] p (start Z vs) H Q I N) (λu T ζ=>?_) λe T L=>L];let⟨d,G,J,D,q⟩:=ζ
 rwa[d,G,J.os,J.bare,J.base,J.aO,D,q]
def cU (a:Zs)(pos:Pos)(qual:Str)(H:Hp):Prop:=
 H a=some (.fw #[])\/∃(c:Zs) (d:Obj) (b:Zm) (t:Tok),H a\(.fw #[rawInt pos.line,rawInt pos.col,↑c])/\H c\.cW d (.own c)/\d.data=.fields b/\b[1]?\(.str qual t)
def cU.keep {pos:Pos}{qual:Str}(h:cU a pos qual H)(k:∀b u,H b\u->(∃f,u=.fw f)\/(∃o v,u=.cW o v)->I b\u):cU a pos qual I:=by
 rcases h with h|⟨c,e,d,t,l,j,i,g⟩
 ·rwa[.inl (k _ _ h (.inl ⟨_,rfl⟩))]
 ·rwa[.inr ⟨c,e,d,t,k _ _ l (.inl ⟨_,rfl⟩),k _ _ j (.inr ⟨_,_,rfl⟩),i,g⟩]
def kg (c:Str->Zl)(base:Heap):Prop:=∃(b:Zs) (a:Obj),c "__builtins__"=some ↑b/\base.get? b\a/\(a.cls=.type "module"/\a.dict\builtinsNs/\a.data=.plain)/\b≠builtinsNs
section
variable {X:Cx}{pins:List (Zs×Obj)}{σ:St}{H:Hp}{s:Zu}
theorem Rz {params:Arguments}{body:Expr}{scope:Scope}{pos:Pos}(I:Inv X pins σ H s)(x:X.env.code=↑c)(hC:PySem.W.codeHdIn X.K c a=true)
 (R:closureFor scope X.env=pure []) (O:defaultsOf params X.env=([],[])) (hT:cU a pos (X.env.qual++"<lambda>") H)
 (hB:kg X.mg X.base)
 (h:∀(f g:Zs) (m:Obj) (D:Zm) (t:Tok) (pm j:Zt) (C:Hp) (s2:Zu),Inv X (pins++[(f,PySem.W.kla_obj "<lambda>" (X.env.qual++"<lambda>") params body scope [] pm g j)]) σ C s2->C g\.cW m (.own g)->m.data=.fields D->D[1]?\.str (X.env.qual++"<lambda>") t->
  cU a pos (X.env.qual++"<lambda>") C->(∀b u,b≠a->H b\u->C b\u)->Q ↑f s2):
 X⁻¹ X.A (eval (.Lambda params body scope pos) X.env) Q E s:=by
 let⟨bm,ob,b1,b2,b3,b4⟩:=hB;rwa[PySem.W.kla_eval O ?_]
 let B:s.heap.Ns mainGlobals X.mg:=by
  let⟨o,es,ep,e,r⟩:=I.ok.mod.glob;rwa[o,es,ep,I.bk^e,r]
 let V:=PySem.W.codeHd_of_K I.dv hC;let Y:s.heap.get? bm\ob:=I.bk^b2
 let hPH:∃ps,H a\(.fw ps):=by
  rcases hT with z|⟨L,_,_,_,z,_⟩
  ·rwa[⟨_,z⟩]
  ·rwa[⟨_,z⟩]
 let⟨V7,U⟩:=hPH
 let neP:∀{b:Zs} {o:Obj},s.heap.get? b\o->o.cls≠.none->b≠a:=λ{b o} e hc z=>by
  have:=I.aO^U;rw[z,show s.heap.get? a=some { cls:=.none,data:=.fields V7 } from this]at e
  cbv
 let hbP:bm≠a:=neP Y (by cbv)
 let hgP:mainGlobals≠a:=λz=>by
  let⟨o,es,ep,e,hd,_⟩:=B;have:=I.aO^U;rw[z,show s.heap.get? a=some { cls:=.none,data:=.fields V7 } from this]at e
  cbv
 let hbG:bm≠mainGlobals:=λz=>by
  let⟨o,es,ep,e,hd,_⟩:=B
  cbv
 let hB:s.heap.BuiltinsAt X.mg a:=⟨bm,ob,b1,b4,hbG,hbP,Y,b3.1,b3.2.1,b3.2.2⟩
 let fin:∀{f:Zs} {C:Hp} {s2:Zu} {o:Obj},Inv X pins σ C s2->↥s<=f->s2.heap.get? f\o->C f=none->(∀v,o.data≠.cell v)->Inv X (pins++[(f,o)]) σ C s2:=λ{f C s2 o} J hf e n hd=>J.jm λp W=>by
  rcases agH.mp W with W|W
  ·rwa[J.pin p (agB _ W)]
  ·rw[agC.mp W];rwa[e,n,ahL (agY I.lt hf),I.EW hf,hd]
 rcases hT with M|⟨L,m,D,t,M,S,y,w⟩
 ·let F:s.heap.get? a\(PySem.W.tabObj #[]):=I.aO^M;rwa[PySem.W.kla_makeFunction (mg:=X.mg) R I.ok.glob B x V F trivial rfl hgP hB λg j P tk hx G iV Z T=>?_]
  let⟨c2,m,D,t,e2,N,y,w⟩:=Z;ext e2;let lE:∀b u,H b\u->b≠g:=λb u e z=>absurd (I.aO b u e).lt ([z]▸Nat.not_lt.mpr G)
  let hcP:g≠a:=(lE a _ M).symm;let k1:∀b o,b≠a->s.heap.get? b\o->(P.push (PySem.W.kla_obj "<lambda>" (X.env.qual++"<lambda>") params body scope [] ((X.mg "__name__").getD .none) g j)).get? b\o:=λb o A e=>agt _ (hx b o A e)
  let eP2:(upd (upd H a (.fw #[rawInt pos.line,rawInt pos.col,↑g])) g (.cW m (.own g))) a\(.fw #[rawInt pos.line,rawInt pos.col,↑g]):=by rw[ak hcP.symm,ah]
  let i:∀b u,b≠a->H b\u->(upd (upd H a (.fw #[rawInt pos.line,rawInt pos.col,↑g])) g (.cW m (.own g))) b\u:=λb u A e=>by rw[ak (lE b u e),ak A];rwa[e]
  let J:Inv X pins σ (upd (upd H a (.fw #[rawInt pos.line,rawInt pos.col,↑g])) g (.cW m (.own g))) { s with heap:=P.push (PySem.W.kla_obj "<lambda>" (X.env.qual++"<lambda>") params body scope [] ((X.mg "__name__").getD .none) g j),toks:=tk }:=by
   rwa[I.un ⟨λb o e n _ _=>k1 b o (λz=>by cbv) e,λb o e n _ _=>⟨o.slots,k1 b o (λz=>by cbv) e⟩,λb o e n _=>?_,λb o e _=>?_,λb xs e=>i b _ (λz=>by cbv) e,λb o u e=>i b _ (λz=>by cbv) e,λb qs e=>?_⟩ λb u e=>?_]
   ·rw[ak (ag2 (agY (agQ e) G)),ak (λz=>by cbv)];rwa[n]
   ·by_cases A:b=a
    ·subst A;rwa[_,agt _ T]
    ·rwa[o,k1 b o A e]
   ·by_cases A:b=a
    ·cbv
    ·rwa[#[],by rw[i b _ A e];simp]
   ·by_cases A:b=g
    ·subst A;rw[ah]at e;ext e;rwa[agt _ N,m,agt _ N]
    ·rw[ak A]at e;by_cases V8:b=a
     ·subst V8;rw[ah]at e;ext e;rwa[agt _ T]
     ·rw[ak V8]at e;rwa[(I.aO b u e).fk (λd v hd q=>k1 d v ?_ q) (λd q=>?_) λd xs q=>?_]
      ·cbv
      ·rwa[i d _ (λz=>by cbv) q]
      ·rwa[i d _ (λz=>by cbv) q]
  let l:↥s<=P.objs.size:=agJ G (ajB iV);rwa[h _ g m D t _ j _ _ (fin J l (agK _ rfl) ?_ λv z=>nomatch z) ah y w (.inr ⟨g,m,D,t,eP2,ah,y,w⟩) i];rw[ak (ahL iV),ak (λz=>absurd (I.aO^M).lt (by rw[<-z];rwa[Nat.not_lt.mpr l]))];rwa[I.aO.fresh l]
 ·let F:s.heap.get? a\(PySem.W.tabObj #[rawInt pos.line,rawInt pos.col,↑L]):=I.aO^M;rwa[PySem.W.kla_makeFunctionHit (mg:=X.mg) (cv:=↑L) R I.ok.glob B x V F (by simp[TriplesOk,rawInt]) (by simp[codeAmong,rawInt]) hB λj P tk k l=>?_]
  let J:Inv X pins σ H { s with heap:=P.push ("function">>>.func (PySem.W.kla_fn "<lambda>" (X.env.qual++"<lambda>") params body scope [] ((X.mg "__name__").getD .none) ↑L j)),toks:=tk }:=I.kept λb u e=>agt _ (k b u e)
  rwa[h _ L m D t _ j H _ (fin J l (agK _ rfl) (I.aO.fresh l) λv z=>nomatch z) S y w (.inr ⟨L,m,D,t,M,S,y,w⟩) λb u _ e=>e]
structure Fp (X:Cx) (pq:List (Zs×Obj)) (H:Hp) (b:Zs):Prop where
 none:H b=none
 loc:b≠X.env.locals
 fs:b∉X.fs
 new:X.eA.heap.objs.size<=b
 cell:∀x c,X.env.cells.lookup x\c->c≠b
 pin:∀p∈X.pn++pq,p.1≠b
def vK (I:Inv X o σ H s)(h:↥s<=b):Fp X o H b:=
 ⟨I.aO.fresh h,ahL (agY I.lt h),I.EW h,agJ I.sz h,λx c e z=>by
  let⟨v,a⟩:=I.cell x c e;rwa[absurd a.lt ([z]▸Nat.not_lt.mpr h)],λp d z=>absurd (agQ (I.pin p d).1) ([z]▸Nat.not_lt.mpr h)⟩
def Inv.Fx {b:List (Zs×Obj)}(I:Inv X (o++b) σ H s):Inv X o σ H s:=I.jm λp a=>I.pin p (agB _ (agU _ a))
abbrev RB (a:Zm) (c:Nat):Obj:={ cls:=.type "list",dict:=none,data:=.seq a c,slots:=#[] }
theorem Hv {it l:Zs}{ys:Zb}{kf:Nat->Int}{R:Result->Zu->Prop}(hh:X.A.in1.handled=none)(hq:aH X.K H l ys)(oF:l≠it)(n1:a≠it)(C:Fp X o H it)(D:Fp X o H a)
 (turn:∀(i:Nat) (y:V) (f:Zt) (pr:List (Zs×Obj)) (s':Zu),ys[i]?\y->RelV y f->Inv X (o++pr) σ H s'->X⁻¹ X.A.in1 (call ↑b [f]) (λu s2=>∃t,u=.int (kf i) t/\Inv X (o++pr) σ H s2) (λ_ _=>False) s')
 (hR:∀f s',(ys=[]/\f=v\/∃(j:Nat) (y:V),ys[j]?\y/\RelV y f/\∀q,q<⇑ys->kf j<=kf q/\(q<j->kf j<kf q))->Inv X o σ H s'->R (.ok (.ret f)) s'):
 ∀(k i:Nat) (s:Zu) (r:Zm) (c:Nat),⇑ys - i=k->i<=⇑ys->Inv X o σ H s->s.heap.IsListIter it l i->s.heap.get? a\RB r c->
 ((i=0/\r=#[])\/∃(j:Nat) (y:V) (vb:Zt) (U:Tok),j<i/\ys[j]?\y/\RelV y vb/\r=#[vb,.int (kf j) U]/\∀q,q<i->kf j<=kf q/\(q<j->kf j<kf q))->
 codeAny (model X.prog X.w) X.A (.builtin "min.loop" ⟨[↑it,↑b,↑a],[("default",v)]⟩) R s:=by
 let nm:(toString "min"++toString ".loop":String)="min.loop":=⋯
 let L:∀n:Zs,n≠it->n∉[it]:=λn B z=>B (agC.mp z)
 intro k
 induction k with
 |zero=>
  intro i s r c hk hi I hit B hold;let⟨E,hv,pl,hz⟩:=I.list hq;let RC:=⇑hv;let W:=Walks.list (prog:=X.prog) (w:=X.w) (A:=X.A.in1) hh it l oF E.toArray;let ei:i=⇑E:=∅
  rwa[ajP F.entry_min_loop ?_];rw[ajt ai7 _];show wpAny _ X.A.in1 (seqItems? ↑a >>=_) _ _ s;rwa[ags (ai8 B rfl ?_)];show wpAny _ X.A.in1 (tryCatch (pyNext ↑it) _ >>=_) _ _ s;rwa[ags (aj7 (W.done s _ _ ⟨by cbv,pl.isList⟩ λh' M kp=>?_))];let T:=kp a _ (L _ n1) B;let I2:Inv X o σ H { s with heap:=h',toks:=M }:=I.turned (λn m B e=>kp n m (L _ B) e) C.none C.loc (.inr C.new) C.cell C.pin;rcases hold with ⟨e0,rfl⟩|⟨j,y,vb,U,hj,hy,rb,rfl,d⟩
  ·let en:ys=[]:=ahC (by omega);rwa[ags (aj2 ?_)];rwa[agz (hR v _ (.inl ⟨en,2⟩) I2)]
  ·show wpAny _ X.A.in1 (updateSeq a (λ_=>#[]) >>=_) _ _ _;rwa[ags (aiY T rfl (ags (aj3 (agz ?_))))];rwa[hR _ _ (.inr ⟨j,y,hy,rb,λq S=>d q ∅⟩) (I2.turned (t':=M) (λn m B e=>(ahj^ahQ B).trans e) D.none D.loc (.inr D.new) D.cell D.pin)]
 |succ k ih=>
  intro i s r c hk hi I hit B hold;let⟨E,hv,pl,hz⟩:=I.list hq;let RC:=⇑hv;let iV:i<⇑E:=∅
  let W:=Walks.list (prog:=X.prog) (w:=X.w) (A:=X.A.in1) hh it l oF E.toArray;rwa[ajP F.entry_min_loop ?_];rw[ajt ai7 _];show wpAny _ X.A.in1 (seqItems? ↑a >>=_) _ _ s;rwa[ags (ai8 B rfl ?_)];show wpAny _ X.A.in1 (tryCatch (pyNext ↑it) _ >>=_) _ _ s;rwa[ags (aj7 (W.item i s _ _ ∅ ⟨hit,pl.isList⟩ λf h' M hP Hw kp=>?_))];let⟨⟨oI,hoI,Gp,Q⟩,V9⟩:=Hw;let T:=kp a _ (L _ n1) B;let I2:Inv X o σ H { s with heap:=h',toks:=M }:=I.turned (λn m B e=>kp n m (L _ B) e) C.none C.loc (.inr C.new) C.cell C.pin;let G:ys[i]?\(ys[i]'∅):=agv ∅
  generalize ys[i]'∅=y at G;let⟨u,hu,ru⟩:=hv.get (i:=i) (x:=y) G;let yH:E[i]?\f:=by simpa using hP
  rw[hu]at yH;let euv:u=f:=Za0 yH;subst euv;let dI:∀z,oI.data≠.cell z:=λz e=>by rw[Q]at e;ext e
  let J2:Inv X (o++[(it,oI),(a,RB r c)]) σ H { s with heap:=h',toks:=M }:=I2.jm λp O=>by
   rcases agH.mp O with O|O
   ·rwa[I2.pin p (agB _ O)]
   ·rcases agN.mp O with rfl|O
    ·rwa[⟨hoI,C.none,C.loc,C.fs,dI⟩]
    ·rw[agC.mp O];rwa[T,D.none,D.loc,D.fs,λz e=>nomatch e]
  show wpAny _ X.A.in1 (tryCatch (holding [u] (call ↑b [u])) _ >>=_) _ _ _;rwa[ags (aj7 (ahF (ahA (turn i y u _ _ G ru J2) (λx J he=>?_) λ_ _ hF=>hF.elim)))];let⟨Y,rfl,J3⟩:=he;let pI:=(J3.pin (it,oI) (agB _ (agB _ (.head _)))).1;let Z:=(J3.pin (a,RB r c) (agB _ (agB _ (.tail _ (.head _))))).1;let I3:=J3.Fx;let YT:J.heap.IsListIter it l (i+ 1):=⟨oI,pI,Gp,Q⟩;let Wa:∀(g:Zm->Zm),(J.heap.update a (Obj.mapSeq g)).IsListIter it l (i+ 1):=λg=>⟨oI,(ahj^n1).trans pI,Gp,Q⟩
  let Wb:∀(g:Zm->Zm) (M:Nat),Inv X o σ H { J with heap:=J.heap.update a (Obj.mapSeq g),toks:=M }:=λg M=>I3.turned (λn m B e=>(ahj^ahQ B).trans e) D.none D.loc (.inr D.new) D.cell D.pin
  rcases hold with ⟨e0,rfl⟩|⟨j,y0,vb,U,hj,hy,rb,rfl,d⟩
  ·subst e0;show wpAny _ X.A.in1 (updateSeq a (λ_=>#[u,.int (kf 0) Y]) >>=_) _ _ _;rwa[ags (aiY Z rfl ?_)];rw[nm]
   exact agz ⟨ai6 ai7 _,ih 1 _ _ _ ∅ ∅ (Wb _ _) (Wa _) (ahh _ Z rfl) (.inr ⟨(0),y,u,Y,3,G,ru,2,λq S=>by
    let e:q=0:=∅
    subst e;rwa[Int.le_refl _,λz=>absurd z (ahN _)]⟩)⟩
  ·show wpAny _ X.A.in1 (tryCatch (holding [u,.int (kf i) Y] (richCompare .Lt (.int (kf i) Y) (.int (kf j) U) >>=_)) _ >>=_) _ _ _;rwa[ags (aj7 (ahF (ags (CmpOf.ints_lt (prog:=X.prog) (w:=X.w) (A:=X.A.in1) (P:=λi f=>∃t,f=.int (kf i) t) kf (λi f h=>h) i j _ _ _ _ _ ⟨Y,2⟩ ⟨U,2⟩ ?_))))];rwa[ags (ahF (aiy ?_))];rwa[ags (aj3 (agz ?_))];by_cases AW:kf i<kf j
   ·simp only[AW,decide_true,aj0];rwa[ags (aiY Z rfl (ags (aj3 ?_)))];rw[nm];rwa[agz ⟨ai6 ai7 _,ih (i+ 1) _ _ _ ∅ ∅ (Wb _ _) (Wa _) (ahh _ Z rfl) (.inr ⟨i,y,u,Y,3,G,ru,2,λq S=>?_⟩)⟩];by_cases e:q=i
    ·subst e;rwa[Int.le_refl _,λz=>absurd z (ahN _)]
    ·let h1:=(d q ∅).1;rwa[3,λ_=>∅]
   ·simp only[AW,decide_false,ajd,ajo];rwa[ags (aj3 ?_)];rw[nm];rwa[agz ⟨ai6 ai7 _,ih (i+ 1) _ _ _ ∅ ∅ I3 YT Z (.inr ⟨j,y0,vb,U,3,hy,rb,2,λq S=>?_⟩)⟩];by_cases e:q=i
    ·subst e;rwa[3,λ_=>∅]
    ·rwa[d q ∅]
def aH.fT {H:Hp}{ys:Zb}{d:Zm}(h:aH K H a ys)(f:H b\.fw d)(k:∀c u,c≠b->H c\u->I c\u):aH K I a ys:=by
 rcases h with h|h
 ·rcases h with e|⟨o,e⟩
  ·rwa[.inl (.inl (k _ _ (λz=>by cbv) e))]
  ·rwa[.inl (.inr ⟨o,k _ _ (λz=>by cbv) e⟩)]
 ·rwa[.inr h]
def Kb (a f d:Zt):checkBuiltinCall "min" ⟨[a],[("key",f),("default",d)]⟩=pure ():=by kernel_rfl
def Vn (K:Za1)(d:Zs)(f:Pos)(qual:Str)(m:TE)(h:TA):TE:=λ σ H Q=>h σ H λg e=>∃(l:Zs) (ys:Zb) (c:Nat->Int),g=[↑l]/\aH K e l ys/\cU d f qual e/\
 ∀a,cU d f qual a->(∀b u,b≠d->e b\u->a b\u)->(∀(i:Nat) (y:V),ys[i]?\y->m [some y] a λv k=>v=.int (c i)/\k=a)/\(ys=[]->Q .non a)/\
  ∀(i:Nat) (y:V),ys[i]?\y->(∀j,j<⇑ys->c i<=c j/\(j<i->c i<c j))->Q y a
theorem OD {body:Expr}{te tb:TE}{n T C kq lp:Pos}{k:Nat}{params:Arguments}{scope:Scope}(hc:X.calm=true)(hg:Gl X "min")(hm:X.mg "min"=none)(he:PE X e te)
 (G:X.env.code=↑c) (hC:PySem.W.codeHdIn X.K c a=true) (AX:closureFor scope X.env=pure []) (O:defaultsOf params X.env=([],[]))
 (hB:kg X.mg X.base) (hr:cx (k+ 2) X.A) (S:aS [x] [x] scope)
 (R:∀(pm L:Zt) (w:Zs) (u:Zt),bindArgs (PySem.W.kla_fn "<lambda>" (X.env.qual++"<lambda>") params body scope [] pm ↑w L) ⟨[u],[]⟩=pure [(x,u)])
 (D:∀(A:Around) (M:Zq) (s:Zu) (H:Hp) (f w:Zs),cx k (A.deeper (envOfC (X.env.qual++"<lambda>") scope ↥s f ↑w))->PE (cy V2 X.prog X.w X.K X.mg X.base [x] (X.env.qual++"<lambda>") scope f ↑w A M s H E0) body tb)
 (hs:starEach [e] X.env=(false,eval e X.env)::starEach [] X.env:=by rfl)
 (qx:((backTo n (starEach [e] X.env)).any (·.1) || (backToKw n (keywordEach [⟨some "key",.Lambda params body scope lp,T⟩,⟨some "default",.Constant .none j kq,C⟩] X.env)).any (·.1.isNone))=false:=by rfl):
 PE X (.Call (.Name "min" p) [e] [⟨some "key",.Lambda params body scope lp,T⟩,⟨some "default",.Constant .none j kq,C⟩] n) (Vn X.K a lp (X.env.qual++"<lambda>") tb (jJ te j3)):=by
 intro pins s σ H Q I h;rwa[ahH (gS I hg hm PyProof.Rows.boot_min ?_)];rwa[PySem.W.callWith_of (P:=λ_=>True) qx (λ_ _=>⟨.machine,.inr (.inl rfl),λ_ _ _ _ _ q=>agz q⟩) (evalArgs_kw2 rfl (aZ ((ae he aj hs) n pins s σ H _ I h) λus s1 ζ=>?_) hs)];let⟨vs,H1,I1,r,q⟩:=ζ;let⟨l,ys,kf,rfl,hq,hT,q⟩:=q;let⟨u,rfl,ru⟩:=vals1 r;ext ru;rwa[kwAll_cons (Rz I1 G hC AX O hT hB λf w oc cvs ct pm L H2 s2 I2 yF hvs Y W m=>?_)];rwa[aZ ((Dz cX GC:PK X [⟨some "default",.Constant .none j kq,C⟩] _) n _ s2 σ H2 (λzs B=>zs=[.non]/\B=H2) I2 ⟨22⟩) λws s3 ζ=>?_];let⟨zs,B,N,rz,U,e2⟩:=ζ;rwa[⟨True.intro,5⟩]
 subst U e2;let⟨u2,rfl,ru2⟩:=vals1 rz;ext ru2;let⟨q1,q2,q3⟩:=q B W m
 let V:aH X.K B l ys:=by
  rcases hT with z|⟨_,_,_,_,z,_⟩
  ·rwa[hq.fT z m]
  ·rwa[hq.fT z m]
 show wpAny _ _ (call (.builtin "min") [↑l] [("key",↑f),("default",.none)]) _ _ s3;let nm:(toString "min"++toString ".loop":String)="min.loop":=⋯
 rwa[ajn (ait F.plain_min F.entry_min (wpAny_of_eq (Kb^_) ?_))];show wpAny _ X.A.in1 (Builtin.Builtins.bindParams "min" ["key","default"] 0 ⟨[],[("key",↑f),("default",.none)]⟩ >>=_) _ _ s3;rwa[ags (wpAny_of_eq (show Builtin.Builtins.bindParams "min" ["key","default"] 0 ⟨[],[("key",↑f),("default",.none)]⟩=pure #v[↑f,some .none] from rfl) ?_)];let⟨its,rv,pl,hz⟩:=N.list V;rwa[ags (agz (ags (aiU pl.isList ?_)))];let⟨ol,RD,Gp,RG⟩:=id pl.isList;rwa[ags (ahg ?_)];let iV:=agQ RD;let hsz:(s3.heap.push ("list_iterator">>>.fields #[↑l,.int 0 0])).objs.size=↥s3+ 1:=aii ..;let kp4:∀(b:Zs) (o:Obj),s3.heap.get? b\o->((s3.heap.push ("list_iterator">>>.fields #[↑l,.int 0 0])).push ("list">>>.seq ([]:Zk).toArray)).get? b\o:=λb o d=>agt _ (agt _ d)
 let I4:=N.kept (t':=s3.toks) kp4;rw[nm];rwa[agz ⟨ai6 ai7 _,Hv (X:=X) (σ:=σ) (H:=B) (ys:=ys) (kf:=kf) (it:=↥s3) (l:=l) (N.ok.hd hc) V (ag2 iV) (by cbv) (vK N (agA _)) (vK N (by cbv)) (λi y v pr s' hy rv' J=>?_) (λv s' hw J=>?_) _ 0 _ #[] 0 rfl (agW _) I4 ⟨_,agt _ (agK _ rfl),22⟩ (agK _ rfl) (.inl ⟨22⟩)⟩]
 ·let hf:=(J.pin (f,_) (agB _ (agU _ (agB _ (.head _))))).1;let Z:s'.heap.CodeRec ↑w (X.env.qual++"<lambda>"):=⟨w,oc,cvs,ct,2,(J.aO^yF).1,hvs,Y⟩;rwa[ajn (ai2 (OB (CX:=V2) (E:=E0) (k:=k) (vs:=[y]) (us:=[v]) S rfl hr.in1 J.zW.in1 hf Z (R pm L w v) (.cons rv' .nil) (D _ _ _ _ f w (hr.in1.deeper _)) (q1 i y hy)) λr s2 g=>?_)]
  cases r with
  |error d=>exact g.elim
  |ok fl=>
   cases fl with
   |next=>exact False.elim g
   |brk=>exact False.elim g
   |cont=>exact False.elim g
   |ret u=>
    let⟨v2,H4,J4,rv4,U,e2⟩:=J.after g;subst U e2;let⟨t,rfl⟩:=rv4;rwa[t,2,J4]
 ·rcases hw with ⟨U,rfl⟩|⟨i,y,hy,ry,hb⟩
  ·rwa[⟨.non,B,J.Fx,rfl,q2 U⟩]
  ·rwa[⟨y,B,J.Fx,ry,q3 i y hy hb⟩]
end
theorem Hx {B:Str->Zl}{Y:lF}{k:Nat}{fd:FuncData}{S:Sp}{ns:Zg}
 (O:K.In s.heap) (p:s.heap.Ns mainGlobals M) (g:s.heap.Ns builtinsNs B) (E:∀x:Str,x≠"__name__"->B x=bootBuiltins x) (n:s.heap.NoLimit) (hg:s.gens=#[])
 (D:s.heap.get? b\("list">>>.seq N.toArray)) (Q:IntsAre N ns) (hl:⇑ns<=sizeLine) (hr:cx k callerA)
 (Fn:∀base:Heap,K.In base->base.Ns mainGlobals M->kg M base->dq P w K M base Y k a fd [x] S) (hB:kg M s.heap) (l:∀(s:Zu) (u:Zt),BindsTo s fd ⟨[u],[]⟩ [(x,u)])
 (J:s.heap.get? c\(PySem.W.tabObj #[])) (hKP:K.lookup c=none) (G:isCodeTable s.heap c)
 (L:∀H:Hp,H c\(.fw #[])->aH K H b (ns.map V.int)->S [↑b] H (λv _=>v=.bl true) λ_ _ _=>False)
 (I:∀H e i,Y [] H s (λ_ _ _=>False) e i->False):
 codeAny (model P w) callerA (.call ↑a ⟨[↑b],[]⟩) (λr i=>r=.ok (.ret (.bool true))/\OldK s.heap i.heap/\i.os=s.os/\AllBare i.gens) s:=by
 let rv:=yz Q;let C:b≠c:=λz=>by cbv
 let main:∀H:Hp,H c\(.fw #[])->(∀f u,H f\u->K.lookup f=none/\(f=c\/f=b/\∃Z,u=.cW ("list">>>.seq N.toArray) (.lst Z)))->aH K H b (ns.map V.int)->dH P w H s.heap->
  codeAny (model P w) callerA (.call ↑a ⟨[↑b],[]⟩) (λr i=>r=.ok (.ret (.bool true))/\OldK s.heap i.heap/\i.os=s.os/\AllBare i.gens) s:=by
  intro H W R h3 T
  let nodict:∀{f:Zs} {o:Obj} {A:Array DictEntry} {t:Nat},s.heap.get? f\o->o.data=.dict A t->H f=none:=λ{f o A t} e d=>by
   cases q:H f with
   |none=>rfl
   |some u=>
    cbv
  let y:∀{f:Zs} {m:Str->Zl},s.heap.Ns f m->(pF s.heap H).Ns f m:=λ{f m} ζ=>by let⟨o,A,t,e,d,r⟩:=ζ;rwa[⟨o,A,t,uo e (nodict e d),d,r⟩]
  let X:K.In (pF s.heap H):=λf o e=>uo (O f o e) (by
   cases q:H f with
   |none=>rfl
   |some u=>rw[(R f u q).1]at e;ext e)
  let md:Mod K M (pF s.heap H):=⟨X,y p,⟨B,y g,E⟩,let ⟨mc,z1,z2⟩:=n;⟨mc,y z1,z2⟩⟩;let e0:mw P w K M (pF s.heap H) callerA [] s H:=⟨2,md,λf o e=>Nz e,ajD (Gn _ _),trivial,λf z=>absurd (show f∈([]:Zn) from z) (by simp),T,.of_eq hg⟩
  let bb:kg M (pF s.heap H):=by
   let⟨U,ob,b1,b2,b3,b4⟩:=hB;rwa[⟨U,ob,b1,uo b2 ?_,b3,b4⟩]
   cases q:H U with
   |none=>rfl
   |some u=>
    cbv
  rwa[ai2 ((Fn _ X (y p) bb).run callerA [] s H ⟨[↑b],[]⟩ [↑b] [↑b] _ _ hr e0 (l s ↑b) (.cons rfl .nil) (L H W h3)) λr i h=>?_]
  cases r with
  |error e=>exact(I H e i h).elim
  |ok fl=>
   cases fl with
   |next=>exact False.elim h
   |brk=>exact False.elim h
   |cont=>exact False.elim h
   |ret u=>
    let⟨v,H',os,bare,un,j,r',q⟩:=h;let q':v=.bl true:=q;subst q';obtain rfl:u=Value.bool true:=r'
    let each:∀f o,s.heap.get? f\o->asItWas s.heap i.heap f o/\∃o',i.heap.get? f\o':=λf o e=>by
     cases q:H f with
     |none=>
      let z:=un.keep f o e q (by intro z;rwa[absurd (show f∈([]:Zn) from z) (by simp)]) (by simp);rwa[.inl z,o,z]
     |some u=>
      rcases (R f u q).2 with rfl|⟨rfl,Z,rfl⟩
      ·rw[J]at e;ext e;let⟨more,z⟩:=un.hV^W;let z2:i.heap.get? f\{ cls:=.none,data:=.fields (#[]++more) }:=j^z;rwa[.inr (.inl ⟨G,2,#[],more,2,z2⟩),_,z2]
      ·let⟨z1,_⟩:=T^q;let⟨z2,_⟩:=j^un.gG _ _ _ q;rw[e]at z1;ext z1;rwa[.inl z2,_,z2]
    rwa[2,⟨λf o e=>(each f o e).1,λf o e=>(each f o e).2⟩,os,bare]
 cases F:K.lookup b with
 |some o=>
  let e:=O b o F;rw[D]at e;ext e;rwa[main (upd (λ_=>none) c (.fw #[])) ah (λf u z=>?_) (.inr ⟨_,N.toArray,_,F,222,[agL,⇑Q]▸hl,3⟩) λf u z=>?_]
  ·by_cases g:f=c
   ·cbv
   ·rw[ak g]at z;ext z
  ·by_cases g:f=c
   ·subst g;rw[ah]at z;ext z;rwa[J]
   ·rw[ak g]at z;ext z
 |none=>
  rwa[main (upd (upd (λ_=>none) c (.fw #[])) b (.cW ("list">>>.seq N.toArray) (.lst (ns.map V.int)))) (by rw[ak C.symm,ah]) (λf u z=>?_) (.inl (.inr ⟨_,ah⟩)) λf u z=>?_]
  ·by_cases g:f=b
   ·subst g;rw[ah]at z;ext z;rwa[F,.inr ⟨212⟩]
   ·rw[ak g]at z;by_cases g:f=c
    ·cbv
    ·rw[ak g]at z;ext z
  ·by_cases g:f=b
   ·subst g;rw[ah]at z;ext z;rwa[D,[agy]▸hl,N,_,rv,D]
   ·rw[ak g]at z;by_cases g:f=c
    ·subst g;rw[ah]at z;ext z;rwa[J]
    ·rw[ak g]at z;ext z
theorem qU.okT {mg:Str->Zl}{base:Heap}{j:lF}{qual:Str}{st:Stmt}{fd:FuncData}{f:Zp}{k:Nat}{sp:Sp}(F:qU K x qual st a fd)(hc:fd.code=↑c)(S:aS Z f (aB st))(len:∀d H Q E,sp d H Q E->⇑d=⇑f)
 (b:∀(A:Around) (outer:Zq) (s:Zu) (H:Hp) (d:Zb) (Q:VK) (E:XK),cx k (A.deeper (envOfC qual (aB st) ↥s a ↑c))->sp d H Q E->
  ∃t,iL (cy j P w K mg base Z qual (aB st) a ↑c A outer s H E).tO (cD st) t/\t { nx:=λ_ p=>Q .non p,rt:=Q } (start Z d) H):dq P w K mg base j (k+ 1) a fd f sp:=by
 let⟨q,u,kV,doc,pm,r,g,ct,m,rfl,lk,h⟩:=F.ex;let e:g=↑c:=hc;subst e;rwa[zL lk h S len λA outer s H d Q E n i=>?_]
 let⟨t,o,l⟩:=b A outer s H d Q E n i;rwa[t,o.tO,l]
structure LamAt (K:Za1) (fd:FuncData) (c Pt:Zs):Prop where
 code:fd.code=↑c
 hd:PySem.W.codeHdIn K c Pt=true
 no:K.lookup Pt=none
theorem Kc {l:PySem.W.OpenLaw}{k:Nat}{loose:Zp}{XP:(Str->Zl)->Heap->Prop}{B:World->Heap->Prop}{d:DefRec}{K:Params->Za1}{CX:World->lF}{sp:World->Sp}
 (W:l.most\n) (m:n<=sizeLine) (y:d.params.defaults=[]) (Q:cx k callerA) (hY:∀(w:World) (h:Heap),B w h->(K w.params).In h/\h.get? a\(PySem.W.tabObj #[]))
 (F:∀(w:World) (g:Str->Zl) (j:Zs) (h:Heap),(K w.params).In h->h.Ns mainGlobals g->g d.name\↑j->
  ∃fd:FuncData,(∃fd2 c,LamAt (K w.params) fd2 c a)/\(∀(s:Zu) (u:Zt),BindsTo s fd ⟨[u],[]⟩ [(x,u)])/\∀base:Heap,(K w.params).In base->base.Ns mainGlobals g->kg g base->dq l.prog w (K w.params) g base (CX w) k j fd [x] (sp w))
 (A:∀(w:World) (H:Hp) (b:Zs) (ns:Zg),⇑ns<=n->H a\(.fw #[])->aH (K w.params) H b (ns.map V.int)->sp w [↑b] H (λv _=>v=.bl true) λ_ _ _=>False)
 (t:∀(w:World) (H:Hp) (s:Zu) (e:Zt) (z:Zu),CX w [] H s (λ_ _ _=>False) e z->False):
 PySem.W.WalkO P loose XP B l.row.toRowW d [] (λf D=>PySem.call f D):=by
 rwa[Att.CM W y λw E s g mb j o pm cd doc b D ns G Y ho hd hcd r i hints hlen Z=>?_]
 let⟨p,hP⟩:=hY w _ Y;let⟨fd,⟨fd2,c,C⟩,hb,X⟩:=F w g j _ p G.T.g r;let⟨J,q,_,_,_,_,_,_,_,g1,M,I,g4,_⟩:=PySem.W.codeHd_of_K p C.hd;let hB:kg g s.heap:=let ⟨R,S,T,a2,N,a4,U,L⟩:=G.T.bmain;⟨R,S,T,N,⟨a4,U,L⟩,a2⟩
 rwa[Hx p G.T.g G.T.b G.T.builtins G.T.nolimit Z i hints (agJ hlen m) Q X hB hb hP C.no ⟨c,J,q,g1,M,I,g4⟩ (λH O hS=>A w H b ns hlen O hS) λH e z=>t w H s e z]
namespace Lr
def RH:typeLookup (.type "list_reverseiterator") "__len__"=pure none:=by kernel_rfl
def OG:typeLookup (.type "list_reverseiterator") "__length_hint__"=pure (some (.builtin "list_reverseiterator.__length_hint__")):=by kernel_rfl
section
variable {prog:Program}{w:World}{A:Around}{E:Zt->Zu->Prop}{s:Zu}{it l:Zs}{items:Zm}
def hint {Q:Bool->Zu->Prop}(hm:s.heap.IsRevIter it l z)(h:Q false s):(prog<|>w) A (Builtin.List.listLengthHint ↑it) Q E s:=by
 rwa[ags (wpAny_specialOf hm.typeIs RH ?_)];rwa[ags (wpAny_specialOf hm.typeIs OG ?_)];generalize c:("list_reverseiterator.__length_hint__":String)=d
 wp_delta
 subst c;rwa[ags (wpAny_isInstance (T:="list_reverseiterator") (b:=true) hm.typeIs (by kernel_rfl) ?_)];rwa[ajQ (λa=>absurd a ⋯) (λ_=>?_)];rwa[ajQ (λ_=>?_) (λa=>absurd ⋯ a)];rwa[agz h]
theorem extend {R:Result->Zu->Prop}(B:A.handled=none)(hit:s.heap.IsRevIter it l ((items.size:Int) - 1))(D:s.heap.IsList l items)(m:l≠it)(hlen:items.size<=sizeLine)(S:Zs)(k:S≠it)(C:S≠l)(res:Zt)(h:Nat)(G:s.heap.get? S\("list">>>.seq #[] h))
 (r:∀g1 u a d,(∀b o,b≠S->b≠it->s.heap.get? b\o->g1.get? b\o)->g1.get? S\{ cls:=.type "list",dict:=none,data:=.seq a d,slots:=#[] }->
  ItemsOf (λi v=>items[items.size - 1 - i]?\v) a items.size->R (.ok (.ret res)) { s with heap:=g1,toks:=u }):
 (prog<|>w) A.in1 (Builtin.List.listExtendWith ↑S ↑it res)
  (λfin c=>match fin with|.done f=>R (.ok f) c|.again d=>d.quiet=true/\codeAny (model prog w) A d R c) (λe c=>R (.error e) c) s:=by
 rwa[ags (aiI (T:="list_reverseiterator") hit.typeIs ?_)];let z:Builtin.List.listSameRef ↑S ↑it=false:=by simp[Builtin.List.listSameRef,k]
 let x:(Value.type "list_reverseiterator"==Value.type "list")=false:=⋯
 let y:(Value.type "list_reverseiterator"==Value.type "tuple")=false:=⋯
 simp only[z,x,y,Bool.or_false,ajd,ajo];rwa[ags (wpAny_pyIter_revIter hit ?_)];rwa[ags (ahF (hint hit ?_))];let W:=(Walks.listRev (prog:=prog) (w:=w) (A:=A.in1) B it l m items).toS
 let p:S∉[it,l]:=λH=>by
  cbv
 rwa[agz ⟨ai6 F.plain_extend_loop _,5⟩];rwa[codeAny_extend_loopS W hlen S p res items.size 0 _ #[] _ rfl (agW _) ⟨agW _,by simpa using hit,D⟩ G (ItemsOf.nil _) λc a d j n g=>?_]
 rw[Moved.eq_with j];rwa[r c.heap c.toks a d (λb o I t e=>j.heap b o (λq=>?_) e) n g]
 cbv
def init {R:Result->Zu->Prop}(z:A.handled=none)(hit:s.heap.IsRevIter it l ((items.size:Int) - 1))(B:s.heap.IsList l items)(q:l≠it)(hlen:items.size<=sizeLine)(S:Zs)(g:S≠it)(j:S≠l)(t:s.heap.get? S\("list">>>.seq #[]))
 (u:∀g1 p a d,(∀b o,b≠S->b≠it->s.heap.get? b\o->g1.get? b\o)->g1.get? S\{ cls:=.type "list",dict:=none,data:=.seq a d,slots:=#[] }->
  ItemsOf (λi v=>items[items.size - 1 - i]?\v) a items.size->R (.ok (.ret .none)) { s with heap:=g1,toks:=p }):
 (prog<|>w) A.in1 (Builtin.«list.__init__» ⟨[↑S,↑it],[]⟩)
  (λfin m=>match fin with|.done f=>R (.ok f) m|.again d=>d.quiet=true/\codeAny (model prog w) A d R m) (λe m=>R (.error e) m) s:=by
 show wpAny _ _ (do let old <-Builtin.List.listItems ↑S;Builtin.List.listUpdate ↑S (λ_=>#[]);letGo old.toList.reverse;Builtin.List.listExtendWith ↑S ↑it .none) _ _ s;rwa[ags ?_];unfold Builtin.List.listItems;rwa[ags (ai8 t rfl (agz ?_))];show wpAny _ _ (updateSeq S (λ_=>#[]) >>=λ_=>letGo (#[]:Zm).toList.reverse >>=λ_=>Builtin.List.listExtendWith ↑S ↑it .none) _ _ s;rwa[ags (aiY t rfl ?_)];let x:=ahh (Obj.mapSeq (λ_=>(#[]:Zm))) t rfl;let c:∀b o,b≠S->s.heap.get? b\o->(s.heap.update S (Obj.mapSeq (λ_=>(#[]:Zm)))).get? b\o:=λb o k e=>(ahj^ahQ k).trans e
 rwa[extend (s:={ s with heap:=s.heap.update S (Obj.mapSeq (λ_=>(#[]:Zm))) }) z (hit.at λo e=>c _ o g.symm e) (B.at λo e=>c _ o j.symm e) q hlen S g j .none _ x λg1 p a d y r h=>?_]
 rwa[u g1 p a d (λb o k n e=>y b o k n (c b o k e)) r h]
theorem call (y:A.handled=none)(hit:s.heap.IsRevIter it l ((items.size:Int) - 1))(r:s.heap.IsList l items)(h:l≠it)(hlen:items.size<=sizeLine)
 (u:∀g1 g a n,(∀b o,b≠it->s.heap.get? b\o->g1.get? b\o)->g1.get? ↥s\{ cls:=.type "list",dict:=none,data:=.seq a n,slots:=#[] }->ItemsOf (λi v=>items[items.size - 1 - i]?\v) a items.size->Q ↑↥s { s with heap:=g1,toks:=g }):
 (prog<|>w) A (PySem.call (.type "list") [↑it]) Q E s:=by
 rwa[callType_codes (Q₁:=λobj c=>obj=↑↥s/\c={ s with heap:=s.heap.push ("list">>>.seq #[]) }) F.called_list (F.typeCall_list_1 _) F.entry_list_init (code_list_new _ ⟨22⟩) λobj c f=>?_]
 let⟨rfl,rfl⟩:=f;let t:(s.heap.push ("list">>>.seq #[])).get? ↥s\("list">>>.seq #[]):=agK _ rfl;let p:it<↥s:=let ⟨o,j,_⟩:=hit;agQ j
 let m:l<↥s:=let ⟨o,j,_⟩:=r;agQ j
 rwa[⟨⟨_,t,2⟩,F.args_list_init_2 _ _,init (A:=A.in1) (s:={ s with heap:=s.heap.push ("list">>>.seq #[]) }) y (hit.at λo e=>agt _ e) (r.at λo e=>agt _ e) h hlen _ (ahL p) (ahL m) t λg1 g a n x k d=>?_⟩];rwa[2,u g1 g a n (λb o z e=>x b o (ag2 (agQ e)) z (agt _ e)) k d]
end
end Lr
section
variable {X:Cx}{a e:Expr}{ta:TA}{p p2 pos Aq:Pos}
def Kd (K:Za1)(ta:TA):TE:=λ d H Q=>ta d H λc b=>∃(l:Zs) (ys:Zb),c=[↑l]/\aH K b l ys/\∀D,b D=none->Q ↑D (upd b D (.lst ys.reverse))
def Ke {ys:Zb}{acc:Zm}(c:Vals ys N)(h:ItemsOf (λi v=>N.toArray[N.toArray.size - 1 - i]?\v) acc N.toArray.size):acc.toList=N.reverse:=by
 let f:acc.size=⇑N:=by simpa using h.1
 rwa[aif λi=>?_]
 by_cases b:i<⇑N
 ·let e:acc[i]?\(acc[i]'∅):=Array.getElem?_eq_getElem ∅
  let d:=h.2 i _ e
  cbv
 cbv
theorem rD:∀{ys:Zb} {b:Zk},Vals ys b->Vals ys.reverse b.reverse
 |_,_,.nil=>.nil
 |_,_,.cons r t=>[ajp,ajp]▸(rD t).append (.cons r .nil)
def Fy (R:X.calm=true)(O:Gl X "list")(G:X.mg "list"=none)(hg:Gl X "reversed")(C:X.mg "reversed"=none)(Y:PA X [a] ta)(hs:starEach [a] X.env=[(false,eval a X.env)]:=by rfl)
 (L:starEach [.Call (.Name "reversed" p) [a] [] pos] X.env=[(false,eval (.Call (.Name "reversed" p) [a] [] pos) X.env)]:=by rfl):PE X (.Call (.Name "list" p2) [.Call (.Name "reversed" p) [a] [] pos] [] Aq) (Kd X.K ta):=by
 intro i s M H Q I h;rwa[ahH (gS I O G boot_list ?_)];rwa[ahz ?_ L rfl];rwa[ahy ?_];rwa[Call_ (gS I hg C boot_reversed (ahz (aZ (Y pos i s M H _ I h) λus s1 ζ=>?_) hs rfl))];let⟨vs,B,w,V,q1⟩:=ζ;let⟨l,ys,e,hq,q⟩:=q1;subst e;let⟨u,rfl,Z⟩:=vals1 V;ext Z;let⟨g,J,pl,hz⟩:=w.list hq;let hl:=⇑J;let r:∀b o,s1.heap.get? b\o->(s1.heap.push (revObj l ((g.toArray.size:Int) - 1))).get? b\o:=λb o e=>agt _ e
 let F:l<↥s1:=let ⟨o,W,_⟩:=pl.isList;agQ W
 let x:=vK w (agA ↥s1);rwa[call_reversed_list pl.isList (ah4 ?_)];let I2:Inv X i M B { s1 with heap:=s1.heap.push (revObj l ((g.toArray.size:Int) - 1)) }:=w.kept (t':=s1.toks) r;rwa[Lr.call (s:={ s1 with heap:=s1.heap.push (revObj l ((g.toArray.size:Int) - 1)) }) (I.ok.hd R) ⟨_,agK _ rfl,22⟩ (pl.isList.at λo e=>r^e) (ag2 F) (by rw[agL];omega) λP y acc c hk T k=>?_]
 let t:=Ke J k;let N:Inv X i M B { s1 with heap:=P,toks:=y }:=I2.turned (t':=y) (λb o j e=>hk b o j e) x.none x.loc (.inr x.new) x.cell x.pin;let E:(s1.heap.push (revObj l ((g.toArray.size:Int) - 1))).objs.size=↥s1+ 1:=aii ..;generalize hD:(s1.heap.push (revObj l ((g.toArray.size:Int) - 1))).objs.size=D at T E ⊢;let f:B D=none:=w.aO.fresh ∅;let A:=vK w (b:=D) ∅;let U:∀{b:Zs},b∉[D]->b≠D:=λj z=>j (by simp[z])
 refine⟨↑D,upd B D (.lst ys.reverse),Inv.step (s:={ s1 with heap:=P,toks:=y }) N (h':=P) (t':=y) (g':=s1.gens) (d':=s1.drawn) (ch:=[D]) (λb j=>[agC.mp j]▸⟨.inr A.new,A.loc,A.cell,A.pin⟩) (λb o _ _ _ e _=>e) (λb o _ _ _ e _=>⟨o.slots,e⟩) (λb o R _ n=>[ak (U R)]▸n) (λb o _ e=>⟨o,e⟩)
  (λb xs e=>[ak (ax e f)]▸e) (λb o u e=>[ak (ax e f)]▸e) (λb ps e=>⟨#[],by rw[ak (ax e f),e];simp⟩) (λm C=>C) (λb u e=>?_) N.bare,2,q D f⟩
 ·by_cases j:b=D
  ·subst j;rw[ah]at e;ext e;erw[[ahk]▸hz,g.reverse,c,rD J];rw[<-t,Array.toArray_toList];rwa[T]
  ·rw[ak j]at e;rwa[(N.aO b u e).fk (λd v _ q=>q) (λd q=>[ak (ax q f)]▸q) λd xs q=>[ak (ax q f)]▸q]
def AY (c d:TE):TE:=λ b H Q=>c b H Q\/d b H Q
def vL {c d:TE}(i:PE X e c)(g:PE X e d):PE X e (AY c d):=λb s f H Q I h=>h.elim (i b s f H Q I) (g b s f H Q I)
def RJ (C:Zs):TE:=λ_ H Q=>∀x d,H x=none->H d=none->d≠x->Q ↑x (upd (upd H d (.own x)) x (.ins C d []))
theorem uJ (d:PySem.W.makesIn X.K b=true)(j:PySem.W.findIn X.K ↑b "__init__"=some (some (.builtin "object.__init__")))(kp:PySem.W.keepIn X.K ↑b=true)(n:Gl X x)(i:X.mg x\↑b)
 (f:(x==("__debug__":Str))=false:=by decide):PE X (.Call (.Name x p) [] [] pos) (RJ b):=by
 intro g s r H Q I h;rwa[ahH (j1 I n i ?_ f)];rwa[PySem.W.callWith_K0 I.dv kp (ajn ?_)];let l:=Inv.made (C:=b) I;let m:=h (↥s+ 1) ↥s (I.aO.fresh (aiN _)) (I.aO.fresh (agA _)) (ag2 (ahS _));let Y:=PySem.W.makes_of (M:=model X.prog X.w) I.dv d;rwa[Gz I.dv d j (λself=>PySem.W.Looks.of_pure (PySem.W.oi_bind self)) ?_]
 let q:((s.heap.push PySem.W.emptyDict).push (PySem.W.instObj b ↥s)).get? (↥s+ 1)\(PySem.W.instObj b ↥s):=by
  have:=agK (s.heap.push PySem.W.emptyDict) (o:=PySem.W.instObj b ↥s) rfl
  rwa [aii]at this
 let t1:PySem.W.Looks (model X.prog X.w) ((s.heap.push PySem.W.emptyDict).push (PySem.W.instObj b ↥s)) (typeOf ↑(↥s+ 1)) ↑b:=(PySem.W.Looks.ld q).andThen .now;let k:PySem.W.Looks (model X.prog X.w) ((s.heap.push PySem.W.emptyDict).push (PySem.W.instObj b ↥s)) (isInstance ↑(↥s+ 1) (.type "object")) true:=t1.andThen (Y.top.keeps λc o e=>agt _ (agt _ e));rwa[ait PySem.W.oi_plain PySem.W.entry_oi (@PySem.W.check_slot (model X.prog X.w) _ _ _ "object.__init__" "object" "__init__" ↑(↥s+ 1) [] [] _ PySem.W.oi_kind PySem.W.oi_split k (PySem.W.oi_args ↑(↥s+ 1)) ?_)];rwa[agz (And.intro rfl ⟨↑(↥s+ 1),_,l,rfl,m⟩)]
inductive Vo (K:Za1) (xs:Zb) (H:Hp) (Q:VK):Prop
 |mk (x:V) (D:Zs) (t:Zt) (b:Bool):xs=[x,↑D]->jI K H x t->PySem.W.kitOne K t ↑D\b->Q (.bl b) H->Vo K xs H Q
end
end L2
namespace L2
def nm (E:Zh)(c:Nat):Nat:=E.getD c 0
def qy (R:Za2)(E:Zh)(a:Nat)(z:Int)(b:Nat):Prop:=∃c d,R c z d/\nm E c=a/\nm E d=b
def vM (x y a:Nat):Nat:=if a=y then x else a
def vN (h:n<m)(E:Zh)(c:Nat):nm (E.map (vM n m)) c=vM n m (nm E c):=by
 unfold nm;rw[agD,agD,agR]
 cases E[c]? with
 |some x=>rfl
 |none=>show 0=vM n m 0;unfold vM;rw[agT ∅]
def RK (u v:Nat)(W:Za2)(a:Nat)(z:Int)(b:Nat):Prop:=∃c d,W c z d/\vM u v c=a/\vM u v d=b
inductive One (ws:Za3) (nr:Nat):Zh->(Za2)->Dt->Zh->(Za2)->Prop
 |meet {E:Zh} {W:Za2} {c u v:Nat} {z:Int}:u<v->E[u]?\u->E[v]?\v->W c z u->W c z v->One ws nr E W (gX c z u v) (E.map (vM u v)) (RK u v W)
 |rule {E:Zh} {W:Za2} {which k c d:Nat} {word:Zg} {p:Zh} {z:Int}:ws[which]?\word->⇑p=⇑word+ 1->p[0]?=p[⇑word]?->(which<nr\/p[0]?\0)->(∀x∈p,E[x]?\x)->word[k]?\z->p[k]?\c->p[k+ 1]?\d->
  (∀(i a b:Nat) (y:Int),i≠k->word[i]?\y->p[i]?\a->p[i+ 1]?\b->W a y b)->One ws nr E W (lZ which p k) E (fu W c z d)
inductive Go (ws:Za3) (nr:Nat):Zh->(Za2)->List Dt->Zh->(Za2)->Prop
 |nil {E:Zh} {W W':Za2}:(∀a z b,W a z b↔W' a z b)->Go ws nr E W [] E W'
 |cons {E E1 E2:Zh} {W W1 W2:Za2} {row:Dt} {ms:List Dt}:One ws nr E W row E1 W1->Go ws nr E1 W1 ms E2 W2->Go ws nr E W (row::ms) E2 W2
section
variable {ws:Za3}{nr:Nat}{E E1 E2:Zh}{W W' W1 W2:Za2}{ms ns:List Dt}
def Go.congr (h:Go ws nr E W ms E1 W1):∀{W':Za2},(∀a z b,W' a z b↔W a z b)->Go ws nr E W' ms E1 W1:=by
 induction h with
 |nil e=>exact λh=>.nil λa z b=>(h a z b).trans (e a z b)
 |cons o _ m=>
  intro W' h
  cases o with
  |meet j c g d k=>exact .cons (.meet j c g ((h^_).mpr d) ((h^_).mpr k)) (m λa z b=>by
   constructor
   ·rintro ⟨f,l,q,r⟩;rwa[f,l,(h^_).mp q,r]
   ·rintro ⟨f,l,q,r⟩;rwa[f,l,(h^_).mpr q,r])
  |rule j c g d k u n t s=>exact .cons (.rule j c g d k u n t λi a b y w p v x=>(h^_).mpr (s i a b y w p v x)) (m λa z b=>by
   unfold fu;rw[h])
def Go.app (h:Go ws nr E W ms E1 W1):∀{E2:Zh} {W2:Za2} {ns:List Dt},Go ws nr E1 W1 ns E2 W2->Go ws nr E W (ms++ns) E2 W2:=by
 induction h with
 |nil e=>exact λg=>g.congr e
 |cons o _ a=>exact λg=>.cons o (a g)
end
def OI (h:n<m)(a:Nat)(z:Int)(b:Nat):RK n m (qy R B) a z b↔qy R (B.map (vM n m)) a z b:=by
 constructor
 ·rintro ⟨g,i,⟨f,c,r,rfl,rfl⟩,d,e⟩;rwa[f,c,r,by rw[vN h,d],by rw[vN h,e]]
 ·rintro ⟨f,c,r,d,e⟩;rwa[11,⟨f,c,r,22⟩,by rw[<-vN h,d],by rw[<-vN h,e]]
section
variable {ws:Za3}{nr:Nat}{S S':RS}{pend:Ze}{R:Za2}{ks:Zg}
def pY {S:RS}(wf:S.Wf){c:Nat}(a:c<S.made):S.aV[c]?\(S.av c):=by
 unfold RS.av;rw[agD,agv ([wf.e]▸a)];rfl
def RL (l:kc S pend S'):Good S pend R->(∀c z d,R c z d->z∈ks)->∃e,S'.rows=S.rows++e/\Go ws nr S.aV (qy R S.aV) e S'.aV (qy R S'.aV):=by
 induction l with
 |nil S=>exact λ_ _=>⟨[],(ag9 _).symm,.nil λ_ _ _=>Iff.rfl⟩
 | @take S S' pend w _ D=>
   intro g u;let⟨g1,_,A,_,q⟩:=g.take u;let⟨e,v,m⟩:=D g1 u;rcases q with ⟨_,p,C⟩|⟨_,c,z,x,y,t,n,B,F,k,p,_,G⟩
   ·rw[tX C]at m;rwa[e,by rw[v,p],m]
   ·let⟨_,j,_,ex⟩:=g.st _ _ _ t;let f:min x y<max x y:=by rcases Nat.lt_or_gt_of_ne k with q|q <;> ext
    let E:(S.takeIn pend w).1.aV=S.aV.map (vM (min x y) (max x y)):=by
     rwa[aif λi=>?_]
     rw[agR];by_cases r:i<S.made
     ·rw[pY g1.wf ([A]▸r),pY g.wf r,G];rfl
     ·rw[ahd (by rw[g1.wf.e,A];omega),ahd (by rw[g.wf.e];omega)];rfl
    let ix:qy R S.aV c z x:=g.so _ _ _ t;let n:qy R S.aV c z y:=n;let h:=pY g.wf j;let o:=pY g.wf B;rw[ex]at h;rw[F]at o;rwa[⟨gX c z (min x y) (max x y)::e,by rw[v,p,ahq];rfl,.cons (.meet f ?_ ?_ ?_ ?_) ((E ▸ m).congr λa s b=>OI f a s b)⟩]
    ·rcases ajJ x y with q|q
     ·rw[aiC q];rwa[h]
     ·rw[ajw q];rwa[o]
    ·rcases ajJ x y with q|q
     ·rw[aj8 q];rwa[o]
     ·rw[ajR q];rwa[h]
    ·rcases ajJ x y with q|q
     ·cbv
     ·rw[ajw q];rwa[n]
    ·rcases ajJ x y with q|q
     ·cbv
     ·rw[ajR q];rwa[ix]
theorem rE {c:Nat->Int->Zi}:∀{w:Zg} {r e:Nat},wk c r w\e->⇑(r::cf c r w)=⇑w+ 1/\(r::cf c r w)[⇑w]?\e/\∀(i:Nat) (y:Int),w[i]?\y->∃a b,(r::cf c r w)[i]?\a/\(r::cf c r w)[i+ 1]?\b/\c a y\b
 |[],r,e,h=>by
  rwa[⟨2,by rw[<-Za0 h];rfl,λi y q=>by simp at q⟩]
 |z::w,r,e,h=>by
  let⟨d,f,k⟩:=fz h;let⟨l,j,g⟩:=rE k;rw[nK f];rwa[⟨by rw[agV,l];rfl,j,λi y q=>?_⟩]
  cases i with
  |zero=>rwa[r,d,22,by rw[<-Za0 q];rwa[f]]
  |succ i=>exact g i y q
theorem uK (g:Good S [] R):∀{w:Zg} {r e:Nat},wk S.by r w=some e->S.aV[r]?\r->∀x∈r::cf S.by r w,S.aV[x]?\x
 |[],r,e,h,b,x,a=>by rw[agC.mp a];rwa[b]
 |z::w,r,e,h,b,x,a=>by
  let⟨d,c,i⟩:=fz h;rcases agN.mp a with rfl|a
  ·rwa[b]
  ·rw[nK c]at a;let⟨_,f,_,j⟩:=g.st _ _ _ c;have:=pY g.wf f;rw[j]at this;rwa[uK g i this x a]
def Kf (f:nm B n=n)(e:nm B m=m)(a:Nat)(y:Int)(b:Nat):fu (qy R B) n z m a y b↔qy (fu R n z m) B a y b:=by
 constructor
 ·rintro (⟨g,h,r,c,d⟩|⟨rfl,rfl,rfl⟩|⟨rfl,rfl,rfl⟩)
  ·rwa[g,h,.inl r,c,d]
  ·rwa[11,.inr (.inl ⟨222⟩),f,e]
  ·rwa[11,.inr (.inr ⟨222⟩),e,f]
 ·rintro ⟨g,h,r|⟨rfl,rfl,rfl⟩|⟨rfl,rfl,rfl⟩,c,d⟩
  ·rwa[.inl ⟨g,h,r,c,d⟩]
  ·rwa[.inr (.inl ⟨c.symm.trans f,2,d.symm.trans e⟩)]
  ·rwa[.inr (.inr ⟨c.symm.trans e,2,d.symm.trans f⟩)]
def Kg {start:Nat}{word:Zg}(g:Good S [] R)(c:AK ws nr S n word start m i j z):One ws nr S.aV (qy R S.aV) (lZ n ((start::cf S.by start (word.take m))++(j::cf S.by j (word.drop (m+ 1)))) m) S.aV (fu (qy R S.aV) i z j):=by
 let H:m<⇑word:=(agx.mp c.hz).1;let⟨k,w,B⟩:=rE c.f;let⟨t,F,D⟩:=rE c.r;let lt:⇑(word.take m)=m:=by rw[ag8];ext
 let ld:⇑(word.drop (m+ 1))=⇑word - (m+ 1):=aho ..;rw[lt]at k w;rw[ld]at t F;let v:=pY g.wf c.s.1;rw[c.s.2]at v;let A:=pY g.wf c.hd.1;rw[c.hd.2]at A;let left:∀f,f<=m->((start::cf S.by start (word.take m))++(j::cf S.by j (word.drop (m+ 1))))[f]?=(start::cf S.by start (word.take m))[f]?:=λf u=>agF (by rw[k];omega)
 let right:∀f,((start::cf S.by start (word.take m))++(j::cf S.by j (word.drop (m+ 1))))[m+ 1+ f]?=(j::cf S.by j (word.drop (m+ 1)))[f]?:=λf=>by
  rw[agI (by rw[k];omega),k]
  congr 1
  ext
 rwa[.rule c.w (by rw[agw,k,t];omega) ?_ ?_ (λx d=>?_) c.hz ?_ ?_ λf a b y u C l o=>?_]
 ·cbv
 ·rw[left 0 ∅];exact c.n.imp id λe=>by rw[e];rfl
 ·rcases agH.mp d with d|d
  ·rwa[uK g c.f v x d]
  ·rwa[uK g c.r A x d]
 ·rw[left m (agA _)];rwa[w]
 ·rw[right 0];rfl
 ·rcases Nat.lt_or_gt_of_ne u with q|q
  ·let⟨E,G,s,p,r⟩:=B f y (by cbv);rw[left f ∅,s]at l;rw[left (f+ 1) ∅,p]at o;obtain rfl:=Za0 l;obtain rfl:=Za0 o;rwa[g.so _ _ _ r]
  ·obtain⟨h,rfl⟩:∃h,f=m+ 1+ h:=⟨f - (m+ 1),3⟩;let⟨E,G,s,p,r⟩:=D h y ([ajT]▸C);rw[right,s]at l;rw[show m+ 1+ h+ 1=m+ 1+ (h+ 1) by ext,right,p]at o;obtain rfl:=Za0 l;obtain rfl:=Za0 o;rwa[g.so _ _ _ r]
def Mf (t:Tr ws nr S S')(C:∀w∈ws,∀z∈w,z∈ks/\-z∈ks):Good S [] R->e9 S->(∀a z b,R a z b->z∈ks)->∃p,Good S' [] p/\e9 S'/\(∀a z b,p a z b->z∈ks)/\∃j,S'.rows=S.rows++j/\Go ws nr S.aV (qy R S.aV) j S'.aV (qy p S'.aV):=by
 induction t with
 |refl=>exact λg w k=>⟨R,g,w,k,[],(ag9 _).symm,.nil λ_ _ _=>Iff.rfl⟩
 |step _ h s v=>
  rename_i l G i word start m c d z _;intro g E k;let⟨D,g1,o,A,j,H,n⟩:=v g E k;let q:=C word (agu h.w) z (agu h.hz)
  let f:∀a y b,fu D c z d a y b->y∈ks:=by
   rintro a y b (r|⟨_,e,_⟩|⟨_,e,_⟩)
   ·rwa[A _ _ _ r]
   ·rw[e];rwa[q.1]
   ·rw[e];rwa[q.2]
  let gl:=g1.lay z h.hc.1 h.hd.1 (l.rows++[lZ i ((start::cf l.by start (word.take m))++(d::cf l.by d (word.drop (m+ 1)))) m]);let⟨B,F,_⟩:=s.all gl f ⟨o.a,o.b,o.c⟩;let⟨u,x,go2⟩:=RL (ws:=ws) (nr:=nr) s gl f;rwa[⟨_,B,F,f,j++(_::u),5,n.app (.cons (Kg g1 h) (go2.congr λa y b=>Kf h.hc.2 h.hd.2 a y b))⟩];rw[x];show (l.rows++[_])++u=_
  cbv
end
end L2
namespace L2
open PySem PySem.Spec PyProof.Rows
def Wc (a:Program)(w:World)(A:Around)(env:Env):Zr->(Bool->Zu->Prop)->Zu->Prop
 |[],K,s=>K true s
 |c::_,K,s=>(a<|>w) A (isTrue c env (eval c env)) K (λ_ _=>False) s
theorem AZ {R:Result->Zu->Prop}{elt target iter:Expr}{cs:Zr}{scope:Scope}{it acc:Zt}{env:Env}(i:⇑cs<=1)(I:Nat->Zu->Prop)
 (turn:∀n s,I n s->(P<|>w) A (pyNext it) (λr c=>match r with
  |none=>R (.ok .next) c
  |some v=>(P<|>w) A (letOwnedTupleGo target it v) (λ_ g=>(P<|>w) A (assign target env v) (λ_ e=>Wc P w A env cs (λb a=>
   match b with
   |true=>(P<|>w) A (eval elt env) (λx d=>(P<|>w) A (call (.builtin "list.append") [acc,x]) (λ_ f=>∃m,m<n/\I m f) (λ_ _=>False) d) (λ_ _=>False) a
   |false=>∃m,m<n/\I m a) e) (λ_ _=>False) g) (λ_ _=>False) c) (λ_ _=>False) s)
 (n:Nat) (h:I n s):codeAny (model P w) A (.compLoop (.ListComp elt [⟨target,iter,cs,(0)⟩] scope p) 0 it acc env) R s:=
 match cs,i,turn with
 |[],_,turn=>CN I turn n h
 |[_],_,turn=>zi I turn n h
def Mg (X:Cx):Zr->TT->Prop
 |[],a=>a=λ_ H Q=>Q true H
 |c::_,a=>PT X c a
def OJ {e:TT}{Q:Bool->Hp->Prop}{K:Bool->Zu->Prop}(h:Mg X C e)(g:X.xe=λ_ _=>False)(I:Inv X o D H s)(q:e D H Q)(k:∀b d a,Inv X o D a d->Q b a->K b d):Wc X.prog X.w X.A X.env C K s:=
 match C,h with
 |[],h=>by
  rw[h]at q;rwa[k true s H I q]
 |c::_,h=>by
  have:=h o s D H Q I q;rw[g]at this;rwa[aZ this λb d ζ=>?_];let⟨a,i,f⟩:=ζ;rwa[k b d a i f]
section
variable {X:Cx}{elt iter vB:Expr}{x:Str}{px pos:Pos}{scope:Scope}{cl:List (Str×Zs)}{fns:Zp}{ixs:Zh}{wi:TI}{tt:TT}{te:TE}
theorem yT {cs:Zr}{use:Option (Zt->Sem Unit)}{RQ:Zt->Zu->Prop}{Q:VK}(hl:⇑cs<=1)(hc:X.calm=true)(hi:PI X (.Name x px) iter wi)(S:dY X x fns ixs scope cl)
 (ht:∀(C:Zs) (s:Zu) (H:Hp) (ex:Zn),Mg (dy X (x::fns) scope cl C s H ex) cs tt) (he:∀(C:Zs) (s:Zu) (H:Hp) (ex:Zn),PE (dy X (x::fns) scope cl C s H ex) elt te)
 (hs:∀x,foldedSetIterable iter X.env x=pure x) (I:Inv X o D H s) (h:oH wi (iR ixs) tt te D H Q)
 (fin:∀(C k:Zs) (H3:Hp) (ys:Zb) (s4:Zu) (m:Str->Zl),s4.heap.Ns C m->(∀F,Heap.SameBut C s4.heap F->Inv X o D (upd H3 k (.lst ys)) (s4<*F))->upd H3 k (.lst ys) C=none->X.env.locals≠C->(∀z c,X.env.cells.lookup z\c->c≠C)->X.eA.heap.objs.size<=C->(∀g∈X.pn++o,g.1≠C)->Q ↑k (upd H3 k (.lst ys))->compPost (model X.prog X.w) X.A X.xe use RQ ↑k C (.ok .next) s4):
 X⁻¹ X.A (comprehension (.ListComp elt [⟨.Name x px,iter,cs,(0)⟩] scope pos) scope X.env p (newList []) false (eval iter X.env) use) RQ X.xe s:=by
 rwa[wpAny_comprehension_free rfl hs S.Af S.kind S.names (aZ (hi o s D H _ I h) λv s1 h1=>aZ h1 λitv s2 h2=>?_)];let⟨it,Y,tn,J,H2,e,A,T,Hw,f2,W,⟨m0,w0⟩,turn⟩:=h2;subst e
 let E:∀b∈Y,b<↥s2:=λb t=>by
  let⟨f,ho,_⟩:=T.obj _ _ Hw b t;rwa[agQ ho]
 rwa[ahg (wpAny_newFunctionEnv S.cell (by intro y hy;simp at hy) (λKh N P=>?_) S.kind)];generalize A0:s2.heap.push { cls:=.type "list",dict:=none,data:=.seq ([]:Zk).toArray }=M at N P ⊢;generalize hD:↥s2=k at E ⊢;let hC:M.objs.size=k+ 1:=by rw[<-A0,aii,hD]
 generalize hCe:M.objs.size=C at hC N P ⊢;let w:k<C:=∅
 let Hy:k≠C:=ag2 w;let G:∀b u,s2.heap.get? b\u->M.get? b\u:=λb u q=>by rw[<-A0];rwa[agt _ q]
 let Mh:∀{b u},s2.heap.get? b\u->b<k:=λq=>by rw[<-hD];rwa[agQ q]
 let U:∀b u,M.get? b\u->Kh.get? b\u:=λb u q=>
  P.extBut b u (ag2 (agY (agQ q) (ajD hCe))) (agt _ q)
 let hDo:M.get? k\{ cls:=.type "list",dict:=none,data:=.seq ([]:Zk).toArray }:=by rw[<-A0,<-hD];rwa[agK _ rfl]
 let I3:Inv X o D H2 (s2<*M):=A.kept (t':=s2.toks) G;let Mi:H2 k=none:=A.aO.fresh ∅;let hnC:H2 C=none:=A.aO.fresh ∅
 let Ki:∀b∈k::Y,b∉cH X.stack:=λb t z=>by
  rcases agN.mp (A.zT b z) with e|z
  ·rcases agN.mp t with Z|t
   ·rwa[absurd A.lt (by rw[<-e,Z,<-hD];rwa[ahN _])]
   ·rwa[(f2 b t).2.1 e]
  ·rcases agN.mp t with Z|t
   ·rwa[A.EW (by rw[Z,<-hD];rwa[agA _]) z]
   ·rwa[(f2 b t).2.2.1 z]
 let lE:∀y c,cl.lookup y\c->∀b∈k::Y,c≠b:=λy c q b t z=>by
  let⟨v,hv⟩:=A.cell y c (S.sub y c q);rcases agN.mp t with Z|t
  ·rwa[absurd hv.lt (by rw[z,Z,<-hD];rwa[ahN _])]
  ·rwa[(f2 b t).2.2.2.2.1 y c (S.sub y c q) z]
 let' R:Cx:=dy X (x::fns) scope cl C (s2<*M) H2 (k::Y)
 let ok:R.Ok:={
  mod:=A.ok.mod
  kind:=S.kind
  glob:=A.ok.glob
  blt:=A.ok.blt
  above:=by show M.objs.size<=C;ext
  inj:=λy z c q1 q2=>A.ok.inj y z c (S.sub^q1) (S.sub^q2)
  has:=S.has
  zS:=λy c q=>nomatch q
  hd:=A.ok.hd
  frames:=A.ok.frames
  Dr:=.inl rfl
  Lx:=λb t=>⟨by
   rcases agN.mp t with Z|t
   ·rw[Z];rwa[Hy]
   ·rwa[ag2 (ajI (E b t) w)],λy c q=>lE y c q b t⟩
  bs:=I3.bs
  qS:=agJ I3.ok.qS I3.sz
  ur:=λb f q t=>by
   rcases agN.mp t with Z|t
   ·rwa[absurd (Mh (A.bs b f q).1) (by rw[Z];rwa[ahN _])]
   ·rcases (f2 b t).2.2.2.1 with z|z
    ·rwa[A.ok.ur b f q z]
    ·rwa[absurd (agQ (A.ok.bs b f q).1) (Nat.not_lt.mpr z)]
  xq:=Ki
  jc:=I3.stack
  tN:=I3.oD }
 let start:∀(v0:Zc),v0=none->Inv R [(k,{ cls:=.type "list",dict:=none,data:=.seq ([]:Zk).toArray })] (v0::iR ixs D) H2 { s2 with heap:=Kh,toks:=s2.toks+ ⇑([]:List (Str×Zt)) }:=λv0 hv0=>{
  ok:=ok
  os:=rfl
  bare:=A.bare
  base:=Un.kept U
  loc:=⟨_,N,λi y v e1 Z e3=>by
   cases i with
   |zero=>rw[hv0]at Z;ext Z
   |succ j=>
    let e1':fns[j]?\y:=e1
    let RM:(iR ixs D)[j]?\(some v):=Z
    let⟨i,hi1,hi2,hk,c,Mj,yF⟩:=S.at_ j y e1';unfold iR at RM;rw[agR,hi1]at RM
    let e3':D[i]?\(some v):=by
     let z:(D[i]?).join\v:=Za0 RM
     cases q:D[i]? with
     |none=>rw[q]at z;ext z
     |some f=>rw[q]at z;rw[show f=some v from z]
    let⟨m,_,hl⟩:=A.loc;let⟨u,r,l⟩:=hl i y v hi2 e3' (hk.elim (λz=>.inr (.inl z)) λz=>.inr (.inr z));rwa[⟨u,r,.inr ⟨yF,c,Mj,5⟩⟩];rcases l with ⟨z,_⟩|⟨_,c',hc',Vp⟩
    ·rcases hk with hk|hk <;> cbv
    ·have:c'=c:=Za0 (hc'.symm.trans (S.sub^Mj));subst this;let⟨f,ho,hd⟩:=Vp;rwa[f,U^G^ho,hd]⟩
  cell:=λy c q=>by
   let⟨v,f,ho,hd⟩:=A.cell y c (S.sub y c q);rwa[v,f,U^G^ho,hd]
  free:=hnC
  gH:=λy c q=>A.gH y c (S.sub y c q)
  pin:=λg hp=>by
   let RN:g=(k,{ cls:=.type "list",dict:=none,data:=.seq ([]:Zk).toArray }):=by simpa [R,dy] using hp
   subst RN;rwa[U^hDo,Mi,Hy,Ki k (agM ..),λv z=>nomatch z]
  aO:=(A.aO.kept G).kept U
  len:=by show ⇑(v0::iR ixs D)=⇑(x::fns);simp[iR,S.len] }
 let RP:∀{H':Hp} {O:List (Zs×Obj)},(∀b∈Y,H' b=none)->(∀g∈O,g.1=k)->∀b∈Y,pH R O H' b:=λ{H' O} hn hp b t=>
  ⟨hn b t,ag2 (ajI (E b t) w),Ki b (ag3 _ t),.inl (ag3 _ t),λy c q=>lE y c q b (ag3 _ t),λg q=>by
   let q':g∈O:=by simpa [R,dy] using q
   rw[hp g q'];rwa[ahL (E b t)]⟩
 let loop:codeAny (model X.prog X.w) X.A (.compLoop (.ListComp elt [⟨.Name x px,iter,cs,(0)⟩] scope pos) 0 ↑it ↑k (compEnvC scope cl C X.env))
  (compPost (model X.prog X.w) X.A X.xe use RQ ↑k C) { s2 with heap:=Kh,toks:=s2.toks+ ⇑([]:List (Str×Zt)) }:=by
  refine AZ hl (λn s'=>∃(i:Nat) (ys:Zb) (L:Zk) (nn:Nat) (v0:Zc) (H':Hp),Inv R [(k,{ cls:=.type "list",dict:=none,data:=.seq L.toArray nn })] (v0::iR ixs D) H' s'/\tn i s'.heap/\(∀b∈Y,H' b=none)/\Vals ys L/\W i n ys H') ?_ m0
   ⟨(0),[],[],(0),none,H2,start none rfl,T.keep _ _ _ Hw λb _ f q=>U^G^q,λb t=>(f2 b t).1,.nil,w0⟩
  rintro n s3 ⟨i,ys,L,nn,v0,H3,J3,Wd,Wg,vv,w3⟩
  let Kj:∀g∈([(k,({ cls:=.type "list",dict:=none,data:=.seq L.toArray nn }:Obj))]:List (Zs×Obj)),g.1=k:=λg hp=>by
   cbv
  rcases turn i n ys H3 w3 with ⟨stop,hlen,q⟩|⟨go,hlen,step⟩
  ·-- the end
   rwa[aZ (T.done R rfl rfl rfl hc i _ s3 _ H3 _ J3 (RP Wg Kj) Wd stop) λr s4 ζ=>?_];let⟨hr,J4⟩:=ζ
   subst hr;let⟨m,hn,_⟩:=J4.loc;let⟨gD,nD,_,_,_⟩:=J4.pin (k,{ cls:=.type "list",dict:=none,data:=.seq L.toArray nn }) (by simp[R,dy]);let B:=J4.base
   let inv:∀F,Heap.SameBut C s4.heap F->Inv X o D (upd H3 k (.lst ys)) (s4<*F):=λF hsb=>by
    let kC:∀b u,b≠C->s4.heap.get? b\u->F.get? b\u:=λb u t q=>(hsb.2 b t).trans q
    let ne:∀{b f},s2.heap.get? b\f->b≠C/\b≠k:=λq=>⟨ag2 (ajI (Mh q) w),ag2 (Mh q)⟩
    let vO:∀{b f},s2.heap.get? b\f->b∉Y->b∉k::Y:=λq hx z=>(agN.mp z).elim (ne q).2 hx
    let uu:Un (cH X.stack) Y H2 (upd H3 k (.lst ys)) s2.heap F:={
     keep:=λb f q n t hx=>kC b f (ne q).1 (B.keep b f (G b f q) n t (vO q hx))
     slot:=λb f q n t hx=>by
      let⟨sl,e⟩:=B.slot b f (G b f q) n t (vO q hx);rwa[sl,kC b _ (ne q).1 e]
     free:=λb f q n hx=>by rw[ak (ne q).2];rwa[B.free b f (G b f q) n (vO q hx)]
     there:=λb f q hx=>by
      let⟨o',e⟩:=B.there b f (G b f q) (vO q hx);rwa[o',kC b _ (ne q).1 e]
     hU:=λb xs q=>by rw[ak (ax q Mi)];rwa[B.hU b xs q]
     gG:=λb f xs q=>by rw[ak (ax q Mi)];rwa[B.gG b f xs q]
     hV:=λb ps q=>by
      let⟨more,e⟩:=B.hV b ps q;rwa[⟨more,[ak (ax q Mi)]▸e⟩ ]}
    let aO:dH X.prog X.w (upd H3 k (.lst ys)) F:=λb u e=>by
     by_cases t:b=k
     ·subst t;rw[ah]at e;ext e;rwa[hlen,L,nn,vv,kC _ _ Hy gD]
     ·rw[ak t]at e;refine(J4.aO b u e).fk (λc v hc q=>kC c v ?_ q) (λc q=>[ak (ax q nD)]▸q) λc xs q=>by rw[ak (ax q nD)];rwa[q]
      let fC:H3 C=none:=J4.free
      cbv
    rwa[A.EX (s':=(s4<*F)) J4.os uu aO J4.bare (λb t=>⟨(f2 b t).2.2.2.1,(f2 b t).2.1,(f2 b t).2.2.2.2.1,(f2 b t).2.2.2.2.2⟩)]
   let ab:∀{b f},s2.heap.get? b\f->b≠C:=λq z=>absurd (Mh q) ([z]▸Nat.not_lt.mpr (ajB w))
   rwa[fin C k H3 ys s4 m hn inv ([ak (ahQ Hy)]▸J4.free) (λz=>?_) (λz c hz=>?_) (agJ (by have:=A.sz;rw[hD]at this;rwa[this]) (ajB w)) (λg hp=>ab (A.pin g hp).1) (q k nD)]
   ·let h1:=A.lt
    cbv
   ·let⟨v,f,ho,_⟩:=A.cell z c hz;rwa[ab ho]
  ·-- a turn
   rwa[aZ (T.item R rfl rfl rfl hc i _ s3 _ H3 _ J3 (RP Wg Kj) Wd go) λr s4 ζ=>?_];let⟨u,hr,h4⟩:=ζ
   subst hr;rwa[aZ h4 λ_ s5 ζ=>?_];let⟨xv,H5,J5,r5,y5,Hz,HB⟩:=ζ
   let J5':=J5.pinned (RP HB Kj) (T.obj^Hz);let hg:PG R (.Name x px) (nk 0):=Du (X:=R) (i:=0) S.nd rfl (.inl (tU S.own)) (.inr (tU S.own));rwa[aZ (hg _ s5 _ H5 xv u (λ fx H'=>fx=some xv::iR ixs D/\H'=H5) J5' r5 ⟨22⟩) λ_ s6 ζ=>?_];let⟨σ6,H6,J6,e6,e6'⟩:=ζ
   subst e6 e6';rwa[OJ (ht C (s2<*M) H2 (k::Y)) rfl J6 (step xv H6 y5) λbt Wh RT HC q6=>?_]
   cases bt with
   |true=>
    rwa[aZ (he C (s2<*M) H2 (k::Y) _ Wh _ RT _ HC q6) λyv s7 ζ=>?_];let⟨y,H7,J7,r7,m',RV,w7⟩:=ζ
    let⟨gD,nD,_,_,_⟩:=J7.pin (k,{ cls:=.type "list",dict:=none,data:=.seq L.toArray nn }) (by simp[R,dy]);let RW:tn (i+ 1) s7.heap:=T.keep _ _ _ Hz λb t f e=>(J7.pin (b,f) (agB _ (agB _ (iw t e)))).1
    let RX:∀b∈Y,H7 b=none:=λb t=>by
     let⟨f,e,d⟩:=T.obj _ _ Hz b t;rwa[(J7.pin (b,f) (agB _ (agB _ (iw t e)))).2.1]
    let J7':Inv R [] (some xv::iR ixs D) H7 s7:=J7.jm λg hp=>nomatch hp
    rwa[wpAny_list_append_plain (hsz:=by rw[agL,<-⇑vv];omega) ⟨nn,gD⟩ λh8 pl8 Wi=>?_]
    let⟨n8,g8⟩:=pl8
    let J8:Inv R [] (some xv::iR ixs D) H7 (s7<*h8):=J7'.turned (t':=s7.toks) (it:=k) (λb f t e=>(Wi.2 b t).trans e) nD (Hy) (.inl (agM ..))
     (λy c q=>lE y c q k (agM ..)) (λg hp=>by simp[R,dy]at hp)
    rwa[⟨m',RV,i+ 1,ys++[y],L++[yv],n8,some xv,H7,J8.jm λg hp=>?_,5,RX,vv.append (.cons r7 .nil),w7⟩]
    ·cbv
    ·rwa[T.keep _ _ _ RW λb t f e=>(Wi.2 b (ag2 (E b t))).trans e]
   |false=>
    let⟨m',RV,w7⟩:=q6;let⟨gD,nD,_,_,_⟩:=HC.pin (k,{ cls:=.type "list",dict:=none,data:=.seq L.toArray nn }) (by simp[R,dy]);let RW:tn (i+ 1) Wh.heap:=T.keep _ _ _ Hz λb t f e=>(HC.pin (b,f) (agB _ (agB _ (iw t e)))).1
    let RX:∀b∈Y,RT b=none:=λb t=>by
     let⟨f,e,d⟩:=T.obj _ _ Hz b t;rwa[(HC.pin (b,f) (agB _ (agB _ (iw t e)))).2.1]
    rwa[⟨m',RV,i+ 1,ys,L,nn,some xv,RT,HC.jm λg hp=>?_,RW,RX,vv,w7⟩]
    cbv
 rwa[codeAny_compStart_list loop (T.self _ 0 _ _ _ (T.keep _ _ _ Hw λb _ f q=>U^G^q) loop)]
theorem A1 {cs:Zr}(j:⇑cs<=1)(k:X.calm=true)(d:PI X (.Name x px) iter wi)(S:dY X x fns ixs scope cl)(e:∀(C:Zs) (s:Zu) (H:Hp) (ex:Zn),Mg (dy X (x::fns) scope cl C s H ex) cs tt)
 (f:∀(C:Zs) (s:Zu) (H:Hp) (ex:Zn),PE (dy X (x::fns) scope cl C s H ex) elt te) (g:∀x,foldedSetIterable iter X.env x=pure x):PE X (.ListComp elt [⟨.Name x px,iter,cs,(0)⟩] scope pos) (oH wi (iR ixs) tt te):=by
 intro c s n H Q I h;rwa[yT j k d S e f g I h λC D l ys o m i inv _ _ _ _ _ q=>⟨m,i,λa b=>⟨↑D,_,inv a b,2,q⟩⟩]
theorem tY {cs:Zr}{a:Pos}(R:⇑cs<=1)(U:X.N.Nodup)(k:X.N[n]?\f)(A:Loc X.env.scope f)(T:X.calm=true)(E:PI X (.Name x px) iter wi)(S:dY X x fns ixs scope cl)(F:∀(C:Zs) (s:Zu) (H:Hp) (ex:Zn),Mg (dy X (x::fns) scope cl C s H ex) cs tt)
 (G:∀(C:Zs) (s:Zu) (H:Hp) (ex:Zn),PE (dy X (x::fns) scope cl C s H ex) elt te) (L:∀x,foldedSetIterable iter X.env x=pure x) (r:swapsWith (.ListComp elt [⟨.Name x px,iter,cs,(0)⟩] scope pos) (some (.Name f p)) a.line X.env=pure true)
 (j:X.fn f=true\/X.env.scope.names.lookup f=some .local):PS X (.Assign [.Name f p] (.ListComp elt [⟨.Name x px,iter,cs,(0)⟩] scope pos) a) (xt (oH wi (iR ixs) tt te) (nk n)):=by
 intro d s σ H J I h;rw[exec_Assign_Name_used _ _ _ _ r];rwa[ags (ajm (ags ?_))];rwa[ags (ahA (yT (RQ:=λ_ z=>SP X d J .next z) R T E S F G L I h λC D W ys s4 m O inv l P w sz M q=>?_) (λ_ z N=>agz (agz N)) λ_ _ e=>e)];rwa[wpAny_assign_Name (ym (inv _ ⟨2,λ_ _=>rfl⟩) U k A (v:=↑D) rfl (λs5 B c=>?_) j)];let⟨y,u,g⟩:=c
 let i:C≠y:=by
  rcases g with e|e
  ·cbv
  ·rwa[ahQ (w f y e)]
 rwa[⟨m,O.sameBut u i,λZ t=>?_⟩];rwa[11,B.turned (t':=s5.toks) (it:=C) (λb o Q e=>(t.2 b Q).trans e) l (ahQ P) (.inr sz) w M,q]
theorem gM (d:X.calm=true)(a:PI X (.Name x px) iter wi)(S:dY X x fns ixs scope cl)
 (c:∀(C:Zs) (s:Zu) (H:Hp) (ex:Zn),PE (dy X (x::fns) scope cl C s H ex) elt te)
 (b:∀x,foldedSetIterable iter X.env x=pure x:=by intro _;rfl):
 PE X (.ListComp elt [⟨.Name x px,iter,[],(0)⟩] scope pos) (LX wi (iR ixs) te):=A1 (cs:=[]) ⋯ d a S (λ_ _ _ _=>rfl) c b
theorem Fz (e:X.calm=true)(a:PI X (.Name x px) iter wi)(S:dY X x fns ixs scope cl)
 (c:∀(C:Zs) (s:Zu) (H:Hp) (ex:Zn),PT (dy X (x::fns) scope cl C s H ex) vB tt) (d:∀(C:Zs) (s:Zu) (H:Hp) (ex:Zn),PE (dy X (x::fns) scope cl C s H ex) elt te)
 (b:∀x,foldedSetIterable iter X.env x=pure x:=by intro _;rfl):
 PE X (.ListComp elt [⟨.Name x px,iter,[vB],(0)⟩] scope pos) (oH wi (iR ixs) tt te):=A1 (cs:=[vB]) (agA _) e a S c d b
theorem kx {iy:Nat}{a:Pos}(k:X.N.Nodup)(b:X.N[iy]?\f)(e:Loc X.env.scope f)(j:X.calm=true)(g:PI X (.Name x px) iter wi)(S:dY X x fns ixs scope cl)
 (i:∀(C:Zs) (s:Zu) (H:Hp) (ex:Zn),PE (dy X (x::fns) scope cl C s H ex) elt te)
 (h:∀x,foldedSetIterable iter X.env x=pure x:=by intro _;rfl) (d:swapsWith (.ListComp elt [⟨.Name x px,iter,[],(0)⟩] scope pos) (some (.Name f p)) a.line X.env=pure true:=by rfl)
 (c:X.fn f=true\/X.env.scope.names.lookup f=some .local:=by trivial):
 PS X (.Assign [.Name f p] (.ListComp elt [⟨.Name x px,iter,[],(0)⟩] scope pos) a) (xt (LX wi (iR ixs) te) (nk iy)):=tY (cs:=[]) ⋯ k b e j g S (λ_ _ _ _=>rfl) i h d c
theorem zo {iy:Nat}{a:Pos}(l:X.N.Nodup)(b:X.N[iy]?\f)(e:Loc X.env.scope f)(k:X.calm=true)(g:PI X (.Name x px) iter wi)(S:dY X x fns ixs scope cl)
 (i:∀(C:Zs) (s:Zu) (H:Hp) (ex:Zn),PT (dy X (x::fns) scope cl C s H ex) vB tt) (j:∀(C:Zs) (s:Zu) (H:Hp) (ex:Zn),PE (dy X (x::fns) scope cl C s H ex) elt te)
 (h:∀x,foldedSetIterable iter X.env x=pure x:=by intro _;rfl) (d:swapsWith (.ListComp elt [⟨.Name x px,iter,[vB],(0)⟩] scope pos) (some (.Name f p)) a.line X.env=pure true:=by rfl)
 (c:X.fn f=true\/X.env.scope.names.lookup f=some .local:=by trivial):
 PS X (.Assign [.Name f p] (.ListComp elt [⟨.Name x px,iter,[vB],(0)⟩] scope pos) a) (xt (oH wi (iR ixs) tt te) (nk iy)):=tY (cs:=[vB]) (agA _) l b e k g S i j h d c
end
def TrD (h base:Heap)(e:Zs)(cls:Zt)(g:Zo)(f:Zt):Prop:=
 ∃a b T d c,h.get? e\a/\(a.cls=cls/\a.dict=g)/\a.data=.fields b/\b[1]?\↑T/\base.get? T=none/\T≠e/\h.get? T\d/\d.data=.fields c/\c[3]?\f
def lu (base:Heap)(l:Zq)(e:Zs)(cls:Zt)(b:Zo)(a:Zt)(h:Heap):Prop:=base.StaysIn h/\base.get? e=none/\h.FunFrames base l/\TrD h base e cls b a
def yU (f:Zm->Zm)(o:Obj):(Obj.mapFields f o).dict=o.dict:=by
 let⟨a,b,d,e⟩:=o;cases d <;> rfl
section
variable {M:Model}{A:Around}{E:Zt->Zu->Prop}{s:Zu}{base:Heap}{env:Env}{outer:Zq}{L e:Zs}{cls:Zt}{dx:Zo}
theorem HD {w:Obj}{y:Zm}{head:Zt}{g:Bool}(C:A.frames\(env::outer))(z:s.heap.FunFrames base (env::outer))(Q:env.frame\L)
 (P:s.heap.get? e\w) (G:base.StaysIn s.heap) (I:base.get? e=none) (N:w.data=.fields y) (u:1<y.size)
 (h:∀J,lu base (env::outer) e w.cls w.dict (rawInt L) J->s.heap.UpToSlots J->U () (s<*J)):
 wpAny M A (do let a <-frameOf env;let pl <-entryPlaceOf L g;let b <-EntryCells.newEntry head a .none (rawInt L) .none pl;setField ↑e 1 b) U E s:=by
 let x:e∉(env::outer).filterMap (·.frame):=λB=>by
  let⟨_,o,R,n⟩:=z.mem B
  cbv
 rwa[ags (wpAny_frameOf_fun C z Q λc f=>?_)];rwa[ags (wpAny_entryPlaceOf λpl F=>?_)];unfold EntryCells.newEntry newFields;rwa[ags (ahg ?_ (F.sizeOk5 _ _ _ _ _))];let m:c.get? e\w:=(f.2.1 e x).trans P;let i:base.StaysIn c:=λb o k=>(f.2.1 b λB=>by rw[(z.mem B).1]at k;ext k).trans (G b o k)
 let j:=agt (h:=c) { cls:=.type "traceback",dict:=none,data:=.fields ([head,↑L,.none,rawInt L,.none]++(if pl.isEmpty then List.replicate 6 Value.none else pl)).toArray } m;rwa[aiO j N u ?_];let v:c.objs.size≠e:=ahL (agQ m);let l:=ah8 N (·.setIfInBounds 1 (Value.ref c.objs.size));let t:=ahh (Obj.mapFields (·.setIfInBounds 1 (Value.ref c.objs.size))) j (aiL l)
 let r:=(ahj (c.push { cls:=.type "traceback",dict:=none,data:=.fields ([head,↑L,.none,rawInt L,.none]++(if pl.isEmpty then List.replicate 6 Value.none else pl)).toArray })
  (Obj.mapFields (·.setIfInBounds 1 (Value.ref c.objs.size))) (ahQ v)).trans (agK c rfl)
 let keep:∀b o,b≠e->c.get? b\o->_\o:=λb o D p=>(ahj (c.push { cls:=.type "traceback",dict:=none,data:=.fields ([head,↑L,.none,rawInt L,.none]++(if pl.isEmpty then List.replicate 6 Value.none else pl)).toArray }) (Obj.mapFields (·.setIfInBounds 1 (Value.ref c.objs.size))) (ahQ D)).trans (agt _ p)
 let d:∀b o,s.heap.get? b\o->(∀y,o.data≠.fields y)->b≠e:=λb o p n q=>by
  cbv
 rwa[h _ ⟨λb o k=>keep b o (λq=>by cbv) (i b o k),I,z.of_keeps λb o p n=>?_,5⟩ λb o p n=>?_]
 ·let⟨O,H⟩:=f.2.2 b o p;rwa[_,keep b _ (d b o p n) H,2]
 ·rwa[11,c.objs.size,11,t,⟨Obj.cls_mapFields _ _,yU _ _⟩,l,by simp[u],i.fresh,v,r,2,by cbv]
 ·let⟨O,H⟩:=f.2.2 b o p;rwa[O,keep b _ (d b o p n) H]
theorem RZ {y:Obj}{p:Zm}{k:Obj}{m:Zm}{l:Zq}(t:base.StaysIn s.heap)(w:base.get? e=none)(G:s.heap.FunFrames base l)
 (C:s.heap.get? e\k) (H:k.cls=cls/\k.dict=dx) (F:k.data=.fields m) (D:m[1]?\↑a) (n:base.get? a=none) (j:a≠e) (z:s.heap.get? a\y) (i:y.data=.fields p) (B:p[3]?\v)
 (h:∀x,lu base l e cls dx u x->s.heap.UpToSlots x->U () (s<*x)):wpAny M A (setField ↑a 3 u) U E s:=by
 let f:3<p.size:=(aid.mp B).1;let other:∀b,b≠a->(s.heap.update a (Obj.mapFields (·.setIfInBounds 3 u))).get? b=s.heap.get? b:=λb g=>ahj^ahQ g
 let c:∀b o,s.heap.get? b\o->(∀m,o.data≠.fields m)->b≠a:=λb o g d q=>by
  cbv
 rwa[aiO z i f (h _ ⟨λb o r=>(other b λq=>by cbv).trans (t b o r),w,G.of_keeps λb o g d=>⟨o,(other b (c b o g d)).trans g,2⟩,5⟩ λb o g d=>⟨o.slots,(other b (c b o g d)).trans g⟩)]
 rwa[k,m,a,11,(other e (ahQ j)).trans C,H,F,D,n,j,ahh _ z (aiL (ah8 i _)),ah8 i _,by simp[f]]
def vP {l:Zq}(o:lu base l e cls dx v s.heap)(m:∀h,lu base l e cls dx .none h->s.heap.UpToSlots h->U () (s<*h)):wpAny M A (setFlight ↑e none) U E s:=by
 let⟨c,f,q,u,w,T,t,r,i,a,k,j,b,d,p,g,n⟩:=o;unfold setFlight;rwa[ags (ahv i k j ?_)];rw[agX (show (Value.ref T !=Value.none)=true from by simp)];rwa[RZ c f q i a k j b d p g n m]
theorem Ml (f:A.frames\(env::outer))(r:env.frame\L)(j:lu base (env::outer) e cls dx .none s.heap)
 (w:∀d,lu base (env::outer) e cls dx (rawInt L) d->s.heap.UpToSlots d->U () (s<*d)):wpAny M A (noteFrame ↑e env) U E s:=by
 let⟨a,b,m,O,P,T,J,I,p,⟨rfl,rfl⟩,u,q,g,k,t,c,o⟩:=j;unfold noteFrame;simp only[r];rwa[ags (ahv p u q ?_)];rw[agX (show (Value.ref T !=Value.none)=true from by simp)];rwa[ags (ahv t c o ?_)];rw[agT (show ¬((Value.none==rawInt L)=true) from by simp[rawInt])];rwa[ags (RZ a b m p ⟨22⟩ u q g k t c o λy B D=>?_)];let⟨a,b,m,x,G,N,v,H,h,⟨C,z⟩,l,i,_⟩:=B;rwa[HD (s:=(s<*y)) f m r h a b l (aid.mp i).1 λd n F=>?_]
 rw[C,z]at n;rwa[w d n (D.trans F)]
theorem OL (a:A.frames\(env::outer))(n:env.frame\L)(c:lu base (env::outer) e cls dx .none s.heap)
 (g:∀b,lu base outer e cls dx .none b->s.heap.UpToSlots b->U () (s<*b)):wpAny M A (leaving env ↑e) U E s:=by
 unfold leaving;rwa[ags (Ml a n c λm i h=>vP (s:=(s<*m)) i λj ζ o=>?_)];let⟨k,l,⟨11,f⟩,d⟩:=ζ;rwa[g j ⟨k,l,f,d⟩ (h.trans o)]
theorem Kk {b:Obj}{j:Zm}(c:A.frames\(env::outer))(v:s.heap.FunFrames base (env::outer))(i:env.frame\L)
 (h:s.heap.get? e\b) (d:base.StaysIn s.heap) (f:base.get? e=none) (k:b.data=.fields j) (a:j[1]?=some .none)
 (l:∀g,lu base outer e b.cls b.dict .none g->s.heap.UpToSlots g->U () (s<*g)):wpAny M A (leaving env ↑e) U E s:=by
 unfold leaving noteFrame;simp only[i];rwa[ags (ags (ahv h k a ?_))];rw[agT ⋯];rwa[HD c v i h d f k (aid.mp a).1 λa q u=>vP (s:=(s<*a)) q λn ζ p=>?_];let⟨m,r,⟨11,t⟩,o⟩:=ζ;rwa[l n ⟨m,r,t,o⟩ (u.trans p)]
end
end L2
namespace L2
open PySem PySem.Spec PyProof.Rows PySem.Calls PySem.W Builtin Builtin.ObjectAttr
def yV (x C:Zs)(e:Zo)(d:Bool)(h:Heap):Prop:=∃b c,h.get? x\b/\b.cls=↑C/\b.dict=e/\b.data=.fields c/\(d=true->c[1]?=some .none/\∃a,c[0]?\↑a)
def XO (x C:Zs)(b:Zo)(a:Bool):HO:=.ext (yV x C b a)
def yV.fk {x:Zs}{dx:Zo}{nw:Bool}(p:yV x a dx nw h)(k:∀o,h.get? x\o->g.get? x\o):yV x a dx nw g:=by
 let⟨c,b,e,r⟩:=p;rwa[c,b,k _ e,r]
def yV.ex {x:Zs}{dx:Zo}{nw:Bool}(p:yV x a dx nw h):Fh x a h:=let ⟨f,b,e,c,_,d,_⟩:=p;⟨f,b,e,c,d⟩
def A2 (d:Zs)(fs:List (Str×V))(h:Heap):Prop:=∃a,h.Ns1 d a/\(∀f,eR (fs.lookup f) (a f))/\Within a (fs.map (·.1))
def XD (d:Zs)(fs:List (Str×V)):HO:=.ext (A2 d fs)
def A2.fk {fs:List (Str×V)}(p:A2 d fs h)(k:∀o,h.get? d\o->g.get? d\o):A2 d fs g:=by
 let⟨a,n,r⟩:=p;rwa[a,n.at k,r]
def zN {x:Zs}{c:Zo}{b:Bool}(p:yV x a c b h):bV P w H h x (XO x a c b):=⟨p,let ⟨d,_,e,_⟩:=p;⟨d,e⟩,λ_ _ q k=>q.fk k⟩
def Mm {fs:List (Str×V)}(p:A2 d fs h):bV P w H h d (XD d fs):=⟨p,let ⟨_,⟨o,_,_,e,_⟩,_⟩:=p;⟨o,e⟩,λ_ _ q k=>q.fk k⟩
def mH:Zk->Bool
 |.ref _::r=>mH r
 |l=>l==Ao
def FC (e:mH N=true):(∃c r,N=↑c::r/\mH r=true)\/N=Ao:=by
 cases N with
 |nil=>exact .inr (ajC.mp e)
 |cons c r=>cases c <;> first|rwa[.inl ⟨_,_,rfl,e⟩]|rwa[.inr (ajC.mp e)]
theorem qA (self:Zt):∀(l:Zk),mH l=true->refuseLoop self "__setattr__" l=pure ()/\l.contains (.type "object")=true/\l.isEmpty=false
 |[],e=>by ext e
 |v::l,e=>by
  rcases FC e with ⟨c,r,q,e⟩|q
  ·injection q with a d
   subst a d;let b:=qA self l e;rwa[[refuseLoop_ref]▸b.1,by cbv,2]
  ·rw[q];rwa[PySem.F.store_ValueError.passes self,42]
structure A3 (K:Za1) (C:Zs):Prop where
 mr:(clsIn K C).any (λcd=>mH cd.mro)=true
 hd:hasDictIn K C=true
 sa:findIn K ↑C "__setattr__"=some (some (.builtin "object.__setattr__"))
 ga:findIn K ↑C "__getattribute__"=some (some (.builtin "BaseException.__getattribute__"))
 gt:findIn K ↑C "__getattr__"=some none
 be:subIn K ↑C (.type "BaseException")\true
section
variable {prog:Program}{w:World}{A:Around}{R:Result->Zu->Prop}{s:Zu}{K:Za1}{x C:Zs}{name:Str}{v:Zt}
theorem D0 {l:Obj}{r:Option Obj}{d:Tok}(X:K.In s.heap)(I:PySem.W.InstAt s.heap x l C r)(m:(clsIn K C).any (λcd=>mH cd.mro)=true)(p:takerIn K C name\none)
 (h:∀b,(prog<|>w) A.in1 (storeInOwnDict ↑x ↑C (.str name d) name v b)
  (λfin g=>match fin with|.done f=>R (.ok f) g|.again i=>i.quiet=true/\codeAny (model prog w) A i R g) (λe g=>R (.error e) g) s):
 codeAny (model prog w) A (.call (.builtin "object.__setattr__") ⟨[↑x,.str name d,v],[]⟩) R s:=by
 let c:=PySem.F.store_object;let⟨cd,y,j⟩:=any_some m;let⟨t,B,z⟩:=qA ↑x _ j;let sub:Looks (model prog w) s.heap (isInstance ↑x (.type "object")) true:=I.type.andThen (looks_mroIn X (by unfold mroIn;cbv));rwa[ait c.slot.plain c.entry (@check_slot (model prog w) _ _ s "object.__setattr__" "object" "__setattr__" ↑x [.str name d,v] [] _ c.kind c.split sub (c.args ↑x (.str name d) v) ?_)];let⟨attr,n,o⟩:=Option.bind_eq_some_iff.mp p;let hm:Looks (model prog w) s.heap (mroOf ↑C) cd.mro:=(looks_clsIn X y).andThen .now
 let k:Looks (model prog w) s.heap (storeTaker? attr) none:=by
  cases attr with
  |none=>exact .now
  |some a=>
   let⟨b,u,q⟩:=ahM.mp o;rwa[(looks_takesIn X u).andThen ?_]
   cases b with
   |true=>ext q
   |false=>exact .now
 rw[osa_eq,refuse_eq];rwa[ags (ags (I.type.here (ags (hm.here ?_))))];rw[t];rwa[agz (ags (I.type.here (ags ((looks_findIn X n).here (ags (k.here ?_))))))];rwa[h _]
theorem YV {ns:Zp}{f:Obj}{z:Zm}(X:K.In s.heap)(c:A3 K C)(q:s.heap.get? x\f)(j:f.cls=↑C)(B:f.data=.fields z)(L:takerIn K C name\none)
 (g:f.dict\d) (u:s.heap.Ns1 d M) (I:PySem.Within M ns) (D:⇑ns<=sizeLine)
 (h:∀i,i.Ns1 d (λy=>if y=name then some v else M y)->Heap.SameBut d s.heap i->U () { s with heap:=i,toks:=s.toks+ 2 }):
 (prog<|>w) A (setAttr ↑x name v) U E s:=by
 let⟨P,G,H,m⟩:=f;dsimp only at j B g;subst j B g;let⟨t,T,Q,N,r⟩:=id u;let J:PySem.W.InstAt s.heap x ⟨↑C,some d,.fields z,m⟩ C (some t):=⟨q,22,N⟩;rwa[set_plain X J c.sa (D0 (s:={ s with toks:=s.toks+ 1 }) X J c.mr L λb=>?_)];let⟨S,j,l⟩:=any_some c.hd;rwa[ags (agz (ags (ags (wpAny_loadPart q (ags (Looks.here (s:={ s with toks:=s.toks+ 1 }) (looks_clsIn X j) ?_))))))];rw[l];rwa[agz (a:=some d) (ags (agz (ags ?_)))];rwa[wpAny_nsSet1 (s:={ s with toks:=s.toks+ 1 }) u λi e n=>?_]
 let⟨t,O,F,p,o,k⟩:=e.count (PySem.Within.cons name v I);rwa[ags (wpAny_lookBehind p ([o]▸pastItsLine_dict (agJ k (by rw[agV];omega))) ?_)];rwa[agz (h _ e n)]
theorem Vq {f:Obj}{D:Zm}(X:K.In s.heap)(c:A3 K C)(p:s.heap.get? x\f)(n:f.cls=↑C)(F:f.data=.fields D)(L:takerIn K C name\none)(l:f.dict=none)
 (h:∀m,m.Ns1 ↥s (λy=>if y=name then some v else none)->m.get? x\{ f with dict:=some ↥s }->(∀b o,b≠x->s.heap.get? b\o->m.get? b\o)->U () { s with heap:=m,toks:=s.toks+ 2 }):
 (prog<|>w) A (setAttr ↑x name v) U E s:=by
 let⟨P,H,I,i⟩:=f;dsimp only at n F l;subst n F l;let J:PySem.W.InstAt s.heap x ⟨↑C,none,.fields D,i⟩ C none:=⟨p,22,True.intro⟩;rwa[set_plain X J c.sa (D0 (s:={ s with toks:=s.toks+ 1 }) X J c.mr L λb=>?_)];let⟨S,n,r⟩:=any_some c.hd;rwa[ags (agz (ags (ags (wpAny_loadPart p (ags (Looks.here (s:={ s with toks:=s.toks+ 1 }) (looks_clsIn X n) ?_))))))];rw[r];let d:(s.heap.push ("dict">>>.dict #[])).get? x\⟨↑C,none,.fields D,i⟩:=agt _ p;let k:x≠↥s:=ag2 (agQ p);rwa[ags (wpAny_alloc' ?_)];rwa[ags (wpAny_update' d ?_)];rwa[agz (a:=some ↥s) (ags (agz (ags ?_)))]
 let B:((s.heap.push ("dict">>>.dict #[])).update x λo=>{ cls:=o.cls,dict:=some ↥s,data:=o.data,slots:=o.slots }).get? ↥s
  =some ("dict">>>.dict #[]):=(Heap.get?_update_ne _ _ _ _ k.symm).trans (Heap.get?_push_at rfl rfl)
 let u:((s.heap.push ("dict">>>.dict #[])).update x λo=>{ cls:=o.cls,dict:=some ↥s,data:=o.data,slots:=o.slots }).Ns ↥s (λ_=>none):=
  ⟨_,#[],_,B,2,λe M=>absurd M (by simp),λ_=>rfl⟩
 rwa[wpAny_nsSet1 (s:={ s with heap:=(s.heap.push ("dict">>>.dict #[])).update x λo=>{ cls:=o.cls,dict:=some ↥s,data:=o.data,slots:=o.slots },toks:=s.toks+ 1 }) (Heap.Ns1.of_empty u) λm g j=>?_]
 let⟨Q,O,G,z,t,q⟩:=g.count (Within.cons name v Within.nil);rwa[ags (wpAny_lookBehind z ([t]▸pastItsLine_dict (agJ q (by rw[agV,ahZ,sizeLine_eq];omega))) ?_)];rwa[agz (h _ g ?_ λb o N e=>?_)]
 ·rwa[(j.2 x k).trans (ahh _ d rfl)]
 ·rwa[(j.2 b (ag2 (agQ e))).trans ((Heap.get?_update_ne _ _ _ _ N).trans (agt _ e))]
end
end L2
namespace L2
open PySem PySem.Spec PyProof.Rows PySem.Calls PySem.W
def xO (K:Frag)(C f:Zs):Bool:=match K.lookup C with
 |some ⟨.type "type",_,.cls cd,a⟩=>(match cd.mro,a.toList with
  |.ref c::b,#v[_,_,_,_,.builtin n,_]=>c==C && n=="ValueError.__new__" && !cd.hasDel && tailIn K Ao b && nsOkIn K cd.ns && nsIn K cd.ns "__init__"==some (some ↑f)
  |_,_=>false)
 |_=>false
def OO {K:Frag}(X:K.In h)(G:h.Ns a M)(e:nsIn K a x\some v):M x\v:=by
 let⟨o,p,k,b,i,_,g⟩:=G;unfold nsIn at e;split at e
 ·rename_i c d j l n q;have:=X^q;rw[b]at this;ext this;ext i;split at e
  ·rename_i m f;ext e;rw[<-g];unfold nsFind findBy;rw[<-Array.find?_toList,f];rfl
  ·split at e <;> ext e
 ·ext e
theorem A4 (XK:K.In h)(q:xO K a b=true):∃n N nm p bs m o sub t col r A B D E C w,
 h.get? a=some (excClassObj nm p a N bs n m o sub t col r A B D E C "ValueError.__new__")/\h.Ns N w/\w "__init__"=some ↑b/\OwnTail h Ao n:=by
 unfold xO at q;split at q
 ·rename_i r cls k j;split at q
  ·rename_i H n u v y z nid x e c;simp only[ah0,ajC,Bool.not_eq_true']at q;let⟨⟨⟨⟨⟨rfl,rfl⟩,f⟩,g⟩,i⟩,d⟩:=q;let⟨nm,bs,mro,G,p,F,o,sub,t,col,del⟩:=cls;dsimp only at e f i d;subst e f
   let s:k=#[u,v,y,z,some (.builtin "ValueError.__new__"),x]:=by
    let⟨l⟩:=k;simp only at c;rw[c]
   subst s;rwa[n,G,nm,p,bs,F,o,sub,t,col,r,u,v,y,z,x,_,XK^j,.of_isNs (PySem.W.isNs_of_in XK i),OO XK (.of_isNs (PySem.W.isNs_of_in XK i)) d,PySem.W.tail_of_in XK g]
  ·ext q
 ·ext q
section
variable {prog:Program}{w:World}{A:Around}{E:Zt->Zu->Prop}{h:Heap}{g:Array GenState}{d:Drawn}{t:Nat}{os:OsState}
variable {nm q:Str}{C N:Zs}{bs bm Mp:Zk}{hdct:Bool}{sn:Zp}{sub:Zk}{ab:Bool}{col:Option Bool}{dd:Zo}{k0 k1 k2 k3 k5:Zl}{B newId HF:String}
theorem vQ (F:ExcBaseFacts B newId HF Mp)(T:OwnTail h Mp bm){n:Str->Zl}{rest:Zk}{u:Zs}{v:Obj}{Q:Fin->Zu->Prop}
 (j:h.get? C\excClassObj nm q C N bs bm hdct sn sub ab col dd k0 k1 k2 k3 k5 newId) (J:h.Ns N n) (z:n "__init__"=some ↑u)
 (m:h.get? u\v) (l:v.cls=.type "function")
 (I:∀s e,Heap.MadeExcOf h s e ↑C rest->
  (prog<|>w) A (call ↑u (↑e::rest)) (λr y=>r=.none/\Q (.done (.ret ↑e)) y) E ⟨s,g,d,t,os⟩) (Vr:⇑rest<=sizeLine):
 (prog<|>w) A (Builtin.«type.__call__» ⟨↑C::rest,[]⟩) Q E ⟨h,g,d,t,os⟩:=by
 repeat (first|with_reducible rwa[ajr j ?_]|with_reducible rwa[wpAny_madeBy_exc j ?_]|wp_step)
 rwa[codeAny_call_builtin_code (Code.quiet_builtin _ F.quiet) (wpAny_check_new_subT F T j ?_)];rwa[codeAny_exc_new_subT F T j ?_ Vr];show wpAny _ _ _ _ _ _
 let a:=agt { cls:=↑C,data:=.fields #[↑h.objs.size,.none,.none,.none,.bool false,.none] }
  (agt ("tuple">>>.seq rest.toArray) j)
 let c:=agt { cls:=↑C,data:=.fields #[↑h.objs.size,.none,.none,.none,.bool false,.none] }
  (agt ("tuple">>>.seq rest.toArray) m)
 let i:((h.push ("tuple">>>.seq rest.toArray)).push { cls:=↑C,data:=.fields #[↑h.objs.size,.none,.none,.none,.bool false,.none] }).Ns N n:=
  let ⟨o,M,G,e,r⟩:=J;⟨o,M,G,agt _ (agt _ e),r⟩
 let f:((h.push ("tuple">>>.seq rest.toArray)).push
  { cls:=↑C,data:=.fields #[↑h.objs.size,.none,.none,.none,.bool false,.none] }).get? (h.objs.size+ 1)=some
  { cls:=↑C,data:=.fields #[↑h.objs.size,.none,.none,.none,.bool false,.none] }:=by heap_get
 let p:(Value.ref C::bm).contains ↑C=true:=by simp
 let k:=T.keeps (h':=(h.push ("tuple">>>.seq rest.toArray)).push { cls:=↑C,data:=.fields #[↑h.objs.size,.none,.none,.none,.bool false,.none] })
  λb o e=>agt _ (agt _ e)
 unfold isInstance
 repeat (first|with_reducible rwa[ajr f ?_]|(with_reducible rwa[wpAny_isSubtype_exc a ?_];rw[p])|wp_step)
 show wpAny _ _ (typeLookup ↑C _) _ _ _;rwa[wpAny_typeLookup_tail a i k F.mroIs F.init.lookup ?_];rw[z];rwa[ahF (ags ?_)];unfold bindSpecial;rwa[ags (aiI (T:="function") ⟨_,c,l⟩ ?_)];rw[agX ⋯];rwa[agz (ags (ahA (I _ (h.objs.size+ 1) ⟨λb o L=>agt _ (agt _ L),Heap.get?_none_of_le (aiN _),h.objs.size,f,Heap.get?_none_of_le (agA _),5⟩) (λr y H=>?_) λ_ _ x=>x))]
 ·rwa[agt _ (Heap.get?_push_at rfl rfl)]
 ·let⟨rfl,D⟩:=H
  wp_walk
  rwa[D]
theorem FD (F:ExcBaseFacts B newId HF Mp)(T:OwnTail h Mp bm){k:Str->Zl}{rest:Zk}{j:Zs}{l:Obj}{Q:Zt->Zu->Prop}
 (b:h.get? C\excClassObj nm q C N bs bm hdct sn sub ab col dd k0 k1 k2 k3 k5 newId) (p:h.Ns N k) (n:k "__init__"=some ↑j)
 (i:h.get? j\l) (f:l.cls=.type "function")
 (o:∀c e,Heap.MadeExcOf h c e ↑C rest->
  (prog<|>w) (A.under (.builtin "type.__call__" ⟨↑C::rest,[]⟩)) (call ↑j (↑e::rest)) (λr s=>r=.none/\Q ↑e s) E ⟨c,g,d,t,os⟩) (a:⇑rest<=sizeLine):
 (prog<|>w) A (call ↑C rest) Q E ⟨h,g,d,t,os⟩:=by
 let x:=tc_lookup;let u:=tc_bind ↑C;let v:(⟨h,g,d,t,os⟩:Zu).TypeIs ↑C "type":=⟨_,b,2⟩;rwa[ajn (codeAny_of_tree ?_)];show wpAny _ _ (callAny ↑C _) _ _ _
 repeat (any_goals (first|assumption|with_reducible rwa[ajr b ?_]|wp_step))
 erw[2];rwa[codeAny_call_builtin_at (Code.quiet_builtin _ ⋯) entry_typeCall (wpAny_check_type_call_sub b (vQ (Vr:=a) F T b p n i f λc e m=>?_))];rwa[o c e m]
theorem Kl {M:Model}{env:Env}{x:Sem Zt}{Q:Flow->Zu->Prop}(b:bm.contains (.type "BaseException")=true)(u:A.handled=none)
 (h:wpAny M A x (λv a=>∃e f j,v=↑e/\a.heap.get? C\excClassObj nm q C N bs bm hdct sn sub ab col dd k0 k1 k2 k3 k5 newId/\
  a.heap.get? e=some f/\f.cls=↑C/\f.data=.fields j/\j[1]?=some .none/\E ↑e a) E s):
 wpAny M A (raiseStmt env (some x) none) Q E s:=by
 let i:(Value.ref C::bm).contains (.type "BaseException")=true:=by rw[List.contains_cons,b,Bool.or_true]
 unfold raiseStmt;rwa[ags (ahA h (λv a c=>?_) λ_ _ x=>x)];let⟨e,f,j,rfl,k,l,n,m,r,y⟩:=c;let⟨F,g,d,z,os⟩:=a;let⟨D,G,p,o⟩:=f;dsimp only at n m;subst n m
 repeat (first|with_reducible rwa[ajr l ?_]|with_reducible rwa[ajr k ?_]|(with_reducible rwa[wpAny_isSubtype_exc k ?_];rw[i])|with_reducible rwa[ags (ahv l rfl r ?_)]|wp_step)
 all_goals rwa[wpAny_raiseNew_none u y]
end
end L2
namespace L2
open PySem PySem.Spec PyProof.Rows
inductive df (P:Program) (w:World) (outer:Zq) (H:Hp) (s:Zu) (E:XK) (e:Zt) (s':Zu):Prop
 |mk (x C:Zs) (dx:Zo) (B:Heap) (H':Hp):e=↑x->s'.os=s.os->AllBare s'.gens->lu B outer x ↑C dx .none s'.heap->Un (cH outer) [] H H' s.heap s'.heap->dH P w H' B->(∀b o,s.heap.get? b\o->H b=none->b∉cH outer->B.get? b\o)->(∀b o,s.heap.get? b\o->b∉cH outer->∃o',B.get? b\o')->E ↑C dx H'->df P w outer H s E e s'
def del (H:Hp)(x:Zs):Hp:=λb=>if b=x then none else H b
def rF {x:Zs}(h:b≠x):del H x b=H b:=by unfold del;rw[agT h]
def Km {x:Zs}{u:HO}(h:del H x b\u):b≠x/\H b\u:=by
 unfold del at h
 cbv
def gj:Passes (df P w) X (λ_ _ _=>False):=λ_ _ _ _ _ _ _ ζ=>by let⟨_,_,_,_,_,_,_,_,_,_,_,_,_,q⟩:=ζ;rwa[q.elim]
def Mq {a:Zq}(h:df P w a H s (λ_ _ _=>False) v t):False:=let ⟨_,_,_,_,_,_,_,_,_,_,_,_,_,q⟩:=h;q
section
variable {P:Program}{w:World}{K:Za1}{mg:Str->Zl}{base:Heap}{N:Zp}{qual:Str}{scope:Scope}{f:Zs}{cd:Zt}{A:Around}{outer:Zq}{s:Zu}{H:Hp}{E:XK}{pins:List (Zs×Obj)}{σ:St}{H1:Hp}{s1:Zu}
def pZ {o:Obj}(I:Inv (cy (df P w) P w K mg base N qual scope f cd A outer s H E) pins σ H1 s1)(e:s.heap.get? b\o)(a:b∉cH outer):b∉cH (cy (df P w) P w K mg base N qual scope f cd A outer s H E).stack:=λz=>by
 rcases agN.mp (show b∈↥s::cH outer from z) with z|z
 ·rwa[absurd (agQ e) (by rw[z];rwa[ahN _])]
 ·rwa[a z]
theorem R6 {x:Zs}{O:Zo}(I:Inv (cy (df P w) P w K mg base N qual scope f cd A outer s H E) pins σ H1 s1)(C:H1 x\XO x a O true)(Z:s.heap.get? x=none)(q:E ↑a O (del H1 x)):
 (cy (df P w) P w K mg base N qual scope f cd A outer s H E).xe ↑x s1:=by
 let t:=I.ok.frames;let y:∀env∈(cy (df P w) P w K mg base N qual scope f cd A outer s H E).stack,∀b,env.frame\b->b∈x::cH (cy (df P w) P w K mg base N qual scope f cd A outer s H E).stack:=λenv V b k=>ag3 _ (ajL.mpr ⟨env,V,k⟩)
 let F:=PySem.W.funFrames_hide I.stack y;let⟨⟨ob,vs,d,rfl',rfl,i,p⟩,_,_⟩:=I.aO x _ C;let nx:∀b o,s.heap.get? b\o->b≠x:=λb o e z=>by cbv
 let out:∀b o,s.heap.get? b\o->b∉cH outer->b∉x::cH (cy (df P w) P w K mg base N qual scope f cd A outer s H E).stack:=λb o e k z=>(agN.mp z).elim (nx b o e) (pZ I e k)
 rwa[Kk (s:=s1) (base:=PySem.W.hideAll s1.heap (x::cH (cy (df P w) P w K mg base N qual scope f cd A outer s H E).stack)) (L:=↥s) t F rfl d (λb o z=>PySem.W.of_hideAll _ z) (PySem.W.hideAll_none _ (.head _)) i (p rfl).1 λD r ups=>?_]
 let Q:∀b o,s.heap.get? b\o->H b=none->b∉cH outer->(PySem.W.hideAll s1.heap (x::cH (cy (df P w) P w K mg base N qual scope f cd A outer s H E).stack)).get? b\o:=λb o d g h=>
  ajy _ (I.base.keep b o d g h (by simp[cy])) (out b o d h)
 let R:∀b o,s.heap.get? b\o->b∉cH outer->∃j,(PySem.W.hideAll s1.heap (x::cH (cy (df P w) P w K mg base N qual scope f cd A outer s H E).stack)).get? b\j:=λb o d h=>by
  let⟨j,i⟩:=I.base.there b o d (by simp[cy]);rwa[j,ajy _ i (out b o d h)]
 let M:∀b o,s1.heap.get? b\o->b∈cH outer->∃G,D.get? b\{ o with slots:=G }:=λb o d g=>by
  let⟨_,o2,h,Y⟩:=I.stack.mem (show b∈cH (cy (df P w) P w K mg base N qual scope f cd A outer s H E).stack from ag3 _ g);rw[d]at h;ext h;rwa[ups b o d Y]
 let dl:∀{b:Zs} {u:HO},H1 b\u->(∀ X,u≠.ext X)->del H1 x b\u:=λ{b u} e n=>by
  rw[rF]
  ·rwa[e]
  ·intro z;rw[z,C]at e;rwa[n _ (Za0 e).symm]
 rw[rfl']at r;rwa[⟨x,a,11,del H1 x,2,I.os,I.bare,r,⟨λb o d g h _=>r.1 b o (Q b o d g h),λb o d g h _=>?_,λb o d g _=>?_,λb o d _=>?_,λb S e=>dl (I.base.hU b S e) (by cbv),λb o u e=>dl (I.base.gG b o u e) (by cbv),λb T e=>?_⟩,5,Q,R,q⟩]
 ·let⟨G,i⟩:=I.base.slot b o d g h (by simp[cy]);let⟨J,p⟩:=M b _ i h;rwa[J,p]
 ·rw[rF (nx b o d)];rwa[I.base.free b o d g (by simp[cy])]
 ·by_cases k:b∈cH outer
  ·let⟨j,i⟩:=I.base.there b o d (by simp[cy]);let⟨G,p⟩:=M b j i k;rwa[_,p]
  ·let⟨j,i⟩:=R b o d k;rwa[j,r.1 b j i]
 ·let⟨m,g⟩:=I.base.hV b T e;rwa[m,dl g (by cbv)]
 ·intro b u d;let⟨U,d⟩:=Km d
  let l:∀c v,c≠x->H1 c\v->c∉x::cH (cy (df P w) P w K mg base N qual scope f cd A outer s H E).stack:=λc v B g z=>by
   rcases agN.mp z with z|z
   ·rwa[B z]
   ·rw[I.oD c z]at g;ext g
  rwa[(I.aO b u d).fk (λc v B z=>ajy _ z ?_) (λc z=>dl z (by cbv)) λc S z=>dl z (by cbv)]
  rcases B with z2|z2
  ·rw[z2];rwa[l b u U d]
  ·rwa[l c _ (λz=>by rw[z,C]at z2;ext z2) z2]
def Vs:Passes (df P w) (cy (df P w) P w K mg base N qual scope f cd A outer s H E) E:=by
 intro pins σ H1 s1 e T I z;let⟨x,C,D,B,F,rfl,os,bare,Q,un,p,J,M,q⟩:=z;rwa[OL (L:=↥s) I.ok.frames rfl Q λr j ups=>?_]
 let l:∀b o,s.heap.get? b\o->H b=none->b∉cH outer->B.get? b\o:=λb o a d c=>
  J b o (I.base.keep b o a d c (by simp[cy])) (I.base.free b o a d (by simp[cy])) (pZ I a c)
 let m:∀b o,s.heap.get? b\o->b∉cH outer->∃h,B.get? b\h:=λb o a c=>by
  let⟨h,g⟩:=I.base.there b o a (by simp[cy]);rwa[M b h g (pZ I a c)]
 let y:∀b o,s1.heap.get? b\o->b∈cH outer->∃t,r.get? b\{ o with slots:=t }:=λb o a d=>by
  let i:b∈cH (cy (df P w) P w K mg base N qual scope f cd A outer s H E).stack:=ag3 _ d;let⟨_,S,c,G⟩:=I.stack.mem i;rw[a]at c;ext c;let⟨t,g⟩:=un.slot b o a (I.oD b i) i (by simp);let⟨k,u⟩:=ups b _ g G;rwa[k,u]
 rwa[⟨x,C,D,B,F,2,os.trans I.os,bare,j,⟨λb o a d c _=>j.1 b o (l b o a d c),λb o a d c _=>?_,λb o a d _=>?_,λb o a _=>?_,λb n a=>un.hU b n (I.base.hU b n a),λb o n a=>un.gG b o n (I.base.gG b o n a),λb v a=>?_⟩,p,l,m,q⟩]
 ·let⟨t,g⟩:=I.base.slot b o a d c (by simp[cy]);let⟨k,u⟩:=y b _ g c;rwa[k,u]
 ·let⟨h,g⟩:=I.base.there b o a (by simp[cy]);rwa[un.free b h g (I.base.free b o a d (by simp[cy])) (by simp)]
 ·by_cases O:b∈cH outer
  ·let⟨h,g⟩:=I.base.there b o a (by simp[cy])
   cbv
  ·let⟨h,g⟩:=m b o a O;rwa[h,j.1 b h g]
 ·let⟨U,d⟩:=I.base.hV b v a;let⟨R,c⟩:=un.hV b _ d
  cbv
end
section
variable {P:Program}{w:World}{K:Za1}{mg:Str->Zl}{base:Heap}
theorem qU.R7 {qual:Str}{st:Stmt}{fd:FuncData}{e:Zp}{k:Nat}{sp:Sp}(F:qU K x qual st a fd)(S:aS Z e (aB st))(len:∀d H Q E,sp d H Q E->⇑d=⇑e)
 (c:∀(b:Zt) (A:Around) (outer:Zq) (s:Zu) (H:Hp) (d:Zb) (Q:VK) (E:XK),cx k (A.deeper (envOfC qual (aB st) ↥s a b))->sp d H Q E->
  ∃t,iL (cy (df P w) P w K mg base Z qual (aB st) a b A outer s H E) (cD st) t/\t { nx:=λ_ j=>Q .non j,rt:=Q } (start Z d) H):dq P w K mg base (df P w) (k+ 1) a fd e sp:=by
 let⟨l,n,kV,doc,pm,m,b,ct,h,rfl,lk,f⟩:=F.ex;rwa[zL lk f S len λA outer s H d Q E i g=>c b A outer s H d Q E i g]
end
section
variable {X:Cx}{pins:List (Zs×Obj)}{σ:St}{H:Hp}{s:Zu}{h':Heap}{e C:Zs}{vs:Zk}
def Inv.Vt (I:Inv X pins σ H s)(hm:Heap.MadeExcOf s.heap h' e ↑C vs)(hex:X.ex=[]):H e=none/\X.eA.heap.get? e=none/\Inv X pins σ (upd H e (XO e C none true)) (s<*h'):=by
 let a:H e=none:=by
  cases q:H e with
  |none=>rfl
  |some u=>
   let⟨o,d⟩:=(I.aO e u q).get;rw[hm.new]at d;ext d
 let ne:∀b o,s.heap.get? b\o->b≠e:=λb o q z=>by rw[z,hm.new]at q;ext q
 let h:X.eA.heap.get? e=none:=by
  cases q:X.eA.heap.get? e with
  |none=>rfl
  |some o=>
   let⟨l,d⟩:=I.base.there e o q (by rw[hex];simp)
   cbv
 rwa[⟨a,h,I.un (t':=s.toks) ⟨λb u q _ _ _=>hm.keeps b u q,λb u q _ _ _=>⟨u.slots,hm.keeps b u q⟩,λb u q n _=>[ak (ne b u q)]▸n,λb u q _=>⟨u,hm.keeps b u q⟩,λb f q=>[ak (ax q a)]▸q,λb u f q=>[ak (ax q a)]▸q,λb j q=>⟨#[],by rw[ak (ax q a),q];simp⟩⟩ λb u q=>?_⟩];by_cases g:b=e
 ·subst g;rw[ah]at q;ext q;let⟨t,i,_,_⟩:=hm.there;rwa[zN ⟨11,i,222,λ_=>⟨212⟩⟩]
 ·rw[ak g]at q;rwa[(I.aO b u q).fk (λc v _ q=>hm.keeps c v q) (λc q=>[ak (ax q a)]▸q) λc f q=>[ak (ax q a)]▸q]
end
section
variable {X:Cx}{k:Nat}{f C:Zs}{fd:FuncData}{ps:Zp}{sp:Sp}{x:Str}{p pos cF:Pos}{e:Expr}{es:Zr}{t:TA}{E:XK}
def Wj (X:Cx)(C:Zs)(E:XK):Prop:=∀(a:List (Zs×Obj)) (c:St) (H:Hp) (s:Zu) (x:Zs) (b:Zo),Inv X a c H s->H x\XO x C b true->X.eA.heap.get? x=none->E ↑C b (del H x)->X.xe ↑x s
def lvD {base:Heap}{qual:Str}{scope:Scope}{f C:Zs}{a:Zq}{E:XK}:Wj (cy (df P w) P w K M base Z qual scope f v A a s H E) C E:=λ_ _ _ _ _ _ I b c q=>R6 I b c q
def OQ (C:Zs)(sp:Sp)(E:XK)(t:TA):TS:=λ_ g H=>t g H λd a=>∀x,a x=none->sp (↑x::d) (upd a x (XO x C none true)) (λv c=>v=.non/\∃b,c x\XO x C b true/\E ↑C b (del c x)) (λ_ _ _=>False)
theorem HG (F:dq X.prog X.w X.K X.mg X.base (df X.prog X.w) k f fd ps sp)(hr:cx (k+ 1) X.A)(hb:Binds X.K fd ps [])(hc:X.calm=true)(hg:Gl X x)(hm:X.mg x\↑C)(hC:xO X.K C f=true)(hf:PySem.W.isFn X.K ↑f=true)(hk:PySem.W.keepIn X.K ↑C=true)
 (ha:PA X (e::es) t) (lv:Wj X C E) (hex:X.ex=[]:=by rfl) (A5:⇑ps<=1000:=by decide) (G:(x==("__debug__":Str))=false:=by decide) (he:starEach (e::es) X.env=(false,eval e X.env)::starEach es X.env:=by rfl) (B:(backTo cF (starEach es X.env)).any (·.1)=false:=by rfl):
 PS X (.Raise (some (.Call (.Name x p) (e::es) [] cF)) none pos) (OQ C sp E t):=by
 intro c s Z H D I h;let⟨S,N,nm,qn,bs,i,sn,sub,T,col,Q,U,k1,k2,k3,k5,mN,o1,o2,o3,Y⟩:=A4 I.ok.mod.vl hC;let kp:∀{L O n},Inv X c L O n->∀b o,X.base.get? b\o->n.heap.get? b\o:=λJ b o q=>(J.bs b o q).1
 rw[arm_exec_Raise];rwa[ags (ajm (Kl (C:=C) (nm:=nm) (q:=qn) (N:=N) (bs:=bs) (bm:=S) (hdct:=i) (sn:=sn) (sub:=sub) (ab:=T) (col:=col) (dd:=Q) (k0:=U) (k1:=k1) (k2:=k2) (k3:=k3) (k5:=k5) (newId:="ValueError.__new__") (Y.hasType ⋯) (I.ok.hd hc) (ags (ahA (E:=X.xe) ?_ (λv R m=>ags (ajm (agz m))) λ_ _ x=>x))))];rwa[ahH (j1 I hg hm ?_ G)];rwa[ajc (h₀:=X.base) I.ok.mod.vl hk (aZ (ha cF c s Z H _ I h) λus s1 ζ=>?_) he B];let⟨vs,H1,j,r,q⟩:=ζ;rwa[⟨j.dv,5⟩];let⟨oI,P,z⟩:=ahM.mp (ajC.mp hf)
 let len:⇑us<=1000:=by
  let h1:=F.len _ _ _ _ (q (↥s1) (j.aO.fresh (agA _)));rw[agV]at h1;rw[<-⇑r];ext
 let⟨hh,g,d,tk,os⟩:=s1;rwa[FD (A:=X.A) aiF (Y.keeps (kp j)) (kp j _ _ o1) (o2.keeps (kp j)) o3 (j.dv^P) z (λh' y M=>?_) (agJ len ⋯)];let⟨hn,h0,J⟩:=j.Vt M hex;let hq:=q y hn;let r2:Vals (V.ref y::vs) (Value.ref y::us):=.cons rfl r
 let hl:⇑(Value.ref y::us++[])=⇑ps:=by
  rw[ag9,<-⇑r2];rwa[F.len _ _ _ _ hq]
 let l:=hb _ (Value.ref y::us) J.dv hl;rw[ag9]at l;rwa[ajn (ai2 (F.run _ X.stack _ _ ⟨Value.ref y::us,[]⟩ (Value.ref y::us) _ _ _ (hr.make C us []) (J.zW.make C us []) l r2 hq) λr n a=>?_)]
 cases r with
 |error e=>exact(Mq a).elim
 |ok fl=>
  cases fl with
  |ret u=>
   let⟨v,O,w,rv,ev,dx,W,q3⟩:=J.after a;subst ev;let⟨⟨ob,ws,a1,a2,a3,a4,a5⟩,_,_⟩:=w.aO y _ W;rwa[rv,y,ob,ws,2,kp w _ _ o1,a1,a2,a4,(a5 rfl).1,lv c Z O n y dx w W h0 q3]
  |next=>exact False.elim a
  |brk=>exact False.elim a
  |cont=>exact False.elim a
end
end L2
namespace L2
open PySem PySem.Spec PyProof.Rows PySem.W
section
variable {M:Model}{A:Around}{E:Zt->Zu->Prop}{s:Zu}{x a:Zs}{ob:Obj}{vs:Zm}{tv:Zt}
theorem Kn {Q:Fin->Zu->Prop}(e:s.heap.get? x\ob)(c:ob.data=.fields vs)(d:vs[0]?\↑a)
 (h:Q (.done (.ret .none)) { s with heap:=(s.heap.push ("tuple">>>.seq #[tv])).update x (Obj.mapFields (·.setIfInBounds 0 ↑↥s)) }):wpAny M A (Builtin.«BaseException.__init__» ⟨[↑x,tv],[]⟩) Q E s:=by
 let b:=agt ("tuple">>>.seq #[tv]) e;unfold Builtin.«BaseException.__init__»;rwa[ags (wpAny_newTuple ?_)];unfold Builtin.BaseException.bexcPut;rwa[ags (ags (ahv b c d (ags (aiO b c (aid.mp d).1 ?_))))]
 wp_walk
 rwa[h]
end
section
variable {X:Cx}{Y:Zs}{y f:Str}{np apos pos pos':Pos}{e:Expr}{es:Zr}{t:TA}
structure Ko (K:Za1) (Y:Zs):Prop where
 sp:specialIn K ↑Y "__getattribute__"=some (some (.builtin "type.__getattribute__"))
 rd:readsIn K Y (.type "type")=true
 fc:(match findCls K ↑Y (.type "type") "__init__" with|some (.val (.builtin i))=>i=="ValueError.__init__" | _=>false)=true
def Ko.find {Y:Zs}(b:Ko K Y):findCls K ↑Y (.type "type") "__init__"=some (.val (.builtin "ValueError.__init__")):=by
 have:=b.fc
 cbv
def YW (C:Zs)(t:TA):TE:=λ c H Q=>t c H λb a=>∃(x:Zs) (d:Zo) (l:Zh),b=[↑x,.str (tx l)]/\a x\XO x C d true/\Q .non a
def Kq {pl:Sem Bool}(W:xO X.K a b=true)(A:Ko X.K Y)(hg:Gl X y)(R:X.mg y\↑Y)(Z:PA X (e::es) t)(B:(y==("__debug__":Str))=false:=by decide)
 (n:starEach (e::es) X.env=(false,eval e X.env)::starEach es X.env:=by rfl) (p:(backTo pos (starEach es X.env)).any (·.1)=false:=by rfl)
 (ht:eval (.Call (.Attribute (.Name y np) "__init__" apos) (e::es) [] pos) X.env=(do
  let P <-eval (.Name y np) X.env
  standAt apos.atName
  let (f,first) <-holding [P] (getMethod P "__init__" pl)
  callWith pos f first (backTo pos (starEach (e::es) X.env)) (backToKw pos (keywordEach [] X.env))):=by rfl):
 PE X (.Call (.Attribute (.Name y np) "__init__" apos) (e::es) [] pos) (YW a t):=by
 intro i s σ H Q I h;rwa[methodCall_KW (pl:=pl) (j1 I hg R ?_ B) ht];rwa[method_cls I.dv A.sp (cls_value I.dv A.rd A.find rfl ?_)];rwa[PyProof.Rows.callWith_builtin1 (aZ (Z pos i _ σ H _ (I.tok _) h) λus s1 ζ=>?_) n p];let⟨vs,D,w,r,x,G,l,ev,v,q⟩:=ζ;subst ev;let⟨u,F,rfl,U,ry⟩:=vals2 r;ext U;let⟨bm,N,nm,qn,bs,L,sn,sub,ab,col,dd,k0,k1,k2,k3,k5,mN,o1,o2,o3,o4⟩:=A4 I.ok.mod.vl W;let kp:∀d o,X.base.get? d\o->s1.heap.get? d\o:=λd o q=>(w.bs d o q).1
 let⟨⟨ob,ws,m,O,V,M,a5⟩,_,_⟩:=w.aO x _ v;let⟨b1,c,E⟩:=a5 rfl;let⟨g,gg,dr,S,os⟩:=s1;rwa[ajn (ait aiF.init.plain aiF.initEntry (wpAny_check_init_subT aiF (o4.keeps kp) (kp^o1) m O ?_))];rwa[Kn m M E ?_];let T:x≠g.objs.size:=ag2 (agQ m);let C:=agt ("tuple">>>.seq #[F]) m;let k:=ah8 M (·.setIfInBounds 0 (Value.ref g.objs.size));let j:=ahh (Obj.mapFields (·.setIfInBounds 0 (Value.ref g.objs.size))) C (aiL k)
 let J:=w.write (h':=(g.push ("tuple">>>.seq #[F])).update x (Obj.mapFields (·.setIfInBounds 0 ↑g.objs.size))) (t':=S) (o:=XO x a G true) (x:=x) (e:=x) ([v]▸True.intro) (.inl rfl) (λd u hb z=>(ahj^ahQ hb).trans (agt _ z)) ⟨_,j⟩
  (zN ⟨11,j,(Obj.cls_mapFields _ _).trans O,(yU _ _).trans V,k,λ_=>⟨by cbv,g.objs.size,by simp[(aid.mp E).1]⟩⟩)
 let eH:upd D x (XO x a G true)=D:=by
  funext d
  by_cases z:d=x
  ·rw[z,ah,v]
  ·rw[ak z]
 rw[eH]at J;rwa[.non,D,J,2,q]
def Vu (K:Za1)(i j:TE)(f:Str):TS:=λD c H=>j c H λy k=>i c k λx b=>∃(a C:Zs) (h:Zo) (g:Bool),x=↑a/\b a\XO a C h g/\A3 K C/\kJ K C f/\
 match h with
 |none=>∀d,b d=none->D.nx c (upd (upd b d (XD d [(f,y)])) a (XO a C (some d) g))
 |some d=>∃fs,d≠a/\b d\XD d fs/\⇑fs<1000/\D.nx c (upd b d (XD d (bJ f y fs)))
def HJ {fs:List (Str×V)}{mA:Str->Zl}{y:V}(r:∀f,eR (fs.lookup f) (mA f))(c:PySem.Within mA (fs.map (·.1)))(a:RelV y u):(∀g,eR ((bJ f y fs).lookup g) (if g=f then some u else mA g))/\PySem.Within (λg=>if g=f then some u else mA g) ((bJ f y fs).map (·.1)):=by
 rwa[⟨λg=>?_,λg b=>?_⟩]
 ·rw[oq];by_cases q:g=f
  ·rw[agX q,agX q];rwa[a]
  cbv
 ·by_cases q:g=f
  ·rw[q];rwa[(kI f y fs).1]
  ·rwa[(kI f y fs).2 g (c g λz=>b ?_)]
   cbv
def Ea {o value:Expr}{Q P:TE}(ha:PE X o Q)(hv:PE X value P)(hs:swapsWith value (some (.Attribute o f pos')) pos.line X.env=pure false):PS X (.Assign [.Attribute o f pos'] value pos) (Vu X.K Q P f):=by
 intro j s v H D I h;rwa[plainObj_wpAny_Assign_Attribute (aZ (hv j s v H _ I h) λu s1 ζ=>?_) hs];let⟨y,H1,I1,O,q⟩:=ζ;rwa[aZ (ha j s1 v H1 _ I1 q) λov s2 ζ=>?_];let⟨x,H2,k,W,a,C,dx,nw,ex,S,c,n,m⟩:=ζ;subst ex;obtain rfl:ov=Value.ref a:=W;let⟨⟨ob,vs,E,N,U,L,a5⟩,_,_⟩:=k.aO a _ S
 cases dx with
 |some d=>
  let⟨fs,nd,R,hl,m⟩:=m;let⟨⟨mA,hn,r,T⟩,_,_⟩:=k.aO d _ R;rwa[YV k.dv c E N L n.E5 U hn T (by rw[agy,sizeLine_eq];omega) λw i Z=>?_]
  let⟨F,G⟩:=HJ (f:=f) r T O;let⟨A,_,_,p,_⟩:=id i;rwa[v,_,k.write (x:=d) (e:=d) ([R]▸True.intro) (.inl rfl) (λb u M z=>(Z.2 b M).trans z) ⟨A,p⟩ (Mm ⟨_,i,F,G⟩),m]
 |none=>
  rwa[Vq k.dv c E N L n.E5 U λw i l kp=>?_]
  let hd:H2 ↥s2=none:=k.aO.fresh (agA _);let B:↥s2≠a:=ahL (agQ E);let⟨A,es,ep,p,V⟩:=id i;let⟨F,G⟩:=HJ (fs:=[]) (mA:=λ_=>none) (f:=f) (λ_=>True.intro) (λg hg=>absurd rfl hg) O;let J:=k.laid (a:=↥s2) (o:=XD ↥s2 [(f,y)]) (h':=s2.heap.push A) (t':=s2.toks) (λb u z=>agt _ z) (agA _) (Mm ⟨_,⟨A,es,ep,Heap.get?_push_at rfl (Heap.get?_some_iff.mp p).2,V⟩,F,G⟩);rwa[⟨v,_,J.write (h':=w) (x:=a) (e:=a) (o:=XO a C (some ↥s2) nw) ([ak B.symm,S]▸True.intro) (.inl rfl) (λb u M z=>?_) ⟨_,l⟩ (zN ⟨11,l,N,2,L,a5⟩),m _ hd⟩];rcases Heap.get?_push_cases z with ⟨rfl,rfl⟩|z
  ·rwa[p]
  ·rwa[kp b u M z]
inductive YX (K:Za1) (f:Str) (x:V) (H:Hp) (Q:VK):Prop
 |mk (a C d:Zs) (nw:Bool) (fs:List (Str×V)) (v:V):x=↑a->H a\XO a C (some d) nw->H d\XD d fs->A3 K C->kJ K C f->fs.lookup f\v->Q v H->YX K f x H Q
end
end L2
namespace L2
open PySem PySem.Spec PyProof.Rows
def eU (X:Cx)(a:List (Zs×Obj))(f:St)(d:Hp)(x C:Zs)(g:Zo)(s:Zu):Prop:=
 ∃(B:Heap) (c:Hp) (s1:Zu),Inv X a f c s1/\s.os=s1.os/\AllBare s.gens/\lu B X.stack x ↑C g .none s.heap/\Un (cH X.stack) [] c d s1.heap s.heap/\dH X.prog X.w d B/\
  (∀b o,s1.heap.get? b\o->c b=none->b∉cH X.stack->B.get? b\o)/\(∀b o,s1.heap.get? b\o->b∉cH X.stack->∃e,B.get? b\e)
section
variable {X:Cx}{pins:List (Zs×Obj)}{σ:St}{H':Hp}{x C:Zs}{dx:Zo}{s:Zu}
def eU.of {E:XK}(I:Inv X pins σ H t)(d:df X.prog X.w X.stack H t E v s):∃x C dx H',v=↑x/\eU X pins σ H' x C dx s/\E ↑C dx H':=by
 let⟨x,C,dx,B,H',rfl,os,bare,fl,un,a,b,c,q⟩:=d;rwa[x,C,dx,H',2,⟨B,H,t,I,os,bare,fl,un,a,b,c⟩,q]
theorem eU.step {fl:Zt}{s1:Zu}(I:Inv X pins σ H s1)(os:s.os=s1.os)(bare:AllBare s.gens)(un:Un (cH X.stack) [] H H' s1.heap s.heap)(aO:dH X.prog X.w H' g)
 (p:∀b o,s1.heap.get? b\o->H b=none->b∉cH X.stack->g.get? b\o) (q:∀b o,s1.heap.get? b\o->b∉cH X.stack->∃i,g.get? b\i) (a:lu g X.stack x ↑C dx .none h) (u:s.heap.UpToSlots h):eU X pins σ H' x C dx (s<*h):=by
 let n:∀b o,s1.heap.get? b\o->b∈cH X.stack->∃sl,h.get? b\{ o with slots:=sl }:=λb o e d=>by
  let⟨t,f,r⟩:=I.L6 d;rw[e]at f;ext f;let⟨sl,k⟩:=un.slot b o e (I.oD b d) d (by simp);let⟨l,m⟩:=u b _ k r;rwa[l,m]
 rwa[⟨g,H,s1,I,os,bare,a,⟨λb o c f j _=>a.1 b o (p b o c f j),λb o c _ j _=>n b o c j,un.free,λb o c _=>?_,un.hU,un.gG,un.hV⟩,aO,p,q⟩];by_cases d:b∈cH X.stack
 ·let⟨sl,m⟩:=n b o c d;rwa[_,m]
 ·let⟨i,k⟩:=q b o c d;rwa[i,a.1 b i k]
theorem eU.look (t:eU X pins σ H' x C dx s)(a:X.stack=X.env::X.outer)(g:X.env.frame\X.env.locals)(hA:A.frames\X.stack)
 (h:∀d,eU X pins σ H' x C dx (s<*d)->U () (s<*d)):
 X⁻¹ A (noteFrame ↑x X.env) (λ_ j=>X⁻¹ A (setFlight ↑x none) U E j) E s:=by
 let⟨B,p,o,I,os,bare,fl,un,aO,l,m⟩:=t;let b:=fl;rw[a]at b;rwa[Ml (base:=B) (hA.trans (by rw[a])) g b λe k n=>?_]
 rwa[vP (s:=(s<*e)) k λf c i=>h f (eU.step (fl:=.none) I os bare un aO l m ([a]▸c) (n.trans i))]
theorem eU.again (t:eU X pins σ H' x C dx s)(h:∀b,eU X pins σ H' x C dx (s<*b)->U () (s<*b)):
 X⁻¹ A (setFlight ↑x none) U E s:=by
 let⟨B,f,g,I,os,bare,fl,un,aO,c,e⟩:=t;rwa[vP fl λd a u=>h d (eU.step (fl:=.none) I os bare un aO c e a u)]
def eU.inv (t:eU X pins σ H' x C dx s):Inv X pins σ H' s:=by
 let⟨B,d,e,I,os,bare,fl,un,aO,a,c⟩:=t;rwa[I.EX (ch:=[]) os un (aO.kept fl.1) bare (λb z=>absurd z (by simp))]
def eU.none (t:eU X pins σ H' x C dx s):H' x=none:=by
 let⟨B,d,f,I,os,bare,fl,un,aO,b,c⟩:=t
 cases e:H' x with
 |none=>rfl
 |some u=>
  let⟨o,a⟩:=(aO x u e).get;rw[fl.2.1]at a;ext a
def eU.at (t:eU X pins σ H' x C dx s):yV x C dx false s.heap:=by
 let⟨B,f,g,I,os,bare,fl,un,aO,d,e⟩:=t;let⟨_,_,_,a,b,_,_,_,c,hc,hd,_⟩:=fl;rwa[a,b,c,hc.1,hc.2,hd,λz=>by ext z]
def eU.YY (t:eU X pins σ H' x C dx s):Inv X pins σ (upd H' x (XO x C dx false)) s:=by
 let w:=t.none;let g:=t.at;let⟨B,G,y,I,os,bare,fl,un,aO,l,r⟩:=t;let⟨A,D,p,_,_,hd,_⟩:=id g;let ne:∀b u,H' b\u->b≠x:=λb u e z=>by cbv
 rwa[I.EX (ch:=[]) os ⟨un.keep,un.slot,λb o d f k=>?_,un.there,λb i e=>?_,λb o u e=>?_,λb j e=>?_⟩ (λb u e=>?_) bare (λb z=>absurd z (by simp))]
 ·rwa[(ak ?_).trans (un.free b o d f k)];rintro rfl;by_cases a:b∈cH X.stack
  ·let⟨n,h,E⟩:=I.L6 a;rw[d]at h;ext h;let⟨sl,F⟩:=un.slot b o d f a (by simp)
   cbv
  ·have:=l b o d f a;rw[fl.2.1]at this
   cbv
 ·have:=un.hU b i e;rw[ak (ne^this)];ext
 ·have:=un.gG b o u e;rw[ak (ne^this)];ext
 ·let⟨m,this⟩:=un.hV b j e;rwa[m,by rw[ak (ne^this)];ext]
 ·by_cases a:b=x
  ·subst a;rw[ah]at e;ext e;rwa[zN g]
  ·rw[ak a]at e;rwa[(aO b u e).fk (λc v _ q=>fl.1 c v q) (λc q=>[ak (ne^q)]▸q) λc i q=>[ak (ne^q)]▸q]
end
abbrev HK:=Zs->Zo->St->Hp->Prop
abbrev Mr:=St->Hp->VK->HK->Prop
abbrev yW:=Ends->HK->St->Hp->Prop
def R8 (X:Cx)(a:List (Zs×Obj))(R:HK)(e:Zt)(s:Zu):Prop:=∃x C c b H,e=↑x/\eU X a b H x C c s/\R C c b H
def Wk (X:Cx)(e:Expr)(t:Mr):Prop:=
 ∀(a:List (Zs×Obj)) (s:Zu) (b:St) (H:Hp) (Q:VK) (R:HK),Inv X a b H s->t b H Q R->X⁻¹ X.A (eval e X.env) (EP X a b Q) (R8 X a R) s
def Eb (X:Cx)(st:Stmt)(t:yW):Prop:=
 ∀(a:List (Zs×Obj)) (s:Zu) (b:St) (H:Hp) (D:Ends) (R:HK),Inv X a b H s->t D R b H->X⁻¹ X.A (exec st X.env) (SP X a D) (R8 X a R) s
section
variable {X:Cx}{k:Nat}{f:Zs}{fd:FuncData}{ps:Zp}{sp:Sp}{x:Str}{p pos:Pos}{e:Expr}{es:Zr}{t:TA}{ds:Zk}{dvs:Zb}
def Sb (sp:Sp)(dvs:Zb)(t:TA):Mr:=λ a H Q R=>t a H λb d=>sp (b++dvs) d Q λc g h=>∃C,c=↑C/\R C g a h
theorem A6 (F:dq X.prog X.w X.K X.mg X.base (df X.prog X.w) k f fd ps sp)(D:cx k X.A)(N:Gl X x)(A:X.mg x\↑f)(G:PySem.W.keepIn X.K ↑f=true)(P:Binds X.K fd ps ds)(O:Vals dvs ds)
 (B:PA X.tO (e::es) t) (m:(x==("__debug__":Str))=false:=by decide) (E:starEach (e::es) X.env=(false,eval e X.env)::starEach es X.env:=by rfl) (g:(backTo pos (starEach es X.env)).any (·.1)=false:=by rfl):
 Wk X (.Call (.Name x p) (e::es) [] pos) (Sb sp dvs t):=by
 intro b s i H Q R I h;rwa[ahH (j1 I N A ?_ m)];rwa[ajc (h₀:=X.base) I.ok.mod.vl G (ahA (B pos b s i H _ (I.wish _) h) (λd l ζ=>?_) λ_ _ z=>False.elim z) E g];let⟨w,y,o,r,q⟩:=ζ;rwa[⟨o.dv,5⟩];let J:=o.hX;let v:Vals (w++dvs) (d++ds):=r.append O;let T:⇑(d++ds)=⇑ps:=by rw[<-⇑v];rwa[F.len _ _ _ _ q]
 rwa[ajn (ai2 (F.run X.A X.stack l y ⟨d,[]⟩ (d++ds) (w++dvs) Q _ D J.zW (P l d J.dv T) v q) λr U a=>?_)]
 cases r with
 |error e=>
  let a:df X.prog X.w X.stack y l (λc j Y=>∃C,c=Value.ref C/\R C j i Y) e U:=a;let⟨x,C,j,L,rfl,M,Z,S,z⟩:=eU.of J a;ext S;rwa[x,C,j,i,L,2,M,z]
 |ok W=>
  cases W with
  |ret u=>exact J.after a
  |next=>exact False.elim a
  |brk=>exact False.elim a
  |cont=>exact False.elim a
def Vv (i:Nat)(b:Mr):yW:=λD R a H=>b a H (λv c=>D.nx (a.set i (some v)) c) R
def Ec {x:Str}{b:Mr}{pos':Pos}(w:X.N.Nodup)(d:X.N[i]?\x)(g:Loc X.env.scope x)(j:Wk X e b)(n:swapsWith e (some (.Name x pos')) pos.line X.env=pure false:=by rfl)(l:X.fn x=true\/X.env.scope.names.lookup x=some .local:=by trivial):
 Eb X (.Assign [.Name x pos'] e pos) (Vv i b):=by
 intro a s m H D R I h;rwa[wpAny_Assign_Name (aZ (j a s m H _ R I h) λv A ζ=>?_) n];let⟨y,u,q,c,r⟩:=ζ;rwa[pG q w d g c (λz o=>⟨_,u,o,r⟩) l]
def YZ (c:TT)(t u:yW):yW:=λD R a H=>c a H λb d=>if b=true then t D R a d else u D R a d
def Sd {c:Expr}{a b:Stmt}{w:TT}{n o:yW}(E:PT X.tO c w)(A:Eb X a n)(B:Eb X b o):Eb X (.If c [a] [b] pos) (YZ w n o):=by
 intro g s l H D R I h
 let one:∀{st:Stmt} {m:yW} {i:Zu} {j:Hp},Eb X st m->Inv X g l j i->m D R l j->X⁻¹ X.A (execs [st] X.env) (SP X g D) (R8 X g R) i:=λ{st m i j} y J q=>
  wpAny_execs_cons (aZ (y g i l j D R J q) λC F z=>by
   cases C with
   |next=>exact aiS z
   |ret v=>exact z
   |brk=>exact z
   |cont=>exact z)
 rwa[wpAny_If (ahA (E g s l H _ (I.wish _) h) (λd i ζ=>?_) λ_ _ z=>False.elim z)];let⟨j,r,u⟩:=ζ
 cases d with
 |true=>exact one A r.hX u
 |false=>exact one B r.hX u
end
abbrev yX:=Ends->Zs->Zo->St->Hp->Prop
def Ms (X:Cx)(d:List ExceptHandler)(t:yX):Prop:=
 ∀(a:List (Zs×Obj)) (s:Zu) (b:St) (H:Hp) (x C:Zs) (c:Zo) (D:Ends),eU X a b H x C c s->t D C c b H->X⁻¹ X.A (handleBy ↑x X.env d) (SP X a D) X.xe s
section
variable {X:Cx}{y n:Str}{Y:Zs}{np pos:Pos}{Fi:Stmt}{suite:List Stmt}{rest:List ExceptHandler}{tb:TS}{tr:yX}{i:Nat}
def Vw (K:Za1)(Y:Zs)(i:Nat)(tb:TS)(tr:yX):yX:=λD C e d H=>∃b,PySem.W.exmOne K ↑C ↑Y\b/\
 if b=true then ∀x,H x=none->tb { nx:=λ a c=>D.nx (a.set i none) c,rt:=D.rt,bk:=λ a c=>D.bk (a.set i none) c,ct:=λ a c=>D.ct (a.set i none) c } (d.set i (some ↑x)) (upd H x (XO x C e false)) else tr D C e d H
theorem Se (l:X.N.Nodup)(j:X.N[i]?\n)(g:X.env.scope.names.lookup n=some .local)(M:Gl X y)(A:X.mg y\↑Y)(N:∀x,iL (X.yE x) (Fi :: suite) tb)(B:Ms X rest tr)(t:(y==("__debug__":Str))=false:=by decide):
 Ms X (.ExceptHandler (some (.Name y np)) (some n) (Fi :: suite) pos::rest) (Vw X.K Y i tb tr):=by
 intro a s E H x C F D k h;let⟨b,m,h⟩:=h;let I:=k.inv;rwa[wpAny_handleBy_cons (codeAny_handlers_test ?_) f!""];rwa[j1 (X:=X.yE x) (I.yE x) M A ?_ t];rwa[PySem.W.exm_one I.dv k.at.ex.Vc m _ _ _ _ (λ_ _ e=>e) ?_]
 cases b with
 |false=>exact B a s E H x C F D k h
 |true=>
  let h:=h x k.none;rwa[codeAny_handlers_suite_as (k.again λQ o=>?_)];let J:=o.YY;rwa[pG (X:=X.yE x) (J.yE x) l j (.inl g) (v:=↑x) rfl (λG L=>?_) (.inr g)];rwa[ahA (N x a G _ _ _ L h) (λO P q=>?_) λ_ _ z=>False.elim z]
  cases O with
  |next=>let⟨d,p,f,q⟩:=q;rwa[sP (f.zM I.ok) l j g λw c=>⟨11,c,q⟩]
  |brk=>let⟨d,p,f,q⟩:=q;rwa[sP (f.zM I.ok) l j g λw c=>⟨11,c,q⟩]
  |cont=>let⟨d,p,f,q⟩:=q;rwa[sP (f.zM I.ok) l j g λw c=>⟨11,c,q⟩]
  |ret u=>let⟨v,d,p,f,r,q⟩:=q;rwa[sP (f.zM I.ok) l j g λw c=>⟨v,11,c,r,q⟩]
def Vx:yX:=λ_ _ _ _ _=>False
def Sf:Ms X rest Vx:=λ_ _ _ _ _ _ _ _ _ h=>h.elim
def Vy (t:yW)(c:yX):TS:=λD d H=>t D (λC e a b=>c D C e a b) d H
theorem OS {st:Stmt}{t:yW}{b:ExceptHandler}{j:List ExceptHandler}{c:yX}(f:X.stack=X.env::X.outer)(k:X.env.frame\X.env.locals)(r:Eb X st t)(o:Ms X (b :: j) c):
 PS X (.Try [st] (b :: j) [] [] pos) (Vy t c):=by
 intro a s l H D I h;rwa[wpAny_Try_except (wpAny_execs_cons (ahA (r a s l H D _ I h) (λw p q=>?_) λe p q=>?_))]
 ·cases w with
  |next=>exact aiS (aiS q)
  |ret v=>exact q
  |brk=>exact q
  |cont=>exact q
 ·let⟨x,C,m,d,u,rfl,c,q⟩:=q;rwa[c.look f k I.ok.frames λz g=>o a _ d u x C m D g q]
end
def FE (K:Za1)(C:Zs):Bool:=match PySem.W.findIn K ↑C "__init__" with
 |some (some ↑f)=>xO K C f
 |_=>false
def Ed (h:FE K a=true)(e:PySem.W.findIn K ↑a "__init__"=some (some ↑b)):xO K a b=true:=by
 unfold FE at h;rw[e]at h;rwa[h]
structure Y0 (K:Za1) (x qual:Str) (st:Stmt) (f:Zs) (fd:FuncData) (dV:Zt):Prop where
 ex:∃(oc:Zt) (od:Zo) (kV doc pm:Zt) (an:Zo) (cC ct:Zt) (Ae:Array Zl),
  fd=PySem.W.fnOf x qual (dF st) (cD st) (aB st) dV kV doc pm an cC ct/\K.lookup f\⟨oc,od,.func fd,Ae⟩/\PySem.W.codeIn K cC qual=true
 kp:PySem.W.keepIn K ↑f=true
structure DDef (K:Za1) (mg:Str->Zl) (x:Str) (st:Stmt) (ps:Zp) (f:Zs) (fd:FuncData) (d:Str):Prop where
 F:∃dV,Y0 K x x st f fd dV
 kp:PySem.W.keepIn K ↑f=true
 m:mg x\↑f
 b:Binds K fd ps []
 bd:∃t,Binds K fd ps [.str d t]
section
variable {P:Program}{w:World}{K:Za1}{mg:Str->Zl}{base:Heap}
theorem DDef.R7 {st:Stmt}{fd:FuncData}{e:Zp}{k:Nat}{sp:Sp}(D:DDef K mg x st e a fd f)(S:aS Z e (aB st))(len:∀d H Q E,sp d H Q E->⇑d=⇑e)
 (c:∀(b:Zt) (A:Around) (outer:Zq) (s:Zu) (H:Hp) (d:Zb) (Q:VK) (E:XK),cx k (A.deeper (envOfC x (aB st) ↥s a b))->sp d H Q E->
  ∃t,iL (cy (df P w) P w K mg base Z x (aB st) a b A outer s H E) (cD st) t/\t { nx:=λ_ l=>Q .non l,rt:=Q } (start Z d) H):dq P w K mg base (df P w) (k+ 1) a fd e sp:=by
 let⟨p,F⟩:=D.F;let⟨m,o,kV,doc,pm,n,b,ct,i,rfl,lk,g⟩:=F.ex;rwa[zL lk g S len λA outer s H d Q E j h=>c b A outer s H d Q E j h]
theorem DDef.of {st:Stmt}{y d:Zo}{j r:Array Zl}{kV doc pm ct A:Zt}{dd:Zo}{t:Tok}(X:K.In h)(G:h.Ns mainGlobals mg)(e:PySem.W.nsIn K mainGlobals x\some ↑a)(l:K.lookup a\⟨v,y,.func (PySem.W.fnOf x x (dF st) (cD st) (aB st) ↑b kV doc pm d u ct),j⟩)(c:PySem.W.codeIn K u x=true)(k:PySem.W.keepIn K ↑a=true)
 (lt:K.lookup b\⟨A,dd,.seq #[.str f t] n,r⟩)
 (g:∀(kV doc pm:Zt) (d:Zo) (u ct:Zt) (us:Zk),⇑us=⇑Z->∃i:Option Zm->Sem (List (Str×Zt)),bindArgs (PySem.W.fnOf x x (dF st) (cD st) (aB st) ↑b kV doc pm d u ct) ⟨us,[]⟩=seqItems? ↑b >>=i/\i (some #[.str f t])=pure (Z.zip us))
 (z:∀(kV doc pm:Zt) (d:Zo) (u ct:Zt) (us:Zk),⇑us+ 1=⇑Z->∃i:Option Zm->Sem (List (Str×Zt)),bindArgs (PySem.W.fnOf x x (dF st) (cD st) (aB st) ↑b kV doc pm d u ct) ⟨us,[]⟩=seqItems? ↑b >>=i/\i (some #[.str f t])=pure (Z.zip (us++[.str f t]))):
 DDef K mg x st Z a (PySem.W.fnOf x x (dF st) (cD st) (aB st) ↑b kV doc pm d u ct) f:=by
 rwa[⟨⟨_,⟨v,y,kV,doc,pm,d,u,ct,j,2,l,c⟩,k⟩,k,PySem.W.mg_of X G e,λs us o m=>?_,t,λs us o m=>?_⟩]
 ·rw[ag9]at m ⊢;let⟨i,q,p⟩:=g kV doc pm d u ct us m;rwa[BindsTo.of_defaults (T:=b) rfl (o^lt) rfl q p]
 ·let⟨i,q,p⟩:=z kV doc pm d u ct us (by simpa using m);rwa[BindsTo.of_defaults (T:=b) rfl (o^lt) rfl q p]
end
end L2
namespace L2
def FG {c:Nat}{g:Zg}(b:S.Wf):(S.make c z g).stand=S.stand+ 1:=by
 unfold RS.stand;show (List.range (S.made+ 1)).countP _=_;rw[ah9,List.countP_append,List.countP_singleton]
 let e:(S.make c z g).av S.made=S.made:=by
  show (S.grown c z g).av S.made=S.made;rw[fy b,agX rfl]
 rw[show decide ((S.make c z g).av S.made=S.made)=true from aha e,agX rfl]
 congr 1
 rwa[List.countP_congr λa d=>?_]
 have:(S.make c z g).av a=S.av a:=by
  show (S.grown c z g).av a=S.av a;rw[fy b,agT (by have:=ahr.mp d;omega)]
 rw[this]
def Kr (hw:S.Wf)(d:n<S.made):(S.make n z l).by m y=if m=S.made/\y= -z then some n else if m=n/\y=z then some S.made else S.by m y:=by
 unfold RS.make RS.keep;let b:(S.grown n z l).ways.length=S.made+ 1:=by show ⇑(S.ways++[[]])=_;rw[agw,hw.w];rfl
 let c:∀a s,(S.grown n z l).by a s=S.by a s:=λa s=>by unfold RS.by;rw[nH hw]
 show (((S.grown n z l).b6 n z S.made).b6 S.made (-z) n).by m y=_;rw[jv (by show ⇑((S.grown n z l).ways.set n _) > _;rw[agZ,b];omega),jv (by rw[b];omega),c]
def rH (h:e9 S)(g:S.Wf)(c:Nat)(z:Int)(f:Zg):e9 (S.make c z f):=by
 let e:∀b,(S.make c z f).av b=if b=S.made then S.made else S.av b:=λb=>fy g c z f b
 rwa[⟨λb a d=>?_,λb a=>?_,λb a=>?_⟩]
 ·let a:b<S.made+ 1:=a;rw[e]at d;by_cases q:b=S.made
  ·cbv
  ·rw[agT q]at d;rwa[h.a b ∅ d]
 ·let a:b∈S.aY:=a;have:=h.c b a;rw[e,agT ∅];rwa[h.b b a]
 ·let a:b∈S.aY:=a;have:=h.c b a;show b<S.made+ 1;ext
def Ee (d:Dt):Prop:=(∃n,d=.i n)\/∃l,d=.s l
def Ee.low {k:Nat}{d:Dt}(h:Ee d)(a:bR H k q d):bR H n q d:=by
 rcases h with ⟨b,rfl⟩|⟨l,rfl⟩
 ·ext a;rwa[.i]
 ·ext a;rwa[.s]
def OU {k:Nat}{b:List Dt}(h:∀x∈b,Ee x)(a:bR H (k+ 1) q (.t b)):bR H (n+ 1) q (.t b):=by
 cases a with
 |t i g f=>exact .t i g λj q d e c=>(h d (agu c)).low (f j q d e c)
def Dp (d:Dt):Prop:=∃a,d=.t a/\∀x∈a,Ee x\/∃as,x=.t as/\∀y∈as,Ee y
def Dp.low {d:Dt}(h:Dp d)(b:bR H 4 q d):bR H 2 q d:=by
 let⟨k,rfl,h⟩:=h
 cases b with
 |t i g f=>
  rwa[.t i g λj q d e c=>?_]
  let b:=f j q d e c;rcases h d (agu c) with a|⟨as,rfl,a⟩
  ·rwa[a.low b]
  ·rwa[OU a b]
def Ef {a:List Dt}(h:∀x∈a,Ee x):Dp (.t a):=⟨a,rfl,λx b=>.inl (h x b)⟩
def Sg (c:Nat)(z:Int)(n:Nat):Dp (qZ c z n):=Ef λx a=>by
 simp only[agN,ahl,aiM]at a;rcases a with rfl|rfl|rfl|rfl
 ·rwa[.inr ⟨_,rfl⟩]
 all_goals rwa[.inl ⟨_,rfl⟩]
def Sh {e:Za3}{b:Zh}{W:Za2}{row:Dt}(h:One e n B W row b R):Dp row:=by
 cases h with
 |meet=>
  rwa[Ef λx a=>?_]
  simp only[agN,ahl,aiM]at a;rcases a with rfl|rfl|rfl|rfl|rfl
  ·rwa[.inr ⟨_,rfl⟩]
  all_goals rwa[.inl ⟨_,rfl⟩]
 |rule=>
  rwa[⟨12,λx a=>?_⟩];simp only[agN,ahl,aiM]at a;rcases a with rfl|rfl|rfl|rfl
  ·rwa[.inl (.inr ⟨_,rfl⟩)]
  ·rwa[.inl (.inl ⟨_,rfl⟩)]
  ·rwa[.inr ⟨_,rfl,λy d=>?_⟩];let⟨c,_,rfl⟩:=ahp.mp d;rwa[.inl ⟨12⟩]
  ·rwa[.inl (.inl ⟨12⟩)]
def Vz {e:Za3}{c:Zh}{W:Za2}{b:List Dt}(h:Go e n B W b c R):∀x∈b,Dp x:=by
 induction h with
 |nil=>cbv
 |cons o _ d=>
  intro x a;rcases agN.mp a with rfl|a
  ·rwa[Sh o]
  ·rwa[d x a]
section
variable {S S':RS}{R:Za2}{ks:Zg}{pend:Ze}
def kc.gap (l:kc S pend S'):Good S pend R->(∀c z d,R c z d->z∈ks)->eK S R ks->eK S' R ks:=by
 induction l with
 |nil S=>exact λ_ _ h=>h
 |take _ b=>
  intro g a h;rwa[b (g.take a).1 a (h.take g)]
def kc.wr (l:kc S pend S'):Good S pend R->(∀c z d,R c z d->z∈ks)->⇑S.aY<=⇑S.rows->⇑S'.aY<=⇑S'.rows:=by
 induction l with
 |nil S=>exact λ_ _ h=>h
 |take _ f=>
  intro g e h;let⟨i,_,_,_,q⟩:=g.take e;rwa[f i e ?_];rcases q with ⟨_,a,b⟩|⟨_,_,_,_,_,_,_,_,_,_,a,b,_⟩
  ·rw[a,b];rwa[h]
  ·rw[a,b,agw,agw,ahI,ahI];ext
structure YS (S:RS) (L:Nat) (ks:Zg) (R:Za2):Prop where
 g:Good S [] R
 w:e9 S
 k:∀a z b,R a z b->z∈ks
 gi:eK S R ks
 l:S.L=L
 m:0<S.made
 d:∀x∈S.rows,Dp x
 wr:⇑S.aY<=⇑S.rows
def YS.new {L:Nat}{ks:Zg}:YS (RS.new L ks) L ks (λ_ _ _=>False):=by
 rwa[⟨pT L _,⟨λc hc e=>?_,(λc hc=>by ext hc),(λc hc=>by ext hc)⟩,(λ_ _ _ z=>z.elim),Oj L _,2,Nat.one_pos,(λx a=>by ext a),agA _⟩];have:c=0:=by have:c<1:=hc;ext
 subst this;rwa[absurd rfl e]
def YS.make (h:YS S n ks R)(hc:m<S.made)(f:S.av m=m)(g:S.by m z=none)(hz:z∈ks)(d: -z∈ks):YS (S.make m z ks) n ks (fu R m z S.made):=by
 erw[h.g.make hc f g _,rH h.w h.g.wf _ _ _,λa y b r=>?_,h.gi.make h.g hc f g,h.l,Nat.succ_pos _,λx c=>?_]
 ·rcases r with r|⟨_,e,_⟩|⟨_,e,_⟩
  ·rwa[h.k _ _ _ r]
  ·rw[e];rwa[hz]
  ·rw[e];rwa[d]
 ·let c:x∈S.rows++[qZ m z S.made]:=c;rcases agH.mp c with p|p
  ·rwa[h.d x p]
  ·rw[agC.mp p];rwa[Sg^_]
 ·show ⇑S.aY<=⇑(S.rows++[_]);rw[agw];have:=h.wr;ext
def YS.tr {ws:Za3}(t:Tr ws m S S')(o:∀w∈ws,∀z∈w,z∈ks/\-z∈ks)(h:YS S n ks R):∃u,YS S' n ks u/\S'.made=S.made/\(∀a z b,R a z b->u a z b)/\∃A,S'.rows=S.rows++A/\∃E W D F,Go ws m E W A D F:=by
 induction t with
 |refl=>rwa[R,h,2,λ_ _ _ r=>r,[],(ag9 _).symm,1111,.nil (E:=S.aV) (W:=λ_ _ _=>False) λ_ _ _=>Iff.rfl]
 |step M ra j G=>
  rename_i k T which word start f c d z;let⟨C,g,P,O,N,Z,E,W,D,F,g1⟩:=G;let hz:=o word (agu ra.w) z (agu ra.hz)
  let i:∀a y b,fu C c z d a y b->y∈ks:=by
   rintro a y b (r|⟨_,e,_⟩|⟨_,e,_⟩)
   ·rwa[g.k _ _ _ r]
   ·rw[e];rwa[hz.1]
   ·rw[e];rwa[hz.2]
  let gl:=g.g.lay z ra.hc.1 ra.hd.1 (pW k which word start f d).rows;let⟨I,Q,v,l2,_⟩:=j.all gl i ⟨g.w.a,g.w.b,g.w.c⟩;let gp:=j.gap gl i ((g.gi.more λa y b r=>.inl r).rows _);let⟨u,g',X,k',L,H,s⟩:=Mf (Tr.step (Tr.refl k) ra j) (R:=C) o g.g g.w g.k;let⟨Y,V,w0,U,p,J,l⟩:=Mf (Tr.step M ra j) (R:=R) o h.g h.w h.k;rwa[⟨_,⟨I,Q,i,gp,l2.trans g.l,[v]▸g.m,λx B=>?_,j.wr gl i (by show ⇑k.aY<=⇑(k.rows++[_]);rw[agw];have:=g.wr;omega)⟩,v.trans P,λa y b r=>.inl (O _ _ _ r),p,J,1111,l⟩];rw[H]at B;rcases agH.mp B with q|q
  ·rwa[g.d x q]
  ·rwa[Vz s x q]
end
def CI.make {bs:List (Nat×Zg×Nat)}{gs:Zf}{W:bE}(h:CI S bs gs [] W fL none)(d:Good S [] R)(hc:n<S.made)(B:S.av n=n)(F:S.by n z=none)(i:∀b∈bs,b.2.2<S.made)(g:Zg):CI (S.make n z g) bs gs [] W (λr s=>r=n/\s=z) none:=by
 let k:=d.make hc B F g;let f:S.made<=(S.make n z g).made:=aiN _;let lt:=Later.of d k ig f;let el:∀b,b<S.made->(S.make n z g).av b=S.av b:=λb c=>(fy d.wf n z g b).trans (agT ∅)
 rwa[⟨h.len,λa u q=>?_,λa b G v o=>?_,(λa j=>by ext j),λr s a q=>?_,h.sl,h.bd⟩]
 ·let⟨A,t,x⟩:=h.al a u q;rwa[A,t.later lt f,x]
 ·let c:=i b (agu o);rw[el _ c];rcases h.de a b G v o with w|w
  ·rwa[.inl w]
  ·by_cases e:S.av b.2.2=b.2.2
   ·right
    have:=lt.wk w;rw[el _ c,e]at this;rwa[this]
   ·rwa[.inl e]
 ·let⟨l,D,H,p,m,j,C,w⟩:=h.en r s a q;erw[l,D,H,p,agY m f,j,C];rcases w with ⟨E,I⟩|w
  ·by_cases e:l=n/\s=z
   ·rwa[.inr e]
   ·left
    rw[el _ m,Kr d.wf hc,agT (λy=>by omega),agT e];rwa[E,I]
  ·rwa[w.elim]
def pw (s:Int)(n:Nat):Zg:=List.replicate n s
def FH (h:(pw z n)[m]?\y):m<n/\y=z:=by
 unfold pw at h;rw[List.getElem?_replicate]at h;split at h
 ·rwa[3,(Za0 h).symm]
 ·ext h
structure Pth (S:RS) (P:Nat->Int) (lo:Int):Prop where
 el:∀c,c<S.made->S.av c=c
 rg:∀c,c<S.made->lo<=P c/\P c<lo+ S.made
 on:∀t:Int,lo<=t->t<lo+ S.made->∃c,c<S.made/\P c=t
 inj:∀a b,a<S.made->b<S.made->P a=P b->a=b
 by_:∀a z b,S.by a z=some b->(z=1\/z= -1)/\P b=P a+ z
 ch:∀a b,a<S.made->b<S.made->P b=P a+ 1->S.by a 1=some b
section
variable {S:RS}
structure Rng (S:RS) (G:Int->Nat) (M:Nat):Prop where
 st:∀t,S.by (G t) 1=some (G (t+ 1))
 pm:∀t,G (t+ M)=G t
end
def Per (G:Int->Nat)(k:Int):Prop:=∀t,G (t+ k)=G t
def UR (d:Nat)(p:Nat)(z:Int)(q:Nat):Prop:=p<d/\q<d/\(d:Int)∣(p:Int)+ z - q
end L2
namespace L2
open PySem PySem.Spec PyProof.Rows
inductive Si (K:Za1) (xs:Zb) (H:Hp) (Q:VK):Prop
 |mk (l:Zs) (ns:Zg):xs=[↑l]->aH K H l (ao ns)->⇑ns<64->(∀D ms,H D=none->ms.Perm ns->ms.Pairwise (·<= ·)->Q ↑D (upd H D (.lst (ao ms))))->Si K xs H Q
inductive OV (x:V) (vs:Zb) (H:Hp) (Q:VK):Prop
 |mk (a:Zs) (ns:Zg) (k:Int):x=↑a->vs=[.int k]->H a\.lst (ao ns)->Q (.int (ns.count k:Nat)) H->OV x vs H Q
abbrev Def.Ok {K:Za1} {mg:Str->Zl} {x:Str} {st:Stmt} {ps:Zp} {f:Zs} {fd:FuncData} (_:Def K mg x st ps f fd) (P:Program) (w:World) (base:Heap) (k:Nat) (sp:Sp):Prop:=dq P w K mg base (df P w) k f fd ps sp
abbrev MDef.Ok {K:Za1} {C:Zs} {x q:Str} {st:Stmt} {ps:Zp} {f:Zs} {fd:FuncData} (_:MDef K C x q st ps f fd) (mg:Str->Zl) (P:Program) (w:World) (base:Heap) (k:Nat) (sp:Sp):Prop:=dq P w K mg base (df P w) k f fd ps sp
section
variable {P:Program}{w:World}{K:Za1}{mg:Str->Zl}{base:Heap}{x q:Str}{st:Stmt}{ps N:Zp}{f C:Zs}{fd:FuncData}{k:Nat}{sp:Sp}
theorem Def.on (D:Def K mg x st ps f fd)(S:aS N ps (aB st))
 (a:∀(c:Zt) (A:Around) (outer:Zq) (s:Zu) (H:Hp) (b:Zb) (Q:VK) (E:XK),cx k (A.deeper (envOfC x (aB st) ↥s f c))->sp b H Q E->
  ∃t,iL (cy (df P w) P w K mg base N x (aB st) f c A outer s H E).tO (cD st) t/\t { nx:=λ_ d=>Q .non d,rt:=Q } (start N b) H) (len:∀b H Q E,sp b H Q E->⇑b=⇑ps:=by intro _ _ _ _ h;rcases h with ⟨⟩;subst_vars;rfl):D.Ok P w base (k+ 1) sp:=D.F.okN S len a
theorem MDef.on (D:MDef K C x q st ps f fd)(S:aS N ps (aB st))
 (a:∀(c:Zt) (A:Around) (outer:Zq) (s:Zu) (H:Hp) (b:Zb) (Q:VK) (E:XK),cx k (A.deeper (envOfC q (aB st) ↥s f c))->sp b H Q E->
  ∃t,iL (cy (df P w) P w K mg base N q (aB st) f c A outer s H E).tO (cD st) t/\t { nx:=λ_ d=>Q .non d,rt:=Q } (start N b) H) (len:∀b H Q E,sp b H Q E->⇑b=⇑ps:=by intro _ _ _ _ h;rcases h with ⟨⟩;subst_vars;rfl):D.Ok mg P w base (k+ 1) sp:=D.F.okN S len a
end
section
variable {X:Cx}{x q m:Str}{st:Stmt}{ps:Zp}{f C:Zs}{fd:FuncData}{k j i:Nat}{sp:Sp}{e o:Expr}{es:Zr}{t:TA}{ta te:TE}{p pos pos' apos:Pos}
def pc (D:Def X.K X.mg x st ps f fd)(F:dq X.prog X.w X.K X.mg X.base (df X.prog X.w) k f fd ps sp)(g:cx j X.A)(d:PA X (e::es) t)(hj:k<=j:=by decide)(c:Gl X x:=by rfl)(b:(x==("__debug__":Str))=false:=by decide)(h:starEach (e::es) X.env=(false,eval e X.env)::starEach es X.env:=by rfl)(a:(backTo pos (starEach es X.env)).any (·.1)=false:=by rfl):
 PE X (.Call (.Name x p) (e::es) [] pos) (LK sp [] (λ_ _ _=>False) t):=xu F (g.mono hj) c D.m D.F.kp D.b .nil gj d b h a
def pm {pl:Sem Bool}(h:PE X o ta)(c:jZ X.K C)(D:MDef X.K C m q st ps f fd)(F:dq X.prog X.w X.K X.mg X.base (df X.prog X.w) k f fd ps sp)(l:cx j X.A)(g:PA X (e::es) t)(n:k<=j:=by decide)(a:starEach (e::es) X.env=(false,eval e X.env)::starEach es X.env:=by rfl)(b:(backTo pos (starEach es X.env)).any (·.1)=false:=by rfl)
 (r:eval (.Call (.Attribute o m apos) (e::es) [] pos) X.env=(do
  let d <-eval o X.env
  standAt apos.atName
  let (f,first) <-holding [d] (getMethod d m pl)
  callWith pos f first (backTo pos (starEach (e::es) X.env)) (backToKw pos (keywordEach [] X.env))):=by rfl):
 PE X (.Call (.Attribute o m apos) (e::es) [] pos) (ku C m sp [] (λ_ _ _=>False) ta t):=j4 h c D.m F (l.mono n) D.b .nil gj g a b r
def vR {pl:Sem Bool}(b:PE X o ta)(c:jZ X.K C)(D:MDef X.K C m q st ps f fd)(F:dq X.prog X.w X.K X.mg X.base (df X.prog X.w) k f fd ps sp)(d:cx j X.A)(g:k<=j:=by decide)
 (h:eval (.Call (.Attribute o m apos) [] [] pos) X.env=(do
  let a <-eval o X.env
  standAt apos.atName
  let (f,first) <-holding [a] (getMethod a m pl)
  callWith pos f first (backTo pos (starEach [] X.env)) (backToKw pos (keywordEach [] X.env))):=by rfl):
 PE X (.Call (.Attribute o m apos) [] [] pos) (ku C m sp [] (λ_ _ _=>False) ta j3):=Jq b c D.m F (d.mono g) D.b .nil gj h
def bD (i:Nat)(h:X.N.Nodup)(d:PE X e te)(b:X.N[i]?\x:=by rfl)(a:Loc X.env.scope x:=by trivial)(c:swapsWith e (some (.Name x pos')) pos.line X.env=pure false:=by rfl)(g:X.fn x=true\/X.env.scope.names.lookup x=some .local:=by trivial):
 PS X (.Assign [.Name x pos'] e pos) (xt te (nk i)):=Qc h b a d c g
def dB (i:Nat)(d:X.N.Nodup)(b:X.N[i]?\x:=by rfl)(a:Loc X.env.scope x:=by trivial)(c:X.fn x=true\/X.env.scope.names.lookup x=some .local:=by trivial):PG X (.Name x pos) (nk i):=Du d b a c
end
section
variable {X:Cx}
inductive Mt (x:V) (y:V) (H:Hp) (Q:VK):Prop
 |mk (a b:Zs) (xs:Zb):x=↑a->y=↑b->H a\.lst xs->H b\.lst []->Q (.bl (!decide (⇑xs=0))) H->Mt x y H Q
def OW (i:X.A.units<cLine):fQ X (compareOp .NotEq) Mt:=by
 intro f s D H x y v u Q I o m h;let⟨a,b,xs,rfl,rfl,t,B,q⟩:=h;ext o;ext m;let⟨d,n,g,_⟩:=I.list (aH.of t);let⟨c,z,k,_⟩:=I.list (aH.of B);let C:=⇑n;let p:=⇑z;by_cases l:⇑xs=0
 ·let A:d=[]:=ahC ∅;let r:c=[]:=ahC (by rw[<-p];rfl);subst A r;rw[aha l]at q;rwa[SeqAt.RcNeAt.lists (e:=λ_=>true) g.isList k.isList rfl i (λj w _=>by simp at w) X.prog X.w X.xe _ ⟨.bl false,H,I,2,q⟩]
 ·rw[ahu l]at q;rwa[ajs g.isList k.isList (by cbv) i X.prog X.w X.xe _ ⟨.bl true,H,I,2,q⟩]
end
end L2
namespace M11
def flip (k:Nat):Nat:=if k % 2=0 then k+ 1 else k - 1
def nx (T:Za3)(k i:Nat):Nat:=((T.getD i []).getD k 0).toNat
structure Tab (L:Nat) (T:Za3):Prop where
 pos:1<=⇑T
 top:⇑T<=300
 let1:1<=L
 aff:L<=40
 row:∀(i:Nat) (r:Zg),T[i]?\r->⇑r=2* L
 val:∀i k,i<⇑T->k<2* L->∃r:Zg,T[i]?\r/\r[k]?\((nx T k i:Nat):Int)
 lt:∀i k,i<⇑T->k<2* L->nx T k i<⇑T
 back:∀i k,i<⇑T->k<2* L->nx T (flip k) (nx T k i)=i
noncomputable def pl (s:Int):Nat:=if 0<s then 2* s.natAbs - 2 else 2* s.natAbs - 1
def walk (T:Za3)(w:Zg)(i:Nat):Nat:=w.foldl (λi s=>nx T (pl s) i) i
def fW (L:Nat)(w:Zg):Prop:=∀s∈w,s≠0/\s.natAbs<=L
def back (w:Zg):Zg:=w.reverse.map λz=>-z
def FI (h:z≠0/\z.natAbs<=n):pl z<2* n:=by
 unfold pl;split <;> ext
def OX (h:z≠0):pl (-z)=flip (pl z):=by
 unfold pl flip;rw[Int.natAbs_neg];by_cases a:0<z
 ·rw[agX a,agT (show ¬ 0 < -z by omega),agX ∅];ext
 ·rw[agT a,agX (show 0 < -z by omega),agT ∅];ext
structure Pm (p:Nat) (r:Zg):Prop where
 len:⇑r=p
 nd:r.Nodup
 rg:∀z∈r,0<=z/\z<(p:Int)
def Pm.at {r:Zg}(h:Pm n r){i:Nat}(b:i<n):∃j:Nat,r[i]?\(j:Int)/\j<n:=by
 let a:i<⇑r:=by rw[h.len];rwa[b]
 have:=h.rg r[i] (List.getElem_mem a);rwa[r[i].toNat,by rw[agv a,show ((r[i].toNat:Nat):Int)=r[i] by ext],3]
def ae2 (L:Nat)(f:Nat->Int->Int)(come:Zg)(x:Int)(r:Zg)(m:Nat):Prop:=⇑r=m/\∀k,k<m->∃j:Nat,r[k]?\(j:Int)/\come[j]?\(f k x)
theorem kP:∀(n:Nat) (l:Zh),l.Nodup->(∀x∈l,x<n)->⇑l<=n
 |0,[],_,_=>agA _
 |0,a::l,_,h=>absurd (h a (agM ..)) ∅
 |n+ 1,l,b,h=>by
  by_cases c:n∈l
  ·have:=kP n (l.erase n) (b.erase n) (λx d=>by
    cbv)
   rw[ai1 c]at this;ext
  ·have:=kP n l b (λx d=>by
    cbv)
   ext
def vS (f:l.Nodup)(h:∀x∈l,0<=x/\x<(n:Int)):⇑l<=n:=by
 let j:(l.map Int.toNat).Nodup:=by
  rwa[aih.mpr (ajK ?_ f)];intro a b d g c z;have:=h a d;have:=h b g;rwa[c ∅]
 have:=kP n (l.map Int.toNat) j (λx i=>by
  let⟨y,e,rfl⟩:=ahp.mp i;have:=h y e;omega)
 rw[agy]at this;rwa[this]
def Pm.Sj {r:Zg}(h:Pm n r){x:Nat}(f:x<n):∃i:Nat,r[i]?\(x:Int)/\i<n:=by
 let b:(x:Int)∈r:=by
  rwa[ajv λb=>?_]
  have:=vS (n:=n) (l:=(x:Int)::r) (ahb.mpr ⟨b,h.nd⟩) (λy c=>by
   rcases agN.mp c with e|c
   ·rw[e];ext
   ·rwa[h.rg y c])
  rw[agV,h.len]at this;ext
 let⟨i,d,e⟩:=ais.mp b;rwa[i,by rw[agv d,e],by rw[<-h.len];rwa[d]]
def ae3 (p:Nat)(r t:Zg):Prop:=⇑t=p/\∀k j:Nat,r[k]?\(j:Int)->t[j]?\(k:Int)
def ae4 (p:Nat)(r t:Zg)(n:Nat):Prop:=⇑t=p/\∀k j:Nat,k<n->r[k]?\(j:Int)->t[j]?\(k:Int)
end M11
namespace M12
open M11
def Fc (W:Nat)(E:Zg)(N:Nat):Prop:=(∀z∈E,0<=z/\z<(N:Int))/\∀j:Nat,0<j->j<N->∃p:Nat,p<j* W/\E[p]?\(j:Int)/\∀(q:Nat) (z:Int),q<p->E[q]?\z->z<(j:Int)
noncomputable def st (k:Nat):Int:=if k % 2=0 then ((k / 2+ 1:Nat):Int) else -((k / 2+ 1:Nat):Int)
def zO (k:Nat):pl (st k)=k:=by
 unfold pl st;by_cases h:k % 2=0
 ·rw[agX h,agX ∅];ext
 ·rw[agT h,agT ∅];ext
def VA {k:Nat}(h:k<2* n):st k≠0/\(st k).natAbs<=n:=by
 unfold st;split <;> ext
def Sl:Zh->Zh->Prop
 |a::u,b::v=>a<b\/(a=b/\Sl u v)
 |_,_=>False
def abz (u v:Zh):Prop:=⇑u<⇑v\/(⇑u=⇑v/\Sl u v)
def Lw (L:Nat)(T:Za3)(ws:List Zh):Prop:=⇑ws=⇑T/\ws[0]?\[]/\
 ∀(j p:Nat),0<j->j<⇑T->T.flatten[p]?\(j:Int)->(∀(q:Nat) (z:Int),q<p->T.flatten[q]?\z->z<(j:Int))->∃u,ws[p / (2* L)]?\u/\ws[j]?\(u++[p % (2* L)])
end M12
namespace M17
def it (f:Nat->Nat):Nat->Nat->Nat
 |0,x=>x
 |n+ 1,x=>f (it f n x)
theorem vT (f:Nat->Nat)(m:Nat):∀(n x:Nat),it f (m+ n) x=it f n (it f m x)
 |0,x=>rfl
 |n+ 1,x=>ahT f (vT f m n x)
theorem sY {f:Nat->Nat}(h:∀x,x<m->f x<m):∀(n x:Nat),x<m->it f n x<m
 |0,x,a=>a
 |n+ 1,x,a=>h _ (sY h n x a)
theorem HL {f:Nat->Nat}(h:∀x,x<m->f x<m)(c:∀x y,x<m->y<m->f x=f y->x=y):∀(n x y:Nat),x<m->y<m->it f n x=it f n y->x=y
 |0,x,y,_,_,e=>e
 |n+ 1,x,y,b,a,e=>HL h c n x y b a (c _ _ (sY h n x b) (sY h n y a) e)
theorem mI {f:Nat->Nat}{x:Nat}(h:it f n x=x):∀k,it f (n* k) x=x
 |0=>rfl
 |k+ 1=>by
  rw[Nat.mul_succ,vT,mI h k,h]
def ring {f:Nat->Nat}{x:Nat}(h:∀x,x<n->f x<n)(l:∀x y,x<n->y<n->f x=f y->x=y)(k:x<n):∃c,1<=c/\c<=n/\it f c x=x:=by
 rwa[ajv λr=>?_]
 let ne:∀i j,i<j->j<=n->it f i x≠it f j x:=λi j o t e=>by
  rwa[r ⟨j - i,335⟩];let m:it f j x=it f i (it f (j - i) x):=by rw[<-vT,show j - i+ i=j by ext]
  rw[m]at e;rwa[(HL h l i x _ k (sY h _ x k) e).symm]
 let p:((List.range (n+ 1)).map λi=>((it f i x:Nat):Int)).Nodup:=by
  rw[List.nodup_iff_pairwise_ne,aih];rwa[ajK (R:=λa b=>a<b) (λu s g e=>?_) ajY];have:=ahr.mp s;rwa[ne _ _ g ∅ ∅]
 have:=M11.vS (n:=n) p λz q=>by
  let⟨i,_,rfl⟩:=ahp.mp q;have:=sY h i x k;ext
 cbv
def VB {f:Nat->Nat}(i:n<=6)(h:∀x,x<n->f x<n)(b:∀x y,x<n->y<n->f x=f y->x=y)(x:Nat)(a:x<n):it f 60 x=x:=by
 let⟨c,g,j,e⟩:=ring h b a;let d:c=1\/c=2\/c=3\/c=4\/c=5\/c=6:=∅
 rcases d with rfl|rfl|rfl|rfl|rfl|rfl
 ·rwa[mI e 60]
 ·rwa[mI e 30]
 ·rwa[mI e 20]
 ·rwa[mI e 15]
 ·rwa[mI e 12]
 ·rwa[mI e 10]
end M17
namespace M24
noncomputable def add (come:Zh)(y:Nat):Zh:=if y∈come then come else come++[y]
def jg (f:Nat->Nat->Nat)(x:Nat)(come:Zh)(k:Nat):Zh:=(List.range k).foldl (λc i=>add c (f i x)) come
def jy (f:Nat->Nat->Nat)(x:Nat)(come:Zh)(k:Nat):jg f x come (k+ 1)=add (jg f x come k) (f k x):=by
 unfold jg;rw[ah9,aiZ];rfl
def bB (f:Nat->Nat->Nat)(k a:Nat):Nat->Zh
 |0=>[a]
 |n+ 1=>match (bB f k a n)[n]? with
  |some x=>jg f x (bB f k a n) k
  |none=>bB f k a n
def A7 (f:Nat->Nat->Nat)(k a:Nat):bB f k a 0=[a]:=rfl
def fM {f:Nat->Nat->Nat}{k x:Nat}(h:(bB f k n m)[m]?\x):bB f k n (m+ 1)=jg f x (bB f k n m) k:=by
 rw[bB,h]
def jh {f:Nat->Nat->Nat}{k:Nat}(h:(bB f k n m)[m]?=none):bB f k n (m+ 1)=bB f k n m:=by
 rw[bB,h]
def OY (come:Zh)(y:Nat):∃t,add come y=come++t:=by
 unfold add;split
 ·rwa[[],(ag9 _).symm]
 cbv
theorem uL (f:Nat->Nat->Nat)(x:Nat)(come:Zh):∀k,∃t,jg f x come k=come++t
 |0=>⟨[],(ag9 _).symm⟩
 |k+ 1=>by
  let⟨t,a⟩:=uL f x come k;let⟨u,b⟩:=OY (jg f x come k) (f k x);rwa[t++u,by rw[jy,b,a,ahq]]
def A8 (f:Nat->Nat->Nat)(k a n:Nat):∃t,bB f k a (n+ 1)=bB f k a n++t:=by
 cases h:(bB f k a n)[n]? with
 |none=>rwa[[],by rw[jh h,ag9]]
 |some x=>let⟨t,b⟩:=uL f x (bB f k a n) k;rwa[t,by rw[fM h,b]]
def OZ {come:Zh}:m∈add come n↔m∈come\/m=n:=by
 unfold add
 cbv
def Sn {come:Zh}(h:come.Nodup)(y:Nat):(add come y).Nodup:=by
 unfold add
 cbv
theorem sZ {f:Nat->Nat->Nat}{x:Nat}{come:Zh}(h:come.Nodup):∀k,(jg f x come k).Nodup
 |0=>h
 |k+ 1=>[jy]▸Sn (sZ h k) _
theorem kQ (f:Nat->Nat->Nat)(k a:Nat):∀n,(bB f k a n).Nodup
 |0=>by rw[A7];simp
 |n+ 1=>by
  cases h:(bB f k a n)[n]? with
  |none=>rw[jh h];rwa[kQ f k a n]
  |some x=>rw[fM h];rwa[sZ (kQ f k a n) k]
theorem ji {f:Nat->Nat->Nat}{x:Nat}{come:Zh}{z:Nat}:∀{k:Nat},z∈jg f x come k↔z∈come\/∃i,i<k/\z=f i x
 |0=>⟨.inl,λq=>q.elim id λζ=>by let⟨i,a,_⟩:=ζ;rwa[absurd a (Nat.not_lt_zero _)]⟩
 |k+ 1=>by
  rw[jy,OZ,ji (k:=k)]
  cbv
theorem l0 {f:Nat->Nat->Nat}{k x0:Nat}{P:Nat->Prop}(c:P x0)(b:∀x i,P x->i<k->P (f i x)):∀n,∀z∈bB f k x0 n,P z
 |0,z,a=>by rw[A7,agC]at a;rw[a];rwa[c]
 |n+ 1,z,a=>by
  cases h:(bB f k x0 n)[n]? with
  |none=>rw[jh h]at a;rwa[l0 c b n z a]
  |some x=>
   rw[fM h,ji]at a;rcases a with a|⟨i,d,rfl⟩
   ·rwa[l0 c b n z a]
   ·rwa[b _ _ (l0 c b n x (agu h)) d]
theorem lP {f:Nat->Nat->Nat}{k:Nat}:∀{n j x i:Nat},j<n->(bB f k m n)[j]?\x->i<k->f i x∈bB f k m n
 |n+ 1,j,x,i,l,b,c=>by
  cases h:(bB f k m n)[n]? with
  |none=>
   rw[jh h]at b ⊢;let p:=List.getElem?_eq_none_iff.mp h;let o:=(agx.mp b).1;rwa[lP (show j<n by omega) b c]
  |some y=>
   let⟨t,d⟩:=uL f y (bB f k m n) k;let g:=(agx.mp h).1
   let a:(bB f k m n)[j]?\x:=by
    rw[fM h,d,agF ∅]at b;rwa[b]
   by_cases e:j=n
   ·rw[e,h]at a;rw[fM h,ji];rwa[.inr ⟨i,c,by cbv⟩]
   ·rw[fM h,ji];rwa[.inl (lP (show j<n by omega) a c)]
theorem uM {f:Nat->Nat->Nat}{k:Nat}(h:⇑(bB f k n i)=i):∀m,bB f k n (i+ m)=bB f k n i
 |0=>rfl
 |m+ 1=>by
  let a:=uM h m;rw[<-Nat.add_assoc,jh ([a]▸List.getElem?_eq_none_iff.mpr ∅),a]
def Eg {f:Nat->Nat->Nat}{k:Nat}(h:⇑(bB f k n m)=m)(a:⇑(bB f k n i)=i):m=i:=by
 rcases ajJ m i with q|q
 ·have:=uM h (i - m);rw[show m+ (i - m)=i by ext]at this;rw[this,h]at a;rwa[a]
 ·have:=uM a (m - i);rw[show i+ (m - i)=m by ext]at this;rw[this,a]at h;rwa[h.symm]
section
variable {f g:Nat->Nat->Nat}{φ:Nat->Nat}{P:Nat->Prop}{k:Nat}
def O6 {come:Zh}(inj:∀a b,P a->P b->φ a=φ b->a=b)(d:∀x∈come,P x)(c:P n):(add come n).map φ=add (come.map φ) (φ n):=by
 unfold add
 cbv
theorem A9 (inj:∀a b,P a->P b->φ a=φ b->a=b)(cl:∀x i,P x->i<k->P (f i x))(d:∀x i,P x->i<k->φ (f i x)=g i (φ x)){come:Zh}{x:Nat}(e:∀x∈come,P x)(c:P x):∀m,m<=k->(jg f x come m).map φ=jg g (φ x) (come.map φ) m
 |0,_=>rfl
 |m+ 1,l=>by
  let h:=A9 inj cl d e c m ∅;rw[jy,jy,<-h,<-d x m c ∅];rwa[O6 inj (λz j=>?_) (cl x m c ∅)];rcases ji.mp j with q|⟨i,n,rfl⟩
  ·rwa[e z q]
  ·rwa[cl x i c (by omega)]
theorem Eh (inj:∀a b,P a->P b->φ a=φ b->a=b)(cl:∀x i,P x->i<k->P (f i x))(e:∀x i,P x->i<k->φ (f i x)=g i (φ x)){x0:Nat}(j:P x0):∀n,(bB f k x0 n).map φ=bB g k (φ x0) n
 |0=>rfl
 |n+ 1=>by
  let c:=Eh inj cl e j n;let l:=l0 j cl n
  cases h:(bB f k x0 n)[n]? with
  |none=>
   let d:(bB g k (φ x0) n)[n]?=none:=by rw[<-c,agR,h];rfl
   rw[jh h,jh d,c]
  |some x=>
   let d:(bB g k (φ x0) n)[n]?\(φ x):=by rw[<-c,agR,h];rfl
   rw[fM h,fM d,<-c];rwa[A9 inj cl e l (l x (agu h)) k (agA _)]
end
def ix (come:Zh)(y:Nat):Nat:=come.findIdx λz=>z==y
theorem vU:∀{come:Zh} {i y:Nat},come.Nodup->come[i]?\y->ix come y=i
 |[],i,y,_,h=>by simp at h
 |a::l,0,y,_,h=>by
  let e:a=y:=Za0 h;unfold ix
  cbv
 |a::l,i+ 1,y,d,h=>by
  rw[List.getElem?_cons_succ]at h;let f:=agu h
  let b:(a==y)=false:=by
   rw[agS];intro e;rwa[(ahb.mp d).1 (by cbv)]
  let c:ix l y=i:=vU (ahb.mp d).2 h;unfold ix at c ⊢;rw[List.findIdx_cons,b];show l.findIdx _+ 1=i+ 1;rw[c]
def HM {come:Zh}(b:(come++B).Nodup)(h:n∈come):ix (come++B) n=ix come n:=by
 let⟨i,a⟩:=ahc h;let c:(come++B)[i]?\n:=by rw[agF (agx.mp a).1];rwa[a]
 rw[vU b c,vU (ahD.mp b).1 a]
def Sq {a:Nat->Nat}{come:Zh}(d:come.Nodup)(c:(come.map a).Nodup)(h:n∈come):ix (come.map a) (a n)=ix come n:=by
 let⟨i,b⟩:=ahc h;rw[vU d b,vU c (by rw[agR,b];rfl)]
def lz (f:Nat->Nat->Nat)(k:Nat)(come:Zh):Za3:=come.map λx=>(List.range k).map λi=>((ix come (f i x):Nat):Int)
def Ks {f g:Nat->Nat->Nat}{a:Nat->Nat}{k:Nat}{come:Zh}(h:come.Nodup)(d:(come.map a).Nodup)(j:∀x∈come,∀i,i<k->f i x∈come)(e:∀x∈come,∀i,i<k->a (f i x)=g i (a x)):lz g k (come.map a)=lz f k come:=by
 unfold lz;rw[ahe];rwa[aht λx c=>?_]
 rwa[aht λi b=>?_]
 let b:=ahr.mp b;show ((ix (come.map a) (g i (a x)):Nat):Int)=_;rw[<-e x c i b,Sq h d (j x c i b)]
def Sr {come:Zh}(h:n∉come):ix (come++[n]) n=⇑come:=by
 induction come with
 |nil=>unfold ix;rw[ajf,List.findIdx_cons];simp
 |cons a l c=>
  rw[agN,not_or]at h;let b:(a==n)=false:=by rw[agS];rwa[λe=>h.1 e.symm]
  have:=c h.2;unfold ix at this ⊢
  cbv
def ou (f:Nat->Nat->Nat)(k a n:Nat):Za3:=((bB f k a n).take n).map λx=>(List.range k).map λi=>((ix (bB f k a n) (f i x):Nat):Int)
def HN {f:Nat->Nat->Nat}{k x:Nat}(h:(bB f k n m)[m]?\x):ou f k n (m+ 1)=ou f k n m++[(List.range k).map λi=>((ix (bB f k n (m+ 1)) (f i x):Nat):Int)]:=by
 let⟨t,e⟩:=A8 f k n m;let b:=kQ f k n (m+ 1);let q:=(agx.mp h).1
 let l:(bB f k n (m+ 1)).take (m+ 1)=(bB f k n m).take m++[x]:=by
  rw[e,List.take_append_of_le_length ∅,aix,h];rfl
 unfold ou;rw[l,ag6]
 congr 1
 rwa[aht λc p=>?_]
 rwa[aht λi o=>?_]
 let⟨j,d⟩:=ahc p
 let a:j<m:=by
  have:=(agx.mp d).1;rw[ag8]at this;ext
 rw[ajF a]at d;let g:=lP a d (ahr.mp o);rw[e]at b ⊢;rw[HM b g]
def Kt {f:Nat->Nat->Nat}{k:Nat}(h:⇑(bB f k n m)=m):ou f k n m=lz f k (bB f k n m):=by
 unfold ou lz
 cbv
end M24
namespace K40
open PySem L2
noncomputable def top (i:Nat):Stmt:=PySem.Challenge.pw_cosetyard_k40_whole_orders_meet.main.body.getD i (.Pass ⟨(0),(0),(0),(0)⟩)
abbrev Ba:Stmt:=top 1
abbrev oR:Stmt:=top 2
abbrev vV:Stmt:=top 10
abbrev vW:Stmt:=top 12
abbrev vX:Stmt:=top 13
abbrev vY:Stmt:=top 18
abbrev vZ:Stmt:=top 19
abbrev v7:Stmt:=top 22
abbrev Mu:Stmt:=top 23
abbrev HP:Stmt:=top 25
abbrev oS:Stmt:=top 27
abbrev tZ:Stmt:=top 29
abbrev oT:Stmt:=top 30
abbrev rJ:Stmt:=top 31
abbrev qB:Stmt:=top 32
abbrev rK:Stmt:=top 33
abbrev ua:Stmt:=top 34
abbrev qC:Stmt:=top 35
abbrev mJ:Stmt:=top 36
abbrev rL:Stmt:=top 37
abbrev qD:Stmt:=top 38
abbrev ub:Stmt:=top 39
abbrev mK:Stmt:=top 40
abbrev Mw:Stmt:=top 41
abbrev mM:Stmt:=inClass (top 3) 0
abbrev nL:Stmt:=inClass (top 3) 1
abbrev uc:Stmt:=inClass (top 3) 2
abbrev kS:Stmt:=inClass (top 4) 0
abbrev jz:Stmt:=inClass (top 4) 1
abbrev nM:Stmt:=inClass (top 4) 2
abbrev mO:Stmt:=inClass (top 4) 3
abbrev oU:Stmt:=inClass (top 4) 4
abbrev nS:Stmt:=inClass (top 4) 5
abbrev oV:Stmt:=inClass (top 4) 6
abbrev qE:Stmt:=inClass (top 4) 7
abbrev oW:Stmt:=inClass (top 4) 8
abbrev oX:Stmt:=inClass (top 4) 9
abbrev kT:Stmt:=inClass (top 4) 10
abbrev kU:Stmt:=inClass (top 8) 0
abbrev ud:Stmt:=inClass (top 15) 0
abbrev jP:Stmt:=inClass (top 16) 0
abbrev rM:Stmt:=inClass (top 17) 0
abbrev mP:Stmt:=inClass (top 21) 0
abbrev rN:Stmt:=inClass (top 21) 1
abbrev uf:Stmt:=inClass (top 21) 2
abbrev wc:Stmt:=inClass (top 21) 3
abbrev qF:Stmt:=inClass (top 21) 4
abbrev mQ:Stmt:=inClass (top 21) 5
abbrev qG:Stmt:=inClass (top 21) 6
abbrev lG:Stmt:=inClass (top 21) 7
abbrev rO:Stmt:=inClass (top 21) 8
abbrev nT:Stmt:=inClass (top 21) 9
abbrev jQ:Stmt:=inClass (top 21) 10
abbrev nU:Stmt:=inClass (top 21) 11
set_option genInjectivity false in
structure qH where
 Ku:Zs
 Kv:FuncData
 xP:Zs
 xQ:FuncData
 FJ:Zs
 FK:FuncData
 FL:Zs
 FN:FuncData
 FP:Zs
 FQ:FuncData
 wg:Zs
 wj:FuncData
 FT:Zs
 FU:FuncData
 FV:Zs
 FW:FuncData
 tf:Zs
 ti:FuncData
 HQ:Zs
 HR:FuncData
 xR:Zs
 xS:FuncData
 CW:Zs
 CY:FuncData
 xT:Zs
 xU:FuncData
 Bb:Zs
 Bc:FuncData
 zp:Zs
 zq:FuncData
 Bd:Zs
 Be:FuncData
 CZ:Zs
 C0:FuncData
 zr:Zs
 zt:FuncData
 uN:Zs
 uO:FuncData
 Bf:Zs
 Bg:FuncData
 zu:Zs
 zv:FuncData
 C1:Zs
 C2:FuncData
 uP:Zs
 uQ:FuncData
 VC:Zs
 VD:FuncData
 mR:Zs
 uR:FuncData
 wm:Zs
 wq:FuncData
 C3:Zs
 C4:FuncData
 kX:Zs
 rP:FuncData
 oY:Zs
 o6:FuncData
 wu:Zs
 wx:FuncData
 uS:Zs
 uT:FuncData
 xV:Zs
 xW:FuncData
 wy:Zs
 wz:FuncData
 xX:Zs
 xY:FuncData
 zx:Zs
 zy:FuncData
 xZ:Zs
 x6:FuncData
 x8:Zs
 ya:FuncData
 rQ:Zs
 rS:FuncData
 rT:Zs
 rV:FuncData
 C5:Zs
 C6:FuncData
 nV:Zs
 jR:FuncData
 Bh:Zs
 Bi:FuncData
 mS:Zs
 uU:FuncData
 Bj:Zs
 Bk:FuncData
 C7:Zs
 C8:FuncData
 FX:Zs
 FY:FuncData
 zz:Zs
 zA:FuncData
 uV:Zs
 uW:FuncData
 zB:Zs
 zC:FuncData
 tu:Zs
 tD:FuncData
 Bl:Zs
 Bm:FuncData
 wA:Zs
 wB:FuncData
 p5:Zs
 p6:FuncData
 wC:Zs
 wD:FuncData
 ky:Zs
 nX:Zs
 bA:Zs
 cV:Zs
 bK:Zs
 cz:Zs
 az:Zs
 aJ:Zs
 aD:Zs
 Y1:Zs
 du:Zs
set_option genInjectivity false in
structure Txt (K:Za1) (mg:Str->Zl) (A:qH):Prop where
 walked:Def K mg "walked" Ba ["rooms","room","word"] A.Ku A.Kv
 mU:Def K mg "first_places" oR ["rules"] A.xP A.xQ
 p7:Def K mg "steps_of" vV ["letters"] A.FJ A.FK
 numbered:Def K mg "numbered" vW ["rooms"] A.FL A.FN
 mV:Def K mg "place_of" vX ["step"] A.FP A.FQ
 p8:Def K mg "order_by" vY ["name"] A.wg A.wj
 mD:Def K mg "first_of" vZ ["rooms","some"] A.FT A.FU
 p9:Def K mg "all_gaps" v7 ["letters"] A.FV A.FW
 own:Def K mg "own" Mu ["value"] A.tf A.ti
 fill:DDef K mg "fill" HP ["letters","rules","part","limit","order"] A.HQ A.HR (tx [114,111,111,109,115])
 bj:Def K mg "_law_cell_at" oS ["_law_script","_law_k"] A.xR A.xS
 nY:Def K mg "_law_step" tZ ["_law_number","_law_letters"] A.CW A.CY
 mW:Def K mg "_law_turning" oT ["_law_number","_law_many","_law_plain"] A.xT A.xU
 lQ:Def K mg "_law_moved" rJ ["_law_turns","_law_point","_law_word"] A.Bb A.Bc
 kz:Def K mg "_law_rounds" qB ["_law_turns","_law_points","_law_word"] A.zp A.zq
 qc:Def K mg "_law_rules" rK ["_law_turns","_law_letters","_law_mask","_law_room"] A.Bd A.Be
 rX:Def K mg "_law_part" ua ["_law_script","_law_turns","_law_letters","_law_first"] A.CZ A.C0
 kA:Def K mg "_law_digits" qC ["_law_cell","_law_letters","_law_most"] A.zr A.zt
 kh:Def K mg "_law_any_group" mJ ["_law_script"] A.uN A.uO
 qd:Def K mg "_law_group" rL ["_law_script"] A.Bf A.Bg
 iX:Def K mg "_law_filled" qD ["_law_letters","_law_rules_here","_law_part_here","_law_limit","_law_order"] A.zu A.zv
 kY:Def K mg "_law_back" ub ["_law_word"] A.C1 A.C2
 ki:Def K mg "_law_otherwise" mK ["_law_rules_here","_law_cell"] A.uP A.uQ
 law:Def K mg "law" Mw ["_law_script"] A.VC A.VD
 gk:MDef K A.aJ "__init__" "Going.__init__" mM ["self","which","word","start"] A.mR A.uR
 lA:MDef K A.aJ "advance" "Going.advance" nL ["self","rooms"] A.wm A.wq
 rY:MDef K A.aJ "row" "Going.row" uc ["self","rooms"] A.C3 A.C4
 eV:MDef K A.aD "__init__" "Closing.__init__" kS ["self","rooms","rules","part"] A.kX A.rP
 fb:MDef K A.aD "begin_rules" "Closing.begin_rules" jz ["self","room"] A.oY A.o6
 i9:MDef K A.aD "begin" "Closing.begin" nM ["self","which","word","room"] A.wu A.wx
 iG:MDef K A.aD "settle" "Closing.settle" mO ["self"] A.uS A.uT
 mX:MDef K A.aD "make" "Closing.make" oU ["self","room","step"] A.xV A.xW
 lB:MDef K A.aD "go_on" "Closing.go_on" nS ["self","number"] A.wy A.wz
 jS:MDef K A.aD "wait" "Closing.wait" oV ["self","number","room","step"] A.xX A.xY
 oy:MDef K A.aD "lay" "Closing.lay" qE ["self","going"] A.zx A.zy
 eX:MDef K A.aD "wake" "Closing.wake" oW ["self","room","step"] A.xZ A.x6
 mY:MDef K A.aD "hear" "Closing.hear" oX ["self"] A.x8 A.ya
 jj:MDef K A.aD "wake_all" "Closing.wake_all" kT ["self","room"] A.rQ A.rS
 dP:MDef K A.bA "__init__" "TooMany.__init__" kU ["self","made","rows"] A.rT A.rV
 jA:MDef K A.cV "gap" "Order.gap" ud ["self","rooms"] A.C5 A.C6
 gT:MDef K A.bK "gap" "ByLetters.gap" jP ["self","rooms"] A.nV A.jR
 iH:MDef K A.cz "gap" "Newest.gap" rM ["self","rooms"] A.Bh A.Bi
 gn:MDef K A.az "__init__" "Rooms.__init__" mP ["self","letters"] A.mS A.uU
 qe:MDef K A.az "make" "Rooms.make" rN ["self","room","step"] A.Bj A.Bk
 rZ:MDef K A.az "lay" "Rooms.lay" uf ["self","room","step","other","row"] A.C7 A.C8
 iq:MDef K A.az "by" "Rooms.by" wc ["self","room","step"] A.FX A.FY
 gZ:MDef K A.az "elder" "Rooms.elder" qF ["self","room"] A.zz A.zA
 eP:MDef K A.az "standing" "Rooms.standing" mQ ["self"] A.uV A.uW
 kB:MDef K A.az "paper" "Rooms.paper" qG ["self"] A.zB A.zC
 fD:MDef K A.az "first_gap" "Rooms.first_gap" lG ["self","room"] A.tu A.tD
 lS:MDef K A.az "keep" "Rooms.keep" rO ["self","room","step","other"] A.Bl A.Bm
 lC:MDef K A.az "take_in" "Rooms.take_in" nT ["self","way","pending"] A.wA A.wB
 fE:MDef K A.az "put_together" "Rooms.put_together" jQ ["self","room","step","one","other","pending"] A.p5 A.p6
 lD:MDef K A.az "put_off" "Rooms.put_off" nU ["self","room","pending"] A.wC A.wD
 oz:mg "enumerate"=none
 Mx:mg "min"=none
 My:mg "max"=none
 eQ:mg "range"=none
 fe:mg "len"=none
 o8:mg "tuple"=none
 iY:mg "list"=none
 gq:mg "isinstance"=none
 abA:mg "bool"=none
 VF:mg "int"=none
 Bn:mg "dict"=none
 FZ:mg "reversed"=none
 ae5:mg "abs"=none
 C9:mg "YardError"=some ↑A.ky
 Wm:mg "NoOrder"=some ↑A.nX
 yZ:mg "TooMany"=some ↑A.bA
 O8:mg "Order"=some ↑A.cV
 Dc:mg "ByLetters"=some ↑A.bK
 Kw:mg "Newest"=some ↑A.cz
 O9:mg "Rooms"=some ↑A.az
 Pa:mg "Going"=some ↑A.aJ
 HS:mg "Closing"=some ↑A.aD
 Kx:PySem.W.plainGet K A.az Str.empty=true
 Ky:PySem.W.hasDictIn K A.az=true
 Kz:PySem.W.plainOver K A.az=true
 KC:PySem.W.findIn K ↑A.az "__setattr__"=some (some (.builtin "object.__setattr__"))
 uX:PySem.W.makesIn K A.az=true
 KD:PySem.W.keepIn K ↑A.az=true
 r0:PySem.W.findIn K ↑A.az "letters"=some none
 pe:PySem.W.findIn K ↑A.az "made"=some none
 r6:PySem.W.findIn K ↑A.az "rows"=some none
 iZ:PySem.W.findIn K ↑A.az "ways"=some none
 r9:PySem.W.findIn K ↑A.az "gaps"=some none
 jk:PySem.W.findIn K ↑A.az "elders"=some none
 mZ:PySem.W.findIn K ↑A.az "called"=some none
 sg:PySem.W.findIn K ↑A.az "went"=some none
 KG:PySem.W.plainGet K A.aJ Str.empty=true
 KH:PySem.W.hasDictIn K A.aJ=true
 KJ:PySem.W.plainOver K A.aJ=true
 KL:PySem.W.findIn K ↑A.aJ "__setattr__"=some (some (.builtin "object.__setattr__"))
 uY:PySem.W.makesIn K A.aJ=true
 KN:PySem.W.keepIn K ↑A.aJ=true
 Bo:PySem.W.findIn K ↑A.aJ "which"=some none
 jB:PySem.W.findIn K ↑A.aJ "word"=some none
 qf:PySem.W.findIn K ↑A.aJ "start"=some none
 gN:PySem.W.findIn K ↑A.aJ "front"=some none
 eY:PySem.W.findIn K ↑A.aJ "first"=some none
 g6:PySem.W.findIn K ↑A.aJ "rear"=some none
 iI:PySem.W.findIn K ↑A.aJ "last"=some none
 F0:PySem.W.plainGet K A.aD Str.empty=true
 F1:PySem.W.hasDictIn K A.aD=true
 F2:PySem.W.plainOver K A.aD=true
 F3:PySem.W.findIn K ↑A.aD "__setattr__"=some (some (.builtin "object.__setattr__"))
 qg:PySem.W.makesIn K A.aD=true
 F4:PySem.W.keepIn K ↑A.aD=true
 eZ:PySem.W.findIn K ↑A.aD "rooms"=some none
 Bp:PySem.W.findIn K ↑A.aD "rules"=some none
 jC:PySem.W.findIn K ↑A.aD "goings"=some none
 kZ:PySem.W.findIn K ↑A.aD "agenda"=some none
 jT:PySem.W.findIn K ↑A.aD "waiting"=some none
 m2:PySem.W.findIn K ↑A.aD "heard"=some none
 KP:PySem.W.plainGet K A.cV Str.empty=true
 KQ:PySem.W.hasDictIn K A.cV=true
 KR:PySem.W.plainOver K A.cV=true
 KS:PySem.W.findIn K ↑A.cV "__setattr__"=some (some (.builtin "object.__setattr__"))
 KW:PySem.W.makesIn K A.cV=true
 KY:PySem.W.keepIn K ↑A.cV=true
 KZ:PySem.W.findIn K ↑A.cV "__init__"=some (some (.builtin "object.__init__"))
 Y2:PySem.W.findIn K ↑A.cV "__class__"=some (some (.builtin "object.__class__"))
 Y3:PySem.W.mroIn K A.cV (.type "object")\true
 Bq:PySem.W.plainGet K A.bK Str.empty=true
 Br:PySem.W.hasDictIn K A.bK=true
 Bs:PySem.W.plainOver K A.bK=true
 Bu:PySem.W.findIn K ↑A.bK "__setattr__"=some (some (.builtin "object.__setattr__"))
 Bv:PySem.W.makesIn K A.bK=true
 Bw:PySem.W.keepIn K ↑A.bK=true
 Bx:PySem.W.findIn K ↑A.bK "__init__"=some (some (.builtin "object.__init__"))
 Ss:PySem.W.findIn K ↑A.bK "__class__"=some (some (.builtin "object.__class__"))
 Sv:PySem.W.mroIn K A.bK (.type "object")\true
 HV:PySem.W.plainGet K A.cz Str.empty=true
 HW:PySem.W.hasDictIn K A.cz=true
 HX:PySem.W.plainOver K A.cz=true
 HY:PySem.W.findIn K ↑A.cz "__setattr__"=some (some (.builtin "object.__setattr__"))
 HZ:PySem.W.makesIn K A.cz=true
 Ia:PySem.W.keepIn K ↑A.cz=true
 Ib:PySem.W.findIn K ↑A.cz "__init__"=some (some (.builtin "object.__init__"))
 Wn:PySem.W.findIn K ↑A.cz "__class__"=some (some (.builtin "object.__class__"))
 Wo:PySem.W.mroIn K A.cz (.type "object")\true
 Wq:PySem.W.excIn K A.nX Ao "ValueError.__new__"=true
 wF:L2.FE K A.bA=true
 F5:PySem.W.keepIn K ↑A.bA=true
 Wr:PySem.W.exmOne K ↑A.bA ↑A.bA\true
 F6:(PySem.W.clsIn K A.bA).any (λcd=>L2.mH cd.mro)=true
 F7:PySem.W.hasDictIn K A.bA=true
 F8:PySem.W.findIn K ↑A.bA "__setattr__"=some (some (.builtin "object.__setattr__"))
 F9:PySem.W.findIn K ↑A.bA "__getattribute__"=some (some (.builtin "BaseException.__getattribute__"))
 Ga:PySem.W.findIn K ↑A.bA "__getattr__"=some none
 Gb:PySem.W.subIn K ↑A.bA (.type "BaseException")\true
 Pb:PySem.W.findIn K ↑A.bA "made"=some none
 Pg:PySem.W.findIn K ↑A.bA "rows"=some none
 Y4:PySem.W.specialIn K ↑A.ky "__getattribute__"=some (some (.builtin "type.__getattribute__"))
 Y5:PySem.W.readsIn K A.ky (.type "type")=true
 Y6:(match PySem.W.findCls K ↑A.ky (.type "type") "__init__" with|some (.val (.builtin i))=>i=="ValueError.__init__" | _=>false)=true
 lam:LamAt K A.jR A.Y1 A.du
def aI {A:qH}(T:Txt K M A):jZ K A.az:=⟨T.Kx,T.Ky,T.Kz,T.KC⟩
def uX {A:qH}(T:Txt K M A):Mk K A.az A.mS:=⟨T.uX,T.gn.m.at_,T.gn.m.fn,T.KD⟩
def aT {A:qH}(T:Txt K M A):jZ K A.aJ:=⟨T.KG,T.KH,T.KJ,T.KL⟩
def uY {A:qH}(T:Txt K M A):Mk K A.aJ A.mR:=⟨T.uY,T.gk.m.at_,T.gk.m.fn,T.KN⟩
def aM {A:qH}(T:Txt K M A):jZ K A.aD:=⟨T.F0,T.F1,T.F2,T.F3⟩
def qg {A:qH}(T:Txt K M A):Mk K A.aD A.kX:=⟨T.qg,T.eV.m.at_,T.eV.m.fn,T.F4⟩
def By {A:qH}(T:Txt K M A):jZ K A.cV:=⟨T.KP,T.KQ,T.KR,T.KS⟩
def sh {A:qH}(T:Txt K M A):jZ K A.bK:=⟨T.Bq,T.Br,T.Bs,T.Bu⟩
def y3 {A:qH}(T:Txt K M A):jZ K A.cz:=⟨T.HV,T.HW,T.HX,T.HY⟩
def nZ:aS ["rooms","room","word","path","step"] ["rooms","room","word"] (aB Ba):=(by ac_rfl)
def hM:aS ["rules","places","which","rule"] ["rules"] (aB oR):=(by ac_rfl)
def oB:aS ["letters","steps","letter"] ["letters"] (aB vV):=(by ac_rfl)
def fN:aS ["rooms","steps","found","numbers","rows","others","other"] ["rooms"] (aB vW):=(by ac_rfl)
def Dd:aS ["step"] ["step"] (aB vX):=(by ac_rfl)
def De:aS ["name"] ["name"] (aB vY):=(by ac_rfl)
def oC:aS ["rooms","some","room","step"] ["rooms","some"] (aB vZ):=(by ac_rfl)
def Df:aS ["letters"] ["letters"] (aB v7):=(by ac_rfl)
def Ic:aS ["value"] ["value"] (aB Mu):=(by ac_rfl)
def mh:aS ["letters","rules","part","limit","order","chosen","rooms","closing","gap"] ["letters","rules","part","limit","order"] (aB HP):=(by ac_rfl)
def wG:aS ["_law_script","_law_k"] ["_law_script","_law_k"] (aB oS):=(by ac_rfl)
def Bz:aS ["_law_number","_law_letters"] ["_law_number","_law_letters"] (aB tZ):=(by ac_rfl)
def fF:aS ["_law_number","_law_many","_law_plain","_law_by","_law_some","_law_turned"] ["_law_number","_law_many","_law_plain"] (aB oT):=(by ac_rfl)
def ja:aS ["_law_turns","_law_point","_law_word","_law_step_here"] ["_law_turns","_law_point","_law_word"] (aB rJ):=(by ac_rfl)
def gu:aS ["_law_turns","_law_points","_law_word","_law_count","_law_spots"] ["_law_turns","_law_points","_law_word"] (aB qB):=(by ac_rfl)
def c9:aS ["_law_turns","_law_letters","_law_mask","_law_room","_law_words","_law_k","_law_j","_law_found","_law_word","_law_often"] ["_law_turns","_law_letters","_law_mask","_law_room"] (aB rK):=(by ac_rfl)
def gx:aS ["_law_script","_law_turns","_law_letters","_law_first","_law_way","_law_words","_law_word","_law_cell"] ["_law_script","_law_turns","_law_letters","_law_first"] (aB ua):=(by ac_rfl)
def dQ:aS ["_law_cell","_law_letters","_law_most","_law_many","_law_word","_law_k"] ["_law_cell","_law_letters","_law_most"] (aB qC):=(by ac_rfl)
def dG:aS ["_law_script","_law_letters","_law_rules_here","_law_k","_law_part_here"] ["_law_script"] (aB mJ):=(by ac_rfl)
def cu:aS ["_law_script","_law_plain","_law_many","_law_letters","_law_turns","_law_k","_law_mask","_law_first","_law_rules_here"] ["_law_script"] (aB rL):=(by ac_rfl)
def dR:aS ["_law_letters","_law_rules_here","_law_part_here","_law_limit","_law_order","_law_found","_law_refused","e"] ["_law_letters","_law_rules_here","_law_part_here","_law_limit","_law_order"] (aB qD):=(by ac_rfl)
def BD:aS ["_law_word"] ["_law_word"] (aB ub):=(by ac_rfl)
def dg:aS ["_law_rules_here","_law_cell","_law_found","_law_at","_law_word","_law_by"] ["_law_rules_here","_law_cell"] (aB mK):=(by ac_rfl)
def dC:aS ["_law_script","_law_letters","_law_turns","_law_rules_here","_law_part_here","_law_first","_law_limit","_law_due","_law_order","_law_found","_law_refused","_law_words","_law_other"] ["_law_script"] (aB Mw):=(by ac_rfl)
def tE:aS ["self","which","word","start"] ["self","which","word","start"] (aB mM):=(by ac_rfl)
def jl:aS ["self","rooms","room"] ["self","rooms"] (aB nL):=(by ac_rfl)
def m3:aS ["self","rooms","ahead","behind"] ["self","rooms"] (aB uc):=(by ac_rfl)
def fh:aS ["self","rooms","rules","part","room","which","word"] ["self","rooms","rules","part"] (aB kS):=(by ac_rfl)
def fO:aS ["self","room","rule","which"] ["self","room"] (aB jz):=(by ac_rfl)
def uZ:aS ["self","which","word","room"] ["self","which","word","room"] (aB nM):=(by ac_rfl)
def tF:aS ["self"] ["self"] (aB mO):=(by ac_rfl)
def wH:aS ["self","room","step"] ["self","room","step"] (aB oU):=(by ac_rfl)
def m4:aS ["self","number","going"] ["self","number"] (aB nS):=(by ac_rfl)
def jU:aS ["self","number","room","step","steps","numbers"] ["self","number","room","step"] (aB oV):=(by ac_rfl)
def pf:aS ["self","going","step"] ["self","going"] (aB qE):=(by ac_rfl)
def wI:aS ["self","room","step"] ["self","room","step"] (aB oW):=(by ac_rfl)
def wJ:aS ["self"] ["self"] (aB oX):=(by ac_rfl)
def fi:aS ["self","room","step","elder"] ["self","room"] (aB kT):=(by ac_rfl)
def qO:aS ["self","made","rows"] ["self","made","rows"] (aB kU):=(by ac_rfl)
def BE:aS ["self","rooms"] ["self","rooms"] (aB ud):=(by ac_rfl)
def m5:aS ["self","rooms","gaps"] ["self","rooms"] (aB jP):=(by ac_rfl)
def zD:aS ["self","rooms"] ["self","rooms"] (aB rM):=(by ac_rfl)
def tG:aS ["self","letters"] ["self","letters"] (aB mP):=(by ac_rfl)
def qI:aS ["self","room","step","number"] ["self","room","step"] (aB rN):=(by ac_rfl)
def si:aS ["self","room","step","other","row","pending"] ["self","room","step","other","row"] (aB uf):=(by ac_rfl)
def Dg:aS ["self","room","step"] ["self","room","step"] (aB wc):=(by ac_rfl)
def yb:aS ["self","room"] ["self","room"] (aB qF):=(by ac_rfl)
def tH:aS ["self"] ["self"] (aB mQ):=(by ac_rfl)
def yc:aS ["self"] ["self"] (aB qG):=(by ac_rfl)
def k8:aS ["self","room","step"] ["self","room"] (aB lG):=(by ac_rfl)
def zE:aS ["self","room","step","other"] ["self","room","step","other"] (aB rO):=(by ac_rfl)
def dS:aS ["self","way","pending","room","step","other","led_to","come_from"] ["self","way","pending"] (aB nT):=(by ac_rfl)
def ej:aS ["self","room","step","one","other","pending","less","more","number"] ["self","room","step","one","other","pending"] (aB jQ):=(by ac_rfl)
def gO:aS ["self","room","pending","ways","step","other"] ["self","room","pending"] (aB nU):=(by ac_rfl)
section
variable {P:Program}{w:World}{K:Za1}{mg:Str->Zl}{base:Heap}{A:qH}
def wL {c:PySem.Const}{p:PySem.Pos}{a:List PySem.Expr}{env:PySem.Env}:PySem.starEach (.Constant c j p::a) env=(false,PySem.eval (.Constant c j p) env)::PySem.starEach a env:=rfl
def zP (K:Za1)(b:Zs):Sp:=λc H Q _=>∃(a:Zs) (ns:Zg),c=[↑a]/\aH K H a (ns.map V.int)/\⇑ns<=63/\H b\(.fw #[])/\∀d,Q (.bl true) d
def a9 (n:Nat):Zg:=(List.range n).map M12.st
def tj (n:Nat):⇑(a9 n)=n:=by unfold a9;cbv
def sj (h:i<n):(a9 n)[i]?\(M12.st i):=by
 unfold a9;rw[agR,ai5 h];rfl
def Ph (i:Nat):a9 (2* i)++[1+ (i:Int)]++[-(1+ (i:Int))]=a9 (2* (i+ 1)):=by
 let e:2* (i+ 1)=2* i+ 1+ 1:=∅
 rw[e];unfold a9;rw[ah9,ah9,ag6,ag6];let a:M12.st (2* i)=1+ (i:Int):=by unfold M12.st;rw[agX ∅];ext
 let b:M12.st (2* i+ 1)= -(1+ (i:Int)):=by unfold M12.st;rw[agT ∅];ext
 show _=(List.range (2* i)).map M12.st++[M12.st (2* i)]++[M12.st (2* i+ 1)];rw[a,b]
def Ie (n:Nat):(a9 n).Nodup:=by
 unfold a9;rwa[aih.mpr (List.Pairwise.imp ?_ aj9)];intro a b c z;let d:=M12.zO a;rw[z,M12.zO]at d;rwa[c d.symm]
def dM {rs:Zn}{r:Zs}(h:rs[i]?\r):kK (rs.map V.ref) (i:Int)\(V.ref r):=dE (by rw[agR,h];rfl)
def K0:Sp:=λb H Q _=>∃L:Nat,b=[.int L]/\1<=L/\L<=200/\∀l a,aq H a->a l\.lst (ao ((List.range (2* L)).map M12.st))->Q ↑l a
def Sw:Sp:=λb H Q _=>∃L:Nat,b=[.int L]/\1<=L/\L<=200/\∀d a,aq H a->H d=none->a d\.dK (gK (a9 (2* L)))->Q ↑d a
inductive Mz (C:Zs) (vs:Zb) (H:Hp) (Q:VK) (E_:XK):Prop
 |mk (x dx:Zs) (L:Nat):vs=[↑x,.int L]->H x\.ins C dx []->1<=L->L<=200->(∀a H',(∀b o,H b\o->b≠x->H' b\o)->ay C H' x (RS.new L (a9 (2* L))) a->(∀b,a.own x b->b=x\/H b=none)->Q .non H')->Mz C vs H Q E_
def dc (a:RA)(r:Zs)(H c:Hp):Prop:=∀b o,¬a.own r b->H b\o->c b\o
inductive Ig (C:Zs) (vs:Zb) (H:Hp) (Q:VK) (E_:XK):Prop
 |mk (r:Zs) (S:RS) (a:RA) (c d:Nat) (z:Int):vs=[↑r,.int c,.int z,.int d]->ay C H r S a->S.Wf->c<S.made->d<S.made->(∀l∈S.ways,⇑l<=100000)->(∀H',dc a r H H'->ay C H' r (S.keep c z d) a->Q .non H')->Ig C vs H Q E_
inductive Ih (C:Zs) (vs:Zb) (H:Hp) (Q:VK) (E_:XK):Prop
 |mk (r:Zs) (S:RS) (a:RA) (c:Nat) (z:Int):vs=[↑r,.int c,.int z]->ay C H r S a->S.Wf->1<=S.L->S.L<=200->c<S.made->S.made<=100000->⇑S.rows<=1000000->(∀l∈S.ways,⇑l<=100000)->(∀a' H',dc a r H H'->ay C H' r (S.make c z (a9 (2* S.L))) a'->(∀b,a'.own r b->a.own r b\/H b=none)->Q (.int S.made) H')->Ih C vs H Q E_
inductive MA (C:Zs) (vs:Zb) (H:Hp) (Q:VK) (E_:XK):Prop
 |mk (r:Zs) (S:RS) (a:RA) (c:Nat) (z:Int):vs=[↑r,.int c,.int z]->ay C H r S a->c<⇑S.ways->(Q (((S.by c z).map λn:Nat=>V.int (n:Int)).getD .non) H)->MA C vs H Q E_
inductive Ei (C:Zs) (vs:Zb) (H:Hp) (Q:VK) (E_:XK):Prop
 |mk (r:Zs) (S:RS) (a:RA) (c e:Nat):vs=[↑r,.int c]->ay C H r S a->S.aV[c]?\e->Q (.int e) H->Ei C vs H Q E_
inductive wM (C:Zs) (vs:Zb) (H:Hp) (Q:VK) (E_:XK):Prop
 |mk (r:Zs) (S:RS) (a:RA):vs=[↑r]->ay C H r S a->S.Wf->S.made<=100000->(∀l,H l=none->Q ↑l (upd H l (.lst (ao (nI ((List.range S.made).filter λc=>decide (S.aV[c]?\c)))))))->wM C vs H Q E_
def wN (k:Nat):Sp:=λc H Q _=>∃(v:V) (d:Dt),c=[v]/\bR H k v d/\mE d/\∀b a,aq H a->bR a k b d->Q b a
inductive Ej (k:Nat) (C:Zs) (vs:Zb) (H:Hp) (Q:VK) (E_:XK):Prop
 |mk (r:Zs) (S:RS) (a:RA):vs=[↑r]->ay C H r S a->⇑S.rows<=1000000->(∀p d,d∈S.rows->bR H 4 ↑p d->bR H k ↑p d)->(∀l ps H',aq H H'->H l=none->H' l\.lst (ps.map V.ref)->Each (λp d=>bR H' 4 ↑p d) ps S.rows->Q ↑l H')->Ej k C vs H Q E_
def Ii (T:Txt K mg A):dq P w K mg base (df P w) 2 A.tf A.ti ["value"] (wN 0):=by
 rwa[T.own.F.okN Ic (λc H Q E h=>?_) (λq x f s H c Q E u h=>?_)]
 ·let⟨v,d,rfl,_⟩:=h;rfl
 ·let⟨v,d,rfl,g,m,k⟩:=h
  erw[_,(ai (bI (iT (bN j6 rfl T.gq ahP (ae (pv 0) (ae (lX (v:=.ty "tuple") rfl T.o8 aiw rfl) aj))))
   kD
   bq)
   (ai (bI (iT (bN j6 rfl T.gq ahP (ae (pv 0) (ae (lX (v:=.ty "list") rfl T.iY ahX rfl) aj))))
    kD
    bq)
   (ai (bI (iT (bN j6 rfl T.gq ahP (ae (pv 0) (ae (lX (v:=.ty "dict") rfl T.Bn ajZ rfl) aj))))
    kD
    bq)
   (aw (bx (pv 0))))))]
  rwa[ik ?_];intro p t o
  let atom:(∃n,v=.int n)\/(∃l,v=.str (tx l))\/∃(a:Zs) (c:Zb) (j:List Dt),v=↑a/\d=.t j/\False:=by
   cases g with
   |i=>exact .inl ⟨12⟩
   |s=>exact .inr (.inl ⟨12⟩)
   |n=>ext m
   |b=>ext m
  rcases atom with ⟨n,rfl⟩|⟨l,rfl⟩|⟨a,c,j,rfl,rfl,r⟩
  ·rwa[⟨_,rfl,_,_,_,_,rfl,.int n,qu K,_,rfl,dN ?_⟩];rwa[⟨1211112,.int n,q9 K,12,dN ?_⟩];rwa[⟨1211112,.int n,rh K,12,dN ?_⟩];rwa[12,k _ H (λ_ _ e=>e) g]
  ·rwa[⟨1211112,.str (tx l),qv K,12,dN ?_⟩];rwa[⟨1211112,.str (tx l),ri K,12,dN ?_⟩];rwa[⟨1211112,.str (tx l),rj K,12,dN ?_⟩];rwa[12,k _ H (λ_ _ e=>e) g]
  ·rwa[r.elim]
def BF (T:Txt K mg A)(p:dq P w K mg base (df P w) j A.tf A.ti ["value"] (wN m)):dq P w K mg base (df P w) (j+ 1) A.tf A.ti ["value"] (wN (m+ 1)):=by
 rwa[T.own.F.okN Ic (λg H Q E h=>?_) (λY AA L s H g Q E I h=>?_)]
 ·let⟨v,d,rfl,_⟩:=h;rfl
 ·let⟨v,d,rfl,M,F,k⟩:=h
  erw[_,(ai (bI (iT (bN j6 rfl T.gq ahP (ae (pv 0) (ae (lX (v:=.ty "tuple") rfl T.o8 aiw rfl) aj))))
   (aw (bx (eM lh rfl T.o8 aiw (ae (gM (fns:=[]) (ixs:=[]) (cl:=[]) rfl (vp (pv 0)) (iB ⋯ ⋯ rfl ⋯ rfl) (λC s H ex=>(pc (hj:=agA _) T.own p I (ae (pv 0) aj)))) aj))))
   bq)
   (ai (bI (iT (bN j6 rfl T.gq ahP (ae (pv 0) (ae (lX (v:=.ty "list") rfl T.iY ahX rfl) aj))))
    kD
    bq)
   (ai (bI (iT (bN j6 rfl T.gq ahP (ae (pv 0) (ae (lX (v:=.ty "dict") rfl T.Bn ajZ rfl) aj))))
    kD
    bq)
   (aw (bx (pv 0))))))]
  rwa[ik ?_];intro U fS S
  let atom:(∃n,v=.int n)\/(∃l,v=.str (tx l))\/∃(a:Zs) (g:Zb) (ds:List Dt),v=↑a/\d=.t ds/\(H a\.tup g/\⇑g=⇑ds/\∀(c:Nat) (v:V) (x:Dt),g[c]?\v->ds[c]?\x->bR H m v x):=by
   cases M with
   |i=>exact .inl ⟨12⟩
   |s=>exact .inr (.inl ⟨12⟩)
   |n=>ext F
   |b=>ext F
   |t o N J=>exact .inr (.inr ⟨11122,o,N,J⟩)
   |l=>ext F
  rcases atom with ⟨n,rfl⟩|⟨l,rfl⟩|⟨a,g,ds,rfl,rfl,B⟩
  ·rwa[⟨_,rfl,_,_,_,_,rfl,.int n,qu K,_,rfl,dN ?_⟩];rwa[⟨1211112,.int n,q9 K,12,dN ?_⟩];rwa[⟨1211112,.int n,rh K,12,dN ?_⟩];rwa[12,k _ H (λ_ _ e=>e) M]
  ·rwa[⟨1211112,.str (tx l),qv K,12,dN ?_⟩];rwa[⟨1211112,.str (tx l),ri K,12,dN ?_⟩];rwa[⟨1211112,.str (tx l),rj K,12,dN ?_⟩];rwa[12,k _ H (λ_ _ e=>e) M]
  ·let⟨o,N,J⟩:=B;obtain⟨hz,u⟩:⇑ds<=100000/\∀x∈ds,mE x:=by cases F with|t a b=>exact⟨a,b⟩
   rwa[⟨1211112,.tup o,Jy K "tuple",12,ic ?_⟩];erw[12,a,2,⟨_,bC.of o⟩];rwa[kO ⇑g (λi=>g.getD i .non) (λf v i=>∃x,ds[i]?\x/\mE x/\bR f m v x) (λH1 f v i s ζ=>by let⟨x,e,hn,q⟩:=ζ;rwa[⟨x,e,hn,q.same s⟩]) ?_ (λi f s2 r=>GQ (bC.of (s2^o)) i r) (λi x f H3 s2 r y=>?_) (λf s2=>Ag (bC.of (s2^o))) (λi f Rr r s2 Z=>?_) (λD f ys s2 hD hl I=>?_)]
   ·rwa[agJ ∅ (show 100000<=sizeLine by decide)]
   ·let⟨e,B⟩:=DH (bC.of (s2^o)) i x H3 r y
    cbv
   ·let B:g[i]?\(g.getD i .non):=by rw[agD,agv r];rfl
    let z:ds[i]?\(ds[i]'∅):=agv ∅
    rwa[⟨12112,(J i _ _ B z).same s2,u _ (agu z),λv' H' s' q'=>Z v' H' s' ⟨_,z,u _ (agu z),q'⟩⟩]
   ·rwa[⟨D,ys,2,.inl ⟨aH.of ah,λl G=>?_⟩⟩];let R:aq f (upd f D (.lst ys)):=aq.upd hD;let O:aq (upd f D (.lst ys)) (upd (upd f D (.lst ys)) l (.tup ys)):=aq.upd G;rwa[k _ _ (s2.trans (R.trans O)) (.t ah ∅ λc v x e1 X=>?_)];obtain⟨y,e3,-,q⟩:=I c v e1;obtain rfl:y=x:=Za0 (e3.symm.trans X);rwa[q.same (R.trans O)]
def Ij (T:Txt K mg A):dq P w K mg base (df P w) 3 A.tf A.ti ["value"] (wN 1):=BF T (Ii T)
def y4 (T:Txt K mg A):dq P w K mg base (df P w) 4 A.tf A.ti ["value"] (wN 2):=BF T (Ij T)
def ug (T:Txt K mg A):T.p7.Ok P w base 1 K0:=by
 rwa[T.p7.on oB (λt C g s H D Q E B h=>?_) (len:=by rintro _ _ _ _ ⟨L,rfl,_⟩;rfl)]
 ·let⟨L,rfl,x,u,k⟩:=h
  erw[_,(ai (bD 1 oB.nd (bU aj))
   (ai (cP ag0 rfl (ny rfl T.eQ (ae au (ae (aK cI (pv 0) au) aj))) (dB 2 oB.nd)
    (ai (aU (cG agG agO agP bH (pv 1) (ae (pv 2) aj)))
    (aw (aU (cG agG agO agP bH (pv 1) (ae (eG dw (pv 2)) aj))))))
   (aw (bx (pv 1)))))]
  rwa[fK ?_];intro y r;rwa[⟨agW _,λl j=>?_⟩];let p:aq H (upd H l (.lst [])):=aq.upd j;let m:upd H l (.lst []) l\(.lst (ao (a9 (2* 0)))):=ah;generalize upd H l (.lst [])=H0 at p m ⊢;erw[121122,(1),(L:Int)+ 1,2,⟨3333⟩];rwa[ib (lo:=1) (n:=((L:Int)+ 1 - 1).toNat) (λi d c=>∃v:Zc,d=#v[.int L,↑l,v]/\aq H c/\c l\.lst (ao (a9 (2* i)))) ⟨none,2,p,m⟩ ?_ ?_]
  ·rintro i d c z ⟨v,rfl,f,a⟩;let q:i<L:=∅
   erw[12,.inl ⟨21,aH.of a⟩,12,l,1122,a,5]
   ·rw[aL,tj];rwa[agE (show 2* i<=400 by omega) ⋯]
   erw[12,.inl ⟨21,aH.of ah⟩,1212,l,1122,ah,5]
   ·rw[agw,aL,tj];rwa[agE (show 2* i+ 1<=400 by omega) ⋯]
   erw[12,λb o e=>?_]
   ·rw[ak (ax e j),ak (ax e j)];rwa[f^e]
   ·rw[ah,<-Ph,ints_app,ints_app];rfl
  ·rintro d c ⟨v,rfl,f,a⟩;rw[show ((L:Int)+ 1 - 1).toNat=L by ext]at a;rwa[12,k l c f a]
def uh (T:Txt K mg A):T.p9.Ok P w base 2 Sw:=by
 rwa[T.p9.on Df (λO AA F s H vs Q E r h=>?_) (len:=by rintro _ _ _ _ ⟨L,rfl,_⟩;rfl)]
 ·let⟨L,rfl,B,u,k⟩:=h;erw[_,(aw (bx (eM (vD rfl) rfl T.Bn ajZ (ae (gM (fns:=[]) (ixs:=[]) (cl:=[]) rfl (da (pc T.p7 (ug T) r (ae (pv 0) aj))) (iB ⋯ ⋯ rfl ⋯ rfl) (λC s H ex=>(cQ (ae (pv 0) (ae zI aj))))) aj))))];rwa[⟨12,L,2,B,u,λl H1 s1 j=>⟨l,2,⟨_,aH.of j⟩,5⟩⟩];let hn:⇑(ao ((List.range (2* L)).map M12.st))=2* L:=by rw[aL,agy,ahG]
  rwa[kO (2* L) (λi=>.int (M12.st i)) (λc v i=>∃p,v=↑p/\c p\.tup [.int (M12.st i),.bl true]) (λH1 c v i s ζ=>by let⟨p,e,q⟩:=ζ;rwa[⟨p,e,s^q⟩]) ?_ (λi c s2 f=>jK (aH.of (s2^j)) i ∅) (λi x c U s2 f y=>?_) (λc s2=>?_) (λi c Rr f s2 R=>?_) (λD c ys s2 hD G r=>?_)]
  ·rwa[agJ (show 2* L<=400 by omega) ⋯]
  ·let⟨e,X⟩:=iC (aH.of (s2^j)) i x U ∅ y;erw[e];rw[show (ao ((List.range (2* L)).map M12.st))[i]?=some (.int (M12.st i)) from cK (sj f)]at X
   cbv
  ·have:=gJ (aH.of (K:=K) (s2^j));rw[hn]at this;rwa[this]
  ·rwa[⟨12,(Za4 2),λt Y=>R _ _ (aq.upd Y) ⟨t,2,ah⟩⟩]
  ·let⟨g,rfl,o⟩:=sX (P:=λi p=>c p\.tup [.int (M12.st i),.bl true]) ys 0 (λi v hv=>[Nat.zero_add]▸r i v hv);let N:aq c (upd c D (.lst (g.map V.ref))):=aq.upd hD;rw[agy]at G;rwa[⟨D,g,gK (a9 (2* L)),2,ah,by rw[Q7,tj,G],λi p kv M n=>?_,λd J=>?_⟩]
   ·let f:i<2* L:=by rw[<-G];rwa[(agx.mp M).1]
    have:=o i p M;rw[Nat.zero_add]at this;unfold gK at n;rw[agR,sj f]at n;rw[<-Za0 n];rwa[N^this]
   ·let e:iU [] (gK (a9 (2* L)))=gK (a9 (2* L)):=by
     rw[yI _ _ ?_,ajf];rw[ajf];unfold gK;rw[ahe];rwa[aih.mpr (List.Pairwise.imp (λ{a b} m z=>m (Sum.inl.inj z)) (Ie _))]
    rw[e];let Z:aq (upd c D (.lst (g.map V.ref))) (upd (upd c D (.lst (g.map V.ref))) d (.dK (gK (a9 (2* L))))):=aq.upd J;let I:=s1.trans (s2.trans N);rwa[k d _ (I.trans Z) (I.free J) ah]
def g9 (T:Txt K mg A):T.iq.Ok mg P w base 1 (MA A.az):=by
 rwa[T.iq.on Dg (λg m b s H n Q E i h=>?_)]
 ·let⟨r,S,a,c,z,rfl,h,l,k⟩:=h;let d:=hH i;erw[_,(aw (bx (JL d (bF bO (aF (pv 0) rfl) (pv 1) (λ_ _=>rfl)) (pv 2) ⟨2222⟩)))];let j:S.ways[c]?\(S.way c):=by unfold RS.way;rw[agD,agv l];rfl
  let⟨p,f,e⟩:=h.rW.at j;erw[12,r,_,a.dx,112,h.ins,aI T,T.iZ,iE^_,12,a.aW,11122,aH.of h.hW,dM f,p,2,.inl ⟨_,.inl e⟩,121,fY.k (k:=Sum.inl z) e];rw[kM];rwa[k]
def iJ (T:Txt K mg A):T.gZ.Ok mg P w base 1 (Ei A.az):=by
 rwa[T.gZ.on yb (λf g b s H i Q E j h=>?_)]
 ·let⟨r,S,a,c,e,rfl,h,d,k⟩:=h;erw[_,(aw (bx (bF bO (aF (pv 0) rfl) (pv 1) (λ_ _=>rfl))))];rwa[12,r,_,a.dx,112,h.ins,aI T,T.jk,jq^_,12,a.aE,11122,aH.of h.hE,dE (cK (jN d)),k]
def ph {c:Nat}(h:c<⇑S.ways):S.ways[c]?\(S.way c):=by unfold RS.way;cbv
def wO {c:Nat}(h:c<⇑S.gaps):S.gaps[c]?\(S.gap c):=by unfold RS.gap;cbv
def BG (h:∀l∈S.ways,⇑l<=m):⇑(S.way n)<=m:=by
 unfold RS.way;rw[agD]
 cases e:S.ways[n]? with
 |none=>exact agW _
 |some l=>exact h l (agu e)
def MB {r:Zs}(h:O.ws[i]?\a):O.own r a:=.inr (.inr (dz (agu h)))
def VG {r:Zs}(h:O.gs[i]?\a):O.own r a:=.inr (.inr (gb (agu h)))
def dc.upd {r:Zs}{o:HO}(h:O.own r a):dc O r H (upd H a o):=λb u c e=>[ak (λz=>c ([z]▸h))]▸e
def dc.trans {r:Zs}(h:dc O r H I)(c:dc O r I J):dc O r H J:=λb u a e=>c b u a (h b u a e)
def qJ (T:Txt K mg A):T.lS.Ok mg P w base 1 (Ig A.az):=by
 rwa[T.lS.on zE (λcC AA I s H vs Q E hr h=>?_)]
 ·let⟨r,S,a,c,d,z,rfl,h,hw,hc,hd,Z,k⟩:=h;let u:=hH hr
  erw[_,(ai (sO u (bF bO (aF (pv 0) rfl) (pv 1) (λ_ _=>rfl)) (pv 2) (pv 3) rfl)
   (ai (sO u (bF bO (aF (pv 0) rfl) (pv 3) (λ_ _=>rfl)) (eG dw (pv 2)) (pv 1) rfl)
   (ai (aU (uD (bF bO (aF (pv 0) rfl) (pv 1) (λ_ _=>rfl)) (pv 2) cX ⟨2222⟩))
   (aw (aU (uD (bF bO (aF (pv 0) rfl) (pv 3) (λ_ _=>rfl)) (eG dw (pv 2)) cX ⟨2222⟩))))))]
  rwa[ik ?_];intro jV fS gy;let⟨p,b,J⟩:=h.rW.at (ph (S:=S) (c:=c) ([hw.w]▸hc));let b1:⇑(S.way c)<=100000:=BG Z;erw[1212,r,_,a.dx,112,h.ins,aI T,T.iZ,iE^_,12,a.aW,11122,aH.of h.hW,dM b,12,p,12,qX.k (k:=Sum.inl z) J ([Aw]▸agE b1 ⋯)];rw[Ax];let o:ay A.az _ r (S.b6 c z d) a:=h.Az b (iS (S.way c) z d);let u1:dc a r H (upd H p (.dK (wK (iS (S.way c) z d)))):=dc.upd (MB b);generalize upd H p (.dK (wK (iS (S.way c) z d)))=L at o u1 ⊢;let w1:(S.b6 c z d).ways.length=S.made:=by show ⇑(S.ways.set c _)=_;rw[agZ,hw.w]
  let⟨q,G,C⟩:=o.rW.at (ph (S:=S.b6 c z d) (c:=d) ([w1]▸hd))
  let b2:⇑((S.b6 c z d).way d)<=100001:=BG λl g=>by
   rcases aiP g with g|rfl
   ·rwa[Nat.le_succ_of_le (Z l g)]
   ·rwa[agJ (JW^_) (by omega)]
  rwa[⟨_,rfl,_,rfl,r,_,a.dx,_,_,rfl,o.ins,aI T,T.iZ,iE^_,_,rfl,a.aW,_,_,_,rfl,rfl,aH.of o.hW,dM G,_,rfl,_,rfl,q,_,rfl,qX.k (k:=Sum.inl (-z)) C (by rw[Aw];rwa[agE b2 (by decide)]),?_⟩];rw[Ax];let f:ay A.az _ r ((S.b6 c z d).b6 d (-z) c) a:=o.Az G (iS ((S.b6 c z d).way d) (-z) c);let Y:dc a r L (upd L q (.dK (wK (iS ((S.b6 c z d).way d) (-z) c)))):=dc.upd (MB G);generalize upd L q (.dK (wK (iS ((S.b6 c z d).way d) (-z) c)))=H2 at f Y ⊢;generalize N:(S.b6 c z d).b6 d (-z) c=B at f ⊢;let O:⇑B.gaps=S.made:=by rw[<-N];rwa[hw.g]
  let⟨p3,t,m⟩:=f.rG.at (wO (S:=B) (c:=c) ([O]▸hc))
  let pop:∀{H:Hp} {S:RS} {c:Nat} {z:Int} {p:Zs},ay A.az H r S a->a.gs[c]?\p->H p\.dK (gK (S.gap c))->∀{Q:V->Hp->Prop},(∀v F,dc a r H F->ay A.az F r (S.lL c z) a->Q v F)->
   JK p (.int z) .non H Q:=by
   intro H S c z p h b J Q C
   suffices q:(∀v,bz (gK (S.gap c)) (Sum.inl z)\v->Q v (upd H p (.dK (e8 (gK (S.gap c)) (Sum.inl z)))))/\(bz (gK (S.gap c)) (Sum.inl z)=none->Q .non H) from ⟨_,Sum.inl z,J,2,q.1,q.2⟩
   rw[Hd,Ob];by_cases D:z∈S.gap c
   ·rw[agX D];rwa[λv _=>C _ _ (dc.upd (VG b)) (h.Rc b _),λz=>by ext z]
   ·rw[agT D];rwa[⟨λv z=>(by ext z),λ_=>C _ _ (λ_ _ _ e=>e) ?_⟩];let e:(S.gap c).filter (λx=>decide (x≠z))=S.gap c:=List.filter_eq_self.mpr λx hx=>aha λz=>D (z ▸ hx)
    let g:c<⇑S.gaps:=by rw[<-h.rG.1];rwa[(agx.mp b).1]
    have:S.lL c z=S:=by
     unfold RS.lL RS.setG;rw[e]
     let es:S.gaps.set c (S.gap c)=S.gaps:=aif λi=>by
      by_cases M:c=i
      ·subst M;rw[ahs g,wO g]
      ·rw[ahV M]
     rw[es]
    rw[this];rwa[h]
  rwa[⟨12,r,_,a.dx,112,f.ins,aI T,T.r9,sU^_,12,a.aG,11122,aH.of f.hG,dM t,p3,2,.inl ⟨_,.inl m⟩,12,pop f t m λv H3 u3 n=>?_⟩];generalize U:B.lL c z=R at n;let g3:⇑R.gaps=S.made:=by rw[<-U];show ⇑(B.gaps.set c _)=_;rw[agZ,O]
  let⟨p4,j,y⟩:=n.rG.at (wO (S:=R) (c:=d) ([g3]▸hd));rwa[⟨12,r,_,a.dx,112,n.ins,aI T,T.r9,sU^_,12,a.aG,11122,aH.of n.hG,dM j,p4,2,.inl ⟨_,.inl y⟩,1212,pop n j y λv H4 u4 X=>?_⟩];rwa[k H4 (u1.trans (Y.trans (u3.trans u4))) ?_];rw[<-U,<-N]at X;rwa[X]
def tI (T:Txt K mg A):T.gn.Ok mg P w base 3 (Mz A.az):=by
 rwa[T.gn.on tG (λcC AA outer s H vs Q E hr h=>?_)]
 ·let⟨x,j,L,rfl,hx,lH,BH,k⟩:=h
  erw[_,(ai (bY (pv 0) (pv 1) rfl)
   (ai (bY (pv 0) au rfl)
   (ai (bY (pv 0) (bU aj) rfl)
   (ai (bY (pv 0) (bU (ae fJ aj)) rfl)
   (ai (bY (pv 0) (bU (ae (pc T.p9 (uh T) hr (ae (pv 1) aj)) aj)) rfl)
   (ai (bY (pv 0) (bU (ae au aj)) rfl)
   (ai (bY (pv 0) (bU (ae (bU (ae au aj)) aj)) rfl)
   (aw (bY (pv 0) (bU aj) rfl)))))))))]
  rwa[AF ?_];intro Ik BI qK oh jV fS gy
  let st:∀{H0:Hp} {fs:List (Str×V)} {f:Str} {v:V},H0 x\.ins A.az j fs->(∀b o,H b\o->b≠x->H0 b\o)->upd H0 x (.ins A.az j (bJ f v fs)) x\.ins A.az j (bJ f v fs)/\(∀b o,H b\o->b≠x->upd H0 x (.ins A.az j (bJ f v fs)) b\o)/\∀b o,b≠x->H0 b\o->upd H0 x (.ins A.az j (bJ f v fs)) b\o:=
   λ_ h=>⟨ah,λb o e n=>[ak n]▸h b o e n,λb o n e=>[ak n]▸e⟩
  erw[1212,x,_,j,12,hx,aI T,T.r0,(by show 0<1000;decide)];obtain⟨x1,o1,-⟩:=st (f:="letters") (v:=.int L) hx (λb o e _=>e);generalize upd H x (.ins A.az j (bJ "letters" (.int L) []))=H1 at x1 o1 ⊢;let f1:⇑(bJ "letters" (.int L) ([]:List (Str×V)))<=1:=jt (n:=0) (agA _);erw[12,x,_,j,12,x1,aI T,T.pe,agE f1 ⋯];obtain⟨x2,o2,-⟩:=st (f:="made") (v:=.int 1) x1 o1;let f2:=jt (f:="made") (v:=.int 1) f1;generalize e2:bJ "made" (.int 1) (bJ "letters" (.int L) [])=Wt at x2 o2 f2 ⊢;generalize upd H1 x (.ins A.az j Wt)=H2 at x2 o2 ⊢;rwa[⟨agW _,λz nR=>⟨12,x,_,j,12,aq.upd nR _ _ x2,aI T,T.r6,agE f2 ⋯,5⟩⟩];let Wu:upd H2 z (.lst []) z\(.lst []):=ah;let M:z≠x:=(ax x2 nR).symm;let s3:=aq.upd (o:=.lst []) nR
  let n0:∀{b:Zs} {H0:Hp},(∀c o,H c\o->c≠x->H0 c\o)->H0 b=none->b≠x->H b=none:=λ{b H0} h n nx=>by
   cases e:H b with
   |none=>rfl
   |some o=>rw[h b o e nx]at n;ext n
  let kR:=n0 o2 nR M;generalize upd H2 z (.lst [])=H3 at Wu s3 ⊢;let⟨x4,o4,k4⟩:=st (f:="rows") (v:=↑z) (s3^x2) (λb o e n=>s3^o2 b o e n);let f4:=jt (f:="rows") (v:=↑z) f2;generalize e4:bJ "rows" ↑z Wt=Wv at x4 o4 f4 k4 ⊢;let Sx:=k4 _ _ M Wu;generalize upd H3 x (.ins A.az j Wv)=H4 at x4 o4 Sx ⊢;intro wd Sy;let q:wd≠x:=(ax x4 Sy).symm;let Ww:=n0 o4 Sy q;let s5:=aq.upd (o:=.dK []) Sy;let Sz:upd H4 wd (.dK []) wd\(.dK []):=ah;generalize upd H4 wd (.dK [])=H5 at s5 Sz ⊢;rwa[⟨(Za4 1),λC nW=>⟨12,x,_,j,12,aq.upd nW _ _ (s5^x4),aI T,T.iZ,agE f4 ⋯,5⟩⟩];let Y:C≠x:=(ax (s5^x4) nW).symm;let kW:=n0 (λb o e n=>s5^o4 b o e n) nW Y;let nWR:C≠z:=(ax (s5^Sx) nW).symm;let s6:=aq.upd (o:=.lst [↑wd]) nW;let Wx:upd H5 C (.lst [↑wd]) C\(.lst [↑wd]):=ah;generalize upd H5 C (.lst [↑wd])=H6 at s6 Wx ⊢;let⟨x7,o7,k7⟩:=st (f:="ways") (v:=↑C) (s6^s5^x4) (λb o e n=>s6^s5^o4 b o e n);let f7:=jt (f:="ways") (v:=↑C) f4;generalize e7:bJ "ways" ↑C Wv=Wy at x7 o7 f7 k7 ⊢;let SD:=k7 _ _ M (s6^s5^Sx);let SF:=k7 _ _ Y Wx;let K1:=k7 _ _ q (s6^Sz);generalize upd H6 x (.ins A.az j Wy)=H7 at x7 o7 SD SF K1 ⊢;rwa[⟨12,L,2,lH,BH,λgd H8 s8 SG Y7=>?_⟩];let u:gd≠x:=(ax x7 SG).symm;let kgd:=n0 o7 SG u;let ngw:gd≠wd:=(ax K1 SG).symm;rwa[⟨(Za4 1),λD nG=>⟨12,x,_,j,12,aq.upd nG _ _ (s8^x7),aI T,T.r9,agE f7 ⋯,5⟩⟩];let Il:D≠x:=(ax (s8^x7) nG).symm;let kG:=n0 (λb o e n=>s8^o7 b o e n) nG Il;let nGR:D≠z:=(ax (s8^SD) nG).symm;let nGW:D≠C:=(ax (s8^SF) nG).symm;let s9:=aq.upd (o:=.lst [↑gd]) nG;let Wz:upd H8 D (.lst [↑gd]) D\(.lst [↑gd]):=ah;generalize upd H8 D (.lst [↑gd])=H9 at s9 Wz ⊢;let⟨x10,MC,Z⟩:=st (f:="gaps") (v:=↑D) (s9^s8^x7) (λb o e n=>s9^s8^o7 b o e n);let SJ:=jt (f:="gaps") (v:=↑D) f7;generalize e10:bJ "gaps" ↑D Wy=SK at x10 MC SJ Z ⊢;let K2:=Z _ _ M (s9^s8^SD);let K3:=Z _ _ Y (s9^s8^SF);let MD:=Z _ _ q (s9^s8^K1);let K4:=Z _ _ Il Wz;let MF:=Z _ _ u (s9^Y7);generalize upd H9 x (.ins A.az j SK)=WB at x10 MC K2 K3 MD K4 MF ⊢;rwa[⟨4,λF nE=>⟨12,x,_,j,12,aq.upd nE _ _ x10,aI T,T.jk,agE SJ ⋯,5⟩⟩];let MG:F≠x:=(ax x10 nE).symm;let kE:=n0 MC nE MG;let nER:F≠z:=(ax K2 nE).symm;let nEW:F≠C:=(ax K3 nE).symm;let nEG:F≠D:=(ax K4 nE).symm;let t:=aq.upd (o:=.lst [.int 0]) nE;let SM:upd WB F (.lst [.int 0]) F\(.lst [.int 0]):=ah;generalize upd WB F (.lst [.int 0])=SN at t SM ⊢;let⟨X,Io,N⟩:=st (f:="elders") (v:=↑F) (t^x10) (λb o e n=>t^MC b o e n);let SQ:=jt (f:="elders") (v:=↑F) SJ;generalize e12:bJ "elders" ↑F SK=SR at X Io SQ N ⊢;let U:=N _ _ M (t^K2);let O:=N _ _ Y (t^K3);let MH:=N _ _ q (t^MD);let S:=N _ _ Il (t^K4);let MJ:=N _ _ u (t^MF);let R:=N _ _ MG SM;generalize upd SN x (.ins A.az j SR)=WC at X Io U O MH S MJ R ⊢;rwa[⟨4,λcl y=>⟨(Za4 1),λB nC=>⟨12,x,_,j,12,aq.upd nC _ _ (aq.upd y _ _ X),aI T,T.mZ,agE SQ ⋯,5⟩⟩⟩];let K5:cl≠x:=(ax X y).symm;let kcl:=n0 Io y K5;let ncR:cl≠z:=(ax U y).symm;let ncW:cl≠C:=(ax O y).symm;let ncG:cl≠D:=(ax S y).symm;let ncE:cl≠F:=(ax R y).symm;let a:=aq.upd (o:=.lst [.int 0]) y;let G:upd WC cl (.lst [.int 0]) cl\(.lst [.int 0]):=ah;generalize upd WC cl (.lst [.int 0])=WD at a G nC ⊢;let SV:B≠x:=(ax (a^X) nC).symm;let kC:=n0 (λb o e n=>a^Io b o e n) nC SV;let nCR:B≠z:=(ax (a^U) nC).symm;let nCW:B≠C:=(ax (a^O) nC).symm;let nCG:B≠D:=(ax (a^S) nC).symm;let nCE:B≠F:=(ax (a^R) nC).symm;let nCc:B≠cl:=(ax G nC).symm;let m:=aq.upd (o:=.lst [↑cl]) nC;let SW:upd WD B (.lst [↑cl]) B\(.lst [↑cl]):=ah;generalize upd WD B (.lst [↑cl])=H14 at m SW ⊢;let⟨Ip,MK,r⟩:=st (f:="called") (v:=↑B) (m^a^X) (λb o e n=>m^a^Io b o e n);let WG:=jt (f:="called") (v:=↑B) SQ;generalize e15:bJ "called" ↑B SR=SX at Ip MK WG r ⊢;let K6:=r _ _ M (m^a^U);let K7:=r _ _ Y (m^a^O);let ML:=r _ _ q (m^a^MH);let K8:=r _ _ Il (m^a^S);let MN:=r _ _ u (m^a^MJ);let K9:=r _ _ MG (m^a^R);let J:=r _ _ K5 (m^G);let La:=r _ _ SV SW;generalize upd H14 x (.ins A.az j SX)=WH at Ip MK K6 K7 ML K8 MN K9 J La ⊢;rwa[⟨agW _,λI nN=>⟨12,x,_,j,12,aq.upd nN _ _ Ip,aI T,T.sg,agE WG ⋯,5⟩⟩];let WK:I≠x:=(ax Ip nN).symm;let kN:=n0 MK nN WK;let nNR:I≠z:=(ax K6 nN).symm;let nNW:I≠C:=(ax K7 nN).symm;let nNG:I≠D:=(ax K8 nN).symm;let nNE:I≠F:=(ax K9 nN).symm;let nNC:I≠B:=(ax La nN).symm;let nNc:I≠cl:=(ax J nN).symm;let g:=aq.upd (o:=.lst []) nN;let SY:upd WH I (.lst []) I\(.lst []):=ah;generalize upd WH I (.lst [])=H16 at g SY ⊢;let⟨WL,WM,l⟩:=st (f:="went") (v:=↑I) (g^Ip) (λb o e n=>g^MK b o e n)
  let ef:bJ "went" ↑I SX=ft (L:Int) 1 ⟨j,z,C,D,F,B,I,[],[wd],[gd],[cl]⟩:=by
   rw[<-e15,<-e12,<-e10,<-e7,<-e4,<-e2]
   kernel_rfl
  rw[ef]at WL WM l ⊢;rwa[k ⟨j,z,C,D,F,B,I,[],[wd],[gd],[cl]⟩ _ WM ⟨WL,l _ _ M (g^K6),l _ _ Y (g^K7),l _ _ Il (g^K8),l _ _ MG (g^K9),l _ _ SV (g^La),l _ _ WK SY,⟨2,(λi p d h=>by simp at h)⟩,555,(λd hd=>by ext hd),55⟩ ?_]
  ·rwa[Each.snoc (ps:=[]) (xs:=[]) ⟨2,λi p d h=>by simp at h⟩ (l _ _ q (g^ML))]
  ·rwa[Each.snoc (ps:=[]) (xs:=[]) ⟨2,λi p d h=>by simp at h⟩ (l _ _ u (g^MN))]
  ·rwa[Each.snoc (ps:=[]) (xs:=[]) ⟨2,λi p d h=>by simp at h⟩ (l _ _ K5 (g^J))]
  ·show [z,C,D,F,B,I,cl].Nodup;simp only[ahb,agN,ahl,aiM,not_or,aij,and_true,ai0]
   cbv
  ·show [wd,gd].Nodup;simp only[ahb,agN,ahl,aiM,aij,and_true,ai0];rwa[ngw.symm]
  ·intro b hb;rcases hb with rfl|hb|hb
   ·rwa[.inl rfl]
   ·simp only[RA.lists,agN,ahl,aiM]at hb
    cbv
   ·simp only[RA.eJ,agH,agN,ahl,aiM]at hb
    cbv
def _root_.Lake.L2.ay.BJ {r:Zs}(h:ay a H r S O){p:Zs}(b:H p=none):¬O.own r p:=λz=>by
 let⟨o,e⟩:=h.there z
 cbv
def zF (T:Txt K mg A):T.qe.Ok mg P w base 3 (Ih A.az):=by
 rwa[T.qe.on qI (λcC AA outer s H vs Q E hr h=>?_)]
 ·let⟨r,S,a,c,z,rfl,h,hw,lH,BH,hc,hm,y6,hz,k⟩:=h
  erw[_,(ai (bD 3 qI.nd (aF (pv 0) rfl))
   (ai (bY (pv 0) (aK cI (pv 3) au) rfl)
   (ai (aU (cG agG agO agP bH (aF (pv 0) rfl) (ae (cQ (ae (eh (l:=[110,101,119]) rfl) (ae (pv 1) (ae (pv 2) (ae (pv 3) aj))))) aj)))
   (ai (aU (cG agG agO agP bH (aF (pv 0) rfl) (ae fJ aj)))
   (ai (aU (cG agG agO agP bH (aF (pv 0) rfl) (ae (pc T.p9 (uh T) hr (ae (aF (pv 0) rfl) aj)) aj)))
   (ai (aU (cG agG agO agP bH (aF (pv 0) rfl) (ae (pv 3) aj)))
   (ai (aU (cG agG agO agP bH (aF (pv 0) rfl) (ae (bU (ae (pv 3) aj)) aj)))
   (ai (aU (pm (pv 0) (aI T) T.lS (qJ T) hr (ae (pv 1) (ae (pv 2) (ae (pv 3) aj)))))
   (aw (bx (pv 3)))))))))))]
  rwa[JX ?_];intro WN Ik BI qK oh jV fS gy;erw[12,r,_,a.dx,112,h.ins,aI T,T.pe,sS^_];erw[12112212,r,_,a.dx,12,h.ins,aI T,T.pe,(by show 8<1000;decide)];rw[He,show (S.made:Int)+ 1=((S.made+ 1:Nat):Int) by ext];let X:=h.Oc (S.made+ 1);let u1:dc a r H (upd H r (.ins A.az a.dx (ft S.L ((S.made+ 1:Nat):Int) a))):=dc.upd (.inl rfl);generalize upd H r (.ins A.az a.dx (ft S.L ((S.made+ 1:Nat):Int) a))=H1 at X u1 ⊢;let lR:⇑(a.rs.map V.ref)<sizeLine:=by rw[agy,h.rR.1];rwa[agE y6 ⋯]
  rwa[⟨12,r,_,a.dx,112,X.ins,aI T,T.r6,sT^_,.inl ⟨21,aH.of X.hR⟩,121212,(Za4 4),λt ht=>⟨a.aR,1122,aq.upd ht _ _ X.hR,lR,5⟩⟩];let s2:=aq.upd (o:=.tup [.str (tx [110,101,119]),.int c,.int z,.int S.made]) ht;let WO:upd H1 t (.tup [.str (tx [110,101,119]),.int c,.int z,.int S.made]) t\(.tup [.str (tx [110,101,119]),.int c,.int z,.int S.made]):=ah;generalize upd H1 t (.tup [.str (tx [110,101,119]),.int c,.int z,.int S.made])=H2 at s2 WO ⊢
  let hd2:bR H2 4 ↑t (qZ c z S.made):=by
   rwa[.t WO rfl λj v d y D=>?_]
   rcases j with _|_|_|_|j
   ·simp at y D;subst y D;rwa[.s]
   ·simp at y D;subst y D;rwa[.i]
   ·simp at y D;subst y D;rwa[.i]
   ·simp at y D;subst y D;rwa[.i]
   ·simp at y
  let nl:mE (qZ c z S.made):=.t (by show 4<=100000;decide) λd hd=>by
   simp only[agN,ahl,aiM]at hd;rcases hd with rfl|rfl|rfl|rfl
   ·rwa[.s]
   ·rwa[.i]
   ·rwa[.i]
   ·rwa[.i]
  let B:=(X.same s2).Ay hd2 nl;let u3:dc a r H2 (upd H2 a.aR (.lst (a.rs.map V.ref++[↑t]))):=dc.upd (.inr (.inl fU));generalize upd H2 a.aR (.lst (a.rs.map V.ref++[↑t]))=H3 at B u3 ⊢;generalize N:({ a with rs:=a.rs++[t] }:RA)=i at B;let Y8:∀b,i.own r b->a.own r b:=λb f=>by rw[<-N]at f;rwa[f]
  let ae6:∀b,a.own r b->i.own r b:=λb f=>by rw[<-N];rwa[f]
  let ewG:i.dx=a.dx:=by rw[<-N]
  let U3:dc a r H H3:=u1.trans (λb o f e=>u3 b o f (s2^e));erw[12,r,_,i.dx,112,B.ins,aI T,T.iZ,iE^_,.inl ⟨21,aH.of B.hW⟩];intro m x;let hdW:⇑(i.ws.map V.ref)<sizeLine:=by rw[agy,B.rW.1];show ⇑S.ways<sizeLine;rw[hw.w];rwa[agE hm ⋯]
  let s4:=aq.upd (o:=.dK []) x;let F:upd H3 m (.dK []) m\(.dK (wK [])):=ah;let Y9:=B.BJ x;erw[i.aW,1122,s4^B.hW,hdW];generalize upd H3 m (.dK [])=H4 at s4 F ⊢;let G:=(B.same s4).Q9 F (λz=>Y9 (.inr (.inr z)));let u5:dc i r H4 (upd H4 i.aW (.lst (i.ws.map V.ref++[↑m]))):=dc.upd (.inr (.inl fV));generalize upd H4 i.aW (.lst (i.ws.map V.ref++[↑m]))=H5 at G u5 ⊢;generalize ea5:({ i with ws:=i.ws++[m] }:RA)=n at G
  let afg:∀b,n.own r b->i.own r b\/b=m:=λb f=>by
   rw[<-ea5]at f;rcases f with f|f|f
   ·rwa[.inl (.inl f)]
   ·rwa[.inl (.inr (.inl f))]
   ·simp only[RA.eJ,agH,agC]at f;rcases f with (f|f)|f
    ·rwa[.inl (.inr (.inr (agU _ f)))]
    ·rwa[.inr f]
    ·rwa[.inl (.inr (.inr (agB _ f)))]
  let Ww:H m=none\/a.own r m:=by
   by_cases I:a.own r m
   ·rwa[.inr I]
   ·rwa[.inl ?_]
    cases e:H m with
    |none=>rfl
    |some o=>rw[U3 m o I e]at x;ext x
  let U5:dc a r H H5:=U3.trans λb o f e=>u5 b o (λz=>f (Y8 b z)) (s4^e)
  rwa[⟨12,r,_,n.dx,112,G.ins,aI T,T.r9,sU^_,.inl ⟨21,aH.of G.hG⟩,12,r,_,n.dx,112,G.ins,aI T,T.r0,vE^_,S.L,2,lH,BH,λu H6 s6 M aac=>?_⟩];let hdG:⇑(n.gs.map V.ref)<sizeLine:=by rw[agy,G.rG.1];show ⇑S.gaps<sizeLine;rw[hw.g];rwa[agE hm ⋯]
  let h6:=G.same s6;let Y:=G.BJ M;erw[n.aG,1122,h6.hG,hdG];let U:=h6.Rb aac (λz=>Y (.inr (.inr z)));let u7:dc n r H6 (upd H6 n.aG (.lst (n.gs.map V.ref++[↑u]))):=dc.upd (.inr (.inl i7));generalize upd H6 n.aG (.lst (n.gs.map V.ref++[↑u]))=H7 at U u7 ⊢;generalize ea7:({ n with gs:=n.gs++[u] }:RA)=g at U
  let afh:∀b,g.own r b->n.own r b\/b=u:=λb f=>by
   rw[<-ea7]at f;rcases f with f|f|f
   ·rwa[.inl (.inl f)]
   ·rwa[.inl (.inr (.inl f))]
   ·simp only[RA.eJ,agH,agC]at f;rcases f with f|f|f
    ·rwa[.inl (.inr (.inr (agU _ f)))]
    ·rwa[.inl (.inr (.inr (agB _ f)))]
    ·rwa[.inr f]
  let w5:H m=none\/a.own r m:=Ww
  let aad:∀b o,¬a.own r b->H b\o->¬n.own r b:=λb o f e z=>by
   cbv
  let U7:dc a r H H7:=λb o f e=>u7 b o (aad b o f e) (s6^U5 b o f e)
  let kgd:H u=none\/a.own r u:=by
   by_cases I:a.own r u
   ·rwa[.inr I]
   ·rwa[.inl ?_]
    cases e:H u with
    |none=>rfl
    |some o=>rw[U5 u o I e]at M;ext M
  erw[12,r,_,g.dx,112,U.ins,aI T,T.jk,jq^_,.inl ⟨21,aH.of U.hE⟩,12,g.aE,1122,U.hE,5]
  ·rw[aL,bZ];show ⇑S.aV<sizeLine;rw[hw.e];rwa[agE hm ⋯]
  let eE:ao (nI S.aV)++[V.int (S.made:Int)]=ao (nI (S.aV++[S.made])):=by rw[iW,ints_app];rfl
  show _;let J:=U.yJ (S.aV++[S.made]);rw[<-eE]at J;let u8:dc g r H7 (upd H7 g.aE (.lst (ao (nI S.aV)++[V.int (S.made:Int)]))):=dc.upd (.inr (.inl gL));generalize upd H7 g.aE (.lst (ao (nI S.aV)++[V.int (S.made:Int)]))=H8 at J u8 ⊢
  let C:∀b o,¬a.own r b->H b\o->¬g.own r b:=λb o f e z=>by
   cbv
  let U8:dc a r H H8:=λb o f e=>u8 b o (C b o f e) (U7 b o f e)
  rwa[⟨12,r,_,g.dx,112,J.ins,aI T,T.mZ,nF^_,.inl ⟨21,aH.of J.hC⟩,12,(Za4 1),λcl q=>⟨g.aC,1122,aq.upd q _ _ J.hC,55⟩⟩]
  ·rw[agy,J.rC.1];show ⇑S.called<sizeLine;rw[hw.c];rwa[agE hm ⋯]
  let s9:=aq.upd (o:=.lst [.int (S.made:Int)]) q;let L:upd H8 cl (.lst [.int (S.made:Int)]) cl\(.lst (ao (nI [S.made]))):=ah;let aae:=J.BJ q;generalize upd H8 cl (.lst [.int (S.made:Int)])=H9 at s9 L ⊢;let R:=(J.same s9).Hf L (λz=>aae (.inr (.inl z)));let WQ:dc g r H9 (upd H9 g.aC (.lst (g.cs.map V.ref++[↑cl]))):=dc.upd (.inr (.inl iF));generalize upd H9 g.aC (.lst (g.cs.map V.ref++[↑cl]))=Z at R WQ ⊢;generalize aaf:({ g with cs:=g.cs++[cl] }:RA)=p at R
  let ae7:∀b,p.own r b->g.own r b\/b=cl:=λb f=>by
   rw[<-aaf]at f;rcases f with f|f|f
   ·rwa[.inl (.inl f)]
   ·let AW:b∈g.lists++[cl]:=f;rcases agH.mp AW with f|f
    ·rwa[.inl (.inr (.inl f))]
    cbv
   ·rwa[.inl (.inr (.inr f))]
  let kcl:H cl=none\/a.own r cl:=by
   by_cases I:a.own r cl
   ·rwa[.inr I]
   ·rwa[.inl ?_]
    cases e:H cl with
    |none=>rfl
    |some o=>rw[U8 cl o I e]at q;ext q
  let O:∀b o,¬a.own r b->H b\o->¬p.own r b:=λb o f e z=>by
   cbv
  let U10:dc a r H Z:=λb o f e=>WQ b o (C b o f e) (s9^U8 b o f e)
  let hS:ay A.az Z r (S.grown c z (a9 (2* S.L))) p:=R;rwa[⟨12,r,p.dx,12,hS.ins,cL _ _ _ ⋯,121212,r,S.grown c z (a9 (2* S.L)),p,c,S.made,z,2,hS,⟨5555⟩,555,λSN u11 h11=>?_⟩]
  ·show ⇑(S.ways++[[]])=S.made+ 1;rw[agw,hw.w];rfl
  ·show ⇑(S.gaps++[_])=S.made+ 1;rw[agw,hw.g];rfl
  ·show ⇑(S.aV++[_])=S.made+ 1;rw[agw,hw.e];rfl
  ·show ⇑(S.called++[_])=S.made+ 1;rw[agw,hw.c];rfl
  ·show c<S.made+ 1;ext
  ·show S.made<S.made+ 1;ext
  ·intro l hl;rcases agH.mp hl with hl|hl
   ·rwa[hz l hl]
   cbv
  ·rwa[⟨_,rfl,k p SN (λb o f e=>u11 b o (O b o f e) (U10 b o f e)) h11 λb f=>?_⟩]
   cbv
def fX (T:Txt K mg A):T.eP.Ok mg P w base 1 (wM A.az):=by
 rwa[T.eP.on tH (λo y f s H B Q E v h=>?_)]
 ·let⟨r,S,a,rfl,h,hw,n,k⟩:=h;erw[_,(aw (bx (Fz (fns:=["self"]) (ixs:=[0]) (cl:=_) rfl (ia rfl T.eQ (ae (aF (pv 0) rfl) aj)) (pL rfl rfl ⋯ rfl ⋯ rfl ⋯ ⋯ rfl rfl rfl rfl) (λC s H ex=>(bf eI (bF (Ar (K:=K) rfl) (Oe (K:=K) rfl (pv 1) rfl) (pv 0) (λ_ _=>rfl)) (pv 0) (bh _))) (λC s H ex=>(pv 0)))))];erw[12,r,_,a.dx,112,h.ins,aI T,T.pe,sS^_,(S.made:Int),233];rw[ag4];erw[λi m ys l=>m=S.made - i/\i<=S.made/\ys=ao (nI ((List.range i).filter λc=>decide (S.aV[c]?\c)))/\l=H,⟨S.made,by simp,agW _,22⟩];rintro i m ys l ⟨rfl,t,rfl,rfl⟩
  let hlen:⇑(ao (nI ((List.range i).filter λc=>decide (S.aV[c]?\c))))<=i:=by
   rw[aL,bZ];rwa[agJ (aiJ _ _) (by cbv)]
  by_cases b:i<S.made
  ·rwa[.inr ⟨b,5,λx u g=>?_⟩]
   ·rwa[agE (agJ hlen (show i<=100000 by omega)) ⋯]
   let⟨rfl,rfl⟩:=g;let j:S.aV[i]?\(S.aV[i]'([hw.e]▸b)):=agv _
   generalize S.aV[i]'(by cbv)=e at j;erw[12,r,_,a.dx,112,h.ins,aI T,T.jk,jq^_,12,a.aE,11122,aH.of h.hE,([Int.zero_add]▸dE (cK (jN j)))];erw[12212];by_cases d:e=i
   ·subst d;rw[show decide (V.int (e:Int)=V.int (0+ (e:Int)))=true from aha (by rw[Int.zero_add])];rwa[⟨12,S.made - (e+ 1),32,b,52⟩];rw[ah9,List.filter_append,ajS (by cbv),List.filter_nil,iW,ints_app,Int.zero_add];rfl
   ·rw[show decide (V.int (e:Int)=V.int (0+ (i:Int)))=false from ahu (λz=>d (by injection z with z;omega))];rwa[⟨S.made - (i+ 1),32,b,52⟩];rw[ah9,List.filter_append,List.filter_cons_of_neg (by cbv),List.filter_nil,ag9]
  ·let e:i=S.made:=∅
   subst e;rwa[.inl ⟨agA _,agJ hlen (agJ n ⋯),λD q=>k D q⟩]
def pj (T:Txt K mg A):T.kB.Ok mg P w base 5 (Ej 2 A.az):=by
 rwa[T.kB.on yc (λcC AA L s H vs Q E R h=>?_)]
 ·let⟨r,S,a,rfl,h,G,F,k⟩:=h;erw[_,(aw (bx (gM (fns:=[]) (ixs:=[]) (cl:=[]) rfl (da (aF (pv 0) rfl)) (iB ⋯ ⋯ rfl ⋯ rfl) (λC s H ex=>(pc T.own (y4 T) R (ae (pv 0) aj))))))];erw[12,r,_,a.dx,112,h.ins,aI T,T.r6,sT^_,a.aR,2,⟨_,aH.of h.hR⟩];let J:⇑(a.rs.map V.ref)=⇑S.rows:=by rw[agy,h.rR.1]
  let I:∀i,i<⇑S.rows->∃p d,a.rs[i]?\p/\S.rows[i]?\d/\d∈S.rows/\bR H 4 ↑p d:=λi c=>by
   let f:=agv c;let⟨p,m,q⟩:=h.rR.at f;rwa[p,_,m,f,agu f,q]
  rwa[kO ⇑S.rows (λi=>(a.rs.map V.ref).getD i .non) (λb v i=>∃p d,v=↑p/\S.rows[i]?\d/\mE d/\bR b 4 ↑p d) (λH1 b v i s q0=>by let⟨p,x,e,j,hn,q⟩:=q0;rwa[p,x,e,j,hn,q.same s]) ?_ (λi b s2 c=>jK (aH.of (s2^h.hR)) i ∅) (λi x b H3 s2 c y=>?_) (λb s2=>?_) (λi b Rr c s2 kk=>?_) (λD b ys s2 Y X R=>?_)]
  ·rwa[agJ G ⋯]
  ·let⟨e,u⟩:=iC (aH.of (s2^h.hR)) i x H3 ∅ y;erw[e];rw[agD,u];rfl
  ·have:=gJ (aH.of (K:=K) (s2^h.hR));rw[J]at this;rwa[this]
  ·let⟨p,d,m,f,g,q⟩:=I i c;let u:(a.rs.map V.ref).getD i .non=↑p:=by rw[agD,agR,m];rfl
   let q1:=(F p d g q).same s2;rw[u];rwa[⟨12,↑p,d,2,q1,h.flat d g,λv' H' s' U=>?_⟩]
   have:∃B,v'=↑B:=by
    let n:∃N,d=.t N:=by
     cases q with
     |t=>cbv
     |l=>exact absurd (h.flat _ g) (λz=>by ext z)
    let⟨N,rfl⟩:=n
    cases U with
    |t=>cbv
   let⟨B,rfl⟩:=this;rwa[kk _ H' s' ⟨B,d,2,f,h.flat d g,U.le ⋯⟩]
  ·let⟨M,rfl,o⟩:=sX (P:=λi p=>∃d,S.rows[i]?\d/\bR b 4 ↑p d) ys 0 (λi v hv=>by
    cbv)
   let Z:aq b (upd b D (.lst (M.map V.ref))):=aq.upd Y;rw[agy]at X;rwa[k D M _ (s2.trans Z) (s2.free Y) ah ⟨X,λi p d e1 j=>?_⟩];let⟨d',O,q⟩:=o i p e1;rw[Nat.zero_add]at O;obtain rfl:d'=d:=Za0 (O.symm.trans j);rwa[q.same Z]
def dh (H:Hp)(p:Zs)(a:Ze):Prop:=∃b:Zn,H p\.lst (b.map V.ref)/\Each (λq (w:Way)=>H q\.tup [.int (w.1:Int),.int w.2.1,.int (w.2.2:Int)]) b a
def qh (a:RA)(r p:Zs)(H c:Hp):Prop:=∀b o,¬a.own r b->b≠p->H b\o->c b\o
def dh.keep {c:Ze}(h:dh H a c)(k:∀o,H a\o->I a\o)(g:∀b d,H b\.tup d->I b\.tup d):dh I a c:=by
 let⟨f,j,i⟩:=h;rwa[f,k _ j,i.imp λq w _ _ e=>g^e]
structure Small (S:RS):Prop where
 m:S.made<=100000
 w:∀l∈S.ways,⇑l<=100000
 r:⇑S.rows<=1000000
 n:⇑S.aY<=1000000
 c:∀l∈S.called,⇑l<=1000000
inductive BK (C:Zs) (vs:Zb) (H:Hp) (Q:VK) (E_:XK):Prop
 |mk (r p:Zs) (S:RS) (a:RA) (c:Nat) (pend:Ze):vs=[↑r,.int c,↑p]->ay C H r S a->S.Wf->c<S.made->Fu S c->(∀l∈S.ways,⇑l<=100000)->dh H p pend->¬a.own r p->⇑pend<=1000000->(∀a' H',qh a r p H H'->ay C H' r (S.oO c pend).1 a'->dh H' p (S.oO c pend).2->(∀b,a'.own r b->a.own r b\/H b=none)->Q .non H')->BK C vs H Q E_
inductive Ek (C:Zs) (vs:Zb) (H:Hp) (Q:VK) (E_:XK):Prop
 |mk (r p:Zs) (S:RS) (a:RA) (c x y:Nat) (z:Int) (pend:Ze):vs=[↑r,.int c,.int z,.int x,.int y,↑p]->ay C H r S a->S.Wf->x<S.made->y<S.made->x≠y->Fu S (max x y)->(∀n∈S.b8 (max x y),n<S.made)->Small S->dh H p pend->¬a.own r p->⇑pend<=1000000->(∀a' H',qh a r p H H'->ay C H' r (S.meet c z x y pend).1 a'->dh H' p (S.meet c z x y pend).2->(∀b,a'.own r b->a.own r b\/H b=none)->Q .non H')->Ek C vs H Q E_
structure wQ (S:RS):Prop where
 wf:S.Wf
 el:∀c,c<S.made->S.av c<S.made
 bl:∀c z d,S.by c z=some d->d<S.made
 cl:∀c,∀n∈S.b8 c,n<S.made
 off:∀c,c<S.made->Fu S c
 sm:Small S
inductive BL (C:Zs) (vs:Zb) (H:Hp) (Q:VK) (E_:XK):Prop
 |mk (r t p:Zs) (S:RS) (a:RA) (w:Way) (pend:Ze):vs=[↑r,↑t,↑p]->ay C H r S a->H t\.tup [.int (w.1:Int),.int w.2.1,.int (w.2.2:Int)]->wQ S->w.1<S.made->w.2.2<S.made->dh H p pend->¬a.own r p->⇑pend<=1000000->(∀a' H',qh a r p H H'->ay C H' r (S.takeIn pend w).1 a'->dh H' p (S.takeIn pend w).2->(∀b,a'.own r b->a.own r b\/H b=none)->Q .non H')->BL C vs H Q E_
inductive MP (C:Zs) (vs:Zb) (H:Hp) (Q:VK) (E_:XK):Prop
 |mk (r q:Zs) (S:RS) (a:RA) (c d:Nat) (z:Int) (row:Dt) (I:RS->Ze->Prop) (μ:RS->Ze->Nat):vs=[↑r,.int c,.int z,.int d,↑q]->ay C H r S a->⇑S.rows<=1000000->bR H 2 ↑q row->mE row->I { S with rows:=S.rows++[row] } [(c,z,d)]->(∀S pend w,I S (pend++[w])->wQ S/\w.1<S.made/\w.2.2<S.made/\⇑pend<=1000000/\I (S.takeIn pend w).1 (S.takeIn pend w).2/\μ (S.takeIn pend w).1 (S.takeIn pend w).2 < μ S (pend++[w]))->(∀S' a' H',dc a r H H'->ay C H' r S' a'->I S' []->(∀b,a'.own r b->a.own r b\/H b=none)->Q .non H')->MP C vs H Q E_
def pk (h:i<n):vy n (i:Int)\i:=by
 unfold vy;rw[agX ∅,agX ∅,ag4]
def Lb {l:List (Int×Nat)}(a:(l.map (·.1)).Nodup){q:Int×Nat}(h:q∈l):fq l q.1\q.2:=by
 induction l with
 |nil=>ext h
 |cons p l b=>
  unfold fq;rw[ahK,ahb]at a;by_cases e:p.1=q.1
  ·cbv
  ·rw[ajb (by simpa using e)];rcases agN.mp h with rfl|h
   ·rwa[absurd rfl e]
   ·rwa[b a.2 h]
def u6 (T:Txt K mg A):T.lD.Ok mg P w base 1 (BK A.az):=by
 rwa[T.lD.on gO (λcC AA outer s H vs Q E hr h=>?_)]
 ·let⟨r,p,S,a,c,d,rfl,h,hw,hc,ok,sm,hP,np,qx,k⟩:=h;let lI:=hH hr
  erw[_,(ai (bD 3 gO.nd (bF bO (aF (pv 0) rfl) (pv 1) (λ_ _=>rfl)))
   (ai (kH fJ (vn (aF (pv 0) rfl) (pv 1) set_list))
   (aw (cP ag0 rfl (da (eM (jO rfl) rfl T.iY ahX (ae (pv 3) aj))) (dB 4 gO.nd)
    (ai (bD 5 gO.nd (DL lI (pv 3) (pv 4) (λ_ _=>rfl)))
    (ai (bP (bI (bf sI (pv 5) (pv 1) (bh _))
     (aw (aU (JM (bF bO (aF (pv 0) rfl) (pv 5) (λ_ _=>rfl)) (eG dw (pv 4)) ⟨2222⟩)))
     bq))
    (aw (aU (cG agG agO agP bH (pv 2) (ae (cQ (ae (pv 1) (ae (pv 4) (ae (pv 5) aj)))) aj))))))))))]
  rwa[fK ?_];intro fS gy;let S0:c<⇑S.ways:=by rw[hw.w];rwa[hc]
  let⟨u,v,WR⟩:=h.rW.at (ph S0);let WT:⇑(S.way c)<=100000:=BG sm;erw[12,r,_,a.dx,112,h.ins,aI T,T.iZ,iE^_,12,a.aW,11122,aH.of h.hW,dM v];intro G F;let s1:=aq.upd (o:=.dK []) F;let O:upd H G (.dK []) G\(.dK (wK [])):=ah;let nn:=h.BJ F;let nnp:G≠p:=λz=>by let⟨L,q1,_⟩:=hP;cbv
  generalize upd H G (.dK [])=H1 at s1 O ⊢;let h1:=h.same s1;let hi:c<⇑a.ws:=by rw[h.rW.1];rwa[S0]
  erw[12,r,_,a.dx,112,h1.ins,aI T,T.iZ,iE^_,12,a.aW,11,c,22,h1.hW,pk ([agy]▸hi)];let h2:=h1.Rf hi O (λz=>nn (.inr (.inr z)));let u2:∀b o,b≠a.aW->H1 b\o->upd H1 a.aW (.lst ((a.ws.map V.ref).set c ↑G)) b\o:=λb o y e=>by rw[ak y];rwa[e]
  generalize upd H1 a.aW (.lst ((a.ws.map V.ref).set c ↑G))=H2 at h2 u2 ⊢;let npW:p≠a.aW:=λz=>np (.inr (.inl ([z]▸fV)))
  let wdW:u≠a.aW:=(h.ld fV (dz (agu v))).symm;let U:H2 u\(.dK (wK (S.way c))):=u2 _ _ wdW (s1^WR);generalize El:({ a with ws:=a.ws.set c G }:RA)=a2 at h2;let WU:ay A.az H2 r (cZ c S d []).1 a2:=h2
  let aag:¬a2.own r u:=λz=>by
   rw[<-El]at z;rcases z with z|z|z
   ·rwa[(h.rd (dz (agu v))) z.symm]
   ·rwa[h.ld z (dz (agu v)) rfl]
   ·let WV:=ahD.mp h.mF;let z':u∈a.ws.set c G++a.gs:=z;rcases agH.mp z' with z|z
    ·let⟨j,R⟩:=ahc z;by_cases e:c=j
     ·subst e;rw[ahs hi]at R;have:G=u:=Za0 R;rw[this,WR]at F;ext F
     ·rw[ahV e]at R;rwa[e ((List.getElem?_inj hi WV.1).mp (v.trans R.symm))]
    ·rwa[WV.2.2 u (agu v) u z rfl]
  let N:∀b,a2.own r b->a.own r b\/H b=none:=λb f=>by
   rw[<-El]at f;rcases f with f|f|f
   ·rwa[.inl (.inl f)]
   ·rwa[.inl (.inr (.inl f))]
   ·let AW:b∈a.ws.set c G++a.gs:=f;rcases agH.mp AW with f|f
    ·rcases aiP f with f|rfl
     ·rwa[.inl (.inr (.inr (agU _ f)))]
     ·rwa[.inr F]
    ·rwa[.inl (.inr (.inr (agB _ f)))]
  let wU:¬a2.own r p:=λz=>by
   rcases N p z with q|q
   ·rwa[np q]
   ·let⟨L,q1,_⟩:=hP;cbv
  let yH:dh H2 p (cZ c S d []).2:=hP.keep (λo e=>u2 _ _ npW (s1^e)) (λb xs e=>u2 _ _ (h.tl e fV) (s1^e));let B2:qh a r p H H2:=λb o y _ e=>u2 _ _ (λz=>y (.inr (.inl ([z]▸fV)))) (s1^e)
  rwa[⟨12,u,12,U,λl nl=>?_⟩];let s3:=aq.upd (o:=.lst ((wK (S.way c)).map λD=>kV D.1)) nl;let Y:upd H2 l (.lst ((wK (S.way c)).map λD=>kV D.1)) l\(.lst ((wK (S.way c)).map λD=>kV D.1)):=ah;let Em:=WU.BJ nl;let WW:l≠p:=λz=>by let⟨L,q1,_⟩:=yH;cbv
  let nlw:l≠u:=λz=>by cbv
  let nlH:H l=none\/a.own r l:=by
   by_cases ho:a.own r l
   ·rwa[.inr ho]
   ·rwa[.inl ?_]
    cases e:H l with
    |none=>rfl
    |some o=>rw[B2 l o ho WW e]at nl;ext nl
  generalize upd H2 l (.lst ((wK (S.way c)).map λD=>kV D.1))=H3 at s3 Y ⊢;erw[l,2,⟨_,aH.of Y⟩];let hlen:⇑((wK (S.way c)).map λD=>kV D.1)=⇑(S.way c):=by rw[agy,Aw]
  rwa[fI (xs:=(wK (S.way c)).map λD=>kV D.1) (λi σ M=>∃v4 v5,σ=#v[↑r,.int (c:Int),↑p,↑u,v4,v5]/\ay A.az M r (cZ c S d ((S.way c).take i)).1 a2/\dh M p (cZ c S d ((S.way c).take i)).2/\(∀b o,¬a2.own r b->b≠p->H3 b\o->M b\o)) ⟨none,none,2,WU.same s3,yH.keep (λo e=>s3^e) (λb xs e=>s3^e),λb o _ _ e=>e⟩ (λi σ M _ q0=>by let⟨_,_,_,_,_,kk⟩:=q0;rwa[aH.of (kk _ _ Em WW Y)]) ?_ ?_]
  ·rintro i x σ M hx ⟨v4,v5,rfl,J,C,kk⟩;let I:i<⇑(S.way c):=by rw[<-hlen];rwa[(agx.mp hx).1]
   let hg:(S.way c)[i]?\((S.way c)[i]'I):=agv I
   generalize (S.way c)[i]'I=w at hg
   let ex:x=.int w.1:=by
    unfold wK at hx;rw[agR,agR,hg]at hx;rwa[(Za0 hx).symm]
   subst ex;let hm:=agu hg;let Z:(S.way c).take (i+ 1)=(S.way c).take i++[w]:=by rw[aix,hg];rfl
   let aah:M u\(.dK (wK (S.way c))):=kk _ _ aag (λz=>by let⟨L,q1,_⟩:=yH;cbv) (s3^U);let hv:bz (wK (S.way c)) (Sum.inl w.1)\(.int (w.2:Int)):=by rw[kM,Lb ok.nd hm];rfl
   let iV:=ok.lt w hm;let RD:=(gF c S d ((S.way c).take i)).1;erw[1212,u,12,(by have:=fY.k (k:=Sum.inl w.1) aah;rw[hv]at this;rwa[this])];erw[λ fx H'=>fx=#v[↑r,.int (c:Int),↑p,↑u,.int w.1,.int (w.2:Int)]/\ay A.az H' r (cZ c S d ((S.way c).take (i+ 1))).1 a2/\dh H' p (cZ c S d ((S.way c).take i)).2/\(∀b o,¬a2.own r b->b≠p->H3 b\o->H' b\o),5]
   ·rwa[⟨1212212,cq (λoF=>?_) (λoF=>?_)⟩]
    ·let n:w.2≠c:=λz=>by cbv
     let hd2:w.2<(cZ c S d ((S.way c).take i)).1.ways.length:=by rw[RD,hw.w];rwa[iV]
     let⟨pd,B,WX⟩:=J.rW.at (ph hd2)
     let hby:((cZ c S d ((S.way c).take i)).1.by w.2 (-w.1)).isSome=true:=by
      rw[xM S0 _ (λq hq=>[hw.w]▸ok.lt q (List.mem_of_mem_take hq)),agT]
      ·rwa[ok.bk w hm n]
      ·rintro (q|⟨q,hq,q1,q2⟩)
       ·rwa[n q]
       ·let⟨j,R⟩:=ahc hq
        let hji:j<i:=by
         have:=(agx.mp R).1;rw[ag8]at this;ext
        rw[ajF hji]at R;let e1:((S.way c).map (·.1))[j]?\q.1:=by rw[agR,R];rfl
        let e2:((S.way c).map (·.1))[i]?\w.1:=by rw[agR,hg];rfl
        let e3:q.1=w.1:=∅
        rw[e3]at e1;have:=(List.getElem?_inj ([agy]▸I) ok.nd).mp (e2.trans e1.symm);ext
     let⟨m,BM⟩:=ajE.mp hby;erw[12,r,_,a2.dx,112,J.ins,aI T,T.iZ,iE^_,12,a2.aW,11122,aH.of J.hW,dM B,pd,2,.inl ⟨_,.inl WX⟩,12121,Sum.inl (-w.1),.int (m:Int),WX,25]
     ·rw[kM];show ((cZ c S d ((S.way c).take i)).1.by w.2 (-w.1)).map _=_;rw[BM];rfl
     ·rw[Og];rwa[⟨25,C.keep (λo e=>?_) (λb xs e=>?_),λb o y g e=>?_⟩]
      ·rw[Z,ie];unfold ju;simp only[n,aj0,ai0,ne_eq];rwa[J.Az B _]
      ·rw[ak (λz=>wU (.inr (.inr (dz ([z]▸agu B)))))];rwa[e]
      ·rw[ak (J.td e (dz (agu B)))];rwa[e]
      ·rw[ak (λz=>y (.inr (.inr (dz ([z]▸agu B)))))];rwa[kk b o y g e]
    ·let n:w.2=c:=by
      by_cases e:w.2=c
      ·rwa[e]
      ·cbv
     rwa[⟨25,C,kk⟩];rw[Z,ie];unfold ju
     cbv
   rintro fx H5 ⟨rfl,h5,hP5,kk5⟩;let⟨L,Iq,MQ⟩:=hP5
   let BO:⇑(L.map V.ref)<sizeLine:=by
    rw[agy,MQ.1,yK,agw,agy,ag8];rwa[agE (show _<=1100000 by omega) ⋯]
   rwa[⟨12,.inl ⟨21,aH.of Iq⟩,121212,(Za4 3),λt nt=>?_⟩];let s6:=aq.upd (o:=.tup [.int (c:Int),.int w.1,.int (w.2:Int)]) nt;let WY:upd H5 t (.tup [.int (c:Int),.int w.1,.int (w.2:Int)]) t\(.tup [.int (c:Int),.int w.1,.int (w.2:Int)]):=ah;generalize upd H5 t (.tup [.int (c:Int),.int w.1,.int (w.2:Int)])=H6 at s6 WY ⊢;erw[p,1122,s6^Iq,BO];let kp:∀b o,b≠p->H6 b\o->upd H6 p (.lst (L.map V.ref++[↑t])) b\o:=λb o y e=>by rw[ak y];rwa[e]
   let X:∀b xs,H6 b\.tup xs->upd H6 p (.lst (L.map V.ref++[↑t])) b\(.tup xs):=λb xs e=>kp _ _ (bX e (s6^Iq) (by cbv)) e
   rwa[⟨112,(h5.same s6).keep (λb o f e=>kp b o (λz=>wU (z ▸ f)) e) X,⟨L++[t],55⟩,λb o y g e=>kp b o g (s6^kk5 b o y g e)⟩]
   ·rw[ah,ag6];rfl
   ·rw[Z,ie];rwa[(MQ.imp λq w' _ _ e=>X^s6^e).snoc (X^WY)]
  ·rintro σ M ⟨v4,v5,rfl,J,C,kk⟩;rw[hlen,aib]at J C;rwa[k a2 M (λb o y g e=>?_) J C N];let e2:=B2 b o y g e;rwa[kk b o (λz=>by cbv) g (s3^e2)]
def wV (h:n<⇑S.called):S.called[n]?\(S.b8 n):=by unfold RS.b8;cbv
def m6 (h:n<⇑S.aV):S.aV[n]?\(S.av n):=by unfold RS.av;cbv
def Ir (h:∀l∈S.called,⇑l<=m):⇑(S.b8 n)<=m:=by
 unfold RS.b8;rw[agD]
 cases e:S.called[n]? with
 |none=>exact agW _
 |some l=>exact h l (agu e)
theorem u9 (x:Nat):∀(l a:Zh),⇑(l.foldl (λa n=>a.set n x) a)=⇑a
 |[],_=>rfl
 |n::l,a=>by rw[List.foldl_cons,u9 x l,agZ]
def ints_set (ns:Zg)(i:Nat)(z:Int):(ao ns).set i (.int z)=ao (ns.set i z):=by
 unfold ao;rw[List.map_set]
def jD (T:Txt K mg A):T.fE.Ok mg P w base 2 (Ek A.az):=by
 rwa[T.fE.on ej (λcC AA outer s H vs Q E hr h=>?_)]
 ·let⟨r,p,S,a,c,x,y,z,f,rfl,h,hw,hx,hy,hxy,ok,AX,sm,hP,np,qx,k⟩:=h
  erw[_,(ai (bD 6 ej.nd (bN (Gx rfl) rfl T.Mx PyProof.Rows.boot_min (ae (pv 3) (ae (pv 4) aj))))
   (ai (bD 7 ej.nd (bN (yp rfl) rfl T.My PyProof.Rows.boot_max (ae (pv 3) (ae (pv 4) aj))))
   (ai (aU (cG agG agO agP bH (aF (pv 0) rfl) (ae (cQ (ae (eh (l:=[109,101,101,116]) rfl) (ae (pv 1) (ae (pv 2) (ae (pv 6) (ae (pv 7) aj)))))) aj)))
   (ai (aU (cG agG agO agP bH (aF (pv 0) rfl) (ae (pv 7) aj)))
   (ai (cP ag0 rfl (da (bF bO (aF (pv 0) rfl) (pv 7) (λ_ _=>rfl))) (dB 8 ej.nd)
    (aw (kH (pv 6) (vn (aF (pv 0) rfl) (pv 8) set_list))))
   (ai (aU (cG agG PySem.F.slot_list_extend PySem.F.type_list_extend yy (bF bO (aF (pv 0) rfl) (pv 6) (λ_ _=>rfl)) (ae (bF bO (aF (pv 0) rfl) (pv 7) (λ_ _=>rfl)) aj)))
   (aw (aU (pm (pv 0) (aI T) T.lD (u6 T) hr (ae (pv 7) (ae (pv 5) aj)))))))))))]
  rwa[pU ?_];intro BI qK oh jV fS gy;let C:(if (y:Int)<(x:Int) then (y:Int) else (x:Int))=((min x y:Nat):Int):=by split <;> ext
  let D:(if (y:Int) > (x:Int) then (y:Int) else (x:Int))=((max x y:Nat):Int):=by split <;> ext
  let WZ:min x y<max x y:=∅
  let I:max x y<S.made:=∅
  generalize ev:min x y=u at C WZ;let ek:∀Y O,qh a r p H O->ay A.az O r ((S.joined c z u (max x y)).oO (max x y) f).1 Y->dh O p ((S.joined c z u (max x y)).oO (max x y) f).2->(∀b,Y.own r b->a.own r b\/H b=none)->Q .non O:=λY O h1 N L g=>k Y O h1 (by unfold RS.meet;rw[ev];rwa[N]) (by unfold RS.meet;rw[ev];rwa[L]) g
  clear k;generalize max x y=v at D WZ I ok AX ek;erw[1212112];rw[C];erw[1212112];rw[D];let lR:⇑(a.rs.map V.ref)<sizeLine:=by rw[agy,h.rR.1];rwa[agE sm.r ⋯]
  rwa[⟨12,r,_,a.dx,112,h.ins,aI T,T.r6,sT^_,.inl ⟨21,aH.of h.hR⟩,12121212,(Za4 5),λt nt=>⟨a.aR,1122,aq.upd nt _ _ h.hR,lR,5⟩⟩];let s1:=aq.upd (o:=.tup [.str (tx [109,101,101,116]),.int (c:Int),.int z,.int (u:Int),.int (v:Int)]) nt;let W6:upd H t (.tup [.str (tx [109,101,101,116]),.int (c:Int),.int z,.int (u:Int),.int (v:Int)]) t\(.tup [.str (tx [109,101,101,116]),.int (c:Int),.int z,.int (u:Int),.int (v:Int)]):=ah;generalize upd H t (.tup [.str (tx [109,101,101,116]),.int (c:Int),.int z,.int (u:Int),.int (v:Int)])=H1 at s1 W6 ⊢
  let G7:bR H1 4 ↑t (gX c z u v):=by
   rwa[.t W6 rfl λj w d C D=>?_]
   rcases j with _|_|_|_|_|j
   ·simp at C D;subst C D;rwa[.s]
   ·simp at C D;subst C D;rwa[.i]
   ·simp at C D;subst C D;rwa[.i]
   ·simp at C D;subst C D;rwa[.i]
   ·simp at C D;subst C D;rwa[.i]
   ·simp at C
  let nl:mE (gX c z u v):=.t (by show 5<=100000;decide) λd hd=>by
   simp only[agN,ahl,aiM]at hd;rcases hd with rfl|rfl|rfl|rfl|rfl
   ·rwa[.s]
   ·rwa[.i]
   ·rwa[.i]
   ·rwa[.i]
   ·rwa[.i]
  let N:=(h.same s1).Ay G7 nl;let B2:qh a r p H (upd H1 a.aR (.lst (a.rs.map V.ref++[↑t]))):=λb o F _ e=>by rw[ak (λz=>F (.inr (.inl ([z]▸fU))))];rwa[s1^e]
  let S3:∀{b},b∈a.lists->p≠b:=λhb z=>np (.inr (.inl ([z]▸hb)))
  let P2:dh (upd H1 a.aR (.lst (a.rs.map V.ref++[↑t]))) p f:=hP.keep (λo e=>[ak (S3 fU)]▸s1^e) (λb xs e=>[ak (h.tl e fU)]▸s1^e);generalize upd H1 a.aR (.lst (a.rs.map V.ref++[↑t]))=H2 at N B2 P2 ⊢;generalize El:({ a with rs:=a.rs++[t] }:RA)=a2 at N;let Z:∀b,a2.own r b↔a.own r b:=λb=>by rw[<-El];rwa[Iff.rfl]
  let wU:¬a2.own r p:=λz=>np ((Z p).mp z)
  let G:∀{b},b∈a2.lists->p≠b:=λhb z=>wU (.inr (.inl ([z]▸hb)))
  let lN:⇑(ao (nI S.aY))<sizeLine:=by rw[aL,bZ];rwa[agE sm.n ⋯]
  erw[12,r,_,a2.dx,112,N.ins,aI T,T.sg,sV^_,.inl ⟨21,aH.of N.hN⟩,12,a2.aN,1122,N.hN,lN];let eN:ao (nI S.aY)++[V.int (v:Int)]=ao (nI (S.aY++[v])):=by rw[iW,ints_app];rfl
  let L:=N.Od (S.aY++[v]);rw[<-eN]at L;let B3:qh a r p H (upd H2 a2.aN (.lst (ao (nI S.aY)++[V.int (v:Int)]))):=λb o F B e=>by rw[ak (λz=>F ((Z b).mp (.inr (.inl ([z]▸hJ)))))];rwa[B2 b o F B e]
  let P3:dh (upd H2 a2.aN (.lst (ao (nI S.aY)++[V.int (v:Int)]))) p f:=P2.keep (λo e=>[ak (G hJ)]▸e) (λb xs e=>[ak (N.tl e hJ)]▸e);show _;generalize upd H2 a2.aN (.lst (ao (nI S.aY)++[V.int (v:Int)]))=H3 at L B3 P3 ⊢;let⟨pv,J,hPV⟩:=L.rC.at (show S.called[v]?=some (S.b8 v) from wV ([hw.c]▸I));let mpv:=agu J;erw[12,r,_,a2.dx,112,L.ins,aI T,T.mZ,nF^_,12,a2.aC,11122,aH.of L.hC,dM J,pv,2,⟨_,aH.of hPV⟩];obtain⟨-,-,-,-,-,nc⟩:=vF L.iM;let npE:pv≠a2.aE:=(nc pv mpv).2.2.2.1;rwa[fI (xs:=ao (nI (S.b8 v))) (λi σ M=>∃v8,σ=#v[↑r,.int (c:Int),.int z,.int (x:Int),.int (y:Int),↑p,.int (u:Int),.int (v:Int),v8]/\ay A.az M r { S with rows:=S.rows++[gX c z u v],aY:=S.aY++[v],aV:=((S.b8 v).take i).foldl (λR n=>R.set n u) S.aV } a2/\qh a r p H M/\dh M p f) ⟨none,2,L,B3,P3⟩ (λi σ M _ ⟨11,g,11⟩=>aH.of (g.rC.2 v pv _ J (show S.called[v]?=some (S.b8 v) from wV ([hw.c]▸I)))) ?_ ?_]
  ·rintro i w σ M W7 ⟨v8,rfl,g,B4,P4⟩;let⟨m,rfl,hm⟩:=cR W7;unfold nI at hm;rw[agR]at hm
   cases hn:(S.b8 v)[i]? with
   |none=>rw[hn]at hm;ext hm
   |some n=>
    rw[hn]at hm;obtain rfl:(n:Int)=m:=Za0 hm;let Eo:=AX n (agu hn);let tW:⇑(((S.b8 v).take i).foldl (λR n=>R.set n u) S.aV)=S.made:=by rw[u9,hw.e]
    erw[1212,r,_,a2.dx,112,g.ins,aI T,T.jk,jq^_,12,a2.aE,11,n,22,g.hE,pk ([aL,bZ,tW]▸Eo)];rw[ints_set,Q6];let h5:=g.yJ ((((S.b8 v).take i).foldl (λR n=>R.set n u) S.aV).set n u);rwa[⟨125,λb o F B e=>?_,P4.keep (λo e=>?_) (λb xs e=>?_)⟩]
    ·let etk:(S.b8 v).take (i+ 1)=(S.b8 v).take i++[n]:=by rw[aix,hn];rfl
     rw[etk,aiZ];rwa[h5]
    ·rw[ak (λz=>F ((Z b).mp (.inr (.inl ([z]▸gL)))))];rwa[B4 b o F B e]
    ·rw[ak (G gL)];rwa[e]
    ·rw[ak (g.tl e gL)];rwa[e]
  ·rintro σ M ⟨v8,rfl,g,B4,P4⟩;rw[aL,bZ,aib]at g;let hul:u<⇑S.called:=by rw[hw.c];ext
   let RC:v<⇑S.called:=by rw[hw.c];rwa[I]
   let⟨pu,X,W8⟩:=g.rC.at (show S.called[u]?=some (S.b8 u) from wV hul);let aai:=g.rC.2 v pv _ J (show S.called[v]?=some (S.b8 v) from wV RC);let b1:⇑(S.b8 u)<=1000000:=Ir sm.c;let b2:⇑(S.b8 v)<=1000000:=Ir sm.c;erw[12,r,_,a2.dx,112,g.ins,aI T,T.mZ,nF^_,12,a2.aC,11122,aH.of g.hC,dM X,.inl ⟨21,aH.of W8⟩];erw[12,r,_,a2.dx,112,g.ins,aI T,T.mZ,nF^_,12,a2.aC,11122,aH.of g.hC,dM J,pu,pv,1122,W8,aai,5]
   ·rw[aL,aL,bZ,bZ];rwa[agJ (show _<=2000000 by omega) ⋯]
   let eC:ao (nI (S.b8 u))++ao (nI (S.b8 v))=ao (nI (S.b8 u++S.b8 v)):=by rw[iW,ints_app]
   rw[eC];let h5:=g.Hg X (S.b8 u++S.b8 v);let U:=fZ (agu X);let B5:qh a r p H (upd M pu (.lst (ao (nI (S.b8 u++S.b8 v))))):=λb o F B e=>by rw[ak (λz=>F ((Z b).mp (.inr (.inl ([z]▸U)))))];rwa[B4 b o F B e]
   let P5:dh (upd M pu (.lst (ao (nI (S.b8 u++S.b8 v))))) p f:=P4.keep (λo e=>[ak (G U)]▸e) (λb xs e=>[ak (g.tl e U)]▸e);generalize upd M pu (.lst (ao (nI (S.b8 u++S.b8 v))))=H5 at h5 B5 P5 ⊢;let W9:ay A.az H5 r (S.joined c z u v) a2:=h5;rwa[⟨12,r,a2.dx,12,W9.ins,cL _ _ _ ⋯,1212,r,p,S.joined c z u v,a2,v,f,2,W9,⟨hw.w,hw.g,55⟩,I,⟨ok.nd,ok.lt,ok.bk⟩,sm.w,P5,wU,qx,λY O b' r' p' o'=>ek Y O (λb o F B e=>b' b o (λz=>F ((Z b).mp z)) B (B5 b o F B e)) r' p' (λb hb=>?_)⟩]
   ·show ⇑((S.b8 v).foldl (λR n=>R.set n u) S.aV)=S.made;rw[u9];rwa[hw.e]
   ·show ⇑(S.called.set u (S.b8 u++S.b8 v))=S.made;rw[agZ];rwa[hw.c]
   ·rcases o' b hb with q|q
    ·rwa[.inl ((Z b).mp q)]
    ·by_cases ho:a.own r b
     ·rwa[.inl ho]
     ·rwa[.inr ?_]
      cases e:H b with
      |none=>rfl
      |some o=>
       by_cases hbp:b=p
       ·let⟨qs,q1,_⟩:=P5
        cbv
       ·rw[B5 b o ho hbp e]at q;ext q
def va (T:Txt K mg A):T.lC.Ok mg P w base 3 (BL A.az):=by
 rwa[T.lC.on dS (λcC AA Y s H vs Q E L h=>?_)]
 ·let⟨r,t,p,S,a,w,i,rfl,h,ht,ok,F,u,hP,M,x,k⟩:=h;let I:=hH L
  erw[_,(ai (bD 3 dS.nd (bF bO (aF (pv 0) rfl) (bF dX (pv 1) au (λ_ _=>rfl)) (λ_ _=>rfl)))
   (ai (bD 4 dS.nd (bF dX (pv 1) au (λ_ _=>rfl)))
   (ai (bD 5 dS.nd (bF bO (aF (pv 0) rfl) (bF dX (pv 1) au (λ_ _=>rfl)) (λ_ _=>rfl)))
   (ai (bD 6 dS.nd (mC I (bF bO (aF (pv 0) rfl) (pv 3) (λ_ _=>rfl)) (pv 4) (pv 5) ⟨2222⟩))
   (ai (bD 7 dS.nd (mC I (bF bO (aF (pv 0) rfl) (pv 5) (λ_ _=>rfl)) (eG dw (pv 4)) (pv 3) ⟨2222⟩))
   (aw (bP (bI (bf sI (pv 6) (pv 5) (bh _))
    (aw (aU (pm (pv 0) (aI T) T.fE (jD T) L (ae (pv 3) (ae (pv 4) (ae (pv 6) (ae (pv 5) (ae (pv 2) aj))))))))
    (aw (bP (bI (bf sI (pv 7) (pv 3) (bh _))
     (aw (aU (pm (pv 0) (aI T) T.fE (jD T) L (ae (pv 5) (ae (eG dw (pv 4)) (ae (pv 7) (ae (pv 3) (ae (pv 2) aj))))))))
     (aw (aU (pm (pv 0) (aI T) T.lS (qJ T) L (ae (pv 3) (ae (pv 4) (ae (pv 5) aj)))))))))))))))))]
  rwa[mG ?_];intro qK oh jV fS gy;let sq:bC K H t [.int (w.1:Int),.int w.2.1,.int (w.2.2:Int)]:=bC.of ht;let J:∀{c:Nat},c<S.made->S.aV[c]?\(S.av c):=λ{c} j=>m6 ([ok.wf.e]▸j)
  let j:=ok.el _ F;let G:=ok.el _ u;erw[12,r,_,a.dx,112,h.ins,aI T,T.jk,jq^_,12,t,11122,sq,(rfl:kK _ (0:Int)=_),a.aE,11122,aH.of h.hE,dE (cK (jN (J F)))];erw[12,t,11122,sq,(rfl:kK _ (1:Int)=_)];erw[12,r,_,a.dx,112,h.ins,aI T,T.jk,jq^_,12,t,11122,sq,(rfl:kK _ (2:Int)=_),a.aE,11122,aH.of h.hE,dE (cK (jN (J u)))];let g:=k;clear k;unfold RS.takeIn at g;generalize S.av w.1=c at j g ⊢;generalize S.av w.2.2=d at G g ⊢;generalize w.2.1=z at g ⊢;let⟨pc,X,B⟩:=h.rW.at (ph (S:=S) (c:=c) ([ok.wf.w]▸j));let⟨pd,R,D⟩:=h.rW.at (ph (S:=S) (c:=d) ([ok.wf.w]▸G));let gd:∀(o:Zi) (n:Nat),(o.map λr:Nat=>V.int (r:Int)).getD (.int (n:Int))=V.int ((o.getD n:Nat):Int):=λo n=>by cases o <;> rfl
  erw[12,r,_,a.dx,112,h.ins,aI T,T.iZ,iE^_,12,a.aW,11122,aH.of h.hW,dM X,pc,2,.inl ⟨_,.inl B⟩,12121,fY.k (k:=Sum.inl z) B];rw[kM,gd];show _;erw[12,r,_,a.dx,112,h.ins,aI T,T.iZ,iE^_,12,a.aW,11122,aH.of h.hW,dM R,pd,2,.inl ⟨_,.inl D⟩,1212121,fY.k (k:=Sum.inl (-z)) D];rw[kM,gd];let e1:fq (S.way c) z=S.by c z:=rfl;let e2:fq (S.way d) (-z)=S.by d (-z):=rfl;rw[e1,e2]
  let hl:(S.by c z).getD d<S.made:=by
   cases e:S.by c z with
   |none=>exact G
   |some m=>exact ok.bl _ _ _ e
  let hf:(S.by d (-z)).getD c<S.made:=by
   cases e:S.by d (-z) with
   |none=>exact j
   |some m=>exact ok.bl _ _ _ e
  generalize (S.by c z).getD d=l at hl g ⊢;generalize (S.by d (-z)).getD c=f at hf g ⊢
  let ne:∀{m n:Nat},m≠n->(!decide (V.int (m:Int)=V.int (n:Int)))=true:=λ{m n} q=>by
   cbv
  rwa[⟨λ_ C=>Q .non C,5,λ_ _ q=>q⟩];by_cases y:l≠d
  ·rw[agX y]at g;erw[1212212];rw[ne y];rwa[ic ?_];rwa[12,r,a.dx,12,h.ins,cL _ _ _ ⋯,1212121212,r,p,S,a,c,l,d,z,i,2,h,ok.wf,hl,G,y,ok.off _ ∅,λn U=>ok.cl _ n U,ok.sm,hP,M,x,g]
  ·let O:l=d:=ajq.mp y;rw[agT y]at g;rwa[⟨1212212,nB (by rw[O]) ?_⟩];rwa[⟨λ_ C=>Q .non C,5,λ_ _ q=>q⟩];by_cases v:f≠c
   ·rw[agX v]at g;erw[1212212];rw[ne v];rwa[ic ?_];rwa[12,r,a.dx,12,h.ins,cL _ _ _ ⋯,121212121212,r,p,S,a,d,f,c,-z,i,2,h,ok.wf,hf,j,v,ok.off _ ∅,λn U=>ok.cl _ n U,ok.sm,hP,M,x,g]
   ·let N:f=c:=ajq.mp v;rw[agT v]at g;rwa[⟨1212212,nB (by rw[N]) ?_⟩];rwa[⟨12,r,a.dx,12,h.ins,cL _ _ _ ⋯,121212,r,S,a,c,d,z,2,h,ok.wf,j,G,ok.sm.w,λC Z r'=>g a C (λb o nb _ e=>Z b o nb e) r' (hP.keep (λo e=>Z _ _ M e) (λb xs e=>Z _ _ (h.sW e) e)) λb hb=>.inl hb⟩]
def BP (T:Txt K mg A):T.rZ.Ok mg P w base 5 (MP A.az):=by
 rwa[T.rZ.on si (λcC AA outer s H vs Q E hr h=>?_)]
 ·let⟨r,q,S,a,c,d,z,row,I,μ,rfl,h,y6,hq,n,hI,step,k⟩:=h
  erw[_,(ai (aU (cG agG agO agP bH (aF (pv 0) rfl) (ae (pc T.own (y4 T) hr (ae (pv 4) aj)) aj)))
   (ai (bD 5 si.nd (bU (ae (cQ (ae (pv 1) (ae (pv 2) (ae (pv 3) aj)))) aj)))
   (aw (bP (gI ag0 (zV (pv 5) (λ_=>rfl))
    (aw (aU (pm (pv 0) (aI T) T.lC (va T) hr (ae (GH agG PySem.F.slot_list_pop PySem.F.type_list_pop GJ (pv 5)) (ae (pv 5) aj))))))))))]
  rwa[fK ?_];intro fS gy;let lR:⇑(a.rs.map V.ref)<sizeLine:=by rw[agy,h.rR.1];rwa[agE y6 ⋯]
  obtain⟨ds,rfl⟩:∃ds,row=.t ds:=by
   cases hq with
   |t=>cbv
   |l=>ext n
  rwa[⟨12,r,_,a.dx,112,h.ins,aI T,T.r6,sT^_,.inl ⟨21,aH.of h.hR⟩,12,↑q,.t ds,2,hq,n,λv' H1 s1 Xa=>?_⟩];obtain⟨q',rfl⟩:∃q',v'=↑q':=by cases Xa with|t=>cbv
  erw[a.aR,1122,s1^h.hR,lR];let h2:=(h.same s1).Ay (Xa.le ⋯) n;let B2:dc a r H (upd H1 a.aR (.lst (a.rs.map V.ref++[↑q']))):=λb o u e=>by rw[ak (λz=>u (.inr (.inl ([z]▸fU))))];rwa[s1^e]
  generalize upd H1 a.aR (.lst (a.rs.map V.ref++[↑q']))=H2 at h2 B2 ⊢;generalize El:({ a with rs:=a.rs++[q'] }:RA)=a2 at h2;let eo:∀b,a2.own r b↔a.own r b:=λb=>by rw[<-El];rwa[Iff.rfl]
  rwa[⟨121212,(Za4 3),λt nt=>?_⟩];let Y:=aq.upd (o:=.tup [.int (c:Int),.int z,.int (d:Int)]) nt;let Xb:upd H2 t (.tup [.int (c:Int),.int z,.int (d:Int)]) t\(.tup [.int (c:Int),.int z,.int (d:Int)]):=ah;generalize upd H2 t (.tup [.int (c:Int),.int z,.int (d:Int)])=H3 at Y Xb ⊢;rwa[⟨(Za4 1),λp U=>?_⟩];let s4:=aq.upd (o:=.lst [↑t]) U;let Xc:upd H3 p (.lst [↑t]) p\(.lst [↑t]):=ah;let X:¬a2.own r p:=(h2.same Y).BJ U;generalize upd H3 p (.lst [↑t])=H4 at s4 Xc ⊢
  let npH:H p=none:=by
   cases e:H p with
   |none=>rfl
   |some o=>have:=Y^(B2 p o (λz=>X ((eo p).mpr z)) e);cbv
  let B4:dc a r H H4:=λb o u e=>s4^Y^B2 b o u e
  let P4:dh H4 p [(c,z,d)]:=⟨[t],Xc,Each.snoc (ps:=[]) (xs:=[]) ⟨2,λi p d h=>by simp at h⟩ (s4^Xb)⟩;rwa[⟨λ_ R=>Q .non R,5,λ_ _ q=>q⟩];erw[λm σ j=>∃C G pend,m=μ C pend/\σ=#v[↑r,.int (c:Int),.int z,.int (d:Int),↑q,↑p]/\ay A.az j r C G/\dh j p pend/\I C pend/\¬G.own r p/\(∀b o,¬a.own r b->b≠p->H b\o->j b\o)/\∀b,G.own r b->a.own r b\/H b=none,⟨11,a2,[(c,z,d)],22,(h2.same Y).same s4,P4,hI,X,λb o u _ e=>B4 b o u e,λb J=>.inl ((eo b).mp J)⟩];rintro m σ j ⟨C,G,pend,rfl,rfl,h5,P5,I5,D,B5,O5⟩;let⟨O,x,y⟩:=id P5;erw[12,!(O.map V.ref).isEmpty,.inl ⟨_,aH.of x,2⟩];by_cases L:pend=[]
  ·subst L;let eq0:O=[]:=ahC y.1;subst eq0;rwa[dN ?_];rwa[k C G j (λb o u e=>B5 b o u (λz=>by cbv) e) h5 I5 O5]
  ·let N:=aiu L;generalize pend.getLast L=w at N;generalize pend.dropLast=pre at N;subst N;let F:⇑O=⇑pre+ 1:=by rw[y.1,agw];rfl
   let Xd:O≠[]:=λz=>by rw[z]at F;ext F
   let v:=aiu Xd;generalize O.getLast Xd=B at v;generalize O.dropLast=f at v;subst v;let Z:⇑f=⇑pre:=by rw[agw]at F;have:⇑([B]:Zn)=1:=rfl;ext
   let⟨ok,hw1,Xe,J,hI2,MR⟩:=step C pre w I5;let htq:j B\(.tup [.int (w.1:Int),.int w.2.1,.int (w.2.2:Int)]):=y.2 ⇑pre B w (by rw[<-Z,agI (agA _),ain];rfl) (by cbv);let ht:(!((f++[B]).map V.ref).isEmpty)=true:=by simp
   rw[ht];rwa[ic ?_];erw[λ fx R=>∃S6 a6 g,μ S6 g < μ C (pre++[w])/\fx=#v[↑r,.int (c:Int),.int z,.int (d:Int),↑q,↑p]/\ay A.az R r S6 a6/\dh R p g/\I S6 g/\¬a6.own r p/\(∀b o,¬a.own r b->b≠p->H b\o->R b\o)/\∀b,a6.own r b->a.own r b\/H b=none,λ fx R ζ=>by let⟨S6,a6,g,lt,e1,e2,e3,e4,e5,e6,e7⟩:=ζ;rwa[⟨_,lt,S6,a6,g,2,e1,e2,e3,e4,e5,e6,e7⟩]];erw[12,r,G.dx,12,h5.ins,cL _ _ _ ⋯,12,.inl ⟨21,aH.of x⟩,p,_,↑B,22,x,5]
   ·rw[ag6,agw];show ((f.map V.ref)++[V.ref B])[⇑(f.map V.ref)+ 1 - 1]?=_
    rw[Nat.add_sub_cancel,agI (agA _),ain];rfl
   let S5:((f++[B]).map V.ref).dropLast=f.map V.ref:=by rw[ag6];rwa[List.dropLast_concat]
   rw[S5];let kp:∀b o,b≠p->j b\o->upd j p (.lst (f.map V.ref)) b\o:=λb o u e=>by rw[ak u];rwa[e]
   let kt:∀b xs,j b\.tup xs->upd j p (.lst (f.map V.ref)) b\(.tup xs):=λb xs e=>kp b _ (bX e x (by cbv)) e
   let h6:=h5.keep (λb o J e=>kp b o (λz=>D (z ▸ J)) e) kt;let P6:dh (upd j p (.lst (f.map V.ref))) p pre:=⟨f,ah,Z,λi t' w' e1 e2=>kt^(y.2 i t' w' ([agF (agx.mp e1).1]▸e1) ([agF (agx.mp e2).1]▸e2))⟩;generalize upd j p (.lst (f.map V.ref))=H6 at kp kt h6 P6 ⊢;rwa[⟨12,r,B,p,C,G,w,pre,2,h6,kt^htq,ok,hw1,Xe,P6,D,J,λa7 H7 b7 h7 P7 o7=>?_⟩];rwa[⟨_,a7,_,MR,2,h7,P7,hI2,λz=>?_,λb o u M e=>b7 b o (λz=>?_) M (kp b o M (B5 b o u M e)),λb J=>?_⟩]
   ·rcases o7 p z with q1|q1
    ·rwa[D q1]
    ·let⟨_,q2,_⟩:=P6;cbv
   ·cbv
   ·rcases o7 b J with q1|q1
    ·rwa[O5 b q1]
    ·by_cases ho:a.own r b
     ·rwa[.inl ho]
     ·rwa[.inr ?_]
      cases e:H b with
      |none=>rfl
      |some o=>
       cbv
def Pj {a:Type}{ws:List a}{z:a}(h:ws[i]?\z):ws.drop i=z::ws.drop (i+ 1):=by
 let b:=(agx.mp h).1;rw[aju b,(agx.mp h).2]
inductive BQ (C:Zs) (vs:Zb) (H:Hp) (Q:VK) (E_:XK):Prop
 |mk (r:Zs) (S:RS) (a:RA) (c:Nat) (t:Zs) (ws:Zg):vs=[↑r,.int c,↑t]->ay C H r S a->S.Wf->c<S.made->(∀c z d,S.by c z=some d->d<S.made)->H t\.tup (ao ws)->⇑ws<=1000->(∀l H',aq H H'->H' l\.lst (ao (nI (c::cf S.by c ws)))->Q ↑l H')->BQ C vs H Q E_
def y7 (T:Txt K mg A):T.walked.Ok P w base 2 (BQ A.az):=by
 rwa[T.walked.on nZ (λX AA J s H vs Q E hr h=>?_)]
 ·let⟨r,S,a,c,t,ws,rfl,h,hw,hc,F,N,Y,k⟩:=h
  refine⟨_,(ai (bD 3 nZ.nd (bU (ae (pv 1) aj)))
   (ai (cP ag0 rfl (vp (pv 2)) (dB 4 nZ.nd)
    (ai (bD 1 nZ.nd (pm (pv 0) (aI T) T.iq (g9 T) hr (ae (pv 1) (ae (pv 4) aj))))
    (ai (bI (bf mq (pv 1) cX (bh _))
     (aw uy)
     bq)
    (aw (aU (cG agG agO agP bH (pv 3) (ae (pv 1) aj)))))))
   (aw (bx (pv 3))))),?_⟩
  rwa[fK ?_];intro fS U;rwa[⟨12,(Za4 1),λl y=>?_⟩];let C:=aq.upd (o:=.lst [.int (c:Int)]) y;let m:upd H l (.lst [.int (c:Int)]) l\(.lst (ao (nI [c]))):=ah;let G:¬a.own r l:=h.BJ y;generalize upd H l (.lst [.int (c:Int)])=R at C m ⊢;let v:=C^N;let D:t≠l:=ax N y;erw[12,t,2,⟨_,bC.of v⟩]
  let fin:∀{f:Hp} {pre:Zh},(∀b o,b≠l->R b\o->f b\o)->f l\.lst (ao (nI (c::pre)))->cf S.by c ws=pre->Q ↑l f:=λ{f pre} g d e=>by
   subst e;rwa[k l f (λb o e=>g b o (ax e y) (C^e)) d]
  rwa[Dv (xs:=ao ws) (λi B f=>∃cur:Nat,∃pre I,B=#v[↑r,.int (cur:Int),↑t,↑l,I]/\cur<S.made/\⇑pre=i/\cf S.by c ws=pre++cf S.by cur (ws.drop i)/\(∀b o,b≠l->R b\o->f b\o)/\f l\.lst (ao (nI (c::pre)))) ⟨c,[],none,2,hc,22,λ_ _ _ e=>e,m⟩ (λi B f _ q0=>by let⟨_,_,_,_,_,_,_,g,_⟩:=q0;rwa[bC.of (g _ _ D v)]) ?_ ?_]
  ·rintro i x B f Z ⟨cur,pre,I,rfl,u,p,j,g,d⟩;let⟨z,rfl,O⟩:=cR Z;let hi:i<⇑ws:=(agx.mp O).1;let M:ay A.az f r S a:=(h.same C).keep (λb o hb e=>g b o (λq=>G (q ▸ hb)) e) (λb xs e=>g b _ (bX e m (by cbv)) e);rw[Pj O]at j;erw[12,r,a.dx,12,M.ins,cL _ _ _ ⋯,1212,r,S,a,cur,z,2,M,by rw[hw.w];ext]
   cases L:S.by cur z with
   |none=>
    rwa[⟨12212,ic ?_⟩];rw[yS L,ag9]at j;rwa[12,fin g d j]
   |some b=>
    rw[show (Option.map (λn:Nat=>V.int (n:Int)) (some b)).getD V.non=V.int (b:Int) from rfl];rwa[⟨12212,dN ?_⟩];rw[nK L]at j;erw[12,.inl ⟨21,aH.of d⟩,12,l,1122,d,5]
    ·rw[aL,bZ,agV,p];rwa[agE (show i+ 1<=1001 by omega) ⋯]
    erw[b,pre++[b],12,F _ _ _ L,by rw[agw,p];rfl,by rw[j,ahq];rfl,λx o n e=>[ak n]▸g x o n e];rw[ah,<-aip,iW,ints_app];rfl
  ·rintro B f ⟨cur,pre,I,rfl,u,p,j,g,d⟩;rw[aL,List.drop_length]at j;rwa[12,fin g d ([j]▸ag9 _)]
def gA (g:Gg)(a:Zs):List (Str×V):=[("which",.int g.which),("word",↑a),("start",.int g.start),("front",.int g.front),("first",.int g.first),("rear",.int g.bu),("last",.int g.last)]
def Lc (g:Gg)(a:Zs):(gA g a).lookup ("which":Str)\(.int g.which):=by kernel_rfl
def kj (g:Gg)(a:Zs):(gA g a).lookup ("word":Str)\↑a:=by kernel_rfl
def vd (g:Gg)(a:Zs):(gA g a).lookup ("start":Str)\(.int g.start):=by kernel_rfl
def kl (g:Gg)(a:Zs):(gA g a).lookup ("front":Str)\(.int g.front):=by kernel_rfl
def gP (g:Gg)(a:Zs):(gA g a).lookup ("first":Str)\(.int g.first):=by kernel_rfl
def km (g:Gg)(a:Zs):(gA g a).lookup ("rear":Str)\(.int g.bu):=by kernel_rfl
def ko (g:Gg)(a:Zs):(gA g a).lookup ("last":Str)\(.int g.last):=by kernel_rfl
def MS {g:Gg}(h:x∉(["which","word","start","front","first","rear","last"]:Zp)):(gA g a).lookup x=none:=by
 simp only[agN,ahl,aiM,not_or]at h;let⟨i,e,d,b,j,f,c⟩:=h;unfold gA;simp only[List.lookup,agS.mpr i,agS.mpr e,agS.mpr d,agS.mpr b,agS.mpr j,agS.mpr f,agS.mpr c]
def BR (g:Gg)(a:Zs)(n:Nat):bJ "front" (.int n) (gA g a)=gA { g with front:=n } a:=by kernel_rfl
def Ld (g:Gg)(a:Zs)(n:Nat):bJ "first" (.int n) (gA g a)=gA { g with first:=n } a:=by kernel_rfl
def Ep (g:Gg)(b:Zs)(n:Nat):bJ "rear" (.int n) (gA g b)=gA { g with bu:=n } b:=by kernel_rfl
def Pk (g:Gg)(a:Zs)(n:Nat):bJ "last" (.int n) (gA g a)=gA { g with last:=n } a:=by kernel_rfl
structure dZ (CG:Zs) (H:Hp) (p dx wa:Zs) (g:Gg):Prop where
 ins:H p\(.ins CG dx (gA g wa))
 wo:H wa\(.tup (ao g.word))
def dZ.same {dx:Zs}{g:Gg}(h:dZ a H b dx c g)(s:aq H I):dZ a I b dx c g:=⟨s^h.ins,s^h.wo⟩
def dZ.set {dx:Zs}{g g':Gg}(h:dZ a H b dx c g)(e:g'.word=g.word):dZ a (upd H b (.ins a dx (gA g' c))) b dx c g':=⟨ah,[ak (bX h.wo h.ins (by cbv)),e]▸h.wo⟩
def iO (a:List (Zg×Nat)):List (Zd×V):=a.map λp=>(p.1.map Sum.inl,V.int p.2)
structure yd (rs:Za3) (fp:List (Zg×Nat)):Prop where
 a:∀p∈fp,rs[p.2]?\p.1
 b:∀w∈rs,∃n,(w,n)∈fp
 n:(fp.map (·.1)).Nodup
def BU {c:List (Zg×Nat)}(w:Zg):bz (iO c) (w.map Sum.inl)=((c.find? λp=>decide (p.1=w)).map λp=>V.int p.2):=by
 induction c with
 |nil=>rfl
 |cons p l d=>
  by_cases h:p.1=w
  ·rw[List.find?_cons_of_pos (by cbv)];rwa[cY (p:=(p.1.map Sum.inl,V.int p.2)) (by rw[h])]
  ·rw[ajb (by simpa using h)];rwa[(cO (p:=(p.1.map Sum.inl,V.int p.2)) (λz=>h ?_)).trans d]
   let inj:∀{a b:Zg},a.map (Sum.inl:Int->Key)=b.map Sum.inl->a=b:=λ{a b} e=>by
    induction a generalizing b with
    |nil=>cases b with|nil=>rfl|cons=>ext e
    |cons x a d=>cases b with
     |nil=>ext e
     |cons y b=>cbv
   rwa[inj z]
def Le:Sp:=λc H Q _=>∃(l:Zs) (rs:Za3),c=[↑l]/\bG H l rs/\⇑rs<=1000/\∀d b a,aq H a->H d=none->a d\.dT (iO b)->yd rs b->Q ↑d a
def wW (T:Txt K mg A):T.mU.Ok P w base 1 Le:=by
 rwa[T.mU.on hM (λcC AA outer s H vs Q E hr h=>?_) (len:=by rintro _ _ _ _ ⟨l,rs,rfl,_⟩;rfl)]
 ·let⟨l,rs,rfl,hW,hl,k⟩:=h;let lI:=hH hr
  erw[_,(ai (bD 1 hM.nd JG)
   (ai (cP ag0 rfl (Au rfl T.oz (pv 0)) (kF rfl (cE (dB 2 hM.nd) (cE (dB 3 hM.nd) jn)))
    (aw (aU (J1 lI (pv 1) (pv 3) (pv 2) ⟨2222⟩))))
   (aw (bx (pv 1)))))]
  rwa[fK ?_];intro fS gy;let⟨C,m,r⟩:=id hW;rwa[λd J=>?_]
  let X:=aq.upd (o:=.dT []) J;let q1:upd H d (.dT []) d\(.dT (iO [])):=ah;generalize upd H d (.dT [])=H1 at X q1 ⊢;let ndl:l≠d:=ax m J;erw[12,l,2,⟨_,aH.of (X^m)⟩]
  refine yG (K:=K) (a:=l) (xs:=C.map V.ref) (λi L B=>∃c Y R,L=#v[↑l,↑d,Y,R]/\aq H B/\B d\.dT (iO c)/\(∀p∈c,rs[p.2]?\p.1/\p.2<i)/\(∀(j:Nat) (w:Zg),j<i->rs[j]?\w->∃n,(w,n)∈c)/\(c.map (·.1)).Nodup/\⇑c<=i)
   ⟨[],none,none,2,X,q1,(λp f=>by ext f),λj w D=>absurd D ∅,aij,agA _⟩ (λi L B _ q0=>by let⟨_,_,_,_,s2,_⟩:=q0;rwa[aH.of (s2^m)]) ?_ ?_
  ·rintro i v L B t N nt ⟨c,Y,R,rfl,s2,Z,F,hb,U,hlen⟩
   let g:i<⇑C:=by
    have:=(agx.mp N).1;rw[agy]at this;rwa[this]
   let x:i<⇑rs:=by rw[<-r.1];rwa[g]
   let g1:C[i]?\(C[i]'g):=agv g
   let O:rs[i]?\(rs[i]'x):=agv x
   rw[agR,g1]at N;obtain rfl:V.ref (C[i]'g)=v:=Za0 N;generalize C[i]'g=q at g1;generalize rs[i]'x=w at O;let I:=aq.upd (o:=.tup [.int (i:Int),↑q]) nt;erw[t,12,bC.of ah,21121122];generalize upd B t (.tup [.int (i:Int),↑q])=H3 at I ⊢;let y:=I^Z;let hq:H3 q\(.tup ((w.map (Sum.inl:Int->Key)).map kV)):=by rw[ahe];rwa[(s2.trans I) _ _ (r.2 i q w g1 O)]
   rwa[⟨12,d,2,.inr ⟨_,.inl y⟩,1212,iO c,w.map Sum.inl,q,y,2,hq,5,λv G=>?_,λG=>?_⟩]
   ·unfold iO;rw[agy];rwa[agE (show ⇑c<=1000 by omega) ⋯]
   ·rw[BU]at G;let⟨p,f,rfl⟩:=ahM.mp G;let e:p.1=w:=by let h9:=List.find?_some f;simpa using h9
    let hm:=List.mem_of_find?_eq_some f;rwa[⟨c,112,s2.trans I,y,λp f=>⟨(F p f).1,by have:=(F p f).2;ext⟩,λj u D eu=>?_,U,3⟩];by_cases M:j<i
    ·rwa[hb j u M eu]
    ·cbv
   ·rw[BU]at G
    let hno:∀p∈c,p.1≠w:=λp f e=>by
     have:=List.find?_eq_none.mp (ajX.mp G) p f
     cbv
    let ep:putK (iO c) (w.map Sum.inl) (V.int (i:Int))=iO (c++[(w,i)]):=by
     rw[Al _ ([BU]▸G)];unfold iO;rw[ag6];rfl
    rw[ep];let S:H d=none:=J;rwa[⟨c++[(w,i)],112,λb o e=>[ak (ax e S)]▸(s2.trans I) _ _ e,ah,λp f=>?_,λj u D eu=>?_,5,by rw[agw];show _+ 1<=_;ext⟩]
    ·rcases agH.mp f with z|z
     ·rwa[⟨(F p z).1,by have:=(F p z).2;ext⟩]
     ·rw[agC.mp z];rwa[O,by show i<i+ 1;ext]
    ·cbv
    cbv
  ·rintro L B ⟨c,Y,R,rfl,s2,Z,F,hb,U,hlen⟩;rwa[⟨12,k d c B s2 J Z ⟨λp f=>(F p f).1,λw hw=>?_,U⟩⟩];let⟨j,D⟩:=ahc hw;rwa[hb j w ([agy,r.1]▸(agx.mp D).1) D]
def y8 (a:Nat)(word:Zg)(start:Nat):Gg:=⟨a,word,start,start,(0),start,⇑word - 1⟩
inductive Iu (CG:Zs) (vs:Zb) (H:Hp) (Q:VK) (E_:XK):Prop
 |mk (x dx wa:Zs) (which start:Nat) (word:Zg):vs=[↑x,.int which,↑wa,.int start]->H x\.ins CG dx []->H wa\.tup (ao word)->1<=⇑word->⇑word<=1000->(∀H',(∀b o,H b\o->b≠x->H' b\o)->dZ CG H' x dx wa (y8 which word start)->Q .non H')->Iu CG vs H Q E_
def MT (a start:Nat)(b:Zs)(l:Int):List (Str×V):=[("which",.int a)]
def MV (a start:Nat)(b:Zs)(l:Int):List (Str×V):=[("which",.int a),("word",↑b)]
def MX (a start:Nat)(b:Zs)(l:Int):List (Str×V):=[("which",.int a),("word",↑b),("start",.int start)]
def MY (a start:Nat)(b:Zs)(l:Int):List (Str×V):=[("which",.int a),("word",↑b),("start",.int start),("front",.int start)]
def MZ (a start:Nat)(b:Zs)(l:Int):List (Str×V):=[("which",.int a),("word",↑b),("start",.int start),("front",.int start),("first",.int 0)]
def M0 (a start:Nat)(b:Zs)(l:Int):List (Str×V):=[("which",.int a),("word",↑b),("start",.int start),("front",.int start),("first",.int 0),("rear",.int start)]
def S7 (a start:Nat)(b:Zs)(l:Int):List (Str×V):=[("which",.int a),("word",↑b),("start",.int start),("front",.int start),("first",.int 0),("rear",.int start),("last",.int l)]
def gy2 (a start:Nat)(b:Zs)(l:Int):bJ "word" ↑b (MT a start b l)=MV a start b l:=dO (by kernel_rfl)
def gy3 (a start:Nat)(b:Zs)(l:Int):bJ "start" (.int start) (MV a start b l)=MX a start b l:=dO (by kernel_rfl)
def gy4 (a start:Nat)(b:Zs)(l:Int):bJ "front" (.int start) (MX a start b l)=MY a start b l:=dO (by kernel_rfl)
def gy5 (a start:Nat)(b:Zs)(l:Int):bJ "first" (.int 0) (MY a start b l)=MZ a start b l:=dO (by kernel_rfl)
def gy6 (a start:Nat)(b:Zs)(l:Int):bJ "rear" (.int start) (MZ a start b l)=M0 a start b l:=dO (by kernel_rfl)
def gy7 (a start:Nat)(b:Zs)(l:Int):bJ "last" (.int l) (M0 a start b l)=S7 a start b l:=dO (by kernel_rfl)
def tJ (T:Txt K mg A):T.gk.Ok mg P w base 1 (Iu A.aJ):=by
 rwa[T.gk.on tE (λO AA u s H vs Q E hr h=>?_)]
 ·let⟨x,c,d,a,start,word,rfl,m,f,N,S,k⟩:=h
  refine⟨_,(ai (bY (pv 0) (pv 1) rfl)
   (ai (bY (pv 0) (pv 2) rfl)
   (ai (bY (pv 0) (pv 3) rfl)
   (ai (bY (pv 0) (pv 3) rfl)
   (ai (bY (pv 0) au rfl)
   (ai (bY (pv 0) (pv 3) rfl)
   (aw (bY (pv 0) (aK jH (bN bM rfl T.fe ahx (ae (pv 2) aj)) au) rfl)))))))),?_⟩
  rwa[pU ?_];intro X U Z L fS J;let st:∀{H0:Hp} {fs gs:List (Str×V)},H0 x\.ins A.aJ c fs->(∀b o,H b\o->b≠x->H0 b\o)->upd H0 x (.ins A.aJ c gs) x\.ins A.aJ c gs/\∀b o,H b\o->b≠x->upd H0 x (.ins A.aJ c gs) b\o:=λ_ h=>⟨ah,λb o e n=>[ak n]▸h b o e n⟩
  let g:d≠x:=bX f m (by cbv);let M:∀b o,H b\o->b≠x->H b\o:=λb o e _=>e
  erw[1212,x,_,c,12,m,aT T,T.Bo,(by show 0<1000;decide)];rw[show bJ "which" (.int a) []=MT a start d (((⇑word - 1:Nat):Int)) from rfl];let⟨r,C⟩:=st (gs:=MT a start d (((⇑word - 1:Nat):Int))) m M;generalize upd H x (.ins A.aJ c (MT a start d (((⇑word - 1:Nat):Int))))=H1 at r C ⊢;erw[1212,x,_,c,12,r,aT T,T.jB,(by show 1<1000;decide)];rw[gy2];let⟨q,z⟩:=st (gs:=MV a start d (((⇑word - 1:Nat):Int))) r C;generalize upd H1 x (.ins A.aJ c (MV a start d (((⇑word - 1:Nat):Int))))=H2 at q z ⊢;erw[1212,x,_,c,12,q,aT T,T.qf,(by show 2<1000;decide)];rw[gy3];let⟨j,B⟩:=st (gs:=MX a start d (((⇑word - 1:Nat):Int))) q z;generalize upd H2 x (.ins A.aJ c (MX a start d (((⇑word - 1:Nat):Int))))=R at j B ⊢;erw[1212,x,_,c,12,j,aT T,T.gN,(by show 3<1000;decide)];rw[gy4];let⟨t,D⟩:=st (gs:=MY a start d (((⇑word - 1:Nat):Int))) j B;generalize upd R x (.ins A.aJ c (MY a start d (((⇑word - 1:Nat):Int))))=G at t D ⊢;erw[12,x,_,c,12,t,aT T,T.eY,(by show 4<1000;decide)];rw[gy5];let⟨l,y⟩:=st (gs:=MZ a start d (((⇑word - 1:Nat):Int))) t D;generalize upd G x (.ins A.aJ c (MZ a start d (((⇑word - 1:Nat):Int))))=Y at l y ⊢;erw[1212,x,_,c,12,l,aT T,T.g6,(by show 5<1000;decide)];rw[gy6];let⟨p,i⟩:=st (gs:=M0 a start d (((⇑word - 1:Nat):Int))) l y;generalize upd Y x (.ins A.aJ c (M0 a start d (((⇑word - 1:Nat):Int))))=H6 at p i ⊢;erw[12,d,12,.inr (bC.of (i _ _ f g)),112212,x,_,c,12,p,aT T,T.iI,(by show 6<1000;decide)];rw[show V.int ((⇑(ao word):Int) - 1)=V.int (((⇑word - 1:Nat):Int)) by show V.int ((⇑(ao word):Int) - 1)=_;rw[aL];congr 1;ext];rw[gy7];let⟨F,v⟩:=st (gs:=S7 a start d (((⇑word - 1:Nat):Int))) p i;generalize upd H6 x (.ins A.aJ c (S7 a start d (((⇑word - 1:Nat):Int))))=I at F v ⊢;rwa[k I v ⟨F,v _ _ f g⟩]
structure sk (S:RS) (g g':Gg):Prop where
 wh:g'.which=g.which
 wo:g'.word=g.word
 st:g'.start=g.start
 gi:GI S g'
 ef:S.av g'.front=g'.front
 er:S.av g'.bu=g'.bu
 k1:S.av g.front=g.front->S.by g.front g.z1=none->g'.front=g.front/\g'.first=g.first
 k2:S.av g.bu=g.bu->S.by g.bu g.z2=none->g'.bu=g.bu/\g'.last=g.last
def sk.fwd {g g1:Gg}(h:sk S g g1)(f:Good S [] R)(b:g1.first<g1.last){c:Nat}(hc:S.by g1.front g1.z1=some c):sk S g { g1 with front:=c,first:=g1.first+ 1 }:=by
 let⟨_,d,_,e⟩:=f.st _ _ _ hc;let ll:=h.gi.ll;let hz:=Gg.qw (g:=g1) ∅;rwa[⟨h.wh,h.wo,h.st,⟨b,ll,h.gi.s,d,h.gi.r,5,h.gi.wr⟩,e,h.er,λi a=>?_,h.k2⟩]
 ·have:=h.gi.wf;rw[h.ef]at this;show wk S.by _ (g1.word.take (g1.first+ 1))=some (S.av c);rw[take_snoc hz,ip this,Hn hc,e]
 ·let⟨j,k⟩:=h.k1 i a;unfold Gg.z1 at hc a;rw[j,k,h.wo,a]at hc;ext hc
def sk.bwd {g g1:Gg}(h:sk S g g1)(d:Good S [] R)(k:g1.first<g1.last){c:Nat}(hc:S.by g1.bu g1.z2=some c):sk S g { g1 with bu:=c,last:=g1.last - 1 }:=by
 let⟨_,b,_,e⟩:=d.st _ _ _ hc;let ll:=h.gi.ll;let hz:=Gg.at2 (g:=g1) ll;rwa[⟨h.wh,h.wo,h.st,⟨by show g1.first<=g1.last - 1;ext,by show g1.last - 1<⇑g1.word;ext,h.gi.s,h.gi.f,b,h.gi.wf,5⟩,h.ef,e,h.k1,λf a=>?_⟩]
 ·have:=h.gi.wr;rw[h.er]at this;show wk S.by (S.av c) (g1.word.drop (g1.last - 1+ 1))=some (S.av g1.start);rw[show g1.last - 1+ 1=g1.last by ext,drop_cons hz,e,gY (d.sy _ _ _ hc)];ext
 ·let⟨i,j⟩:=h.k2 f a;unfold Gg.z2 at hc a;rw[i,j,h.wo,a]at hc;ext hc
inductive M3 (CR CG:Zs) (vs:Zb) (H:Hp) (Q:VK) (E_:XK):Prop
 |mk (p dx wa r:Zs) (g:Gg) (S:RS) (a:RA) (R:Za2):vs=[↑p,↑r]->dZ CG H p dx wa g->ay CR H r S a->Good S [] R->GI S g->¬a.own r p->⇑g.word<=1000->(∀g' H',(∀b o,b≠p->H b\o->H' b\o)->dZ CG H' p dx wa g'->V6 S g g'->Q .non H')->M3 CR CG vs H Q E_
def ve (T:Txt K mg A):T.lA.Ok mg P w base 2 (M3 A.az A.aJ):=by
 rwa[T.lA.on jl (λcC AA outer s H vs Q E U h=>?_)]
 ·let⟨p,d,t,r,g,S,a,R,rfl,O,Y,B,y,Z,I,k⟩:=h
  refine⟨_,(ai (bY (pv 0) (pm (pv 1) (aI T) T.gZ (iJ T) U (ae (aF (pv 0) rfl) aj)) rfl)
   (ai (bY (pv 0) (pm (pv 1) (aI T) T.gZ (iJ T) U (ae (aF (pv 0) rfl) aj)) rfl)
   (ai (bP (gI ag0 (bf sJ (aF (pv 0) rfl) (aF (pv 0) rfl) (bh _))
    (ai (bD 2 jl.nd (pm (pv 1) (aI T) T.iq (g9 T) U (ae (aF (pv 0) rfl) (ae (bF dX (aF (pv 0) rfl) (aF (pv 0) rfl) (λ_ _=>rfl)) aj))))
    (ai (bI (bf mq (pv 2) cX (bh _))
     (aw uy)
     bq)
    (ai (bY (pv 0) (pv 2) rfl)
    (aw (bY (pv 0) (aK cI (aF (pv 0) rfl) au) rfl)))))))
   (aw (bP (gI ag0 (bf sJ (aF (pv 0) rfl) (aF (pv 0) rfl) (bh _))
    (ai (bD 2 jl.nd (pm (pv 1) (aI T) T.iq (g9 T) U (ae (aF (pv 0) rfl) (ae (eG dw (bF dX (aF (pv 0) rfl) (aF (pv 0) rfl) (λ_ _=>rfl))) aj))))
    (ai (bI (bf mq (pv 2) cX (bh _))
     (aw uy)
     bq)
    (ai (bY (pv 0) (pv 2) rfl)
    (aw (bY (pv 0) (aK jH (aF (pv 0) rfl) au) rfl))))))))))),?_⟩
  rwa[ik ?_];intro jV fS gy;let eo:∀{c:Nat},c<S.made->S.aV[c]?\(S.av c):=λ{c} hc=>m6 ([B.wf.e]▸hc)
  let kp:∀{F:Hp},(∀b o,b≠p->H b\o->F b\o)->ay A.az F r S a:=λ{F} f=>Y.keep (λb o hb e=>f b o (λz=>Z (z ▸ hb)) e) (λb xs e=>f b _ (bX e O.ins (by cbv)) e)
  let up:∀{F:Hp} {o2:HO},(∀b o,b≠p->H b\o->F b\o)->∀b o,b≠p->H b\o->upd F p o2 b\o:=λf b o n e=>by rw[ak n];rwa[f b o n e]
  erw[12,r,a.dx,12,Y.ins,cL _ _ _ ⋯,12,p,_,d,112,O.ins,aT T,T.gN,kl _ _,r,S,a,g.front,S.av g.front,2,Y,eo y.f,12,p,_,d,12,O.ins,aT T,T.gN,(by show 7<1000;decide)];rw[BR];let X:=O.set (g':={ g with front:=S.av g.front }) rfl;let f1:=up (o2:=.ins A.aJ d (gA { g with front:=S.av g.front } t)) (λb o _ e=>e);generalize upd H p (.ins A.aJ d (gA { g with front:=S.av g.front } t))=H1 at X f1 ⊢;let R1:=kp f1;erw[12,r,a.dx,12,R1.ins,cL _ _ _ ⋯,12,p,_,d,112,X.ins,aT T,T.g6,km _ _,r,S,a,g.bu,S.av g.bu,2,R1,eo y.r,12,p,_,d,12,X.ins,aT T,T.g6,(by show 7<1000;decide)];rw[Ep];let p2:=X.set (g':={ g with front:=S.av g.front,bu:=S.av g.bu }) rfl;let f2:=up (o2:=.ins A.aJ d (gA { g with front:=S.av g.front,bu:=S.av g.bu } t)) f1;generalize upd H1 p (.ins A.aJ d (gA { g with front:=S.av g.front,bu:=S.av g.bu } t))=F at p2 f2 ⊢;let e1:=(B.el _ y.f).2;let e2:=(B.el _ y.r).2;let D:sk S g { g with front:=S.av g.front,bu:=S.av g.bu }:=⟨222,⟨y.fl,y.ll,y.s,B.lt y.f,B.lt y.r,by show wk _ _ _\S.av (S.av g.front);rw[e1];rwa[y.wf],by show wk _ (S.av (S.av g.bu)) _=_;rw[e2];rwa[y.wr]⟩,e1,e2,λe _=>⟨e,2⟩,λe _=>⟨e,2⟩⟩;erw[λ v l=>∃g1 u,v=#v[↑p,↑r,u]/\(∀b o,b≠p->H b\o->l b\o)/\dZ A.aJ l p d t g1/\sk S g g1/\(g1.first<g1.last->S.by g1.front g1.z1=none),5]
  ·erw[λm J l=>∃g1 u,m=g1.last - g1.first/\J=#v[↑p,↑r,u]/\(∀b o,b≠p->H b\o->l b\o)/\dZ A.aJ l p d t g1/\sk S g g1,⟨11,none,22,f2,p2,D⟩];rintro m J l ⟨g1,u,rfl,rfl,x,i,ad⟩;let L:=kp x;let ll:=ad.gi.ll;let fl:=ad.gi.fl;let lw:⇑g1.word<=1000:=by rw[ad.wo];rwa[I]
   erw[12,p,_,d,112,i.ins,aT T,T.eY,gP _ _,12,p,_,d,112,i.ins,aT T,T.iI,ko _ _,112212];rwa[cq (λq=>?_) (λq=>?_)]
   ·let q:(g1.first:Int)<(g1.last:Int):=ahi q;erw[_,λ_ _ z=>z];let hz:=Gg.qw (g:=g1) ∅;erw[12,r,a.dx,12,L.ins,cL _ _ _ ⋯,12,p,_,d,112,i.ins,aT T,T.gN,kl _ _,12,p,_,d,112,i.ins,aT T,T.jB,kj _ _,12,p,_,d,112,i.ins,aT T,T.eY,gP _ _,t,11,.int g1.z1,22,bC.of i.wo,dE (cK hz),r,S,a,g1.front,g1.z1,2,L,[B.wf.w]▸ad.gi.f]
    cases N:S.by g1.front g1.z1 with
    |none=>rwa[12212,ic ⟨g1,12,x,i,ad,λ_=>N⟩]
    |some c=>
     rw[show (Option.map (λn:Nat=>V.int (n:Int)) (some c)).getD V.non=V.int (c:Int) from rfl];rwa[⟨12212,dN ?_⟩];erw[1212,p,_,d,12,i.ins,aT T,T.gN,(by show 7<1000;decide)];rw[BR];let C:=i.set (g':={ g1 with front:=c }) rfl;let G:=up (o2:=.ins A.aJ d (gA { g1 with front:=c } t)) x;generalize upd l p (.ins A.aJ d (gA { g1 with front:=c } t))=H3 at C G ⊢;erw[12,p,_,d,112,C.ins,aT T,T.eY,gP _ _,112212,p,_,d,12,C.ins,aT T,T.eY,(by show 7<1000;decide)];rw[show V.int ((({ g1 with front:=c }:Gg).first:Int)+ 1)=V.int ((g1.first+ 1:Nat):Int) from rfl,Ld];rwa[_,by show g1.last - (g1.first+ 1)<_;ext,1122,up G,C.set rfl,ad.fwd B ∅ N]
   ·rwa[g1,u,2,x,i,ad,λz=>absurd (aha (show (g1.first:Int)<(g1.last:Int) by omega)) q]
  rintro v l ⟨g0,v0,rfl,f0,p0,D,n0⟩;erw[λ v l=>∃g1 u,v=#v[↑p,↑r,u]/\(∀b o,b≠p->H b\o->l b\o)/\dZ A.aJ l p d t g1/\sk S g g1/\(g1.first<g1.last->S.by g1.front g1.z1=none)/\(g1.first<g1.last->S.by g1.bu g1.z2=none),5]
  ·erw[λm J l=>∃g1 u,m=g1.last - g1.first/\J=#v[↑p,↑r,u]/\(∀b o,b≠p->H b\o->l b\o)/\dZ A.aJ l p d t g1/\sk S g g1/\(g1.first<g1.last->S.by g1.front g1.z1=none),⟨11,v0,22,f0,p0,D,n0⟩];rintro m J l ⟨g1,u,rfl,rfl,x,i,ad,M⟩;let L:=kp x;let ll:=ad.gi.ll;let fl:=ad.gi.fl;let lw:⇑g1.word<=1000:=by rw[ad.wo];rwa[I]
   erw[12,p,_,d,112,i.ins,aT T,T.eY,gP _ _,12,p,_,d,112,i.ins,aT T,T.iI,ko _ _,112212];rwa[cq (λq=>?_) (λq=>?_)]
   ·let q:(g1.first:Int)<(g1.last:Int):=ahi q;erw[_,λ_ _ z=>z];let hz:=Gg.at2 (g:=g1) ll;erw[12,r,a.dx,12,L.ins,cL _ _ _ ⋯,12,p,_,d,112,i.ins,aT T,T.g6,km _ _,12,p,_,d,112,i.ins,aT T,T.jB,kj _ _,12,p,_,d,112,i.ins,aT T,T.iI,ko _ _,t,11,.int (-g1.z2),22,bC.of i.wo,dE (cK hz),12,r,S,a,g1.bu,g1.z2,(by cbv),L,[B.wf.w]▸ad.gi.r]
    cases N:S.by g1.bu g1.z2 with
    |none=>rwa[12212,ic ⟨g1,12,x,i,ad,M,λ_=>N⟩]
    |some c=>
     rw[show (Option.map (λn:Nat=>V.int (n:Int)) (some c)).getD V.non=V.int (c:Int) from rfl];rwa[⟨12212,dN ?_⟩];erw[1212,p,_,d,12,i.ins,aT T,T.g6,(by show 7<1000;decide)];rw[Ep];let C:=i.set (g':={ g1 with bu:=c }) rfl;let G:=up (o2:=.ins A.aJ d (gA { g1 with bu:=c } t)) x;generalize upd l p (.ins A.aJ d (gA { g1 with bu:=c } t))=H3 at C G ⊢;erw[12,p,_,d,112,C.ins,aT T,T.iI,ko _ _,112212,p,_,d,12,C.ins,aT T,T.iI,(by show 7<1000;decide)];rw[show V.int ((({ g1 with bu:=c }:Gg).last:Int) - 1)=V.int ((g1.last - 1:Nat):Int) by show V.int ((g1.last:Int) - 1)=_;congr 1;ext,Pk];rwa[_,by show (g1.last - 1) - g1.first<_;ext,1122,up G,C.set rfl,ad.bwd B ∅ N,λz=>M (by let z:g1.first<g1.last - 1:=z;omega)]
   ·rwa[g1,u,2,x,i,ad,M,λz=>absurd (aha (show (g1.first:Int)<(g1.last:Int) by omega)) q]
  rintro v l ⟨g1,u,rfl,x,i,ad,M,n2⟩;rwa[k g1 l x i ⟨ad.wh,ad.wo,ad.st,ad.gi,ad.ef,ad.er,M,n2,ad.k1,ad.k2⟩]
def VH (ns:Zg)(j:Nat):fm (ao ns) none (some (j:Int))=ao (ns.take j):=by
 rw[Aj,HT.oE];show ao ((List.drop 0 ns).take (min j ⇑ns - 0))=_
 cbv
def Pl (ns:Zg)(j:Nat)(h:j<=⇑ns):fm (ao ns) (some (j:Int)) none=ao (ns.drop j):=by
 rw[Aj,HT.oE,aiC h];show ao ((ns.drop j).take (⇑ns - j))=_;rw[aiD ([aho]▸agA _)]
theorem pz {by_:Nat->Int->Zi}:∀{ws:Zg} {r:Nat},⇑(cf by_ r ws)<=⇑ws
 |[],_=>agA _
 |z::ws,r=>by
  cases q:by_ r z with
  |none=>rw[yS q];rwa[agW _]
  |some d=>rw[nK q,agV,agV];rwa[Nat.succ_le_succ pz]
inductive Iv (CR CG:Zs) (vs:Zb) (H:Hp) (Q:VK) (E_:XK):Prop
 |mk (p dx wa r:Zs) (g:Gg) (S:RS) (a:RA) (R:Za2):vs=[↑p,↑r]->dZ CG H p dx wa g->ay CR H r S a->Good S [] R->g.start<S.made->g.bu<S.made->g.last<⇑g.word->⇑g.word<=1000->(∀q H',aq H H'->bR H' 2 ↑q (lZ g.which ((g.start::cf S.by g.start (g.word.take g.first))++(g.bu::cf S.by g.bu (g.word.drop (g.last+ 1)))) g.first)->Q ↑q H')->Iv CR CG vs H Q E_
theorem BV (T:Txt K mg A):T.rY.Ok mg P w base 3 (Iv A.az A.aJ):=by
 rwa[T.rY.on m3 (λcC AA N s H vs Q E hr h=>?_)]
 ·let⟨p,m,wa,r,g,S,a,R,rfl,n,V,I,hs,O,Xf,Iw,k⟩:=h
  refine⟨_,(ai (bD 2 m3.nd (pc T.walked (y7 T) hr (ae (pv 1) (ae (aF (pv 0) rfl) (ae (j5 pN (aF (pv 0) rfl) iz (iA (aF (pv 0) rfl))) aj)))))
   (ai (bD 3 m3.nd (pc T.walked (y7 T) hr (ae (pv 1) (ae (aF (pv 0) rfl) (ae (j5 pN (aF (pv 0) rfl) (iA (aK cI (aF (pv 0) rfl) au)) iz) aj)))))
   (aw (bx (cQ (ae (eh (l:=[114,117,108,101]) rfl) (ae (aF (pv 0) rfl) (ae (eM lh rfl T.o8 aiw (ae (aK Ad (pv 2) (pv 3)) aj)) (ae (aF (pv 0) rfl) aj))))))))),?_⟩
  rwa[fK ?_];intro fS gy;let D:∀c z d,S.by c z=some d->d<S.made:=λc z d e=>(I.st c z d e).2.1
  rwa[⟨1212,p,_,m,112,n.ins,aT T,T.qf,vd _ _,12,p,_,m,112,n.ins,aT T,T.jB,kj _ _,12,p,_,m,112,n.ins,aT T,T.eY,gP _ _,12,wa,12,n.wo,λt1 H1 s1 e1=>?_⟩];rw[VH]at e1;rwa[⟨r,S,a,g.start,t1,g.word.take g.first,2,V.same s1,I.wf,hs,D,e1,by rw[ag8];ext,λl1 H2 s2 h2=>?_⟩];let B:=s1.trans s2;let F:=n.same B;rwa[⟨1212,p,_,m,112,F.ins,aT T,T.g6,km _ _,12,p,_,m,112,F.ins,aT T,T.jB,kj _ _,12,p,_,m,112,F.ins,aT T,T.iI,ko _ _,112212,wa,12,F.wo,λt2 H3 s3 e3=>?_⟩];rw[show (g.last:Int)+ 1=((g.last+ 1:Nat):Int) by ext,Pl _ _ ∅]at e3;let C:=B.trans s3;rwa[⟨r,S,a,g.bu,t2,g.word.drop (g.last+ 1),2,V.same C,I.wf,O,D,e3,by rw[aho];ext,λl2 X s4 h4=>?_⟩];let y:=C.trans s4;let Y:=n.same y;let lx:=pz (by_:=S.by) (ws:=g.word.take g.first) (r:=g.start);let ly:=pz (by_:=S.by) (ws:=g.word.drop (g.last+ 1)) (r:=g.bu);rw[ag8]at lx;rw[aho]at ly;rwa[⟨12,p,_,m,112,Y.ins,aT T,T.Bo,Lc _ _,1212,l1,l2,1122,(s3.trans s4) _ _ h2,h4,5,λL n3=>?_⟩]
  ·rw[aL,aL,bZ,bZ,agV,agV];rwa[agJ (show _<=100000 by omega) ⋯]
  rwa[⟨L,12,.inl ⟨aH.of ah,λG Z=>?_⟩⟩];rw[<-ints_app,<-iW]at Z ⊢;let s5:=aq.upd (o:=.lst (ao (nI ((g.start::cf S.by g.start (g.word.take g.first))++(g.bu::cf S.by g.bu (g.word.drop (g.last+ 1))))))) n3;generalize (g.start::cf S.by g.start (g.word.take g.first))++(g.bu::cf S.by g.bu (g.word.drop (g.last+ 1)))=path at *;let U:=s5.trans (aq.upd (o:=.tup (ao (nI path))) Z);let e6:upd (upd X L (.lst (ao (nI path)))) G (.tup (ao (nI path))) G=_:=ah;generalize upd (upd X L (.lst (ao (nI path)))) G (.tup (ao (nI path)))=H6 at U e6 ⊢;rwa[⟨12,p,_,m,112,(U^Y.ins),aT T,T.eY,gP _ _,(Za4 4),λq nq=>?_⟩];let s7:=aq.upd (o:=.tup [.str (tx [114,117,108,101]),.int (g.which:Int),↑G,.int (g.first:Int)]) nq;rwa[k q _ (y.trans (U.trans s7)) (.t ah rfl λj v d b f=>?_)]
  match j,b,f with
  |0,b,f=>ext b;ext f;rwa[.s]
  |1,b,f=>ext b;ext f;rwa[.i]
  |2,b,f=>
   ext b;ext f;rwa[.t (s7^e6) (by rw[aL,bZ,agy]) λi u x f1 M=>?_]
   let⟨z,rfl,t⟩:=cR f1;unfold nI at t;rw[agR]at t M
   cases q1:path[i]? with
   |none=>rw[q1]at t;ext t
   |some c=>
    rw[q1]at t M;ext t;ext M;rwa[.i]
  |3,b,f=>ext b;ext f;rwa[.i]
  |j+ 4,b,f=>simp at b
def same_none (s:aq H I){b:Zs}(h:I b=none):H b=none:=by
 cases e:H b with
 |none=>rfl
 |some o=>rw[s^e]at h;ext h
structure KA where
 dx:Zs
 aQ:Zs
 aG:Zs
 aA:Zs
 aW:Zs
def pA (r:Zs)(c:KA)(a:Nat):List (Str×V):=[("rooms",↑r),("rules",↑c.aQ),("goings",↑c.aG),("agenda",↑c.aA),("waiting",↑c.aW),("heard",.int a)]
def fP (r:Zs)(c:KA)(a:Nat):(pA r c a).lookup ("rooms":Str)\↑r:=by kernel_rfl
def Lf (r:Zs)(c:KA)(a:Nat):(pA r c a).lookup ("rules":Str)\↑c.aQ:=by kernel_rfl
def lb (r:Zs)(c:KA)(a:Nat):(pA r c a).lookup ("goings":Str)\↑c.aG:=by kernel_rfl
def oj (r:Zs)(c:KA)(a:Nat):(pA r c a).lookup ("agenda":Str)\↑c.aA:=by kernel_rfl
def lT (r:Zs)(c:KA)(a:Nat):(pA r c a).lookup ("waiting":Str)\↑c.aW:=by kernel_rfl
def vg (r:Zs)(c:KA)(a:Nat):(pA r c a).lookup ("heard":Str)\(.int a):=by kernel_rfl
def fj {r:Zs}{c:KA}(h:x∉(["rooms","rules","goings","agenda","waiting","heard"]:Zp)):(pA r c n).lookup x=none:=by
 simp only[agN,ahl,aiM,not_or]at h;let⟨f,d,b,a,g,e⟩:=h;unfold pA;simp only[List.lookup,agS.mpr f,agS.mpr d,agS.mpr b,agS.mpr a,agS.mpr g,agS.mpr e]
def Lg (r:Zs)(c:KA)(a n:Nat):bJ "heard" (.int n) (pA r c a)=pA r c n:=by kernel_rfl
structure qi (CG:Zs) (H:Hp) (gv:Zb) (gs:Zf) (O:Zs->Prop):Prop where
 l:⇑gv=⇑gs
 n:∀(i:Nat) (v:V),gv[i]?\v->gs[i]?\none->v=.non
 s:∀(i:Nat) (v:V) (g:Gg),gv[i]?\v->gs[i]?\some g->∃p dx wa,v=↑p/\dZ CG H p dx wa g/\O p
 i:∀(i j:Nat) (p:Zs),gv[i]?\↑p->gv[j]?\↑p->i=j
structure ck (CG CC:Zs) (H:Hp) (x r:Zs) (c:KA) (gs:Zf) (ag:Zh) (W:bE) (hd:Nat) (fp:List (Zg×Nat)) (O:Zs->Prop):Prop where
 ins:H x\(.ins CC c.dx (pA r c hd))
 hG:∃gv,H c.aG\.lst gv/\qi CG H gv gs O
 hA:H c.aA\(.lst (ao (nI ag)))
 wt:oQ H c.aW W O
 ne:c.aG≠c.aA
 ox:O x
 oG:O c.aG
 oA:O c.aA
 th:∀b,O b->∃o,H b\o/\(∀xs,o≠.tup xs)/\(∀kv,o≠.dT kv)/\(∀u v,o≠.cW u v)/\∀ps,o≠.fw ps
section
variable {CG CC:Zs}{H H':Hp}{x r:Zs}{c:KA}{gs:Zf}{ag:Zh}{W:bE}{hd:Nat}{fp:List (Zg×Nat)}{O:Zs->Prop}
def qi.keep (h:qi CG H L gs O)(f:∀b o,O b->H b\o->H' b\o)(d:∀b a,H b\.tup a->H' b\.tup a):qi CG H' L gs O:=by
 rwa[⟨h.l,h.n,λi v g j k=>?_,h.i⟩];let⟨p,dx,l,e,q,o⟩:=h.s i v g j k;rwa[p,dx,l,e,⟨f _ _ o q.ins,d^q.wo⟩,o]
def ck.keep (h:ck CG CC H x r c gs ag W hd fp O)(f:∀b o,O b->H b\o->H' b\o)(i:∀b d,H b\.tup d->H' b\.tup d):ck CG CC H' x r c gs ag W hd fp O:=by
 let⟨g,j,g2⟩:=h.hG;rwa[⟨f _ _ h.ox h.ins,⟨g,f _ _ h.oG j,g2.keep f i⟩,f _ _ h.oA h.hA,h.wt.keep f,h.ne,h.ox,h.oG,h.oA,λb a=>?_⟩];let⟨o,e,q⟩:=h.th b a;rwa[o,f _ _ a e,q]
def ck.same (h:ck CG CC H x r c gs ag W hd fp O)(s:aq H H'):ck CG CC H' x r c gs ag W hd fp O:=h.keep (λb o _ e=>s b o e) (λb o e=>s^e)
def ck.jb (h:ck CG CC H x r c gs ag W hd fp O){b:Zs}{a:Zb}(e:H b\.tup a):¬O b:=λz=>by
 let⟨o,q,n,_⟩:=h.th b z
 cbv
def ck.Iy (h:ck CG CC H x r c gs ag W hd fp O){b:Zs}{a:List (Zd×V)}(e:H b\.dT a):¬O b:=λz=>by
 let⟨o,q,_,n,_⟩:=h.th b z
 cbv
def ck.waits (h:ck CG CC H x r c gs ag W hd fp O){k:bE}{d:Zs->Prop}(f:∀b o,(∀j,o≠.dK j)->H b\o->H' b\o)(a:∀b,O b->d b)(w:oQ H' c.aW k d)(th:∀b,d b->∃o,H' b\o/\(∀t,o≠.tup t)/\(∀j,o≠.dT j)/\(∀u v,o≠.cW u v)/\∀l,o≠.fw l):ck CG CC H' x r c gs ag k hd fp d:=by
 let⟨s,z,g2⟩:=h.hG;rwa[⟨f _ _ (by cbv) h.ins,⟨s,f _ _ (by cbv) z,g2.l,g2.n,λi v g y m=>?_,g2.i⟩,f _ _ (by cbv) h.hA,w,h.ne,a _ h.ox,a _ h.oG,a _ h.oA,th⟩];let⟨p,dx,n,e,q,o⟩:=g2.s i v g y m;rwa[p,dx,n,e,⟨f _ _ (by cbv) q.ins,f _ _ (by cbv) q.wo⟩,a _ o]
def ck.agenda (h:ck CG CC H x r c gs ag W hd fp O)(a:Zh):ck CG CC (upd H c.aA (.lst (ao (nI a)))) x r c gs a W hd fp O:=by
 let⟨l,t,g2⟩:=h.hG;let k:∀b o,b≠c.aA->H b\o->upd H c.aA (.lst (ao (nI a))) b\o:=λb o n e=>by rw[ak n];rwa[e]
 let kn:∀b o,(∀m,o≠.lst m)->H b\o->upd H c.aA (.lst (ao (nI a))) b\o:=λb o n e=>k b o (λz=>by rw[z,h.hA]at e;cbv) e
 rwa[⟨kn _ _ (by cbv) h.ins,⟨l,k _ _ h.ne t,g2.l,g2.n,λi v g s f=>?_,g2.i⟩,ah,5,h.ne,h.ox,h.oG,h.oA,λb d=>?_⟩]
 ·let⟨p,dx,j,e,q,o⟩:=g2.s i v g s f;rwa[p,dx,j,e,⟨kn _ _ (by cbv) q.ins,kn _ _ (by cbv) q.wo⟩,o]
 ·let⟨D,E,k1,k2⟩:=h.wt;rwa[D,E,k1.keep λb o d e=>by let⟨u,q⟩:=k1.there d;cbv,k2]
 ·by_cases e:b=c.aA
  ·rwa[_,[e]▸ah,(by cbv),(by cbv),(by cbv),by cbv]
  ·let⟨o,q,n⟩:=h.th b d;rwa[o,k _ _ e q,n]
end
def Bt (O:Zs->Prop)(H a:Hp):Prop:=∀b o,¬O b->H b\o->a b\o
def Bt.trans {O a:Zs->Prop}(h:Bt O H I)(c:Bt a I J)(f:∀b,a b->O b\/H b=none):Bt O H J:=λb o n e=>c b o (λz=>(f b z).elim n λq=>by cbv) (h b o n e)
def Bt.of {O:Zs->Prop}(s:aq H I):Bt O H I:=λb o _ e=>s b o e
inductive Iz (CR CG CC:Zs) (vs:Zb) (H:Hp) (Q:VK) (E_:XK):Prop
 |mk (x r:Zs) (c:KA) (gs:Zf) (ag:Zh) (W:bE) (hd:Nat) (fp:List (Zg×Nat)) (O:Zs->Prop) (n m:Nat) (s:Int):vs=[↑x,.int n,.int m,.int s]->ck CG CC H x r c gs ag W hd fp O->m<100000->n<100000->(-1000<=s/\s<=1000)->(∀O' H',Bt O H H'->(∀b o,(∀kv,o≠.dK kv)->H b\o->H' b\o)->(∀b,O b->O' b)->(∀b,O' b->O b\/H b=none)->ck CG CC H' x r c gs ag (addW W m s n) hd fp O'->Q .non H')->Iz CR CG CC vs H Q E_
structure jW (H:Hp) (O:Zs->Prop) (H1:Hp) (O1:Zs->Prop):Prop where
 f:∀b o,(∀kv,o≠.dK kv)->H b\o->H1 b\o
 bt:Bt O H H1
 le:∀b,O b->O1 b
 nw:∀b,O1 b->O b\/H b=none
 th:∀b,O1 b->∃o,H1 b\o/\(∀xs,o≠.tup xs)/\(∀kv,o≠.dT kv)/\(∀u v,o≠.cW u v)/\∀ps,o≠.fw ps
def jW.new {O c:Zs->Prop}(h:jW H O I c){p:Zs}{a:List (Key×V)}(d:I p=none):jW H O (upd I p (.dK a)) c:=by
 let s:=aq.upd (o:=.dK a) d;rwa[⟨λb o n e=>s^h.f b o n e,λb o n e=>s^h.bt b o n e,h.le,h.nw,λb f=>?_⟩];let⟨o,e,q⟩:=h.th b f;rwa[o,s^e,q]
def jW.put {O a:Zs->Prop}(h:jW H O I a){d:Zs}(hd:a d){f kv':List (Key×V)}(ed:I d\.dK f):jW H O (upd I d (.dK kv')) a:=by
 let k:∀b o,b≠d->I b\o->upd I d (.dK kv') b\o:=λb o n e=>by rw[ak n];rwa[e]
 rwa[⟨λb o n e=>k _ _ (λz=>by have:=h.f b o n e;cbv) (h.f b o n e),λb o n e=>k _ _ (λz=>?_) (h.bt b o n e),h.le,h.nw,λb c=>?_⟩]
 ·rcases h.nw d hd with q|q
  ·cbv
  cbv
 ·by_cases e:b=d
  ·rwa[⟨_,by rw[e];rwa[ah],(by cbv),(by cbv),(by cbv),by cbv⟩]
  ·let⟨o,q,m⟩:=h.th b c;rwa[o,k _ _ e q,m]
def jW.Xg {O a:Zs->Prop}(h:jW H O I a){p:Zs}(c:H p=none){o:HO}(g:I p\o)(k:∀l,o≠.tup l)(e:∀j,o≠.dT j)(i:∀u v,o≠.cW u v)(f:∀d,o≠.fw d):jW H O I (Ht a p):=by
 rwa[⟨h.f,h.bt,λb z=>.inl (h.le b z),λb z=>z.elim (h.nw b) λq=>.inr ([q]▸c),λb z=>?_⟩];rcases z with z|z
 ·rwa[h.th b z]
 ·rw[z];rwa[o,g,k,e,i,f]
def jW.no {O b:Zs->Prop}(h:jW H O I b){p:Zs}(a:I p=none):H p=none:=by
 cases e:H p with
 |none=>rfl
 |some o=>
  by_cases q:O p
  ·let⟨d,c,_⟩:=h.th p (h.le p q);cbv
  ·rw[h.bt p o q e]at a;ext a
def ck.mid {x r:Zs}{c:KA}{gs:Zf}{W:bE}{hd:Nat}{d:List (Zg×Nat)}{O:Zs->Prop}(h:ck a b H x r c gs B W hd d O):jW H O H O:=⟨λ_ _ _ e=>e,λ_ _ _ e=>e,λ_ z=>z,λ_ z=>.inl z,h.th⟩
def om (T:Txt K mg A):T.jS.Ok mg P w base 1 (Iz A.az A.aJ A.aD):=by
 rwa[T.jS.on jU (λU AA F s H vs Q E V h=>?_)]
 ·let⟨x,r,c,gs,ag,W,C,fp,O,n,m,s,rfl,h,hm,hn,Y,k⟩:=h;let I:=hH V
  erw[_,(ai (bP (bD 4 jU.nd (nJ (aF (pv 0) rfl) (pv 2) fJ ⟨2222⟩)))
   (ai (bP (bD 5 jU.nd (nJ (pv 4) (pv 3) fJ ⟨2222⟩)))
   (aw (sO I (pv 5) (pv 1) zI rfl))))]
  rwa[fK ?_];intro Z R;erw[λ f J=>∃d u,f=#v[↑x,.int (n:Int),.int (m:Int),.int s,↑d,none]/\jW H O J u/\fB J c.aW W u m d,5]
  ·rwa[⟨12,x,_,c.dx,112,h.ins,aM T,T.jT,lT^_,c.aW,2,h.wt.qq,12,λp a=>?_⟩];let⟨b,g,l,q,G⟩:=h.wt.room a (c:=(m:Int)) ∅;rwa[⟨b,Sum.inl (m:Int),g,2,l,λv j=>?_,λj=>?_⟩]
   ·let⟨d,rfl,w⟩:=q v j;rwa[d,O,2,h.mid.new a,w]
   ·let w:=G j;let M:O c.aW:=by let⟨D,E,_,z⟩:=h.wt;rwa[z.o _ (.inl rfl)]
    rwa[p,12,((h.mid.new a).put M g).Xg a ([ak (λz=>by rw[z]at a;let⟨o,e,_⟩:=h.th _ M;cbv)]▸ah) (by cbv) (by cbv) (by cbv) (by cbv),w]
  rintro f J ⟨d,u,rfl,y,B⟩;erw[λ f L=>∃e t,f=#v[↑x,.int (n:Int),.int (m:Int),.int s,↑d,↑e]/\jW H O L t/\pX L c.aW W t m s e,5]
  ·rwa[⟨12,d,2,B.qq,12,λp a=>?_⟩];let⟨b,g,l,q,G⟩:=B.cell a Y;rwa[⟨b,Sum.inl s,g,2,l,λv j=>?_,λj=>?_⟩]
   ·let⟨e,rfl,w⟩:=q v j;rwa[e,u,2,y.new a,w]
   ·let w:=G j;let C:=B.own;rwa[p,12,((y.new a).put C g).Xg (y.no a) ([ak (λz=>by rw[z]at a;let⟨o,e,_⟩:=y.th _ C;cbv)]▸ah) (by cbv) (by cbv) (by cbv) (by cbv),w]
  rintro f L ⟨e,t,rfl,S,N⟩;let⟨b,g,l,q⟩:=N.put (n:=(n:Int)) ∅;erw[1212,e,12,qX.k (k:=Sum.inl (n:Int)) g l];let i:=S.put (kv':=putK b (Sum.inl (n:Int)) (.bl true)) N.own g;rwa[k t _ i.bt i.f i.le i.nw (h.waits i.f i.le q i.th)]
inductive IA (CR CG CC:Zs) (vs:Zb) (H:Hp) (Q:VK) (E_:XK):Prop
 |mk (x r:Zs) (c:KA) (gs:Zf) (ag:Zh) (W:bE) (hd:Nat) (fp:List (Zg×Nat)) (O:Zs->Prop) (m:Nat) (s:Int):vs=[↑x,.int m,.int s]->ck CG CC H x r c gs ag W hd fp O->(∀ns:Zh,ns.Nodup->(∀n:Nat,n∈ns↔W m s n=true)->⇑ag+ ⇑ns<=1000000)->(∀ns H',Bt O H H'->ns.Nodup->(∀n:Nat,n∈ns↔W m s n=true)->ck CG CC H' x r c gs (ag++ns) (gf W m s) hd fp O->Q .non H')->IA CR CG CC vs H Q E_
theorem fG (T:Txt K mg A):T.eX.Ok mg P w base 1 (IA A.az A.aJ A.aD):=by
 rwa[T.eX.on wI (λcC AA M s H vs Q E hr h=>?_)]
 ·let⟨x,r,c,gs,X,W,hd,fp,O,m,s,rfl,h,hz,k⟩:=h;let R:=hH hr;erw[_,(aw (aU (cG agG PySem.F.slot_list_extend PySem.F.type_list_extend yy (aF (pv 0) rfl) (ae (eM (jO rfl) rfl T.iY ahX (ae (uD (mC R (aF (pv 0) rfl) (pv 1) fJ ⟨2222⟩) (pv 2) fJ ⟨2222⟩) aj)) aj))))]
  let rest:∀{j:Hp} {I:bE} {l:Zs} {ns:Zh},ck A.aJ A.aD j x r c gs X I hd fp O->Bt O H j->j l=none->ns.Nodup->(∀n:Nat,n∈ns↔W m s n=true)->I=gf W m s->xC (V.ref c.aA) [V.ref l] (upd j l (.lst (ao (nI ns)))) (λ_ H'=>Q .non H'):=λ{j I l ns} p b2 g U Y eW=>by
   subst eW;let L:=aq.upd (o:=.lst (ao (nI ns))) g;erw[c.aA,l,1122,L^p.hA,ah,5]
   ·rw[aL,aL,bZ,bZ];rwa[agJ (hz ns U Y) ⋯]
   ·rw[<-ints_app,<-iW];rwa[k ns _ (λb o n e=>[ak (λz=>n ([z]▸h.oA))]▸L^b2 b o n e) U Y ((p.same L).agenda (X++ns))]
  rwa[⟨12,x,_,c.dx,112,h.ins,aM T,T.kZ,oj^_,.inl ⟨21,aH.of h.hA⟩,12,x,_,c.dx,112,h.ins,aM T,T.jT,lT^_,c.aW,2,h.wt.qq,12,λB J=>?_⟩];let s1:=aq.upd (o:=.dK []) J;let N:upd H B (.dK []) B\(.dK []):=ah;generalize upd H B (.dK [])=C at s1 N ⊢;let F:=h.same s1;let⟨o,g1,g2⟩:=F.wt.get (c:=(m:Int));erw[o,g1];rcases g2 with ⟨rfl,no⟩|⟨d,rfl,w⟩
  ·rwa[⟨B,rfl,.inl ⟨_,.inl N⟩,_,rfl,λf i=>?_⟩];let a:=aq.upd (o:=.dK []) i;let u:upd C f (.dK []) f\(.dK []):=ah;generalize upd C f (.dK [])=j at a u ⊢;rwa[⟨[],Sum.inl s,a^N,2,(λv q=>by ext q),λ_=>⟨f,[],2,u,λl g=>?_⟩⟩];rwa[rest (ns:=[]) (F.same a) (.of (s1.trans a)) g aij (λn=>⟨(λz=>by ext z),λz=>by cbv⟩) (xN (no s)).symm]
  ·rwa[⟨d,2,w.qq,12,λf i=>?_⟩];let a:=aq.upd (o:=.dK []) i;let u:upd C f (.dK []) f\(.dK []):=ah;generalize upd C f (.dK [])=j at a u ⊢;let p:=F.same a;let⟨t,Z,S,e3⟩:=(w.same a).pop s;rwa[⟨t,Sum.inl s,Z,2,λv q=>?_,λq=>⟨f,[],2,u,λl g=>?_⟩⟩]
   ·let⟨e,G,ns,rfl,D,f1,f2,f3,f4,f5⟩:=e3 v q;rwa[⟨e,G,2,[ak D]▸f1,λl g=>?_⟩];let y:=(p.mid.put (kv':=e8 t (Sum.inl s)) w.own Z);rw[f2];rwa[rest (p.waits y.f y.le f5 y.th) (Bt.trans (.of (s1.trans a)) y.bt λb z=>.inl z) g f3 f4 rfl]
   ·rwa[rest (ns:=[]) p (.of (s1.trans a)) g aij (λn=>⟨(λz=>by ext z),λz=>by rw[S q]at z;ext z⟩) (xN (S q)).symm]
def _root_.Lake.L2.CI.S8 {bs:List (Nat×Zg×Nat)}{gs:Zf}{W:bE}{f:Nat->Int->Prop}{x:Zi}(h:CI S bs gs B W f x){m:Nat}{s:Int}{ns:Zh}(nd:ns.Nodup)(b:∀n:Nat,n∈ns↔W m s n=true):⇑ns+ vH S.made ⇑gs (gf W m s)<=vH S.made ⇑gs W:=by
 cases ns with
 |nil=>
  have:∀n,W m s n=false:=λn=>by
   cases q:W m s n with
   |false=>rfl
   |true=>
    let⟨_,c,_,e,_⟩:=h.en _ _ _ q
    cbv
  rw[xN this,ahZ,Nat.zero_add];rwa[agA _]
 |cons n r=>
  let⟨j,c,k,_,a,_,d,_⟩:=h.en _ _ _ ((b n).mp (agM ..));let a:m<S.made:=∅
  let i:=Ov (G:=⇑gs) (W:=W) a d
  let g:=Hu (P:=λn:Nat=>W m s n) (G:=⇑gs) nd λn a=>by
   let w:=(b n).mp a;let⟨_,c,_,e,_,l,_⟩:=h.en _ _ _ w;rwa[3,w]
  ext
def _root_.Lake.L2.CI.two {bs:List (Nat×Zg×Nat)}{gs:Zf}{W:bE}{a:Nat->Int->Prop}{x:Zi}(h:CI S bs gs B W a x):vH S.made ⇑gs W<=2* ⇑gs:=Ox λn=>by
 let⟨p,q,e,_⟩:=h.sl n;rwa[p,q,e]
def _root_.Lake.L2.fB.keys {k:Zs}{W:bE}{O:Zs->Prop}(h:fB H k W O z d):∃(a:List (Key×V)) (zs:Zg),H d\.dK a/\a.map (λb=>kV b.1)=ao zs/\⇑zs<=2001/\∀s n,W z s n=true->s∈zs:=by
 let⟨D,E,l,q,hd⟩:=h;let⟨a,m,j,f,g⟩:=l.J0 hd
 let t:⇑a<=2001:=vG (n:=2001) (lo:=-1000) j f g λi v o=>by
  cases e:E z i with
  |none=>rw[e]at o;ext o
  |some x=>have:=q.e z i x e;ext
 let ex:∃zs:Zg,a.map (·.1)=zs.map Sum.inl:=by
  clear m j g t
  induction a with
  |nil=>rwa[[],2]
  |cons b r p=>
   let⟨zs,e⟩:=p λx c=>f x (ag3 _ c)
   let⟨i,u⟩:=f b (agM ..);rwa[i::zs,by cbv]
 let⟨zs,e⟩:=ex;rwa[⟨a,zs,m,55,λs n w=>?_⟩]
 ·rw[show (λb:Key×V=>kV b.1)=kV ∘ (·.1) from rfl,<-ahe,e,ahe];rfl
 ·have:=ahT List.length e;rw[agy,agy]at this;ext
 ·let⟨x,c⟩:=l.se _ _ _ w;have:Sum.inl s∈a.map (·.1):=DZ (v:=↑x) (by rw[g,c];rfl)
  cbv
structure lg (CG CC:Zs) (S:RS) (bs:List (Nat×Zg×Nat)) (gs:Zf) (W0:bE) (Ex:Nat->Int->Prop) (B:Nat) (x r:Zs) (c:KA) (hd:Nat) (fp:List (Zg×Nat)) (O:Zs->Prop) (H:Hp) (ag:Zh) (W:bE):Prop where
 c:ck CG CC H x r c gs ag W hd fp O
 i:CI S bs gs ag W Ex none
 s:∀r s n,W r s n=true->W0 r s n=true
 b:⇑ag+ vH S.made ⇑gs W<=B
def lg.wake {bs:List (Nat×Zg×Nat)}{gs:Zf}{g:bE}{f:Nat->Int->Prop}{x r:Zs}{c:KA}{hd:Nat}{e:List (Zg×Nat)}{O:Zs->Prop}{W:bE}(h:lg a b S bs gs g f n x r c hd e O H B W){m:Nat}{s:Int}{ns:Zh}(nd:ns.Nodup)(i:∀d:Nat,d∈ns↔W m s d=true)(q:ck a b I x r c gs (B++ns) (gf W m s) hd e O):lg a b S bs gs g f n x r c hd e O I (B++ns) (gf W m s):=
 ⟨q,h.i.wake i,λr s d w=>h.s _ _ _ (dk.mp w).1,by have:=h.i.S8 nd i;have:=h.b;rw[agw];ext⟩
def lg.fits {bs:List (Nat×Zg×Nat)}{gs:Zf}{g:bE}{e:Nat->Int->Prop}{x r:Zs}{c:KA}{hd:Nat}{f:List (Zg×Nat)}{O:Zs->Prop}{W:bE}(h:lg a b S bs gs g e n x r c hd f O H B W)(j:n<=1000000){m:Nat}{s:Int}:∀ns:Zh,ns.Nodup->(∀d:Nat,d∈ns↔W m s d=true)->⇑B+ ⇑ns<=1000000:=λns nd i=>by have:=h.i.S8 nd i;have:=h.b;ext
inductive Er (CR CG CC:Zs) (vs:Zb) (H:Hp) (Q:VK) (E_:XK):Prop
 |mk (x r:Zs) (c:KA) (S:RS) (a:RA) (bs:List (Nat×Zg×Nat)) (gs:Zf) (ag:Zh) (W:bE) (Ex:Nat->Int->Prop) (B hd:Nat) (fp:List (Zg×Nat)) (O:Zs->Prop) (m:Nat):vs=[↑x,.int m]->lg CG CC S bs gs W Ex B x r c hd fp O H ag W->B<=1000000->ay CR H r S a->S.Wf->(∀b,a.own r b->¬O b)->m<S.made->S.av m<S.made->(∀iP W' H',Bt O H H'->lg CG CC S bs gs W Ex B x r c hd fp O H' iP W'->(∀s n,W' m s n=false)->(∀s n,W' (S.av m) s n=true->S.by (S.av m) s=none)->Q .non H')->Er CR CG CC vs H Q E_
def qP (T:Txt K mg A):T.jj.Ok mg P w base 2 (Er A.az A.aJ A.aD):=by
 rwa[T.jj.on fi (λcC AA outer s H vs Q E hr h=>?_)]
 ·let⟨x,r,c,S,a,bs,gs,ag,W,Ex,B,Z,fp,O,m,rfl,h,hB,hR,wf,dj,hm,he,k⟩:=h;let lI:=hH hr
  erw[_,(ai (cP ag0 rfl (da (eM (jO rfl) rfl T.iY ahX (ae (mC lI (aF (pv 0) rfl) (pv 1) fJ ⟨2222⟩) aj))) (dB 2 fi.nd)
   (aw (aU (pm (pv 0) (aM T) T.eX (fG T) hr (ae (pv 1) (ae (pv 2) aj))))))
   (ai (bD 3 fi.nd (pm (aF (pv 0) rfl) (aI T) T.gZ (iJ T) hr (ae (pv 1) aj)))
   (aw (cP ag0 rfl (da (eM (jO rfl) rfl T.iY ahX (ae (mC lI (aF (pv 0) rfl) (pv 3) fJ ⟨2222⟩) aj))) (dB 2 fi.nd)
    (aw (bP (bI (bf lY (pm (aF (pv 0) rfl) (aI T) T.iq (g9 T) hr (ae (pv 3) (ae (pv 2) aj))) cX (bh _))
     (aw (aU (pm (pv 0) (aM T) T.eX (fG T) hr (ae (pv 3) (ae (pv 2) aj)))))
     bq)))))))]
  rwa[fK ?_];intro fS gy;let rk:∀{D:Hp},Bt O H D->ay A.az D r S a:=λ{D} b=>hR.keep (λb' o hb e=>b b' o (dj b' hb) e) (λb' xs e=>b b' _ (h.c.jb e) e)
  let get:∀{R:Hp} {Xh:Zh} {W1:bE} (m1:Nat),lg A.aJ A.aD S bs gs W Ex B x r c Z fp O R Xh W1->∀L,R L=none->∃(o:Zc) (d:Zs) (u:List (Key×V)) (I:Zg),fY (upd R L (.dK [])) c.aW (.int (m1:Int)) o/\o.getD ↑L=↑d/\upd R L (.dK []) d\.dK u/\u.map (λkv=>kV kv.1)=ao I/\∀s n,W1 m1 s n=true->s∈I:=λ{R Xh W1} m1 h1 L F=>by
   let s1:=aq.upd (o:=.dK []) F;let⟨o,U,g2⟩:=(h1.c.same s1).wt.get (c:=(m1:Int));rcases g2 with ⟨rfl,no⟩|⟨d,rfl,w⟩
   ·rwa[⟨none,L,[],[],U,rfl,ah,rfl,λs n z=>by cbv⟩]
   ·let⟨u,I,e1,e2,_,e4⟩:=w.keys;rwa[_,d,u,I,U,2,e1,e2,e4]
  rwa[⟨12,x,_,c.dx,112,h.c.ins,aM T,T.jT,lT^_,c.aW,2,h.c.wt.qq,12,λL F=>?_⟩];let⟨o,d,u,I,U,g2,g3,g4,Xi⟩:=get m h L F;rwa[⟨o,U,d,u,(by rw[g2]),g3,λl nl=>?_⟩];rw[g4];let s1:=(aq.upd (o:=.dK []) F).trans (aq.upd (o:=.lst (ao I)) nl);let hl:upd (upd H L (.dK [])) l (.lst (ao I)) l\(.lst (ao I)):=ah;replace nl:=same_none (aq.upd (o:=.dK []) F) nl;generalize upd (upd H L (.dK [])) l (.lst (ao I))=R at s1 hl ⊢;clear U g2 g3 g4;let Xj:¬O l:=λz=>by let⟨o,e,_⟩:=h.c.th l z;cbv
  let h1:lg A.aJ A.aD S bs gs W Ex B x r c Z fp O R ag W:=⟨h.c.same s1,h.i,h.s,h.b⟩;erw[l,2,⟨_,aH.of hl⟩]
  refine fI (K:=K) (a:=l) (xs:=ao I) (λi M D=>∃y G v2,M=#v[↑x,.int (m:Int),v2,none]/\Bt O R D/\lg A.aJ A.aD S bs gs W Ex B x r c Z fp O D y G/\∀(j:Nat) (s:Int),j<i->I[j]?\s->∀n,G m s n=false)
   ⟨ag,W,none,2,λ_ _ _ e=>e,h1,λj s C=>absurd C ∅⟩ (λi M D _ q0=>by let⟨_,_,_,_,b2,_⟩:=q0;rwa[aH.of (b2 _ _ Xj hl)]) ?_ ?_
  ·rintro i v M D hi ⟨y,G,v2,rfl,b2,g,C⟩;let⟨s,rfl,hs⟩:=cR hi;rwa[⟨12,x,c.dx,12,g.c.ins,fj ⋯,1212,x,r,c,gs,y,G,Z,fp,O,m,s,2,g.c,g.fits hB,λns H3 b3 nd hn h3=>?_⟩];rwa[⟨1112,b2.trans b3 λb z=>.inl z,g.wake nd hn h3,λj s' f e n=>?_⟩]
   cases q:gf G m s m s' n with
   |false=>rfl
   |true=>
    let⟨q1,q2⟩:=dk.mp q
    cbv
  rintro M D ⟨y,G,v2,rfl,b2,g,C⟩;rw[aL]at C;let Y:Bt O H D:=Bt.trans (.of s1) b2 λb z=>.inl z
  let off:∀s n,G m s n=false:=λs n=>by
   cases q:G m s n with
   |false=>rfl
   |true=>
    let⟨j,f,e⟩:=ais.mp (Xi s n (g.s _ _ _ q));rw[C j s f (by rw[agv f,e]) n]at q;ext q
  clear C Xi hl Xj h1;let R2:=rk Y;erw[12,x,_,c.dx,112,g.c.ins,aM T,T.eZ,fP^_,r,a.dx,12,R2.ins,cL _ _ _ ⋯,12,r,S,a,m,S.av m,2,R2,m6 ([wf.e]▸hm)];generalize S.av m=e at he k ⊢;rwa[⟨12,x,_,c.dx,112,g.c.ins,aM T,T.jT,lT^_,c.aW,2,g.c.wt.qq,12,λp2 wU=>?_⟩];let⟨o2,d2,aaj,t,U,g2,g3,g4,aak⟩:=get e g p2 wU;rwa[⟨o2,U,d2,aaj,(by rw[g2]),g3,λl2 Em=>?_⟩];rw[g4];let s3:=(aq.upd (o:=.dK []) wU).trans (aq.upd (o:=.lst (ao t)) Em);let X:upd (upd D p2 (.dK [])) l2 (.lst (ao t)) l2\(.lst (ao t)):=ah;replace Em:=same_none (aq.upd (o:=.dK []) wU) Em;generalize upd (upd D p2 (.dK [])) l2 (.lst (ao t))=H3 at s3 X ⊢;clear U g2 g3 g4;let aal:¬O l2:=λz=>by let⟨o,e,_⟩:=g.c.th l2 z;cbv
  let h3:lg A.aJ A.aD S bs gs W Ex B x r c Z fp O H3 y G:=⟨g.c.same s3,g.i,g.s,g.b⟩;erw[l2,2,⟨_,aH.of X⟩]
  refine fI (K:=K) (a:=l2) (xs:=ao t) (λi M H4=>∃J W4 v2,M=#v[↑x,.int (m:Int),v2,.int (e:Int)]/\Bt O H3 H4/\lg A.aJ A.aD S bs gs W Ex B x r c Z fp O H4 J W4/\(∀r s n,W4 r s n=true->G r s n=true)/\∀(j:Nat) (s:Int),j<i->t[j]?\s->∀n,W4 e s n=true->S.by e s=none)
   ⟨y,G,12,λ_ _ _ q=>q,h3,λ_ _ _ q=>q,λj s C=>absurd C ∅⟩ (λi M H4 _ q0=>by let⟨_,_,_,_,b4,_⟩:=q0;rwa[aH.of (b4 _ _ aal X)]) ?_ ?_
  ·rintro i v M H4 hi ⟨J,W4,v4,rfl,b4,N,p,C⟩;let⟨s,rfl,hs⟩:=cR hi;let b04:Bt O H H4:=Y.trans (Bt.trans (.of s3) b4 λb z=>.inl z) λb z=>.inl z
   let R4:=rk b04;rwa[⟨15,λ_ _ z=>z⟩];erw[12,x,_,c.dx,112,N.c.ins,aM T,T.eZ,fP^_,r,a.dx,12,R4.ins,cL _ _ _ ⋯,1212,r,S,a,e,s,2,R4,[wf.w]▸he]
   cases eb:S.by e s with
   |none=>
    erw[212];rwa[cq (λz=>absurd z ⋯) (λ_=>?_)];rwa[⟨1112,b4,N,p,λj s' f q n w=>?_⟩]
    cbv
   |some d=>
    rw[show (Option.map (λn:Nat=>V.int (n:Int)) (some d)).getD V.non=V.int (d:Int) from rfl];erw[212];rwa[cq (λ_=>?_) (λz=>absurd rfl z)];rwa[⟨12,x,c.dx,12,N.c.ins,fj ⋯,1212,x,r,c,gs,J,W4,Z,fp,O,e,s,2,N.c,N.fits hB,λns H5 b5 nd hn h5=>?_⟩];rwa[⟨1112,b4.trans b5 λb z=>.inl z,N.wake nd hn h5,λr s n w=>p _ _ _ (dk.mp w).1,λj s' f q n w=>?_⟩];let⟨w1,w2⟩:=dk.mp w
    cbv
  rintro M H4 ⟨J,W4,v4,rfl,b4,N,p,C⟩;rw[aL]at C;rwa[k J W4 H4 (Y.trans (Bt.trans (.of s3) b4 λb z=>.inl z) λb z=>.inl z) N (λs n=>?_) λs n w=>?_]
  ·cbv
  ·let⟨j,f,q⟩:=ais.mp (aak s n (p _ _ _ w));rwa[C j s f (by rw[agv f,q]) n w]
def ck.VJ {x r:Zs}{c:KA}{gs:Zf}{W:bE}{hd:Nat}{s:List (Zg×Nat)}{O:Zs->Prop}(h:ck a b H x r c gs B W hd s O)(t:∀(n:Nat) (g:Gg) (p dx j:Zs),gs[n]?\some g->dZ a H p dx j g->p≠x)(n:Nat):ck a b (upd H x (.ins b c.dx (pA r c n))) x r c gs B W n s O:=by
 let kn:∀f o,(∀C d fs,o≠.ins C d fs)->H f\o->upd H x (.ins b c.dx (pA r c n)) f\o:=λf o q e=>by rw[ak (λz=>by rw[z,h.ins]at e;cbv)];rwa[e]
 let⟨u,F,g2⟩:=h.hG;rwa[⟨ah,⟨u,kn _ _ (by cbv) F,g2.l,g2.n,λi v g y l=>?_,g2.i⟩,kn _ _ (by cbv) h.hA,5,h.ne,h.ox,h.oG,h.oA,λf k=>?_⟩]
 ·let⟨p,dx,j,e,q,o⟩:=g2.s i v g y l;rwa[p,dx,j,e,⟨[ak (t i g p dx j l q)]▸q.ins,kn _ _ (by cbv) q.wo⟩,o]
 ·let⟨D,E,k1,k2⟩:=h.wt;rwa[D,E,k1.keep λf o k e=>by let⟨G,q⟩:=k1.there k;rw[q]at e;ext e;rwa[kn _ _ (by cbv) q],k2]
 ·by_cases e:f=x
  ·rwa[_,[e]▸ah,(by cbv),(by cbv),(by cbv),by cbv]
  ·let⟨o,q,m⟩:=h.th f k;rwa[o,[ak e]▸q,m]
def BW {x r:Zs}{c:KA}{f:Zf}{W:bE}{d:List (Zg×Nat)}{O:Zs->Prop}(h:ck a b H x r c f B W n d O){p j i:Zs}{g:Gg}(q:dZ a H p j i g):p≠x:=λz=>by
 have:=q.ins;rw[z,h.ins]at this;let e:=ahT (λo:Option HO=>match o with|some (.ins _ _ fs)=>⇑fs|_=>0) this;rwa[absurd (show 6=7 from e) ⋯]
def M4 (S:RS)(a:Nat):Nat->Int->Prop:=λr _=>∃m∈S.aY.drop a,r=m\/r=S.av m
inductive IB (CR CG CC:Zs) (vs:Zb) (H:Hp) (Q:VK) (E_:XK):Prop
 |mk (x r:Zs) (c:KA) (S:RS) (a:RA) (R:Za2) (bs:List (Nat×Zg×Nat)) (gs:Zf) (ag:Zh) (W:bE) (B hd:Nat) (fp:List (Zg×Nat)) (O:Zs->Prop):vs=[↑x]->lg CG CC S bs gs W (M4 S hd) B x r c hd fp O H ag W->B<=1000000->hd<=⇑S.aY->ay CR H r S a->Good S [] R->(∀m∈S.aY,m<S.made)->(∀b,a.own r b->¬O b)->(∀iP W' H',Bt O H H'->lg CG CC S bs gs W fL B x r c ⇑S.aY fp O H' iP W'->Q .non H')->IB CR CG CC vs H Q E_
def wX (T:Txt K mg A):T.mY.Ok mg P w base 3 (IB A.az A.aJ A.aD):=by
 rwa[T.mY.on wJ (λcC AA Y s H vs Q E M h=>?_)]
 ·let⟨x,r,c,S,a,R,bs,gs,ag,W,B,hd,fp,O,rfl,h,hB,X,hR,I,L,dj,k⟩:=h
  refine⟨_,(aw (bP (gI ag0 (bf sJ (aF (pv 0) rfl) (bN bM rfl T.fe ahx (ae (aF (aF (pv 0) rfl) rfl) aj)) (bh _))
   (ai (aU (pm (pv 0) (aM T) T.jj (qP T) M (ae (bF bO (aF (aF (pv 0) rfl) rfl) (aF (pv 0) rfl) (λ_ _=>rfl)) aj)))
   (aw (bY (pv 0) (aK cI (aF (pv 0) rfl) au) rfl)))))),?_⟩
  let rk:∀{u:Hp},Bt O H u->ay A.az u r S a:=λ{u} b=>hR.keep (λG o hb e=>b G o (dj G hb) e) (λG xs e=>b G _ (h.c.jb e) e)
  rwa[⟨λ fx H'=>Q .non H',5,λ_ _ q=>q⟩];erw[λm Z u=>∃d j F,m=⇑S.aY - d/\Z=#v[↑x]/\d<=⇑S.aY/\Bt O H u/\lg A.aJ A.aD S bs gs W (M4 S d) B x r c d fp O u j F,⟨_,hd,ag,W,22,X,λ_ _ _ e=>e,h⟩];rintro m Z u ⟨d,j,F,rfl,rfl,V9,J,f⟩;let R2:=rk J;let t:=R2.ins;erw[12,x,_,c.dx,112,f.c.ins,aM T,T.m2,vg^_,12,x,_,c.dx,112,f.c.ins,aM T,T.eZ,fP^_,r,_,a.dx,112,t,aI T,T.sg,sV^_,a.aN,12,.inl (aH.of R2.hN),112212];rwa[cq (λq=>?_) (λq=>?_)]
  ·let q:(d:Int)<(⇑(ao (nI S.aY)):Int):=ahi q;rw[aL,bZ]at q;let i:d<⇑S.aY:=∅
   let D:S.aY[d]?\(S.aY[d]'i):=agv i
   generalize S.aY[d]'i=m at D;let y:=L m (agu D);erw[_,λ_ _ z=>z];erw[12,x,c.dx,12,f.c.ins,fj ⋯,12,x,_,c.dx,112,f.c.ins,aM T,T.eZ,fP^_,r,_,a.dx,112,t,aI T,T.sg,sV^_,12,x,_,c.dx,112,f.c.ins,aM T,T.m2,vg^_,a.aN,11,.int (m:Int),22,aH.of R2.hN,dE (cK (jN D))];rwa[⟨x,r,c,S,a,bs,gs,j,F,M4 S d,B,d,fp,O,m,2,⟨f.c,f.i,λ_ _ _ z=>z,f.b⟩,hB,R2,I.wf,dj,y,I.lt y,λN W3 H3 b3 l w1 w2=>?_⟩];erw[12,x,_,c.dx,112,l.c.ins,aM T,T.m2,vg^_,112212,x,_,c.dx,12,l.c.ins,aM T,T.m2,(by show 6<1000;decide)];rw[show V.int ((d:Int)+ 1)=V.int ((d+ 1:Nat):Int) from rfl,Lg];let c4:=l.c.VJ (λn g p dx wa _ z=>BW l.c z) (d+ 1);rwa[⟨⇑S.aY - (d+ 1),3,d+ 1,N,W3,22,i,5,c4,l.i.ex λr' s n w M ex=>?_,λr s n w=>f.s _ _ _ (l.s _ _ _ w),l.b⟩]
   ·rwa[(J.trans b3 λb z=>.inl z).trans (λb o n e=>by rw[ak (λz=>n ([z]▸l.c.ox))];rwa[e]:Bt O H3 _) λb z=>.inl z]
   ·let⟨U,v,C⟩:=ex;rw[aju i]at v;rcases agN.mp v with z|z
    ·let em:U=m:=by rw[z];rw[agv i]at D;rwa[Za0 D]
     subst em;rcases C with C|C
     ·rw[C,w1]at w;ext w
     ·subst C;rwa[.inl ⟨(I.el _ y).2,w2 s n w⟩]
    ·rwa[.inr ⟨U,z,C⟩]
  ·let q:¬(d:Int)<(⇑(ao (nI S.aY)):Int):=λz=>q (aha z)
   rw[aL,bZ]at q;let e:d=⇑S.aY:=∅
   subst e;rwa[k j F u J ⟨f.c,f.i.ex λr' s n w M ex=>?_,f.s,f.b⟩];let⟨U,v,_⟩:=ex
   cbv
def y9 {h:Ze}(g:Good S h R)(s:∀a z b,R a z b->z∈l)(r:S.made<=100000)(m:⇑l<=100000)(p:⇑S.rows<=1000000)(o:⇑S.aY<=1000000):wQ S:=by
 rwa[⟨g.wf,λc i=>g.lt i,λc z d e=>(g.st c z d e).2.1,λc n t=>g.cb c n t,λc _=>⟨g.kn c,λq j=>(g.st c q.1 q.2 (jw (g.kn c) j)).2.1,λq j _=>?_⟩,⟨r,λf k=>?_,p,o,λf k=>?_⟩⟩]
 ·rw[g.sy c q.1 q.2 (jw (g.kn c) j)];rfl
 ·let⟨c,i⟩:=ahc k;have:S.way c=f:=by unfold RS.way;rw[agD,i];rfl
  rw[<-this];rwa[agJ (g.Hj s c) m]
 ·let⟨c,i⟩:=ahc k;have:S.b8 c=f:=by unfold RS.b8;rw[agD,i];rfl
  rw[<-this];rwa[agJ (g.Rg c) ∅]
def BX (S:RS):S.stand<=S.made:=by
 unfold RS.stand;rwa[agJ List.countP_le_length (by cbv)]
noncomputable def S9 (R:Za2)(m L B f M:Nat)(e:Zg)(d:RS)(c:Ze)(S:RS)(a:Ze):Prop:=Good S a R/\S.made=m/\S.L=L/\⇑S.rows+ S.stand<=B/\⇑S.aY+ S.stand<=f/\mu ⇑e S a<=M/\∀b,kc S a b->kc d c b
theorem Lh {M:Nat}{o:Ze}(p:∀a z b,R a z b->z∈l)(L:m<=100000)(t:⇑l<=100000)(J:i<=1000000)(N:j<=1000000)(I:M<=1000000)(S:RS)(pend:Ze)(w:Way)(h:S9 R m n i j M l T o S (pend++[w])):
 wQ S/\w.1<S.made/\w.2.2<S.made/\⇑pend<=1000000/\S9 R m n i j M l T o (S.takeIn pend w).1 (S.takeIn pend w).2/\mu ⇑l (S.takeIn pend w).1 (S.takeIn pend w).2<mu ⇑l S (pend++[w]):=by
 let⟨g,G,s,B,C,r,D⟩:=h;let⟨E,H,v,F,q⟩:=g.take p;let hw:=g.pl w (agB _ agM);rwa[⟨y9 g p ∅ t ∅ ∅,hw.1,hw.2,5,⟨E,by rw[v,G],by rw[F,s],553,λu d=>D u (.take d)⟩,H⟩]
 ·unfold mu at r;rw[agw]at r;ext
 ·rcases q with ⟨f,e,k⟩|⟨f,c,z,x,y,_,_,_,_,_,e,k,_⟩
  ·rw[f,e];rwa[B]
  ·rw[e,agw];have:⇑([gX c z (min x y) (max x y)]:List Dt)=1:=rfl;ext
 ·rcases q with ⟨f,e,k⟩|⟨f,c,z,x,y,_,_,_,_,_,e,k,_⟩
  ·rw[f,k];rwa[C]
  ·rw[k,agw];have:⇑([max x y]:Zh)=1:=rfl;ext
def iK:z∈a9 (2* n)↔z≠0/\z.natAbs<=n:=by
 unfold a9;rw[ahp];constructor
 ·rintro ⟨i,a,rfl⟩;rwa[M12.VA (ahr.mp a)]
 ·rintro ⟨d,b⟩;by_cases c:0<z
  ·erw[2* (z.toNat - 1),ahr.mpr ∅];unfold M12.st;rw[agX ∅];ext
  ·erw[2* (z.natAbs - 1)+ 1,ahr.mpr ∅];unfold M12.st;rw[agT ∅];ext
structure iQ (CR:Zs) (H:Hp) (r:Zs) (S:RS) (a:RA) (R:Za2) (ks:Zg) (B:Nat):Prop where
 at_:ay CR H r S a
 g:Good S [] R
 w:e9 S
 k:∀a z b,R a z b->z∈ks
 m:S.made<=2000
 l:⇑ks<=400
 rb:⇑S.rows+ S.stand<=B
 wb:⇑S.aY+ S.stand<=900000
def iQ.keep {CR:Zs}{r:Zs}(h:iQ CR H r S O R l n)(k:∀b o,O.own r b->H b\o->I b\o)(c:∀b a,H b\.tup a->I b\.tup a):iQ CR I r S O R l n:=⟨h.at_.keep k c,h.g,h.w,h.k,h.m,h.l,h.rb,h.wb⟩
def iQ.same {CR:Zs}{r:Zs}(h:iQ CR H r S O R l n)(s:aq H I):iQ CR I r S O R l n:=h.keep (λb o _ e=>s^e) (λb o e=>s^e)
def ye {r:Zs}(h:ay a H r S O){b:Zs}{c:List (Zd×V)}(e:H b\.dT c):¬O.own r b:=λz=>by
 rcases z with z|z|z
 ·rw[z,h.ins]at e;ext e
 ·let⟨d,q⟩:=h.Md z;cbv
 ·let⟨d,q⟩:=h.qq z;cbv
def Li (w:Nat)(p:Zh)(k:Nat)(h:⇑p<=100000):mE (lZ w p k):=by
 rwa[.t (by show 4<=100000;decide) λd a=>?_]
 simp only[agN,ahl,aiM]at a;rcases a with rfl|rfl|rfl|rfl
 ·rwa[.s]
 ·rwa[.i]
 ·rwa[.t (by rw[agy];rwa[h]) λd a=>?_]
  let⟨c,_,rfl⟩:=ahp.mp a;rwa[.i]
 ·rwa[.i]
inductive IC (CR CG CC:Zs) (vs:Zb) (H:Hp) (Q:VK) (E_:XK):Prop
 |mk (x r p dx wa:Zs) (c:KA) (S:RS) (a:RA) (R:Za2) (ks:Zg) (B:Nat) (ws:Za3) (nr:Nat) (bs:List (Nat×Zg×Nat)) (gs:Zf) (ag:Zh) (W:bE) (fp:List (Zg×Nat)) (O:Zs->Prop) (n:Nat) (g:Gg):vs=[↑x,↑p]->ck CG CC H x r c gs ag W ⇑S.aY fp O->iQ CR H r S a R ks B->B<900000->(∀b,a.own r b->¬O b)->CI S bs gs ag W fL (some n)->gs[n]?\none->bs[n]?\(g.which,g.word,g.start)->dZ CG H p dx wa g->¬O p->¬a.own r p->GI S g->g.first=g.last->S.av g.start=g.start->S.av g.front=g.front->S.av g.bu=g.bu->ws[g.which]?\g.word->(g.which<nr\/g.start=0)->(∀z∈g.word,z∈ks/\-z∈ks)->⇑g.word<=1000->⇑ag+ 2* ⇑gs<=1000000->(∀S' a' R' iP W' H',(∀b o,¬O b->¬a.own r b->H b\o->H' b\o)->ck CG CC H' x r c gs iP W' ⇑S'.aY fp O->iQ CR H' r S' a' R' ks (B+ 1)->(∀b,a'.own r b->a.own r b\/H b=none)->CI S' bs gs iP W' fL none->⇑iP<=⇑ag+ 2* ⇑gs->(∀a z b,R a z b->R' a z b)->S'.made=S.made->S'.L=S.L->Tr ws nr S S'->Q .non H')->IC CR CG CC vs H Q E_
def yf (T:Txt K mg A):T.oy.Ok mg P w base 6 (IC A.az A.aJ A.aD):=by
 rwa[T.oy.on pf (λcC AA outer s H vs Q E I h=>?_)]
 ·let⟨x,r,p,t,wa,c,S,a,R,ks,B,ws,nr,bs,L,X,W,fp,O,n,g,rfl,Y,f,hB,dj,ci,Xk,IE,v,BZ,npo,i,F,es,ef,er,M5,hnr,hks,Iw,M,k⟩:=h
  refine⟨_,(ai (bD 2 pf.nd (bF dX (aF (pv 1) rfl) (aF (pv 1) rfl) (λ_ _=>rfl)))
   (ai (bI (bf eI (pm (aF (pv 0) rfl) (aI T) T.iq (g9 T) I (ae (aF (pv 1) rfl) (ae (pv 2) aj))) (aF (pv 1) rfl) (bh _))
    (aw xr)
    bq)
   (ai (aU (pm (aF (pv 0) rfl) (aI T) T.rZ (BP T) I (ae (aF (pv 1) rfl) (ae (pv 2) (ae (aF (pv 1) rfl) (ae (pm (pv 1) (aT T) T.rY (BV T) I (ae (aF (pv 0) rfl) aj)) aj))))))
   (ai (aU (pm (pv 0) (aM T) T.eX (fG T) I (ae (aF (pv 1) rfl) (ae (pv 2) aj))))
   (ai (aU (pm (pv 0) (aM T) T.eX (fG T) I (ae (aF (pv 1) rfl) (ae (eG dw (pv 2)) aj))))
   (aw (aU (vR (pv 0) (aM T) T.mY (wX T) I)))))))),?_⟩
  rwa[mG ?_];intro qK oh jV fS gy;let hz:=Gg.qw (g:=g) ([F]▸i.ll);let qw:kK (ao g.word) (g.first:Int)\(.int g.z1):=dE (cK hz);let gd:=f.g;erw[12,p,_,t,112,v.ins,aT T,T.jB,kj _ _,12,p,_,t,112,v.ins,aT T,T.eY,gP _ _,wa,11,.int g.z1,22,bC.of v.wo,qw];erw[12,x,_,c.dx,112,Y.ins,aM T,T.eZ,fP^_,r,a.dx,12,f.at_.ins,cL _ _ _ ⋯,12,p,_,t,112,v.ins,aT T,T.gN,kl _ _,12,r,S,a,g.front,g.z1,2,f.at_,[gd.wf.w]▸i.f,12,p,_,t,112,v.ins,aT T,T.g6,km _ _]
  let fin:S.by g.front g.z1=some g.bu->Q .non H:=λu=>by
   rwa[k S a R X W H (λ_ _ _ _ e=>e) Y ⟨f.at_,f.g,f.w,f.k,f.m,f.l,by have:=f.rb;ext,f.wb⟩ (λb z=>.inl z) (ci.done Xk λb eb=>?_) ∅ (λ_ _ _ z=>z) rfl rfl (.refl S)];rw[IE]at eb;obtain rfl:=Za0 eb;rwa[.inr (i.whole F es ef er u)]
  by_cases u:S.by g.front g.z1=some g.bu
  ·rw[u];erw[212];rwa[cq (λ_=>fin u) (λz=>absurd (aha rfl) z)]
  let J:Jn (((S.by g.front g.z1).map λn:Nat=>V.int (n:Int)).getD .non) (.int (g.bu:Int))=true/\decide ((((S.by g.front g.z1).map λn:Nat=>V.int (n:Int)).getD .non)=V.int (g.bu:Int))=false:=by
   cases q:S.by g.front g.z1 with
   |none=>rwa[2,ahu f!""]
   |some d=>rwa[2,ahu (λz=>u (by rw[q];have:=V.int.inj z;congr 1;omega))]
  erw[J.1,12];rw[J.2];rwa[dN ?_];clear fin J;rwa[⟨12,x,_,c.dx,112,Y.ins,aM T,T.eZ,fP^_,r,a.dx,12,f.at_.ins,cL _ _ _ ⋯,12,p,_,t,112,v.ins,aT T,T.gN,kl _ _,1212,p,_,t,112,v.ins,aT T,T.g6,km _ _,12,p,t,12,v.ins,MS ⋯,12,x,_,c.dx,112,Y.ins,aM T,T.eZ,fP^_,p,t,wa,r,g,S,a,R,2,v,f.at_,gd,i.s,i.r,i.ll,Iw,λq H1 s1 dt=>?_⟩];let lx:=pz (by_:=S.by) (ws:=g.word.take g.first) (r:=g.start);let ly:=pz (by_:=S.by) (ws:=g.word.drop (g.last+ 1)) (r:=g.bu);rw[ag8]at lx;rw[aho]at ly;let f1:=i.wf;let f2:=i.wr;rw[es,ef]at f1;rw[es,er,<-F]at f2;rw[<-F]at dt ly;let ra:AK ws nr S g.which g.word g.start g.first g.front g.bu g.z1:=⟨M5,hnr,⟨i.s,es⟩,hz,f1,f2,⟨i.f,ef⟩,⟨i.r,er⟩,u⟩
  let C:∀a y b,fu R g.front g.z1 g.bu a y b->y∈ks:=by
   have:=hks g.z1 (agu hz);rintro a y b (z|⟨_,e,_⟩|⟨_,e,_⟩)
   ·rwa[f.k _ _ _ z]
   ·rw[e];rwa[this.1]
   ·rw[e];rwa[this.2]
  let stl:=BX S
  let MR:mu ⇑ks (pW S g.which g.word g.start g.first g.bu) [(g.front,g.z1,g.bu)]<=1000000:=by
   unfold mu;let h1:(pW S g.which g.word g.start g.first g.bu).stand=S.stand:=rfl;have:S.stand* (⇑ks+ 1)<=2000* 401:=ai9 (by have:=f.m;omega) (by have:=f.l;omega);rw[h1];show S.stand* (⇑ks+ 1)+ 1<=_;ext
  let gl:=gd.lay g.z1 i.f i.r (pW S g.which g.word g.start g.first g.bu).rows;rwa[⟨r,q,S,a,g.front,g.bu,g.z1,_,S9 (fu R g.front g.z1 g.bu) S.made S.L (B+ 1) 900000 1000000 ks (pW S g.which g.word g.start g.first g.bu) [(g.front,g.z1,g.bu)],mu ⇑ks,2,f.at_.same s1,by have:=f.rb;ext,dt,Li _ _ _ (by rw[agw,agV,agV];omega),⟨gl,225,f.wb,MR,λ_ z=>z⟩,Lh C (by have:=f.m;omega) (by have:=f.l;omega) ∅ ⋯ ⋯,λj a' H2 b2 h2 i2 o2=>?_⟩]
  ·show ⇑(S.rows++[_])+ S.stand<=_;rw[agw];have:=f.rb;show _+ 1+ _<=_;ext
  let⟨g2,em,eL,rb2,wb2,_,re⟩:=i2;let lay:=re j (.nil j);let⟨_,w2,_,_,l,el⟩:=lay.all gl C (⟨f.w.a,f.w.b,f.w.c⟩:e9 (pW S g.which g.word g.start g.first g.bu));let el:j.aY=S.aY++l:=el;let D:∀b o,¬a.own r b->H b\o->H2 b\o:=λb o nb e=>b2 b o nb (s1^e)
  let Xl:∀b,a'.own r b->a.own r b\/H b=none:=λb z=>(o2 b z).imp id (same_none s1)
  let U:∀b,a'.own r b->¬O b:=λb z y=>by
   rcases Xl b z with q|q
   ·rwa[dj b q y]
   ·let⟨o,e,_⟩:=Y.th b y;cbv
  let Z:ck A.aJ A.aD H2 x r c L X W ⇑S.aY fp O:=Y.keep (λb o u e=>D b o (λz=>dj b z u) e) (λb xs e=>D b _ (f.at_.sW e) e);let p2:dZ A.aJ H2 p t wa g:=⟨D _ _ npo v.ins,D _ _ (f.at_.sW v.wo) v.wo⟩;let lt:=Later.of gd g2 ig (ajD em.symm)
  let B1:=ci.lay Xk gd g2 em f.w w2 el i.f ef i.r er λb eb=>by
   rw[IE]at eb;obtain rfl:=Za0 eb;show j.av g.start≠g.start\/wk j.by g.start g.word=some g.start;by_cases e1:j.av g.start=g.start
   ·right
    let h1:=lt.wk f1;let h3:=lt.wk f2;let hbb:=g2.rx.mpr ⟨g.front,g.bu,j9,22⟩;rw[e1]at h1 h3;have:g.word=g.word.take g.first++(g.z1::g.word.drop (g.first+ 1)):=by rw[<-drop_cons hz,ahJ]
    rw[this,ip h1,gY hbb];rwa[h3]
   ·rwa[.inl e1]
  let Xm:lg A.aJ A.aD j bs L W _ (⇑X+ 2* ⇑L) x r c ⇑S.aY fp O H2 X W:=⟨Z,B1,λ_ _ _ z=>z,by have:=B1.two;ext⟩;rwa[⟨12,x,c.dx,12,Z.ins,fj ⋯,12,p,_,t,112,p2.ins,aT T,T.gN,kl _ _,12,x,r,c,L,X,W,⇑S.aY,fp,O,g.front,g.z1,2,Z,Xm.fits M,λns H3 b3 nd hn c3=>?_⟩];let Xn:=Xm.wake nd hn c3;let p3:dZ A.aJ H3 p t wa g:=⟨b3 _ _ BZ p2.ins,b3 _ _ (Z.jb p2.wo) p2.wo⟩;rwa[⟨12,x,c.dx,12,c3.ins,fj ⋯,12,p,_,t,112,p3.ins,aT T,T.g6,km _ _,1212,x,r,c,L,11,⇑S.aY,fp,O,g.bu,-g.z1,2,c3,Xn.fits M,λns2 H4 b4 nd2 Xo c4=>?_⟩];let Xp:=Xn.wake nd2 Xo c4;let G:Bt O H2 H4:=b3.trans b4 λb z=>.inl z
  let R4:ay A.az H4 r j a':=h2.keep (λb o u e=>G b o (U b u) e) (λb xs e=>G b _ (Z.jb e) e)
  let i4:CI j bs L (X++ns++ns2) (gf (gf W g.front g.z1) g.bu (-g.z1)) (M4 j ⇑S.aY) none:=Xp.i.ex λr' s n' w I ex=>by
   let⟨w1,n1⟩:=dk.mp w;let⟨w2,n2⟩:=dk.mp w1;rcases ex with ⟨e1,e2⟩|⟨e1,e2⟩|⟨m,hm,e⟩
   ·rwa[absurd ⟨by rw[e1],e2⟩ n2]
   ·rwa[absurd ⟨by rw[e1],e2⟩ n1]
   ·rwa[.inr ⟨m,by cbv,e⟩]
  rwa[⟨_,rfl,x,c.dx,_,rfl,c4.ins,fj (by decide),x,r,c,j,a',_,bs,L,_,_,_,⇑S.aY,fp,O,rfl,⟨c4,i4,λ_ _ _ z=>z,Xp.b⟩,M,by rw[el,agw];ext,R4,g2,w2.c,U,λTa W5 H5 b5 h5=>?_⟩];let N:Bt O H2 H5:=G.trans b5 λb z=>.inl z
  rwa[k j a' _ Ta W5 H5 (λb o n1 n2 e=>N b o n1 (D b o n2 e)) h5.c ⟨h2.keep (λb o u e=>N b o (U b u) e) (λb xs e=>N b _ (Z.jb e) e),g2,w2,C,[em]▸f.m,f.l,rb2,wb2⟩ Xl h5.i (by have:=h5.b;omega) ig em eL (.step (.refl S) ra lay)]
def VL {x:V}{A B:Prop}(h:x=q)(k:B):if (!decide (x=q))=true then A else B:=by cbv
section
variable {CG CC:Zs}{H H':Hp}{x r:Zs}{c:KA}{gs:Zf}{ag:Zh}{W:bE}{hd:Nat}{fp:List (Zg×Nat)}{O:Zs->Prop}{gv:Zb}{n:Nat}{p dx wa:Zs}{g g':Gg}
theorem ck.VM (h:ck CG CC H x r c gs ag W hd fp O)(hG:H c.aG\.lst gv)(a:qi CG H gv gs O)(L:gv[n]?\↑p)(N:O p)(q:dZ CG H p dx wa g)(f:∀b o,b≠p->H b\o->H' b\o)(J:dZ CG H' p dx wa g'):ck CG CC H' x r c (gs.set n (some g')) ag W hd fp O/\qi CG H' gv (gs.set n (some g')) O:=by
 let kn:∀b o,(∀C d fs,o≠.ins C d fs)->H b\o->H' b\o:=λb o w e=>f b o (λz=>by rw[z,q.ins]at e;cbv) e
 let j:qi CG H' gv (gs.set n (some g')) O:=by
  rwa[⟨[agZ]▸a.l,λi v t k=>?_,λi v u t k=>?_,a.i⟩]
  ·rcases fA k with ⟨_,z⟩|⟨_,z⟩
   ·ext z
   ·rwa[a.n i v t z]
  ·rcases fA k with ⟨z1,z⟩|⟨z1,z⟩
   ·cbv
   ·let⟨B,l,s,e,F,I⟩:=a.s i v u t z;let G:B≠p:=λz=>z1 (a.i i n p (by cbv) L)
    rwa[B,l,s,e,⟨f _ _ G F.ins,kn _ _ (by cbv) F.wo⟩,I]
 rwa[⟨⟨f _ _ (BW h q).symm h.ins,⟨gv,kn _ _ (by cbv) hG,j⟩,kn _ _ (by cbv) h.hA,5,h.ne,h.ox,h.oG,h.oA,λb y=>?_⟩,j⟩]
 ·let⟨D,E,k1,k2⟩:=h.wt;rwa[D,E,k1.keep λb o y e=>by let⟨M,q⟩:=k1.there y;cbv,k2]
 ·by_cases e:b=p
  ·rwa[_,[e]▸J.ins,(by cbv),(by cbv),(by cbv),by cbv]
  ·let⟨o,q,m⟩:=h.th b y;rwa[o,f _ _ e q,m]
def ck.Es (h:ck CG CC H x r c gs ag W hd fp O)(hG:H c.aG\.lst gv)(f:qi CG H gv gs O)(R:gv[n]?\↑p)(q:dZ CG H p dx wa g):ck CG CC (upd H c.aG (.lst (gv.set n .non))) x r c (gs.set n none) ag W hd fp (λb=>O b/\b≠p):=by
 let k:∀b o,b≠c.aG->H b\o->upd H c.aG (.lst (gv.set n .non)) b\o:=λb o n e=>by rw[ak n];rwa[e]
 let kn:∀b o,(∀s,o≠.lst s)->H b\o->upd H c.aG (.lst (gv.set n .non)) b\o:=λb o w e=>k b o (λz=>by cbv) e
 let F:∀{b s},H b\.lst s->b≠p:=λ{b s} e z=>by rw[z,q.ins]at e;ext e
 rwa[⟨kn _ _ (by cbv) h.ins,⟨_,ah,[agZ,agZ]▸f.l,λi v l d=>?_,λi v u l d=>?_,λi j N l d=>?_⟩,k _ _ h.ne.symm h.hA,5,h.ne,⟨h.ox,(BW h q).symm⟩,⟨h.oG,F hG⟩,⟨h.oA,F h.hA⟩,λb a=>?_⟩]
 ·rcases fA l with ⟨z1,z⟩|⟨z1,z⟩
  ·rwa[z]
  ·rcases fA d with ⟨t,_⟩|⟨_,y⟩
   ·rwa[absurd t z1]
   ·rwa[f.n i v z y]
 ·rcases fA d with ⟨_,z⟩|⟨z1,z⟩
  ·ext z
  ·rcases fA l with ⟨t,_⟩|⟨_,y⟩
   ·rwa[absurd t z1]
   ·let⟨I,B,C,e,J,M⟩:=f.s i v u y z;let L:I≠p:=λw=>z1 (f.i i n p (by cbv) R)
    rwa[I,B,C,e,⟨kn _ _ (by cbv) J.ins,kn _ _ (by cbv) J.wo⟩,M,L]
 ·rcases fA l with ⟨_,z⟩|⟨_,z⟩
  ·ext z
  ·rcases fA d with ⟨_,y⟩|⟨_,y⟩
   ·ext y
   ·rwa[f.i i j N z y]
 ·let⟨D,E,k1,k2⟩:=h.wt;rwa[⟨D,E,k1.keep λb o a e=>by let⟨Q,q⟩:=k1.there a;cbv,λb a=>⟨k2.o b a,λz=>?_⟩,k2.d,k2.e,k2.w⟩];let⟨Q,G⟩:=k1.there a;rw[z,q.ins]at G;ext G
 ·by_cases e:b=c.aG
  ·rwa[_,[e]▸ah,(by cbv),(by cbv),(by cbv),by cbv]
  ·let⟨o,q,m⟩:=h.th b a.1;rwa[o,k _ _ e q,m]
end
structure B6 (ws:Za3) (nr:Nat) (ks:Zg) (bs:List (Nat×Zg×Nat)):Prop where
 w:∀b∈bs,ws[b.1]?\b.2.1
 n:∀b∈bs,b.1<nr\/b.2.2=0
 l:∀b∈bs,⇑b.2.1<=1000
 k:∀b∈bs,∀z∈b.2.1,z∈ks/\-z∈ks
 c:⇑bs<100000
def live (a:Zf):Nat:=a.countP (·.isSome)
def B7 {a:Zf}{g:Gg}(h:a[n]?\some g):(∀u:Gg,live (a.set n (some u))=live a)/\live (a.set n none)+ 1=live a:=by
 unfold live
 induction a generalizing n with
 |nil=>simp at h
 |cons y r c=>
  cases n with
  |zero=>
   have:y\g:=by simpa using h
   subst this;simp[List.countP_cons]
  |succ n=>
   let⟨b,d⟩:=c (n:=n) (by simpa using h);simp only[List.set_cons_succ,List.countP_cons];rwa[λu=>by rw[b u],3]
inductive IG (CR CG CC:Zs) (vs:Zb) (H:Hp) (Q:VK) (E_:XK):Prop
 |mk (x r:Zs) (c:KA) (S:RS) (a:RA) (R:Za2) (ks:Zg) (B:Nat) (ws:Za3) (nr:Nat) (bs:List (Nat×Zg×Nat)) (gs:Zf) (ag:Zh) (W:bE) (fp:List (Zg×Nat)) (O:Zs->Prop) (n:Nat):vs=[↑x,.int n]->ck CG CC H x r c gs ag W ⇑S.aY fp O->iQ CR H r S a R ks B->B<900000->(∀b,a.own r b->¬O b)->CI S bs gs (ag++[n]) W fL none->B6 ws nr ks bs->⇑ag+ 2* ⇑gs<=1000000->(∀S' a' R' i3 iP W' O' B' H',(∀b o,¬O b->¬a.own r b->H b\o->H' b\o)->ck CG CC H' x r c i3 iP W' ⇑S'.aY fp O'->iQ CR H' r S' a' R' ks B'->(∀b,a'.own r b->a.own r b\/H b=none)->(∀b,O' b->O b\/H b=none)->(∀b,a'.own r b->¬O' b)->CI S' bs i3 iP W' fL none->(∀a z b,R a z b->R' a z b)->S'.made=S.made->S'.L=S.L->Tr ws nr S S'->(live i3=live gs/\⇑iP=⇑ag/\B'=B)\/(live i3+ 1=live gs/\⇑iP<=⇑ag+ 2* ⇑gs/\B'<=B+ 1)->Q .non H')->IG CR CG CC vs H Q E_
theorem vh (T:Txt K mg A):T.lB.Ok mg P w base 7 (IG A.az A.aJ A.aD):=by
 rwa[T.lB.on m4 (λcC AA outer s H vs Q E hr h=>?_)]
 ·let⟨x,r,c,S,a,R,ks,B,ws,nr,bs,G,ag,W,fp,O,n,rfl,h,I,hB,dj,ci,m,Xq,k⟩:=h
  refine⟨_,(ai (bD 2 m4.nd (bF bO (aF (pv 0) rfl) (pv 1) (λ_ _=>rfl)))
   (ai (bI (bf mq (pv 2) cX (bh _))
    (aw xr)
    bq)
   (ai (bI (bf sI (pm (aF (pv 0) rfl) (aI T) T.gZ (iJ T) hr (ae (aF (pv 2) rfl) aj)) (aF (pv 2) rfl) (bh _))
    (ai (kH cX (vn (aF (pv 0) rfl) (pv 1) set_list))
    (aw xr))
    bq)
   (ai (aU (pm (pv 2) (aT T) T.lA (ve T) hr (ae (aF (pv 0) rfl) aj)))
   (aw (bP (bI (bf sJ (aF (pv 2) rfl) (aF (pv 2) rfl) (bh _))
    (ai (aU (pm (pv 0) (aM T) T.jS (om T) hr (ae (pv 1) (ae (aF (pv 2) rfl) (ae (bF dX (aF (pv 2) rfl) (aF (pv 2) rfl) (λ_ _=>rfl)) aj)))))
    (aw (aU (pm (pv 0) (aM T) T.jS (om T) hr (ae (pv 1) (ae (aF (pv 2) rfl) (ae (eG dw (bF dX (aF (pv 2) rfl) (aF (pv 2) rfl) (λ_ _=>rfl))) aj)))))))
    (ai (kH cX (vn (aF (pv 0) rfl) (pv 1) set_list))
    (aw (aU (pm (pv 0) (aM T) T.oy (yf T) hr (ae (pv 2) aj)))))))))))),?_⟩
  rwa[uF ?_];intro oh jV fS gy;let N:n<⇑G:=ci.ab n (agB _ (agC.mpr rfl));let⟨F,hG,hs⟩:=h.hG;let Z:F[n]?\(F[n]'([hs.l]▸N)):=agv _
  generalize F[n]'(by cbv)=v at Z;let gd:=I.g;erw[12,x,_,c.dx,112,h.ins,aM T,T.jC,lb^_,12,c.aG,11,v,22,aH.of hG,dE Z];let f:G[n]?\(G[n]'N):=agv N
  generalize G[n]'N=og at f
  cases og with
  |none=>
   obtain rfl:=hs.n n v Z f;rwa[⟨12212,ic ?_⟩];rwa[k S a R G ag W O B H (λ_ _ _ _ e=>e) h I (λb z=>.inl z) (λb z=>.inl z) dj (ci.pop.done f λb eb=>ci.de n b f (by cbv) eb) (λ_ _ _ z=>z) rfl rfl (.refl S) (.inl ⟨222⟩)]
  |some g=>
   let⟨p,i,wa,rfl,M,op⟩:=hs.s n v g Z f;let⟨IE,gi,_⟩:=ci.al n g f;let C:=agu IE;let Iw:⇑g.word<=1000:=m.l _ C;let V:¬a.own r p:=λz=>dj p z op
   rwa[⟨12212,dN ?_⟩];erw[12,x,_,c.dx,112,h.ins,aM T,T.eZ,fP^_,r,a.dx,12,I.at_.ins,cL _ _ _ ⋯,12,p,_,i,112,M.ins,aT T,T.qf,vd _ _,r,S,a,g.start,S.av g.start,2,I.at_,m6 ([gd.wf.e]▸gi.s),12,p,_,i,112,M.ins,aT T,T.qf,vd _ _,212];let Eu:∀b,a.own r b->¬(O b/\b≠p):=λb z y=>dj b z y.1
   by_cases es:S.av g.start=g.start
   ·rwa[VL (by rw[es]) ?_];rwa[⟨12,p,i,12,M.ins,MS ⋯,12,x,_,c.dx,112,h.ins,aM T,T.eZ,fP^_,p,i,wa,r,g,S,a,R,2,M,I.at_,gd,gi,V,Iw,λd j f1 l ad=>?_⟩];let R1:iQ A.az j r S a R ks B:=I.keep (λb o hb e=>f1 b o (λz=>V (z ▸ hb)) e) (λb xs e=>f1 b _ (bX e M.ins (by cbv)) e);let⟨c1,gs1⟩:=h.VM hG hs Z op M f1 l;let Xr:j c.aG\(.lst F):=f1 _ _ (bX hG M.ins (by cbv)) hG;let t:=ad.gi;let Xf:=t.ll;let M6:=t.fl;let aam:⇑d.word<=1000:=by rw[ad.wo];rwa[Iw]
    let z1:=Gg.qw (g:=d) ∅;let z2:=Gg.at2 (g:=d) Xf;let afi:(G.set n (some d))[n]?\(some d):=ahs N
    let lv:=B7 f;let lm:=I.m;rwa[⟨λ_ H'=>Q .non H',5,λ_ _ q=>q⟩];erw[12,p,_,i,112,l.ins,aT T,T.eY,gP _ _,12,p,_,i,112,l.ins,aT T,T.iI,ko _ _,112212];rwa[cq (λq=>?_) (λq=>?_)]
    ·let q:(d.first:Int)<(d.last:Int):=ahi q;let bw:∀z∈d.word,-1000<=z/\z<=1000:=λz hz=>ci.bd _ C z (by rw[<-ad.wo];rwa[hz])
     let b1:=bw _ (agu z1);let b2:=bw _ (agu z2);let hf:=t.f;let hrr:=t.r;let Xs:n<100000:=by have:=ci.len;have:=m.c;ext
     rwa[⟨12,x,c.dx,12,c1.ins,fj ⋯,1212,p,_,i,112,l.ins,aT T,T.gN,kl _ _,12,p,_,i,112,l.ins,aT T,T.jB,kj _ _,12,p,_,i,112,l.ins,aT T,T.eY,gP _ _,wa,11,.int d.z1,22,bC.of l.wo,dE (cK z1),x,r,c,_,ag,W,⇑S.aY,fp,O,n,d.front,d.z1,2,c1,3,Xs,b1,λO2 H2 Xt f2 M7 B9 u=>?_⟩];let L:dZ A.aJ H2 p i wa d:=⟨f2 _ _ (by cbv) l.ins,f2 _ _ (by cbv) l.wo⟩;rwa[⟨12,x,c.dx,12,u.ins,fj ⋯,1212,p,_,i,112,L.ins,aT T,T.g6,km _ _,12,p,_,i,112,L.ins,aT T,T.jB,kj _ _,12,p,_,i,112,L.ins,aT T,T.iI,ko _ _,wa,11,.int (-d.z2),22,bC.of L.wo,dE (cK z2),12,x,r,c,_,ag,_,⇑S.aY,fp,O2,n,d.bu,d.z2,(by cbv),u,3,Xs,3,λO3 H3 bt3 f3 Xu nw3 c3=>?_⟩]
     let aan:∀b,O3 b->O b\/j b=none:=λb z=>by
      rcases nw3 b z with y|y
      ·rwa[B9 b y]
      ·by_cases w:O b
       ·rwa[.inl w]
       ·rwa[.inr ?_]
        cases e:j b with
        |none=>rfl
        |some o=>rw[Xt b o w e]at y;ext y
     let nw:∀b,O3 b->O b\/H b=none:=λb z=>by
      rcases aan b z with y|y
      ·rwa[.inl y]
      ·by_cases w:b=p
       ·cbv
       ·rwa[.inr ?_]
        cases e:H b with
        |none=>rfl
        |some o=>rw[f1 b o w e]at y;ext y
     let D:Bt O j H3:=Xt.trans bt3 B9
     let dj3:∀b,a.own r b->¬O3 b:=λb z y=>by
      rcases nw b y with w|w
      ·rwa[dj b z w]
      ·let⟨o,e⟩:=I.at_.there z;cbv
     rwa[k S a R _ ag _ O3 B H3 (λb o J _ e=>D b o J (f1 b o (λz=>J ([z]▸op)) e)) c3 (R1.keep (λb o hb e=>D b o (dj b hb) e) (λb xs e=>D b _ (c1.jb e) e)) (λb z=>.inl z) nw dj3 (ci.pop.waits f ad ∅) (λ_ _ _ z=>z) rfl rfl (.refl S) (.inl ⟨lv.1 d,22⟩)]
    ·let q:¬(d.first:Int)<(d.last:Int):=λz=>q (aha z)
     let efl:d.first=d.last:=∅
     erw[12,x,_,c.dx,112,c1.ins,aM T,T.jC,lb^_,12,c.aG,11,n,22,Xr,pk ([hs.l]▸N)];let u:=c1.Es Xr gs1 Z l;let kn:∀b o,(∀xs,o≠.lst xs)->j b\o->upd j c.aG (.lst (F.set n .non)) b\o:=λb o w e=>by rw[ak (λz=>by cbv)];rwa[e]
     let L:dZ A.aJ (upd j c.aG (.lst (F.set n .non))) p i wa d:=⟨kn _ _ (by cbv) l.ins,kn _ _ (by cbv) l.wo⟩;let X:¬a.own r c.aG:=λz=>dj _ z h.oG
     let R2:iQ A.az (upd j c.aG (.lst (F.set n .non))) r S a R ks B:=R1.keep (λb o hb e=>[ak (λz=>X (by cbv))]▸e) (λb xs e=>kn _ _ (by cbv) e);let ess:(G.set n (some d)).set n none=G.set n none:=List.set_set ..;rw[ess]at u;let Y:∀b o,¬O b->H b\o->upd j c.aG (.lst (F.set n .non)) b\o:=λb o J e=>by rw[ak (λz=>J ([z]▸h.oG))];cbv
     let U:∀b,upd j c.aG (.lst (F.set n .non)) b=none->H b=none:=λb z=>by
      cases e:H b with
      |none=>rfl
      |some o=>
       by_cases w:O b
       ·by_cases y:b=p
        ·rw[y,L.ins]at z;ext z
        ·let⟨o2,e2,_⟩:=u.th b ⟨w,y⟩;cbv
       ·rw[Y b o w e]at z;ext z
     generalize upd j c.aG (.lst (F.set n .non))=H2 at u L R2 Y U ⊢;rwa[⟨12,x,c.dx,12,u.ins,fj ⋯,12,x,r,p,i,wa,c,S,a,R,ks,B,ws,nr,bs,G.set n none,ag,W,fp,_,n,d,2,u,R2,hB,Eu,ci.pop.kill,ahs N,by rw[IE,ad.wh,ad.wo,ad.st],L,(λz=>z.2 rfl),V,t,efl,[ad.st]▸es,ad.ef,ad.er,[ad.wh,ad.wo]▸m.w _ C,[ad.wh,ad.st]▸m.n _ C,[ad.wo]▸m.k _ C,aam,[agZ]▸Xq,λS' a' R' iP W' H' f3 c3 R3 o3 Tc la rr em eL tr=>?_⟩];let o03:∀b,a'.own r b->a.own r b\/H b=none:=λb z=>(o3 b z).imp id (U b)
     rw[agZ]at la;rwa[k S' a' R' _ iP W' _ (B+ 1) H' (λb o J n2 e=>f3 b o (λz=>J z.1) n2 (Y b o J e)) c3 R3 o03 (λb z=>.inl z.1) (λb z y=>?_) Tc rr em eL tr (.inr ⟨lv.2,la,agA _⟩)];rcases o3 b z with w|w
     ·rwa[Eu b w y]
     ·let⟨o2,e2,_⟩:=u.th b y;cbv
   ·rwa[cq (λ_=>?_) (λz=>absurd (by cbv) z)];erw[12,x,_,c.dx,112,h.ins,aM T,T.jC,lb^_,12,c.aG,11,n,22,hG,pk (by cbv)];let u:=h.Es hG hs Z M;let X:¬a.own r c.aG:=λz=>dj _ z h.oG
    rwa[k S a R _ ag W _ B _ (λb o J _ e=>[ak (λz=>J ([z]▸h.oG))]▸e) u (I.keep (λb o hb e=>[ak (λz=>X (by cbv))]▸e) (λb xs e=>[ak (λz=>by cbv)]▸e)) (λb z=>.inl z) (λb z=>.inl z.1) Eu (ci.pop.kill.done (ahs N) λb eb=>?_) (λ_ _ _ z=>z) rfl rfl (.refl S) (.inr ⟨(B7 f).2,33⟩)]
    cbv
def _root_.Lake.L2.Tr.trans {ws:Za3}{c:RS}(h:Tr ws n S T)(k:Tr ws n T c):Tr ws n S c:=by
 induction k with
 |refl=>exact h
 |step _ a b d=>exact .step d a b
inductive Ca (CR CG CC:Zs) (vs:Zb) (H:Hp) (Q:VK) (E_:XK):Prop
 |mk (x r:Zs) (c:KA) (S:RS) (a:RA) (R:Za2) (ks:Zg) (B:Nat) (ws:Za3) (nr:Nat) (bs:List (Nat×Zg×Nat)) (gs:Zf) (ag:Zh) (W:bE) (fp:List (Zg×Nat)) (O:Zs->Prop):vs=[↑x]->ck CG CC H x r c gs ag W ⇑S.aY fp O->iQ CR H r S a R ks B->B+ live gs<900000->(∀b,a.own r b->¬O b)->CI S bs gs ag W fL none->B6 ws nr ks bs->live gs* (2* ⇑bs+ 1)+ ⇑ag+ 2* ⇑bs<=1000000->(∀S' a' R' i3 W' O' B' H',(∀b o,¬O b->¬a.own r b->H b\o->H' b\o)->ck CG CC H' x r c i3 [] W' ⇑S'.aY fp O'->iQ CR H' r S' a' R' ks B'->(∀b,a'.own r b->a.own r b\/O b\/H b=none)->(∀b,O' b->O b\/a.own r b\/H b=none)->(∀b,a'.own r b->¬O' b)->CI S' bs i3 [] W' fL none->(∀a z b,R a z b->R' a z b)->S'.made=S.made->S'.L=S.L->Tr ws nr S S'->B'+ live i3<=B+ live gs->Q .non H')->Ca CR CG CC vs H Q E_
def lJ (T:Txt K mg A):T.iG.Ok mg P w base 8 (Ca A.az A.aJ A.aD):=by
 rwa[T.iG.on tF (λcC AA outer s H vs Q E hr h=>?_)]
 ·let⟨x,r,c,S,a,R,ks,B,ws,nr,bs,gs,ag,W,fp,O,rfl,h,hR,hB,dj,ci,hbs,hm,k⟩:=h
  refine⟨_,(aw (bP (gI ag0 (zV (aF (pv 0) rfl) (λ_=>rfl))
   (aw (aU (pm (pv 0) (aM T) T.lB (vh T) hr (ae (GH agG PySem.F.slot_list_pop PySem.F.type_list_pop GJ (aF (pv 0) rfl)) aj))))))),?_⟩
  let hgl:=ci.len;rwa[⟨λ_ H'=>Q .non H',5,λ_ _ q=>q⟩];erw[λm σ g=>∃j a2 R2 f d M F D,m=live f* (2* ⇑bs+ 1)+ ⇑d/\σ=#v[↑x]/\(∀b o,¬O b->¬a.own r b->H b\o->g b\o)/\ck A.aJ A.aD g x r c f d M ⇑j.aY fp F/\iQ A.az g r j a2 R2 ks D/\(∀b,a2.own r b->a.own r b\/O b\/H b=none)/\(∀b,F b->O b\/a.own r b\/H b=none)/\(∀b,a2.own r b->¬F b)/\CI j bs f d M fL none/\(∀a z b,R a z b->R2 a z b)/\j.made=S.made/\j.L=S.L/\Tr ws nr S j/\D+ live f<=B+ live gs/\live f* (2* ⇑bs+ 1)+ ⇑d+ 2* ⇑bs<=1000000,⟨_,S,a,R,gs,ag,W,O,B,22,λ_ _ _ _ e=>e,h,hR,λb z=>.inl z,λb z=>.inl z,dj,ci,λ_ _ _ z=>z,22,.refl S,agA _,hm⟩];rintro m σ g ⟨j,a2,R2,f,d,M,F,D,rfl,rfl,f2,i,r2,L,y,C,t,I,G,J,N,U,BM⟩;erw[12,x,_,c.dx,112,i.ins,aM T,T.kZ,oj^_,!(ao (nI d)).isEmpty,.inl ⟨_,aH.of i.hA,2⟩];by_cases p:d=[]
  ·subst p;rwa[dN ?_];rwa[k j a2 R2 f M F D g f2 i r2 L y C t I G J N U]
  ·let u:=aiu p;generalize d.getLast p=n at u;generalize d.dropLast=pre at u;subst u;rw[show (!(ao (nI (pre++[n]))).isEmpty)=true by unfold ao nI;simp];rwa[ic ?_];erw[_,λ_ _ z=>z];erw[12,x,c.dx,12,i.ins,fj ⋯,12,x,_,c.dx,112,i.ins,aM T,T.kZ,oj^_,.inl ⟨21,aH.of i.hA⟩,c.aA,_,.int (n:Int),22,i.hA,5]
   ·rw[aL,bZ,agw];rwa[cK (jN (by show (pre++[n])[⇑pre+ 1 - 1]?\n;rw[Nat.add_sub_cancel,agI (agA _),ain];rfl))]
   let S5:(ao (nI (pre++[n]))).dropLast=ao (nI pre):=by rw[iW,ints_app];rwa[List.dropLast_concat]
   rw[S5];let c3:=i.agenda pre;let noA:¬a2.own r c.aA:=λz=>C _ z i.oA
   let Y:∀b o,b≠c.aA->g b\o->upd g c.aA (.lst (ao (nI pre))) b\o:=λb o Z e=>by rw[ak Z];rwa[e]
   let r3:iQ A.az (upd g c.aA (.lst (ao (nI pre)))) r j a2 R2 ks D:=r2.keep (λb o hb e=>Y b o (λz=>noA (by cbv)) e) (λb xs e=>Y b _ (λz=>by rw[z,i.hA]at e;ext e) e)
   let V:∀b,upd g c.aA (.lst (ao (nI pre))) b=none->g b=none:=λb z=>by
    by_cases e:b=c.aA
    ·rw[e,ah]at z;ext z
    ·rw[ak e]at z;rwa[z]
   generalize upd g c.aA (.lst (ao (nI pre)))=H3 at c3 Y r3 V ⊢;let ln2:=t.len;rw[agw]at BM;have:⇑([n]:Zh)=1:=rfl
   let th2:∀b,g b=none->a.own r b\/O b\/H b=none:=λb z=>by
    by_cases w:a.own r b
    ·rwa[.inl w]
    ·by_cases w2:O b
     ·rwa[.inr (.inl w2)]
     ·rwa[.inr (.inr ?_)]
      cases e:H b with
      |none=>rfl
      |some o=>rw[f2 b o w2 w e]at z;ext z
   rwa[⟨x,r,c,j,a2,R2,ks,D,ws,nr,bs,f,pre,M,fp,F,n,2,c3,r3,3,C,t,hbs,3,λS4 a4 R4 l X W4 O4 B4 H4 f4 c4 r4 ow4 oo4 dj4 Ew rr4 em4 eL4 tr4 ms=>?_⟩];let ow:∀b,a4.own r b->a.own r b\/O b\/H b=none:=λb z=>(ow4 b z).elim (L b) λw=>th2 b (V b w)
   let oo:∀b,O4 b->O b\/a.own r b\/H b=none:=λb z=>(oo4 b z).elim (y b) λw=>by
    cbv
   let v:B4+ live l<=B+ live gs/\live l* (2* ⇑bs+ 1)+ ⇑X<live f* (2* ⇑bs+ 1)+ ⇑(pre++[n]):=by
    rw[agw];rcases ms with ⟨e1,e2,e3⟩|⟨e1,e2,e3⟩
    ·rw[e1,e2,e3];rwa[U,3]
    ·rw[<-e1,aj5];rwa[33]
   rwa[⟨_,v.2,S4,a4,R4,l,X,W4,O4,B4,22,λb o Z n2 e=>?_,c4,r4,ow,oo,dj4,Ew,λa z b q=>rr4 _ _ _ (I _ _ _ q),em4.trans G,eL4.trans J,N.trans tr4,v.1,by have:=v.2;rw[agw]at this;ext⟩];rwa[f4 b o (λz=>?_) (λz=>?_) (Y b o (λz=>Z ?_) (f2 b o Z n2 e))]
   ·cbv
   ·cbv
   ·subst z;rcases y c.aA i.oA with w|w|w
    ·rwa[w]
    ·cbv
    cbv
theorem _root_.Lake.L2.CI.begin {bs:List (Nat×Zg×Nat)}{gs:Zf}{W:bE}{t:Nat->Int->Prop}(h:CI S bs gs B W t none){which m:Nat}{word:Zg}(C:word≠[])(f:m<S.made)(H:∀z∈word,-1000<=z/\z<=1000):CI S (bs++[(which,word,m)]) (gs++[some (y8 which word m)]) (B++[⇑gs]) W t none:=by
 let I:=List.length_pos_iff.mpr C
 let d:∀{k:Nat} {y:Option Gg},(gs++[some (y8 which word m)])[k]?\y->(k<⇑gs/\gs[k]?\y)\/(k=⇑gs/\y\y8 which word m):=λ{k y} e=>by
  by_cases a:k<⇑gs
  ·rw[agF a]at e;rwa[.inl ⟨a,e⟩]
  ·rw[agI ∅]at e;have:=(agx.mp e).1;let j:k=⇑gs:=by simp at this;ext
   subst j;rw[ain]at e;rwa[.inr ⟨2,(Za0 e).symm⟩]
 let c:∀{k:Nat},k<⇑gs->(bs++[(which,word,m)])[k]?=bs[k]?:=λ{k} a=>agF (by rw[<-h.len];rwa[a])
 rwa[⟨by rw[agw,agw,h.len];rfl,λk g e=>?_,λk b e D u=>?_,λk a=>?_,λr s k q=>?_,λk=>?_,λb i=>?_⟩]
 ·rcases d e with ⟨a,e⟩|⟨a,e⟩
  ·let⟨n,l,F⟩:=h.al k g e;rwa[[c a]▸n,l,F.imp (agU _) id]
  ·ext e;rwa[⟨5,⟨agW _,by show ⇑word - 1<⇑word;ext,f,f,f,25⟩,.inl (agB _ (agC.mpr a))⟩]
   ·rw[agI ([a,h.len]▸agA _),a,h.len,ain];rfl
   ·show wk S.by _ (word.drop (⇑word - 1+ 1))=_;rw[show ⇑word - 1+ 1=⇑word by ext,List.drop_length];rfl
 ·rcases d e with ⟨a,e⟩|⟨a,e⟩
  ·rw[c a]at u;rwa[h.de k b e D u]
  ·ext e
 ·rw[agw];rcases agH.mp a with q|q
  ·have:=h.ab k q;show k<_+ 1;ext
  ·rw[agC.mp q];show _<_+ 1;ext
 ·let⟨v,o,G,x,E,L,J⟩:=h.en r s k q;rwa[v,o,G,x,E,by rw[agw];show o<_+ 1;ext,J]
 ·by_cases a:k<⇑gs
  ·let⟨p,q,n,l⟩:=h.sl k;rwa[⟨p,q,n,λg e=>l g ?_⟩];rw[agF a]at e;rwa[e]
  ·rwa[⟨((y8 which word m).front,(y8 which word m).z1),((y8 which word m).bu,(y8 which word m).z2),λr s w=>?_,λg e=>?_⟩]
   ·let⟨_,o,_,e,_,I,_⟩:=h.en r s k w;ext
   cbv
 ·rcases agH.mp i with q|q
  ·rwa[h.bd b q]
  ·rw[agC.mp q];rwa[H]
def ck.VN {x r:Zs}{f:KA}{gs:Zf}{W:bE}{hd:Nat}{X:List (Zg×Nat)}{O:Zs->Prop}{dx:Zs}{g:Gg}(h:ck a b H x r f gs B W hd X O)(hG:H f.aG\.lst L)(t:qi a H L gs O)(np:H c=none)(s:aq H I)(q:dZ a I c dx d g):ck a b (upd I f.aG (.lst (L++[↑c]))) x r f (gs++[some g]) B W hd X (Ht O c):=by
 let k:∀l o,l≠f.aG->I l\o->upd I f.aG (.lst (L++[↑c])) l\o:=λl o n e=>by rw[ak n];rwa[e]
 let kn:∀l o,(∀xs,o≠.lst xs)->I l\o->upd I f.aG (.lst (L++[↑c])) l\o:=λl o w e=>k l o (λz=>by rw[z,s^hG]at e;cbv) e
 let fresh:∀(i:Nat),L[i]?≠some ↑c:=λi e=>by
  let C:i<⇑gs:=by rw[<-t.l];rwa[(agx.mp e).1]
  cases S:gs[i]? with
  |none=>cbv
  |some y=>
   cases y with
   |none=>cases t.n i _ e S
   |some u=>
    let⟨Y,_,_,J,M,_⟩:=t.s i _ u e S;ext J;have:=M.ins;cbv
 let F:∀{i:Nat} {v:V},(L++[↑c])[i]?\v->(i<⇑L/\L[i]?\v)\/(i=⇑L/\v=↑c):=λ{i v} e=>by
  by_cases T:i<⇑L
  ·rw[agF T]at e;rwa[.inl ⟨T,e⟩]
  ·rw[agI ∅]at e;have:=(agx.mp e).1;let N:i=⇑L:=by simp at this;ext
   subst N;rw[ain]at e;rwa[.inr ⟨2,(Za0 e).symm⟩]
 rwa[⟨kn _ _ (by cbv) (s^h.ins),⟨_,ah,by rw[agw,agw,t.l];rfl,λi v J p=>?_,λi v u J p=>?_,λi j p' J p=>?_⟩,k _ _ h.ne.symm (s^h.hA),5,h.ne,.inl h.ox,.inl h.oG,.inl h.oA,λl G=>?_⟩]
 ·rcases F J with ⟨C,e⟩|⟨C,e⟩
  ·rw[agF (by rw[<-t.l];rwa[C])]at p;rwa[t.n i v e p]
  ·rw[C,t.l,agI (agA _),ain]at p;cases Za0 p
 ·rcases F J with ⟨C,e⟩|⟨C,e⟩
  ·rw[agF (by rw[<-t.l];rwa[C])]at p;let⟨Y,Q,R,e3,M,o1⟩:=t.s i v u e p;rwa[Y,Q,R,e3,⟨kn _ _ (by cbv) (s^M.ins),kn _ _ (by cbv) (s^M.wo)⟩,.inl o1]
  ·rw[C,t.l,agI (agA _),ain]at p;cases Za0 p;rwa[c,dx,d,e,⟨kn _ _ (by cbv) q.ins,kn _ _ (by cbv) q.wo⟩,.inr rfl]
 ·rcases F J with ⟨C,e⟩|⟨C,e⟩
  ·rcases F p with ⟨Z,U⟩|⟨Z,U⟩
   ·rwa[t.i i j p' e U]
   cbv
  cbv
 ·let⟨D,E,k1,k2⟩:=h.wt;rwa[D,E,(k1.same s).keep λl o G e=>by let⟨kv,q⟩:=(k1.same s).there G;cbv,λl G=>.inl (k2.o l G),k2.d,k2.e,k2.w]
 ·rcases G with G|G
  ·by_cases e:l=f.aG
   ·rwa[⟨_,by rw[e];rwa[ah],(by cbv),(by cbv),(by cbv),by cbv⟩]
   ·let⟨o,q,m⟩:=h.th l G;rwa[o,k _ _ e (s^q),m]
  ·rw[G];rwa[_,kn _ _ (by cbv) q.ins,(by cbv),(by cbv),(by cbv),by cbv]
noncomputable def nz (b:Nat)(a:Zg)(m:Nat):List (Nat×Zg×Nat):=if a=[] then [] else [(b,a,m)]
inductive Ey (CR CG CC:Zs) (vs:Zb) (H:Hp) (Q:VK) (E_:XK):Prop
 |mk (x r wa:Zs) (c:KA) (S:RS) (bs:List (Nat×Zg×Nat)) (gs:Zf) (ag:Zh) (W:bE) (hd:Nat) (fp:List (Zg×Nat)) (O:Zs->Prop) (Ex:Nat->Int->Prop) (which m:Nat) (word:Zg):vs=[↑x,.int which,↑wa,.int m]->ck CG CC H x r c gs ag W hd fp O->CI S bs gs ag W Ex none->H wa\.tup (ao word)->⇑word<=1000->(∀z∈word,-1000<=z/\z<=1000)->m<S.made->⇑bs<100000->⇑ag<=⇑bs->(∀i3 iP O' H',Bt O H H'->(∀b,O b->O' b)->(∀b,O' b->O b\/H b=none)->ck CG CC H' x r c i3 iP W hd fp O'->CI S (bs++nz which word m) i3 iP W Ex none->⇑iP<=⇑(bs++nz which word m)->Q .non H')->Ey CR CG CC vs H Q E_
def m7 (T:Txt K mg A):T.i9.Ok mg P w base 3 (Ey A.az A.aJ A.aD):=by
 rwa[T.i9.on uZ (λcC AA M s H vs Q E hr h=>?_)]
 ·let⟨x,r,U,c,S,bs,j,g,W,hd,fp,O,Ex,d,m,a,rfl,h,ci,i,G,N,Z,sr,J,k⟩:=h
  refine⟨_,(aw (bP (bI (bf zK (bN bM rfl T.fe ahx (ae (pv 2) aj)) au (bh _))
   (ai (aU (cG agG agO agP bH (aF (pv 0) rfl) (ae (bN bM rfl T.fe ahx (ae (aF (pv 0) rfl) aj)) aj)))
   (aw (aU (cG agG agO agP bH (aF (pv 0) rfl) (ae (xA (uY T) (tJ T) hr.Za5 rfl T.Pa T.gk.b .nil gj (ae (pv 1) (ae (pv 2) (ae (pv 3) aj)))) aj)))))
   bq))),?_⟩
  let hgl:=ci.len;rwa[⟨λ_ H'=>Q .non H',5,λ_ _ q=>q⟩];erw[12,U,12,.inr (bC.of i),112212];rwa[cq (λq=>?_) (λq=>?_)]
  ·let q:(0:Int)<(⇑(ao a):Int):=ahi q;rw[aL]at q;let f:a≠[]:=λz=>by cbv
   let⟨gv,hG,hs⟩:=h.hG;erw[12,x,_,c.dx,112,h.ins,aM T,T.kZ,oj^_,.inl ⟨21,aH.of h.hA⟩,12,x,_,c.dx,112,h.ins,aM T,T.jC,lb^_,c.aG,12,.inl (aH.of hG),c.aA,1122,h.hA,5]
   ·rw[aL,bZ];rwa[agE (show ⇑g<=100000 by omega) ⋯]
   let ea:ao (nI g)++[V.int (⇑gv:Int)]=ao (nI (g++[⇑j])):=by rw[iW,ints_app,hs.l];rfl
   rw[ea];let B:=h.agenda (g++[⇑j]);let C:∀b o,b≠c.aA->H b\o->upd H c.aA (.lst (ao (nI (g++[⇑j])))) b\o:=λb o n e=>by rw[ak n];rwa[e]
   let Y:∀b,upd H c.aA (.lst (ao (nI (g++[⇑j])))) b=none->H b=none:=λb z=>by
    by_cases e:b=c.aA
    ·rw[e,ah]at z;ext z
    ·rw[ak e]at z;rwa[z]
   generalize upd H c.aA (.lst (ao (nI (g++[⇑j]))))=R at B C Y ⊢;let u:=C _ _ (bX i h.hA (by cbv)) i;let⟨gv1,l,t⟩:=B.hG;rwa[⟨12,x,_,c.dx,112,B.ins,aM T,T.jC,lb^_,.inl ⟨21,aH.of l⟩,121212,λp I y F D=>?_⟩];let X:aq R (upd (upd R I (.own p)) p (.ins A.aJ I [])):=(aq.upd F).trans (aq.upd ([ak D.symm]▸y));rwa[⟨p,I,U,d,m,a,2,ah,X^u,3,G,λH3 f3 g3=>⟨25⟩⟩];let L:aq R H3:=λb o e=>f3 b o (X^e) (ax e y)
   erw[c.aG,1122,L^l,([t.l]▸agE (show ⇑j<=100000 by omega) ⋯)];let v:nz d a m=[(d,a,m)]:=agT f;rwa[k _ _ (Ht O p) _ (λb o n e=>?_) (λb z=>.inl z) (λb z=>z.imp id λw=>[w]▸Y p y) (B.VN l t y L g3) ([v]▸ci.begin f Z N) (by rw[v,agw,agw];show _+ 1<=_+ 1;omega)];rw[ak (λz=>n ([z]▸h.oG))];rwa[L^(C b o (λz=>n ([z]▸h.oA)) e)]
  ·let q:¬(0:Int)<(⇑(ao a):Int):=λz=>q (aha z)
   rw[aL]at q;let f:a=[]:=List.length_eq_zero_iff.mp ∅;let v:nz d a m=[]:=agX f;rwa[k j g O H (λ_ _ _ e=>e) (λb z=>z) (λb z=>.inl z) h ([v,ag9]▸ci) ([v,ag9]▸J)]
def gB (a:List (Zg×Nat))(m:Nat):List (Nat×Zg×Nat):=a.flatMap λp=>nz p.2 p.1 m
def M8 (w:Nat)(u:Zg)(m:Nat):⇑(nz w u m)<=1:=by
 unfold nz;split
 ·rwa[agW _]
 ·rwa[agA _]
theorem qj (m:Nat):∀a:List (Zg×Nat),⇑(gB a m)<=⇑a
 |[]=>agA _
 |p::l=>by
  have:=qj m l;have:=M8 p.2 p.1 m;unfold gB at *;rw[List.flatMap_cons,agw,agV];ext
def IH {a:List (Zg×Nat)}{p:Zg×Nat}(h:a[i]?\p)(m:Nat):gB (a.take (i+ 1)) m=gB (a.take i) m++nz p.2 p.1 m:=by
 unfold gB;rw[aix,h,ajA];show _++(nz p.2 p.1 m++[])=_;rw[ag9]
def Te {a:List (Zg×Nat)}{b:Zd×V}(h:(iO a)[i]?\b):∃p,a[i]?\p/\b=(p.1.map Sum.inl,.int p.2):=by
 unfold iO at h
 cbv
inductive II (CR CG CC:Zs) (vs:Zb) (H:Hp) (Q:VK) (E_:XK):Prop
 |mk (x r:Zs) (c:KA) (S:RS) (bs:List (Nat×Zg×Nat)) (gs:Zf) (ag:Zh) (W:bE) (hd:Nat) (fp:List (Zg×Nat)) (O:Zs->Prop) (Ex:Nat->Int->Prop) (m:Nat):vs=[↑x,.int m]->ck CG CC H x r c gs ag W hd fp O->H c.aQ\.dT (iO fp)->CI S bs gs ag W Ex none->(∀p∈fp,⇑p.1<=1000/\∀z∈p.1,-1000<=z/\z<=1000)->m<S.made->⇑bs+ ⇑fp<100000->⇑ag<=⇑bs->(∀i3 iP O' H',Bt O H H'->(∀b,O b->O' b)->(∀b,O' b->O b\/H b=none)->ck CG CC H' x r c i3 iP W hd fp O'->CI S (bs++gB fp m) i3 iP W Ex none->⇑iP<=⇑(bs++gB fp m)->Q .non H')->II CR CG CC vs H Q E_
def i5 (T:Txt K mg A):T.fb.Ok mg P w base 4 (II A.az A.aJ A.aD):=by
 rwa[T.fb.on fO (λcC AA outer s H vs Q E hr h=>?_)]
 ·let⟨x,r,c,S,bs,gs,ag,W,hd,f,O,Ex,m,rfl,h,I,ci,hfp,hm,sr,Tf,k⟩:=h
  refine⟨_,(aw (DU (cP ag0 rfl (Vm (aF (pv 0) rfl)) (kF rfl (cE (dB 2 fO.nd) (cE (dB 3 fO.nd) jn)))
   (aw (aU (pm (pv 0) (aM T) T.i9 (m7 T) hr (ae (pv 3) (ae (pv 2) (ae (pv 1) aj))))))))),?_⟩
  let nQ:¬O c.aQ:=h.Iy I;let nxQ:x≠c.aQ:=bX h.ins I (by cbv);rwa[⟨c.aQ,_,I,trivial,12,x,_,c.dx,112,h.ins,aM T,T.Bp,Lf^_,c.aQ,iO f,2,I,λM=>?_⟩];let k0:∀b o,b≠c.aQ->H b\o->upd H c.aQ (.cW M (.dT (iO f))) b\o:=λb o n e=>by rw[ak n];rwa[e]
  let h0:ck A.aJ A.aD (upd H c.aQ (.cW M (.dT (iO f)))) x r c gs ag W hd f O:=h.keep (λb o U e=>k0 b o (λz=>nQ (by cbv)) e) (λb xs e=>k0 b _ (bX e I (by cbv)) e)
  refine Ri (d:=c.aQ) (o:=M) (kvs:=iO f) (λi V B=>∃g a u v2 Y,V=#v[↑x,.int (m:Int),v2,Y]/\B c.aQ\.cW M (.dT (iO f))/\(∀b o,b≠c.aQ->¬O b->H b\o->B b\o)/\(∀b,O b->u b)/\(∀b,u b->O b\/H b=none)/\ck A.aJ A.aD B x r c g a W hd f u/\CI S (bs++gB (f.take i) m) g a W Ex none/\⇑a<=⇑(bs++gB (f.take i) m))
   ⟨gs,ag,O,none,none,2,ah,λb o n _ e=>k0 b o n e,λb z=>z,λb z=>.inl z,h0,by rw[List.take_zero];show CI S (bs++[]) _ _ _ _ _;rw[ag9];rwa[ci],by cbv⟩ (λi V B _ q0=>by let⟨_,_,_,_,_,_,q,_⟩:=q0;rwa[q]) ?_ ?_
  ·rintro i kv V B t kp hkv nt F ⟨g,a,u,v2,Y,rfl,R,X,C,j,c5,v,l⟩;let⟨p,hp,rfl⟩:=Te hkv;let hi:=(agx.mp hp).1
   replace F:B kp\(.tup (ao p.1)):=by
    rw[F];show some (HO.tup (((p.1.map (Sum.inl:Int->Key)).map kV)))=_;rw[ahe];rfl
   let D:=aq.upd (o:=.tup [↑kp,.int (p.2:Int)]) nt;erw[t,12,bC.of ah,21121122];generalize upd B t (.tup [↑kp,.int (p.2:Int)])=H6 at D ⊢;let U:=hfp p (agu hp);let bl:=qj m (f.take i);rw[ag8]at bl;let c6:=c5.same D;rwa[⟨12,x,c.dx,12,c6.ins,fj ⋯,121212,x,r,kp,c,S,_,g,a,W,hd,f,u,Ex,p.2,m,p.1,2,c6,v,D^F,U.1,U.2,hm,by rw[agw];ext,l,λZ ag7 O7 H7 L le7 nw7 c7 J N=>?_⟩];let G:¬u c.aQ:=λz=>(j _ z).elim nQ λq=>by cbv
   rw[ahq,<-IH hp]at J N;rwa[⟨Z,ag7,O7,112,L _ _ G (D^R),λb o n1 n2 e=>L b o (λz=>(j b z).elim n2 λq=>by cbv) (D^X b o n1 n2 e),λb z=>le7 b (C b z),λb z=>?_,c7,J,N⟩];rcases nw7 b z with w|w
   ·rwa[j b w]
   ·by_cases y:O b
    ·rwa[.inl y]
    ·rwa[.inr ?_]
     cases e:H b with
     |none=>rfl
     |some o=>
      by_cases y2:b=c.aQ
      ·rw[y2,D^R]at w;ext w
      ·rw[D^X b o y2 y e]at w;ext w
  ·rintro V B ⟨g,a,u,v2,Y,rfl,R,X,C,j,c5,v,l⟩;rw[show ⇑(iO f)=⇑f by unfold iO;cbv,aib]at v l;let G:¬u c.aQ:=λz=>(j _ z).elim nQ λq=>by cbv
   rwa[⟨M,R,k g a u _ (λb o n e=>?_) C j (c5.keep (λb o U e=>[ak (λz=>G (by cbv))]▸e) (λb xs e=>[ak (λz=>by cbv)]▸e)) v l⟩];by_cases z:b=c.aQ
   ·rw[z,ah,<-I,<-z];rwa[e]
   ·rw[ak z];rwa[X b o z n e]
def M9 (r:Zs):List (Str×V):=[("rooms",↑r)]
def Nb (r q:Zs):List (Str×V):=[("rooms",↑r),("rules",↑q)]
noncomputable def Nc (r q g:Zs):List (Str×V):=[("rooms",↑r),("rules",↑q),("goings",↑g)]
noncomputable def Nf (r q g e:Zs):List (Str×V):=[("rooms",↑r),("rules",↑q),("goings",↑g),("agenda",↑e)]
noncomputable def Ng (r q g e w:Zs):List (Str×V):=[("rooms",↑r),("rules",↑q),("goings",↑g),("agenda",↑e),("waiting",↑w)]
def Tg (r q g e w:Zs)(n:Int):List (Str×V):=[("rooms",↑r),("rules",↑q),("goings",↑g),("agenda",↑e),("waiting",↑w),("heard",.int n)]
def cz2 (r q:Zs):bJ "rules" ↑q (M9 r)=Nb r q:=dO (by kernel_rfl)
def cz3 (r q g:Zs):bJ "goings" ↑g (Nb r q)=Nc r q g:=dO (by kernel_rfl)
def cz4 (r q g e:Zs):bJ "agenda" ↑e (Nc r q g)=Nf r q g e:=dO (by kernel_rfl)
def cz5 (r q g e w:Zs):bJ "waiting" ↑w (Nf r q g e)=Ng r q g e w:=dO (by kernel_rfl)
def cz6 (r q g e w:Zs)(n:Int):bJ "heard" (.int n) (Ng r q g e w)=Tg r q g e w n:=dO (by kernel_rfl)
def kat_nil {k:Zs}(h:H k\.dK []):dU H k (λ_=>none) (λ_ _=>none) (λ_ _ _=>false):=⟨⟨[],h,by simp,(λa z=>by ext z),λ_=>rfl⟩,(λ_ _ z=>by ext z),(λ_ _ _ z=>by ext z),(λ_ _ _ z=>by ext z),(λ_ _ _ z=>by ext z),(λ_ _ z=>by ext z),(λ_ _ _ z=>by ext z),(λ_ _ _ z=>by ext z),(λ_ _ _ _ z=>by ext z),(λ_ _ _ _ _ z=>by ext z)⟩
def di (S:RS):Zh:=(List.range S.made).filter λc=>decide (S.aV[c]?\c)
def dD (a:List (Zg×Nat))(st:Zh):List (Nat×Zg×Nat):=st.flatMap λm=>gB a m
def fH (b:Za3)(a i:Nat):List (Nat×Zg×Nat):=(List.range i).flatMap λj=>nz (a+ j) (b.getD j []) 0
theorem lU (a:List (Zg×Nat)):∀st:Zh,⇑(dD a st)<=⇑st* ⇑a
 |[]=>agW _
 |m::st=>by
  have:=lU a st;have:=qj m a;unfold dD at *;rw[List.flatMap_cons,agw,agV,aj5];ext
theorem su (b:Za3)(a:Nat):∀i,⇑(fH b a i)<=i
 |0=>agA _
 |i+ 1=>by
  have:=su b a i;have:=M8 (a+ i) (b.getD i []) 0;unfold fH at *;rw[ah9,ajA,agw];show _+ ⇑(nz _ _ 0++[])<=_;rw[ag9];ext
def sv:bE:=λ_ _ _=>false
def Ti:CI S [] [] [] sv fL none:=⟨2,(λn g e=>by simp at e),(λn b e=>by simp at e),(λn z=>by ext z),(λr s n z=>by ext z),λn=>⟨(0,0),(0,0),(λr s z=>by ext z),λg e=>by simp at e⟩,(λb z=>by ext z)⟩
inductive IJ (CR CG CC:Zs) (vs:Zb) (H:Hp) (Q:VK) (E_:XK):Prop
 |mk (x dx r ru pa:Zs) (S:RS) (a:RA) (R:Za2) (rs ps:Za3):vs=[↑x,↑r,↑ru,↑pa]->H x\.ins CC dx []->ay CR H r S a->Good S [] R->0<S.made->S.made<=2000->¬a.own r x->bG H ru rs->bG H pa ps->⇑rs<=400->⇑ps<=400->(∀u∈rs++ps,⇑u<=1000/\∀z∈u,-1000<=z/\z<=1000)->(∀fp,yd rs fp->S.made* ⇑fp+ ⇑ps<50000)->(∀c gs ag fp O H',(∀b o,H b\o->b≠x->H' b\o)->ck CG CC H' x r c gs ag sv ⇑S.aY fp O->H' c.aQ\.dT (iO fp)->(∀b,O b->b=x\/H b=none)->CI S (dD fp (di S)++fH ps ⇑rs ⇑ps) gs ag sv fL none->⇑ag<=⇑(dD fp (di S)++fH ps ⇑rs ⇑ps)->yd rs fp->Q .non H')->IJ CR CG CC vs H Q E_
def qQ (T:Txt K mg A):T.eV.Ok mg P w base 5 (IJ A.az A.aJ A.aD):=by
 rwa[T.eV.on fh (λcC AA outer s H vs Q E hr h=>?_)]
 ·let⟨x,B,r,ru,pa,S,a,R,rs,ps,rfl,hx,hR,gd,hm0,hm,Ez,IK,za,y6,qx,Xv,Lj,k⟩:=h
  refine⟨_,(ai (bY (pv 0) (pv 1) rfl)
   (ai (bY (pv 0) (pc T.mU (wW T) hr (ae (pv 2) aj)) rfl)
   (ai (bY (pv 0) (bU aj) rfl)
   (ai (bY (pv 0) (bU aj) rfl)
   (ai (bY (pv 0) fJ rfl)
   (ai (bY (pv 0) (bN bM rfl T.fe ahx (ae (aF (pv 1) rfl) aj)) rfl)
   (ai (cP ag0 rfl (da (vR (pv 1) (aI T) T.eP (fX T) hr)) (dB 4 fh.nd)
    (aw (aU (pm (pv 0) (aM T) T.fb (i5 T) hr (ae (pv 4) aj)))))
   (aw (cP ag0 rfl (Hs rfl T.oz (pv 3) (bN bM rfl T.fe ahx (ae (pv 2) aj))) (kF rfl (cE (dB 5 fh.nd) (cE (dB 6 fh.nd) jn)))
    (aw (aU (pm (pv 0) (aM T) T.i9 (m7 T) hr (ae (pv 5) (ae (pv 6) (ae au aj))))))))))))))),?_⟩
  rwa[AF ?_];intro Ik BI qK oh jV fS gy;let⟨Tj,Nh,EA⟩:=id IK;let⟨L,Ni,Tn⟩:=id za
  let st:∀{H0:Hp} {fs gs:List (Str×V)},H0 x\.ins A.aD B fs->(∀b o,H b\o->b≠x->H0 b\o)->upd H0 x (.ins A.aD B gs) x\.ins A.aD B gs/\(∀b o,H b\o->b≠x->upd H0 x (.ins A.aD B gs) b\o)/\(∀b o,b≠x->H0 b\o->upd H0 x (.ins A.aD B gs) b\o)/\∀b,upd H0 x (.ins A.aD B gs) b=none->H0 b=none:=λ_ h=>⟨ah,λb o e n=>[ak n]▸h b o e n,λb o n e=>[ak n]▸e,λb z=>by
   by_cases e:b=x
   ·rw[e,ah]at z;ext z
   ·rw[ak e]at z;rwa[z]⟩
  let o0:∀b o,H b\o->b≠x->H b\o:=λb o e _=>e
  let To:ru≠x:=bX Nh hx (by cbv);let Tp:pa≠x:=bX Ni hx (by cbv);erw[1212,x,_,B,12,hx,aM T,T.eZ,(by show 0<1000;decide)];rw[show bJ "rooms" ↑r []=M9 r from rfl];obtain⟨x1,o1,-,n1⟩:=st (gs:=M9 r) hx o0;generalize upd H x (.ins A.aD B (M9 r))=H1 at x1 o1 n1 ⊢;let Xw:bG H1 ru rs:=⟨Tj,o1 _ _ Nh To,EA.1,λi q u e1 e2=>o1 _ _ (EA.2 i q u e1 e2) (bX (EA.2 i q u e1 e2) hx (by cbv))⟩;rwa[⟨12,ru,rs,2,Xw,3,λq d H2 s2 nq hq Tq=>?_⟩];let x2:=s2^x1;let o2:∀b o,H b\o->b≠x->H2 b\o:=λb o e n=>s2^o1 b o e n
  let n2:∀b,H2 b=none->H b=none:=λb z=>n1 b (same_none s2 z)
  erw[12,x,_,B,12,x2,aM T,T.Bp,(by show 1<1000;decide)];rw[cz2];let Z:q≠x:=bX hq x2 (by cbv);let⟨x3,o3,k3,n3⟩:=st (gs:=Nb r q) x2 o2;generalize upd H2 x (.ins A.aD B (Nb r q))=X at x3 o3 k3 n3 ⊢;let q3:=k3 _ _ Z hq;rwa[⟨agW _,λg ng=>?_⟩];let M:=aq.upd (o:=.lst []) ng;let g4:upd X g (.lst []) g\(.lst []):=ah;let n4:∀b,upd X g (.lst []) b=none->H b=none:=λb z=>n2 b (n3 b (same_none M z))
  let ng0:=n2 g (n3 g ng);generalize upd X g (.lst [])=H4 at M g4 n4 ⊢;erw[12,x,_,B,12,M^x3,aM T,T.jC,(by show 2<1000;decide)];rw[cz3];let⟨x5,o5,k5,n5⟩:=st (gs:=Nc r q g) (M^x3) (λb o e n=>M^o3 b o e n);generalize upd H4 x (.ins A.aD B (Nc r q g))=H5 at x5 o5 k5 n5 ⊢;let IL:g≠x:=bX g4 (M^x3) (by cbv);let q5:=k5 _ _ Z (M^q3);let g5:=k5 _ _ IL g4;rwa[⟨agW _,λe ne=>?_⟩];let s6:=aq.upd (o:=.lst []) ne;let e6:upd H5 e (.lst []) e\(.lst []):=ah;let n6:∀b,upd H5 e (.lst []) b=none->H b=none:=λb z=>n4 b (n5 b (same_none s6 z))
  let IQ:=n4 e (n5 e ne);let Xx:g≠e:=ax g5 ne;generalize upd H5 e (.lst [])=H6 at s6 e6 n6 ⊢;erw[12,x,_,B,12,s6^x5,aM T,T.kZ,(by show 3<1000;decide)];rw[cz4];let⟨x7,o7,k7,n7⟩:=st (gs:=Nf r q g e) (s6^x5) (λb o e n=>s6^o5 b o e n);generalize upd H6 x (.ins A.aD B (Nf r q g e))=H7 at x7 o7 k7 n7 ⊢;let vO:e≠x:=bX e6 (s6^x5) (by cbv);let q7:=k7 _ _ Z (s6^q5);let g7:=k7 _ _ IL (s6^g5);let e7:=k7 _ _ vO e6;rwa[λw nw=>?_]
  let Y:=aq.upd (o:=.dK []) nw;let w8:upd H7 w (.dK []) w\(.dK []):=ah;let n8:∀b,upd H7 w (.dK []) b=none->H b=none:=λb z=>n6 b (n7 b (same_none Y z))
  let nw0:=n6 w (n7 w nw);generalize upd H7 w (.dK [])=H8 at Y w8 n8 ⊢;erw[12,x,_,B,12,Y^x7,aM T,T.jT,(by show 4<1000;decide)];rw[cz5];let⟨x9,o9,k9,n9⟩:=st (gs:=Ng r q g e w) (Y^x7) (λb o e n=>Y^o7 b o e n);generalize upd H8 x (.ins A.aD B (Ng r q g e w))=H9 at x9 o9 k9 n9 ⊢;let Ts:w≠x:=bX w8 (Y^x7) (by cbv);let R9:ay A.az H9 r S a:=hR.keep (λb o hb e=>o9 b o e (λz=>Ez (by cbv))) (λb xs e=>o9 b _ e (bX e hx (by cbv)));erw[12,r,_,a.dx,112,R9.ins,aI T,T.sg,sV^_,a.aN,12,.inl (aH.of R9.hN),12,x,_,B,12,x9,aM T,T.m2,(by show 5<1000;decide)];rw[aL,bZ,cz6];let⟨xa,oa,ka,na⟩:=st (gs:=Tg r q g e w ⇑S.aY) x9 o9;generalize upd H9 x (.ins A.aD B (Tg r q g e w ⇑S.aY))=Ha at xa oa ka na ⊢;let up:∀b o,b≠x->H8 b\o->Ha b\o:=λb o n z=>ka b o n (k9 b o n z)
  let cA:ck A.aJ A.aD Ha x r ⟨B,q,g,e,w⟩ [] [] sv ⇑S.aY d (λb=>b=x\/b=g\/b=e\/b=w):=by
   rwa[⟨xa,⟨[],up _ _ IL (Y^g7),2,(λi v z=>by simp at z),(λi v u z=>by simp at z),(λi j p z=>by simp at z)⟩,up _ _ vO (Y^e7),⟨11,kat_nil (up _ _ Ts w8),⟨λb hb=>?_,(λ_ _ z=>by ext z),(λ_ _ _ z=>by ext z),(λ_ _ _ z=>by ext z)⟩⟩,Xx,.inl rfl,.inr (.inl rfl),.inr (.inr (.inl rfl)),λb hb=>?_⟩]
   ·rcases hb with z|⟨_,z⟩|⟨_,_,z⟩
    ·rwa[.inr (.inr (.inr z))]
    ·ext z
    ·ext z
   ·rcases hb with z|z|z|z
    ·rw[z];rwa[_,xa,(by cbv),(by cbv),(by cbv),by cbv]
    ·rw[z];rwa[_,up _ _ IL (Y^g7),(by cbv),(by cbv),(by cbv),by cbv]
    ·rw[z];rwa[_,up _ _ vO (Y^e7),(by cbv),(by cbv),(by cbv),by cbv]
    ·rw[z];rwa[_,up _ _ Ts w8,(by cbv),(by cbv),(by cbv),by cbv]
  let qa:=up _ _ Z (Y^q7)
  let Oa:∀b,(b=x\/b=g\/b=e\/b=w)->b=x\/H b=none:=λb z=>by
   cbv
  let Ra:ay A.az Ha r S a:=hR.keep (λb o hb e=>oa b o e (λz=>Ez (by cbv))) (λb xs e=>oa b _ e (bX e hx (by cbv)));let nA:∀b,Ha b=none->H b=none:=λb z=>n8 b (n9 b (na b z))
  obtain⟨O,eO⟩:∃O:Zs->Prop,O=λb=>b=x\/b=g\/b=e\/b=w:=⟨12⟩
  rw[<-eO]at cA;replace Oa:∀b,O b->b=x\/H b=none:=by rw[eO];rwa[Oa]
  clear eO;generalize ec:(⟨B,q,g,e,w⟩:KA)=c at cA;let qa:Ha c.aQ\(.dT (iO d)):=by rw[<-ec];rwa[qa]
  clear g7 e7 w8 x9 o9 k9 n9 Y n8 x7 o7 k7 n7 s6 n6 e6 x5 o5 k5 n5 M g4 n4 x3 o3 k3 n3 x1 o1 n1 x2 o2 n2 up ka q7 q5 q3 g5 xa na R9 nw0 IQ ng0 nw ne ng Xx vO IL Ts hq nq s2 Z Xw;let hfb:∀p∈d,⇑p.1<=1000/\∀z∈p.1,-1000<=z/\z<=1000:=λp hp=>Xv _ (agU _ (agu (Tq.a p hp)))
  let Lj:=Lj d Tq;rwa[⟨12,r,a.dx,12,Ra.ins,cL _ _ _ ⋯,r,S,a,2,Ra,gd.wf,3,λl nl=>?_⟩];let sl:⇑(di S)<=S.made:=agJ (aiJ _ _) (by cbv);let stm:∀m∈di S,m<S.made:=λm hm=>ahr.mp (aik.mp hm).1
  let Xy:⇑(di S)* ⇑d<=S.made* ⇑d:=aiR _ sl;let sb:=aq.upd (o:=.lst (ao (nI (di S)))) nl;let hl:upd Ha l (.lst (ao (nI (di S)))) l\(.lst (ao (nI (di S)))):=ah;show ∃a_1,_;rw[show (List.range S.made).filter (λc=>decide (S.aV[c]?\c))=di S from rfl];let nl0:=nA l nl;let nlO:¬O l:=λz=>by let⟨o,e,_⟩:=cA.th l z;cbv
  generalize upd Ha l (.lst (ao (nI (di S))))=Hb at sb hl ⊢;let cB:=cA.same sb;erw[l,2,⟨_,aH.of hl⟩]
  refine fI (K:=K) (a:=l) (xs:=ao (nI (di S))) (λi σ H2=>∃U J O2 v4,σ=#v[↑x,↑r,↑ru,↑pa,v4,none,none]/\(∀b o,¬O b->Hb b\o->H2 b\o)/\(∀b,O b->O2 b)/\(∀b,O2 b->O b\/Hb b=none)/\ck A.aJ A.aD H2 x r c U J sv ⇑S.aY d O2/\CI S (dD d ((di S).take i)) U J sv fL none/\⇑J<=⇑(dD d ((di S).take i)))
   ⟨[],[],O,none,2,λ_ _ _ e=>e,λb z=>z,λb z=>.inl z,cB,Ti,agA _⟩ (λi σ H2 _ q0=>by let⟨_,_,_,_,_,f,_⟩:=q0;rwa[aH.of (f _ _ nlO hl)]) ?_ ?_
  ·rintro i v σ H2 hi ⟨U,J,O2,v4,rfl,f2,M7,B9,c2,B1,IU⟩;let⟨z,rfl,hz⟩:=cR hi
   obtain⟨m,Tt,rfl⟩:∃m,(di S)[i]?\m/\z=(m:Int):=by
    unfold nI at hz
    cbv
   let I:=(agx.mp Tt).1;let nQ:¬O c.aQ:=cA.Iy qa;let q2:=f2 _ _ nQ (sb^qa);let ll:=lU d ((di S).take i);rw[ag8,aiC ∅]at ll;let li:(i+ 1)* ⇑d<=⇑(di S)* ⇑d:=aiR _ I;rw[aj5]at li;rwa[⟨12,x,c.dx,12,c2.ins,fj ⋯,12,x,r,c,S,_,U,J,sv,⇑S.aY,d,O2,fL,m,2,c2,q2,B1,hfb,stm m (agu Tt),3,IU,λD C O3 X b3 Xu N c3 F G=>?_⟩]
   let es:dD d ((di S).take (i+ 1))=dD d ((di S).take i)++gB d m:=by
    unfold dD;rw[aix,Tt,ajA];show _++(gB d m++[])=_;rw[ag9]
   rw[<-es]at F G;rwa[⟨D,C,O3,12,λb o n e=>b3 b o (λz=>(B9 b z).elim n λy=>by cbv) (f2 b o n e),λb z=>Xu b (M7 b z),λb z=>?_,c3,F,G⟩];rcases N b z with y|y
   ·rwa[B9 b y]
   ·by_cases y2:O b
    ·rwa[.inl y2]
    ·rwa[.inr ?_]
     cases e:Hb b with
     |none=>rfl
     |some o=>rw[f2 b o y2 e]at y;ext y
  rintro σ H2 ⟨U,J,O2,v4,rfl,f2,M7,B9,c2,B1,IU⟩;rw[aL,bZ,aib]at B1 IU;let ll:=lU d (di S);let Tv:Hb pa\(.lst (L.map V.ref)):=sb^oa _ _ Ni Tp;let BZ:∀{b o},H b\o->b≠x->¬O b:=λ{b o} e n z=>(Oa b z).elim n λy=>by cbv
  let aao:=f2 _ _ (BZ Ni Tp) Tv;let aap:=f2 _ _ (BZ Nh To) (sb^oa _ _ Nh To);let lr:⇑(Tj.map V.ref)=⇑rs:=by rw[agy,EA.1]
  erw[1212,ru,12,.inl (aH.of aap),pa,(⇑(Tj.map V.ref):Int),2233,⟨_,aH.of aao⟩];rw[lr]
  refine Fq (K:=K) (a:=pa) (xs:=L.map V.ref) (λi σ X=>∃D C O3 v5 v6,σ=#v[↑x,↑r,↑ru,↑pa,v4,v5,v6]/\(∀b o,¬O b->Hb b\o->X b\o)/\(∀b,O3 b->O b\/Hb b=none)/\ck A.aJ A.aD X x r c D C sv ⇑S.aY d O3/\CI S (dD d (di S)++fH ps ⇑rs i) D C sv fL none/\⇑C<=⇑(dD d (di S)++fH ps ⇑rs i))
   ⟨U,J,O2,none,none,2,f2,B9,c2,by show CI S (_++[]) _ _ _ _ _;rw[ag9];rwa[B1],by show _<=⇑(_++[]);rw[ag9];rwa[IU]⟩ (λi σ X _ q0=>by let⟨_,_,_,_,_,_,f,_⟩:=q0;rwa[aH.of (f _ _ (BZ Ni Tp) Tv)]) ?_ ?_
  ·rintro i v σ X t hi nt ⟨D,C,O3,v5,v6,rfl,f3,N,c3,F,G⟩
   let I:i<⇑L:=by
    have:=(agx.mp hi).1;rw[agy]at this;rwa[this]
   let Tw:i<⇑ps:=by rw[<-Tn.1];rwa[I]
   let g1:L[i]?\(L[i]'I):=agv I
   let g2:ps[i]?\(ps[i]'Tw):=agv Tw
   rw[agR,g1]at hi;obtain rfl:V.ref (L[i]'I)=v:=Za0 hi;generalize L[i]'I=wa at g1;generalize ps[i]'Tw=u at g2;let wY:=Tn.2 i wa u g1 g2;let Xz:wa≠x:=bX wY hx (by cbv);let aaq:=f3 _ _ (BZ wY Xz) (sb^oa _ _ wY Xz);let M:=aq.upd (o:=.tup [.int ((⇑rs:Int)+ (i:Int)),↑wa]) nt;erw[t,12,bC.of ah,21121122];generalize upd X t (.tup [.int ((⇑rs:Int)+ (i:Int)),↑wa])=H4 at M ⊢;let c4:=c3.same M;let pl:=su ps ⇑rs i;let XA:=Xv u (agB _ (agu g2));rwa[⟨12,x,c.dx,12,c4.ins,fj ⋯,1212,x,r,wa,c,S,_,D,C,sv,⇑S.aY,d,O3,fL,⇑rs+ i,(0),u,2,c4,F,M^aaq,XA.1,XA.2,hm0,by rw[agw];ext,G,λgs5 Ta O5 H5 b5 le5 nw5 c5 IV XB=>?_⟩]
   let ep:fH ps ⇑rs (i+ 1)=fH ps ⇑rs i++nz (⇑rs+ i) u 0:=by
    unfold fH;rw[ah9,ajA];show _++(nz (⇑rs+ i) (ps.getD i []) 0++[])=_;rw[ag9,agD,g2];rfl
   rw[ahq,<-ep]at IV XB;rwa[⟨gs5,Ta,O5,112,λb o n e=>b5 b o (λz=>(N b z).elim n λy=>by cbv) (M^f3 b o n e),λb z=>?_,c5,IV,XB⟩];rcases nw5 b z with y|y
   ·rwa[N b y]
   ·by_cases y2:O b
    ·rwa[.inl y2]
    ·rwa[.inr ?_]
     cases e:Hb b with
     |none=>rfl
     |some o=>rw[M^f3 b o y2 e]at y;ext y
  ·rintro σ X ⟨D,C,O3,v5,v6,rfl,f3,N,c3,F,G⟩;rw[agy,Tn.1]at F G;rwa[k c D C d O3 X (λb o e n=>f3 b o (BZ e n) (sb^oa b o e n)) c3 (f3 _ _ (cA.Iy qa) (sb^qa)) (λb z=>?_) F G Tq];rcases N b z with y|y
   ·rwa[Oa b y]
   ·rwa[.inr (nA b (same_none sb y))]
def Cb {rs:Za3}{a:List (Zg×Nat)}(h:yd rs a):⇑a<=⇑rs:=by
 let f:(a.map (·.2)).Nodup:=by
  have:=h.n;unfold List.Nodup at this ⊢;rw[aih]at this ⊢
  exact this.imp_of_mem λ{p q} b d n e=>n (by
   let i:=h.a p b;let g:=h.a q d
   cbv)
 have:=lM ⇑rs _ f λn c=>by
  let⟨p,b,rfl⟩:=ahp.mp c;rwa[(agx.mp (h.a p b)).1]
 rw[agy]at this;rwa[this]
def wZ {b:Nat×Zg×Nat}{w:Nat}(h:b∈nz w l m):b=(w,l,m)/\l≠[]:=by
 unfold nz at h
 cbv
def Ge {w:Nat}(h:l≠[]):(w,l,m)∈nz w l m:=by
 unfold nz;cbv
def Pn {c:List (Zg×Nat)}{st:Zh}{a:Za3}{b:Nat×Zg×Nat}(h:b∈dD c st++fH a n ⇑a):(∃p∈c,b.1=p.2/\b.2.1=p.1/\b.2.2∈st)\/∃j u,a[j]?\u/\b=(n+ j,u,0):=by
 rcases agH.mp h with q|q
 ·let⟨m,d,q⟩:=aic.mp q;let⟨p,e,q⟩:=aic.mp q;let⟨rfl,_⟩:=wZ q;rwa[.inl ⟨p,e,22,d⟩]
 ·let⟨j,f,q⟩:=aic.mp q;let⟨rfl,_⟩:=wZ q
  cbv
def ends {bs:List (Nat×Zg×Nat)}{d:Zf}{W:bE}(ci:CI S bs d [] W fL none)(x:Good S [] R){b:Nat×Zg×Nat}(t:b∈bs)(a:S.av b.2.2=b.2.2):DY S b.2.2 b.2.1:=by
 let⟨n,f⟩:=ahc t;let B:n<⇑d:=by rw[ci.len];rwa[(agx.mp f).1]
 cases q:d[n]? with
 |none=>cbv
 |some y=>
  cases y with
  |none=>
   rcases ci.de n b q (by cbv) f with z|z
   ·rwa[absurd a z]
   ·rwa[.inl z]
  |some g=>
   let⟨e,c,z⟩:=ci.al n g q;rw[f]at e;obtain rfl:=Za0 e;rcases z with z|z|⟨lt,p,u⟩
   ·ext z
   ·ext z
   ·let⟨m,_,k,_,_,_,_,f1⟩:=ci.en _ _ _ p;let⟨s,_,h,_,_,_,_,f2⟩:=ci.en _ _ _ u;let k:m=g.front:=∅
    let h:s=g.bu:=∅
    subst k h;rcases f1 with ⟨o,v⟩|f1
    ·rcases f2 with ⟨r,l⟩|f2
     ·let j:=c.wf;let i:=c.wr;let a:S.av g.start=g.start:=a;rw[a,o]at j;rw[a,r]at i;rwa[.inr ⟨g.first,g.last,g.front,g.bu,g.z1,-g.z2,lt,Gg.qw (by have:=c.ll;omega),Gg.at2 c.ll,j,v,i,[air]▸l⟩]
     ·rwa[f2.elim]
    ·rwa[f1.elim]
inductive Pp (CR CG CC:Zs) (vs:Zb) (H:Hp) (Q:VK) (E_:XK):Prop
 |mk (r ru pa:Zs) (S:RS) (a:RA) (R:Za2) (ks:Zg) (B:Nat) (rs ps:Za3):vs=[↑r,↑ru,↑pa]->iQ CR H r S a R ks B->0<S.made->B<800000->bG H ru rs->bG H pa ps->⇑rs<=400->⇑ps<=400->S.made* ⇑rs+ ⇑ps<=700->(∀u∈rs++ps,⇑u<=1000/\∀z∈u,(-1000<=z/\z<=1000)/\z∈ks/\-z∈ks)->(∀S' a' R' B' H',(∀b o,¬a.own r b->H b\o->H' b\o)->iQ CR H' r S' a' R' ks B'->(∀b,a'.own r b->a.own r b\/H b=none)->(∀a z b,R a z b->R' a z b)->S'.made=S.made->S'.L=S.L->Tr (rs++ps) ⇑rs S S'->uI rs ps S'->B'<=B+ 700->Q .non H')->Pp CR CG CC vs H Q E_
noncomputable def eD (z:Int):Int:=if z > 0 then 2* z - 2 else -2* z - 1
def IW (k:Nat):eD (M12.st k)=k:=by
 unfold eD M12.st;by_cases h:k % 2=0
 ·rw[agX h,agX ∅];ext
 ·rw[agT h,agT ∅];ext
def yg (h:eD z=eD y):z=y:=by
 unfold eD at h;split at h <;> split at h <;> ext
def Pq:Sp:=λa H Q _=>∃z:Int,a=[.int z]/\Q (.int (eD z)) H
def pB (l:Zg):V:=(l.head?.map V.int).getD .non
inductive Tx (C:Zs) (vs:Zb) (H:Hp) (Q:VK) (E_:XK):Prop
 |mk (r:Zs) (S:RS) (a:RA) (c:Nat):vs=[↑r,.int c]->ay C H r S a->c<⇑S.gaps->Q (pB (S.gap c)) H->Tx C vs H Q E_
def Dh (T:Txt K mg A):T.mV.Ok P w base 1 Pq:=by
 rwa[T.mV.on Dd (λc d a s H e Q E f h=>?_) (len:=by rintro _ _ _ _ ⟨z,rfl,_⟩;rfl)]
 ·let⟨z,rfl,k⟩:=h
  refine⟨_,(ai (bI (bf zK (pv 0) au (bh _))
   (aw (bx (aK jH (aK mn au (pv 0)) au)))
   bq)
   (aw (bx (aK jH (aK mn (eG dw au) (pv 0)) au)))),?_⟩
  rwa[jf ?_];intro b;erw[12112212];unfold eD at k;rwa[cq (λh=>?_) (λh=>?_)]
  ·rw[agX (ahi h)]at k;rwa[121122,.inl ⟨44⟩,1122,k]
  ·rw[agT (λq=>h (aha q))]at k;rwa[12121122,.inl ⟨44⟩,1122,k]
def iu (T:Txt K mg A):T.fD.Ok mg P w base 1 (Tx A.az):=by
 rwa[T.fD.on k8 (λy I n s H J Q E G h=>?_)]
 ·let⟨r,S,a,c,rfl,h,F,k⟩:=h
  erw[_,(ai (DU (cP ag0 rfl (Vk (bF bO (aF (pv 0) rfl) (pv 1) (λ_ _=>rfl))) (dB 2 k8.nd)
   (aw (bx (pv 2)))))
   (aw (bx cX)))]
  rwa[jf ?_];intro v;let C:=wO F;let⟨p,x,m⟩:=h.rG.at C;erw[p,.dK (gK (S.gap c)),m,True.intro];rwa[⟨12,r,_,a.dx,112,h.ins,aI T,T.r9,sU^_,12,a.aG,11122,aH.of h.hG,dM x,p,gK (S.gap c),2,m,λo=>?_⟩]
  let back:upd (upd H p (.cW o (.dK (gK (S.gap c))))) p (.dK (gK (S.gap c)))=H:=by
   rw[Ny]
   funext b
   by_cases t:b=p
   ·rw[t,ah,m]
   ·rw[ak t]
  rwa[Rh (d:=p) (o:=o) (kvs:=gK (S.gap c)) (λi g j=>g=#v[↑r,.int c,none]/\j=upd H p (.cW o (.dK (gK (S.gap c))))/\i=0) ⟨222⟩ (λi g j _ q=>[q.2.1]▸ah) ?_ ?_]
  ·rintro i B g j f ⟨rfl,rfl,rfl⟩
   let e:∃z,(S.gap c).head?\z/\kV B.1=.int z:=by
    unfold gK at f;rw[agR]at f
    cases q:(S.gap c)[0]? with
    |none=>rw[q]at f;ext f
    |some z=>
     rw[q]at f;erw[z,[List.head?_eq_getElem?]▸q];rw[<-Za0 f];rfl
   let⟨z,D,l⟩:=e;rw[l];erw[12,o,ah];rw[back];have:pB (S.gap c)=.int z:=by unfold pB;rw[D];rfl
   rw[<-this];rwa[k]
  ·rintro g j ⟨rfl,rfl,e⟩;erw[o,ah];rw[back];have:S.gap c=[]:=ahC (by unfold gK at e;cbv);let l:pB (S.gap c)=.non:=by rw[this];rfl
   show Q V.non H;rw[<-l];rwa[k]
def dm:Pos:=⟨(167),(29),(167),(57)⟩
def gC:Str:=(PyProof.Rows.envOfC "ByLetters.gap" (aB jP) 0 0 .none).qual++"<lambda>"
def Kp (a:Zs)(H c:Hp):Prop:=∀b u,b≠a->H b\u->c b\u
def Kp.refl:Kp a H H:=λ_ _ _ e=>e
def Kp.trans (c:Kp a H I)(b:Kp a I J):Kp a H J:=λx u n e=>b x u n (c x u n e)
def Kp.same (b:aq H I):Kp a H I:=λx u _ e=>b x u e
def _root_.Lake.L2.cU.same {pos:Pos}(h:cU a pos x H)(s:aq H I):cU a pos x I:=h.keep λb u e _=>s b u e
def cS (S:RS)(L c:Nat)(z:Int):Prop:=c<S.made/\S.aV[c]?\c/\z∈a9 (2* L)/\S.by c z=none
def rk (w c:Nat)(z:Int):Zg:=if w=0 then [(c:Int),eD z] else if w=1 then [eD z,(c:Int)] else [-(c:Int),eD z]
def hO (w:Nat)(S:RS)(L c:Nat)(z:Int):Prop:=cS S L c z/\∀a b,cS S L a b->HT.lexLt (rk w a b) (rk w c z)=false
structure GL (S:RS) (L:Nat):Prop where
 wf:S.Wf
 m:S.made<=100000
 l2:L<=200
 gp:∀c,c<S.made->S.aV[c]?\c->S.gap c=(a9 (2* L)).filter λz=>(S.by c z).isNone
inductive jX (C Pt D:Zs) (w:Nat) (vs:Zb) (H:Hp) (Q:VK) (E_:XK):Prop
 |mk (o dx r:Zs) (S:RS) (a:RA) (L:Nat):vs=[↑o,↑r]->H o\.ins D dx []->ay C H r S a->GL S L->cU Pt dm gC H->((∀c z,¬cS S L c z)->∀H',Kp Pt H H'->cU Pt dm gC H'->Q .non H')->(∀(c:Nat) (z:Int),hO w S L c z->∀t H',Kp Pt H H'->cU Pt dm gC H'->H' t\.tup [.int (c:Int),.int z]->Q ↑t H')->jX C Pt D w vs H Q E_
def b9 (S:RS):Zh:=(List.range S.made).filter λc=>decide (S.aV[c]?\c)
def gQ:n∈b9 S↔n<S.made/\S.aV[n]?\n:=by
 unfold b9;rw[aik,ahr];simp
def yh (S:RS):(b9 S).Pairwise (·< ·):=List.Pairwise.filter _ ajY
def VP (n:Nat):(a9 n).Pairwise λa b=>eD a<eD b:=by
 unfold a9;rw[aih];rwa[List.Pairwise.imp (λh=>?_) (ajY (n:=n))];rw[IW,IW];ext
def Gf (pw:l.Pairwise λa b=>eD a<eD b){z:Int}(h:l.head?\z):z∈l/\∀y∈l,eD z<=eD y:=by
 cases l with
 |nil=>ext h
 |cons x l=>
  let e:x=z:=Za0 h;subst e;rwa[⟨agM,λy c=>?_⟩];rcases agN.mp c with rfl|c
  ·rwa[Int.le_refl _]
  ·rwa[Int.le_of_lt ((List.pairwise_cons.mp pw).1 y c)]
def GL.head (g:GL S n)(hc:m<S.made)(f:S.aV[m]?\m):(∀z,(S.gap m).head?\z->cS S n m z/\∀y,cS S n m y->eD z<=eD y)/\((S.gap m).head?=none->∀y,¬cS S n m y):=by
 let e:=g.gp m hc f
 let mem:∀y,cS S n m y↔y∈S.gap m:=λy=>by
  rw[e,aik];constructor
  ·rintro ⟨_,_,d,c⟩;rwa[d,by rw[c];rfl]
  ·rintro ⟨d,c⟩;rwa[hc,f,d,by simpa using c]
 let pw:(S.gap m).Pairwise λa b=>eD a<eD b:=by rw[e];rwa[(VP _).filter _]
 rwa[⟨λz hz=>?_,λi y h=>?_⟩]
 ·let⟨d,c⟩:=Gf pw hz;rwa[(mem z).mpr d,λy h=>c y ((mem y).mp h)]
 cbv
def eF (S:RS)(cs:Zh):Option (Nat×Int):=cs.findSome? λc=>(S.gap c).head?.map λz=>(c,z)
theorem Dj (h:eF S B=none):∀c∈B,(S.gap c).head?=none:=λc a=>by
 unfold eF at h;rw[List.findSome?_eq_none_iff]at h;have:=h c a
 cases q:(S.gap c).head? with
 |none=>rfl
 |some z=>cbv
theorem ui {S:RS}:∀{cs:Zh} {c:Nat} {z:Int},eF S cs\(c,z)->∃i:Nat,cs[i]?\c/\(S.gap c).head?\z/\∀j b:Nat,j<i->cs[j]?\b->(S.gap b).head?=none
 |[],_,_,h=>by ext h
 |x::cs,c,z,h=>by
  unfold eF at h;rw[List.findSome?_cons]at h
  cases q:(S.gap x).head? with
  |some y=>
   rw[q]at h;let h:(x,y)=(c,z):=Za0 h;injection h with d a
   subst d a;rwa[(0),2,q,λj b f=>absurd f (Nat.not_lt_zero _)]
  |none=>
   rw[q]at h;let⟨i,d,a,g⟩:=ui (cs:=cs) h;rwa[⟨i+ 1,d,a,λj b f e=>?_⟩]
   cases j with
   |zero=>rw[<-Za0 e];rwa[q]
   |succ j=>exact g j b ∅ e
inductive EB (C:Zs) (vs:Zb) (H:Hp) (Q:VK) (E_:XK):Prop
 |mk (r l:Zs) (S:RS) (a:RA) (cs:Zh):vs=[↑r,↑l]->ay C H r S a->H l\.lst (ao (nI cs))->(∀c∈cs,c<⇑S.gaps)->(eF S cs=none->Q .non H)->(∀(c:Nat) (z:Int),eF S cs\(c,z)->∀t,H t=none->Q ↑t (upd H t (.tup [.int (c:Int),.int z])))->EB C vs H Q E_
def Dl {cs:Zh}(c:cs[i]?\n)(a:eF S (cs.take i)=none):(∀z,(S.gap n).head?\z->eF S cs\(n,z))/\((S.gap n).head?=none->eF S (cs.take (i+ 1))=none):=by
 let e:cs.take (i+ 1)=cs.take i++[n]:=by rw[List.take_add_one,c];rfl
 constructor
 ·intro z b;let d:cs=cs.take (i+ 1)++cs.drop (i+ 1):=(ahJ _ _).symm;unfold eF at a ⊢;rw[d,e,ahq,List.findSome?_append,a,Option.none_or,aip,List.findSome?_cons,b];rfl
 ·intro b;unfold eF at a ⊢
  cbv
def uj (T:Txt K mg A):T.mD.Ok P w base 2 (EB A.az):=by
 rwa[T.mD.on oC (λu M m s H N Q E B h=>?_)]
 ·let⟨r,l,S,a,cs,rfl,h,n,J,G,q⟩:=h
  erw[_,(ai (cP ag0 rfl (da (pv 1)) (dB 2 oC.nd)
   (ai (bD 3 oC.nd (pm (pv 0) (aI T) T.fD (iu T) B (ae (pv 2) aj)))
   (aw (bI (bf lY (pv 3) cX (bh _))
    (aw (bx (cQ (ae (pv 2) (ae (pv 3) aj)))))
    bq))))
   (aw (bx cX)))]
  rwa[jf ?_];intro p;erw[12,l,2,⟨_,aH.of n⟩];rwa[fI (K:=K) (a:=l) (xs:=ao (nI cs)) (λi d j=>∃v k,d=#v[↑r,↑l,v,k]/\j=H/\eF S (cs.take i)=none) ⟨none,none,222⟩ (λi d j _ ζ=>by let⟨_,_,_,e,_⟩:=ζ;rwa[[e]▸aH.of n]) ?_ ?_]
  ·rintro i x d j o ⟨v,k,rfl,rfl,f⟩;let⟨z,rfl,I⟩:=cR o
   obtain⟨c,b,rfl⟩:∃c:Nat,cs[i]?\c/\z=(c:Int):=by
    unfold nI at I
    cbv
   let⟨F,D⟩:=Dl b f;erw[12,r,a.dx,12,h.ins,212,r,S,a,c,2,h,J c (agu b)];erw[12212]
   cases g:(S.gap c).head? with
   |none=>
    let e:pB (S.gap c)=.non:=by unfold pB;rw[g];rfl
    rw[e];rwa[some (.int c),some .non,22,D g]
   |some y=>
    let e:pB (S.gap c)=.int y:=by unfold pB;rw[g];rfl
    rw[e];rwa[1212,by show 2<=sizeLine;decide,λt C=>q c y (F y g) t C]
  ·rintro d j ⟨v,k,rfl,rfl,f⟩;rw[aL,bZ,aib]at f;rwa[G f]
def Cd {a a' b b':Int}(h:a<a'\/a'=a/\b<=b'):HT.lexLt [a',b'] [a,b]=false:=by
 rw[HT.lK,HT.lK,HT.qo]
 cbv
def yi {b a:Int}(d:HT.lexLt [y,a] [z,b]=false)(c:HT.lexLt [z,b] [y,a]=false):y=z/\a=b:=by
 rw[HT.lK,HT.lK,HT.qo]at d c
 cbv
def FH {c:Type}{R:c->c->Prop}{l:List c}(pw:l.Pairwise R){i j:Nat}{a b:c}(d:i<j)(e:l[i]?\a)(f:l[j]?\b):R a b:=by
 let⟨g,rfl⟩:=agx.mp e;let⟨h,rfl⟩:=agx.mp f;rwa[List.pairwise_iff_getElem.mp pw i j g h d]
def Ce (g:GL S n)(b:∀c,c∈b9 S->c∈B)(h:eF S B=none):∀c z,¬cS S n c z:=λc z a=>(g.head a.1 a.2.1).2 (Dj h c (b c (gQ.mpr ⟨a.1,a.2.1⟩))) z a
def uk {w:Nat}{cs:Zh}(R:Nat->Nat->Prop)(g:GL S n)(e:∀m,m∈cs↔m∈b9 S)(pw:cs.Pairwise R)(r:∀a b,R a b->∀y,HT.lexLt (rk w b y) (rk w a z)=false)(u:∀y,eD z<=eD y->HT.lexLt (rk w m y) (rk w m z)=false)(h:eF S cs\(m,z)):hO w S n m z:=by
 let⟨i,l,p,s⟩:=ui h;let o:=gQ.mp ((e m).mp (agu l));let⟨t,v⟩:=(g.head o.1 o.2).1 z p;rwa[⟨t,λd k c=>?_⟩];let⟨j,f⟩:=ahc ((e d).mpr (gQ.mpr ⟨c.1,c.2.1⟩));rcases Nat.lt_trichotomy i j with q|q|q
 ·rwa[r m d (FH pw q l f) k]
 ·cbv
 ·rwa[absurd c ((g.head c.1 c.2.1).2 (s j d q f) k)]
def Tz (g:GL S n)(h:eF S (b9 S)\(m,z)):hO 0 S n m z:=
 uk (·< ·) g (λ_=>Iff.rfl) (yh S) (λa b d y=>Cd (.inl (by omega))) (λy c=>Cd (.inr ⟨rfl,c⟩)) h
def TB (g:GL S n)(h:eF S (b9 S).reverse\(m,z)):hO 2 S n m z:=
 uk (λa b=>b<a) g (λm=>aiH) (List.pairwise_reverse.mpr (yh S)) (λa b d y=>Cd (.inl (by omega))) (λy c=>Cd (.inr ⟨rfl,c⟩)) h
def sx (T:Txt K mg A):T.jA.Ok mg P w base 3 (jX A.az A.du A.cV 0):=by
 rwa[T.jA.on BE (λm F f s H G Q E i h=>?_)]
 ·let⟨o,D,r,S,a,L,rfl,C,h,g,k,q,n⟩:=h;erw[_,(aw (bx (pc T.mD (uj T) i (ae (pv 1) (ae (vR (pv 1) (aI T) T.eP (fX T) i) aj)))))];rwa[⟨1212,r,a.dx,12,h.ins,2,r,S,a,2,h,g.wf,g.m,λl y=>?_⟩];let d:aq H (upd H l (.lst (ao (nI (b9 S))))):=aq.upd y;rwa[⟨r,l,S,a,b9 S,2,h.same d,ah,λc B=>[g.wf.g]▸(gQ.mp B).1,λx=>q (Ce g (λ_ h=>h) x) _ (.same d) (k.same d),λc z v t p=>?_⟩];let j:=aq.upd (o:=.tup [.int (c:Int),.int z]) p;rwa[n c z (Tz g v) t _ (.same λb u e=>j b u (d b u e)) ((k.same d).same j) ah]
def qL (T:Txt K mg A):T.iH.Ok mg P w base 3 (jX A.az A.du A.cz 2):=by
 rwa[T.iH.on zD (λp N i s H O Q E k h=>?_)]
 ·let⟨o,M,r,S,a,L,rfl,J,h,g,m,B,q⟩:=h;erw[_,(aw (bx (pc T.mD (uj T) k (ae (pv 1) (ae (Fy rfl rfl T.iY rfl T.FZ (ae (vR (pv 1) (aI T) T.eP (fX T) k) aj)) aj)))))];rwa[⟨1212,r,a.dx,12,h.ins,2,r,S,a,2,h,g.wf,g.m,λl G=>?_⟩];let F:aq H (upd H l (.lst (ao (nI (b9 S))))):=aq.upd G;rwa[⟨l,12,aH.of ah,λj f=>?_⟩];let y:=aq.upd (o:=.lst (ao (nI (b9 S))).reverse) f;let d:aq H (upd (upd H l (.lst (ao (nI (b9 S))))) j (.lst (ao (nI (b9 S))).reverse)):=λb u e=>y b u (F b u e)
  let I:(ao (nI (b9 S))).reverse=ao (nI (b9 S).reverse):=by unfold ao nI;rw[ajx,ajx]
  rwa[⟨r,j,S,a,(b9 S).reverse,2,h.same d,by rw[<-I];rwa[ah],λc v=>[g.wf.g]▸(gQ.mp (aiH.mp v)).1,λD=>B (Ce g (λ_ h=>aiH.mpr h) D) _ (.same d) (m.same d),λc z C t x=>?_⟩];let n:=aq.upd (o:=.tup [.int (c:Int),.int z]) x;rwa[q c z (TB g C) t _ (.same λb u e=>n b u (d b u e)) ((m.same d).same n) ah]
def j0 (S:RS)(cs:Zh):List (Nat×Int):=cs.filterMap λc=>(S.gap c).head?.map λz=>(c,z)
def yj:(n,z)∈j0 S B↔n∈B/\(S.gap n).head?\z:=by
 unfold j0;rw[ajL];constructor
 ·rintro ⟨b,a,e⟩
  cases q:(S.gap b).head? with
  |none=>rw[q]at e;ext e
  |some y=>
   cbv
 cbv
def TC {cs:Zh}(h:cs.Pairwise (·< ·)):(j0 S cs).Pairwise λp q=>p.1<q.1:=by
 unfold j0;rwa[List.pairwise_filterMap.mpr (h.imp λ{a b} e p c q d=>?_)]
 cases f:(S.gap a).head? with
 |none=>rw[f]at c;ext c
 |some y=>
  cases g:(S.gap b).head? with
  |none=>rw[g]at d;ext d
  |some x=>
   rw[f]at c;rw[g]at d;rw[<-Za0 c,<-Za0 d];rwa[e]
def Lk {cs:Zh}(a:cs[i]?\n):j0 S (cs.take (i+ 1))=j0 S (cs.take i)++((S.gap n).head?.map λz=>(n,z)).toList:=by
 unfold j0;rw[show cs.take (i+ 1)=cs.take i++[n] by rw[List.take_add_one,a];rfl,List.filterMap_append,ajz,List.filterMap_nil];cases (S.gap n).head? <;> rfl
def TF (g:GL S n)(h:(j0 S (b9 S))[i]?\(m,z))(t:∀j f c,(j0 S (b9 S))[j]?\(f,c)->eD z<=eD c/\(j<i->eD z<eD c)):hO 1 S n m z:=by
 let⟨s,r⟩:=yj.mp (agu h);let o:=gQ.mp s;rwa[⟨((g.head o.1 o.2).1 z r).1,λf c d=>?_⟩];let hd:=g.head d.1 d.2.1
 cases q:(S.gap f).head? with
 |none=>exact absurd d (hd.2 q c)
 |some y=>
  let u:=(hd.1 y q).2 c d;let⟨j,l⟩:=ahc (yj.mpr ⟨gQ.mpr ⟨d.1,d.2.1⟩,q⟩);let⟨x,p⟩:=t j f y l;rwa[Cd (a:=eD z) (b:=(m:Int)) (a':=eD c) (b':=(f:Int)) ?_];by_cases e:eD z<eD c
  ·rwa[.inl e]
  ·rwa[.inr ⟨35⟩];rcases Nat.lt_trichotomy i j with k|k|k
   ·have:m<f:=FH (TC (yh S)) k h l;ext
   ·cbv
   ·have:=p k;ext
theorem TK (g:GL S n)(h:j0 S (b9 S)=[]):∀c z,¬cS S n c z:=λc z a=>by
 let hd:=g.head a.1 a.2.1
 cases q:(S.gap c).head? with
 |none=>exact hd.2 q z a
 |some y=>
  have:=yj.mpr ⟨gQ.mpr ⟨a.1,a.2.1⟩,q⟩
  cbv
def m8 (T:Txt K mg A)(sr:kg mg base):dq P w K mg base (df P w) 6 A.nV A.jR ["self","rooms"] (jX A.az A.du A.bK 1):=by
 rwa[T.gT.F.okT T.lam.code m5 (λvs H Q E h=>?_) (λAA outer s H vs Q E hr h=>?_)]
 ·let⟨o,dx,r,S,a,L,rfl,_⟩:=h;rfl
 ·let⟨o,dx,r,S,a,L,rfl,ho,h,g,hT,kn,ks⟩:=h
  erw[_,(ai (zo (iy:=2) m5.nd rfl (Or.inl rfl) (fns:=["rooms"]) (ixs:=[1]) (cl:=_) rfl (da (vR (pv 1) (aI T) T.eP (fX T) hr)) (pL rfl rfl ⋯ rfl ⋯ rfl ⋯ ⋯ rfl rfl rfl rfl) (λC s H ex=>(bf lY (pm (pv 1) (aI T) T.fD (iu T) hr (ae (pv 0) aj)) cX (bh _))) (λC s H ex=>(cQ (ae (pv 0) (ae (pm (pv 1) (aI T) T.fD (iu T) hr (ae (pv 0) aj)) aj)))))
   (aw (bx (OD (x:="gap") (k:=2) rfl rfl T.Mx (pv 2) rfl T.lam.hd rfl rfl sr hr.Za5 (by ac_rfl) (λ_ _ _ _=>rfl) (λ_ _ _ _ _ _ EA=>xu (Dh T) (EA.mono ⋯) rfl T.mV.m T.mV.F.kp T.mV.b .nil gj (ae (bF (N8 (K:=K) rfl) (pv 0) au (λ_ _=>rfl)) aj))))))]
  rwa[jf ?_];intro gy;rwa[⟨12,r,a.dx,12,h.ins,2,r,S,a,2,h,g.wf,g.m,λl hl=>?_⟩];let s1:aq H (upd H l (.lst (ao (nI (b9 S))))):=aq.upd hl;let N:upd H l (.lst (ao (nI (b9 S)))) l\(.lst (ao (nI (b9 S)))):=ah;rw[show ((List.range S.made).filter λc=>decide (S.aV[c]?\c))=b9 S from rfl];generalize upd H l (.lst (ao (nI (b9 S))))=H1 at s1 N;let h1:=h.same s1;let O:=hT.same s1;let XC:⇑(b9 S)<=S.made:=agJ (aiJ _ _) (by cbv);let hgm:=g.m;let el:⇑(ao (nI (b9 S)))=⇑(b9 S):=by rw[aL,bZ]
  erw[l,2,⟨_,aH.of N⟩];erw[λi m ys H2=>m=⇑(b9 S) - i/\i<=⇑(b9 S)/\aq H1 H2/\∃d:Zn,ys=d.map V.ref/\⇑d<=i/\Each (λt (p:Nat×Int)=>H2 t\.tup [.int (p.1:Int),.int p.2]) d (j0 S ((b9 S).take i)),⟨⇑(b9 S),by simp,agW _,λ_ _ e=>e,[],2,agA _,2,λi p x e=>by simp at e⟩];rintro i m ys H2 ⟨rfl,hi,G,d,rfl,Z,B⟩;let I:=G^N;let h2:=h1.same G;by_cases iV:i<⇑(b9 S)
  ·rwa[.inr ⟨jK (aH.of I) i ∅,[agy]▸agE (agJ Z (show i<=100000 by omega)) ⋯,λx H3 yP=>?_⟩];let⟨rfl,hx⟩:=iC (aH.of I) i x H3 ∅ yP;let⟨z,rfl,hz⟩:=cR hx
   obtain⟨c,XE,rfl⟩:∃c:Nat,(b9 S)[i]?\c/\z=(c:Int):=by
    unfold nI at hz
    cbv
   let U:c<⇑S.gaps:=by rw[g.wf.g];rwa[(gQ.mp (agu XE)).1]
   let et:=Lk (S:=S) XE;erw[12,r,a.dx,12,h2.ins,212,r,S,a,c,2,h2,U,212]
   cases hg:(S.gap c).head? with
   |none=>
    let e:pB (S.gap c)=.non:=by unfold pB;rw[hg];rfl
    rw[e];erw[⇑(b9 S) - (i+ 1),32,iV,G,d,23];rw[et,hg];simpa using B
   |some y=>
    let e:pB (S.gap c)=.int y:=by unfold pB;rw[hg];rfl
    rw[e];rwa[⟨1212,r,a.dx,12,h2.ins,212,r,S,a,c,2,h2,U,by show 2<=sizeLine;decide,λt hnt=>?_⟩];let v:=aq.upd (o:=.tup [.int (c:Int),pB (S.gap c)]) hnt;erw[⇑(b9 S) - (i+ 1),32,iV,λb u q=>v b u (G b u q),d++[t],by cbv,by rw[agw,ahI];ext];rw[et,hg];rwa[(B.imp λp x _ _ q=>v^q).snoc ?_];show upd H3 t _ t=_;rw[ah,e]
  ·let e:i=⇑(b9 S):=∅
   subst e;rw[aib]at B;rwa[.inl ⟨by rw[<-el];rwa[gJ (aH.of I)],[agy]▸agJ Z (agJ (show ⇑(b9 S)<=100000 by omega) ⋯),λD hD=>?_⟩];let v:=aq.upd (o:=.lst (d.map V.ref)) hD;let XF:upd H2 D (.lst (d.map V.ref)) D\(.lst (d.map V.ref)):=ah;generalize upd H2 D (.lst (d.map V.ref))=H3 at v XF;let X:aq H H3:=λb u q=>v b u (G b u (s1 b u q))
   rwa[⟨12,D,d.map V.ref,λj=>eD ((j0 S (b9 S)).getD j (0,0)).2,2,aH.of XF,(O.same G).same v,λH4 Y k4=>⟨λj y M=>?_,λe=>?_,λj y M hb=>?_⟩⟩]
   ·let R:j<⇑(j0 S (b9 S)):=by rw[<-B.1,<-agy (f:=V.ref)];rwa[(agx.mp M).1]
    let⟨t,J,q⟩:=B.at (agv R);rw[agR,J]at M;let e:=Za0 M;subst e
    let q4:H4 t=_:=k4 t _ (λz=>by
     let q3:=v^q;rcases (O.same G).same v with w|⟨_,_,_,_,w,_⟩
     ·rw[z,w]at q3;ext q3
     cbv) (v^q)
    rwa[⟨12,t,11122,bC.of q4,21252⟩]
    cbv
   ·have:d=[]:=List.map_eq_nil_iff.mp e;let e2:j0 S (b9 S)=[]:=ahC (by rw[<-B.1,this];rfl);rwa[kn (TK g e2) H4 (λb u n q=>k4 b u n (X b u q)) Y]
   ·let R:j<⇑(j0 S (b9 S)):=by rw[<-B.1,<-agy (f:=V.ref)];rwa[(agx.mp M).1]
    let F:=agv R;generalize (j0 S (b9 S))[j]=p at F;let⟨t,J,q⟩:=B.at F;rw[agR,J]at M;let e:=Za0 M;subst e;let q3:=v^q
    let q4:H4 t=_:=k4 t _ (λz=>by
     rcases (O.same G).same v with w|⟨_,_,_,_,w,_⟩
     ·cbv
     cbv) q3
    let kv:∀{n:Nat} {x:Nat×Int},(j0 S (b9 S))[n]?\x->eD ((j0 S (b9 S)).getD n (0,0)).2=eD x.2:=λ{n x} hx=>by cbv
    rwa[ks p.1 p.2 (TF g F λn c' z' hn=>?_) t H4 (λb u n q=>k4 b u n (X b u q)) Y q4];have:=hb n ([agy,B.1]▸(agx.mp hn).1);dsimp only at this;rw[kv F,kv hn]at this;rwa[this]
def TL:Zh:=[114,111,111,109,115]
def Ly:Zh:=[108,101,116,116,101,114,115]
def TN:Zh:=[110,101,119,101,115,116]
def New (C:Zs)(H:Hp)(Q:VK):Prop:=∀x d,H x=none->H d=none->d≠x->Q ↑x (upd (upd H d (.own x)) x (.ins C d []))
def IX (e d c b:Zs):Sp:=λa H Q E=>∃t:Zh,a=[.str (tx t)]/\(t=TL\/t=Ly\/t=TN)/\(t=TL->New d H Q)/\(t=Ly->New c H Q)/\(t=TN->New b H Q)
def jE {b:Zh}:(V.str (tx B)=V.str (tx b))↔B=b:=⟨λh=>QD (V.str.inj h),λh=>by rw[h]⟩
def Dm (T:Txt K mg A):dq P w K mg base (df P w) 1 A.wg A.wj ["name"] (IX A.nX A.cV A.bK A.cz):=by
 rwa[T.p8.F.R7 De (λo H Q E h=>?_) (λj r a s H o Q E p h=>?_)]
 ·let⟨t,rfl,_⟩:=h;rfl
 ·let⟨t,rfl,c,b,f,m⟩:=h
  erw[_,(ai (bI (bf eI (pv 0) (eh (l:=[114,111,111,109,115]) rfl) (bh _))
   (aw (bx (uJ T.KW T.KZ T.KY rfl T.O8)))
   bq)
   (ai (bI (bf eI (pv 0) (eh (l:=[108,101,116,116,101,114,115]) rfl) (bh _))
    (aw (bx (uJ T.Bv T.Bx T.Bw rfl T.Dc)))
    bq)
   (ai (bI (bf eI (pv 0) (eh (l:=[110,101,119,101,115,116]) rfl) (bh _))
    (aw (bx (uJ T.HZ T.Ib T.Ia rfl T.Kw)))
    bq)
   (aw Jj))))]
  rwa[ik ?_];intro e n d;erw[12212];rwa[cq (λh=>?_) (λg=>?_)]
  ·rwa[b (jE.mp (ahi h))]
  erw[12212];rwa[cq (λh=>?_) (λk=>?_)]
  ·rwa[f (jE.mp (ahi h))]
  erw[12212];rwa[cq (λh=>?_) (λi=>?_)]
  ·rwa[m (jE.mp (ahi h))]
  rwa[c.elim (λz=>g (aha (jE.mpr z))) λq=>q.elim (λz=>k (aha (jE.mpr z))) λz=>i (aha (jE.mpr z))]
def qk {r:Zs}(h:ay a H r S O){d:Zs}{o:HO}(g:H d\o)(k:∀p q f,o≠.ins p q f)(j:∀b,o≠.lst b)(i:∀b,o≠.dK b):¬O.own r d:=λc=>by
 rcases c with q|q|q
 ·have:=h.ins;cbv
 ·let⟨b,e⟩:=h.Md q;cbv
 ·let⟨b,e⟩:=h.qq q;cbv
def Pu {r:Zs}(h:ay a H r S O){p:Zs}{c:Zb}(b:H p\.tup c):¬O.own r p:=qk h b (by cbv) (by cbv) (by cbv)
def Pw {C:Zs}{x:Zs}(nx:H x=none)(d:H a=none)(c:a≠x)(k:∀b o,upd (upd H a (.own x)) x (.ins C a []) b\o->b≠x->I b\o)(g:∀b,O.own x b->b=x\/upd (upd H a (.own x)) x (.ins C a []) b=none):aq H I/\∀b,O.own x b->H b=none:=by
 let f:aq H (upd (upd H a (.own x)) x (.ins C a [])):=(aq.upd d).trans (aq.upd ([ak c.symm]▸nx));rwa[λb o e=>k b o (f^e) (ax e nx),λb z=>(g b z).elim (λe=>[e]▸nx) (same_none f)]
def Nj (p:Zs)(H a:Hp):Prop:=∀q o,q≠p->H q\o->a q\o
def Nj.upd {o:HO}:Nj a H (upd H a o):=λq u n e=>[ak n]▸e
def _root_.Lake.L2.dJ.but {rs:Zn}{rows:Za3}{w:Zs}(h:dJ H rs rows)(b:Nj w H I)(c:w∉rs):dJ I rs rows:=⟨h.1,λi r ns a d=>b _ _ (λz=>c (by rw[<-z];rwa[agu a])) (h.2 i r ns a d)⟩
def Ln {rows:Za3}(h:dJ H F rows){r:Zs}(c:r∈F):∃d,H r\(.lst (ao d)):=by
 let⟨i,b,e⟩:=ais.mp c;let a:i<⇑rows:=by rw[<-h.1];rwa[b]
 rwa[_,h.2 i r _ (by rw[agv b,e]) (agv a)]
def _root_.Lake.L2.dJ.snoc {rs:Zn}{rows:Za3}{r:Zs}{ns:Zg}(h:dJ H rs rows)(e:H r\.lst (ao ns)):dJ H (rs++[r]) (rows++[ns]):=by
 rwa[⟨by rw[agw,agw,h.1];rfl,λi q d b a=>?_⟩];by_cases c:i<⇑rs
 ·rw[agF c]at b;rw[agF (by rw[<-h.1];rwa[c])]at a;rwa[h.2 i q d b a]
 ·rw[agI ∅]at b;rw[agI (by rw[<-h.1];omega)]at a;rw[agC.mp (agu b),agC.mp (agu a)];rwa[e]
def bp (S:RS)(k c:Nat):Nat:=(S.by c (M12.st k)).getD 0
inductive w9 (C:Zs) (vs:Zb) (H:Hp) (Q:VK) (E_:XK):Prop
 |mk (r:Zs) (S:RS) (a:RA) (Z:Nat->Prop):vs=[↑r]->ay C H r S a->1<=S.L->S.L<=40->S.made<=300->⇑S.ways=S.made->Z 0->(∀c,Z c->c<S.made/\∀k,k<2* S.L->∃d,S.by c (M12.st k)=some d/\Z d)->(∀l N H',aq H H'->H l=none->TabAt H' l (M24.lz (bp S) (2* S.L) (M24.bB (bp S) (2* S.L) 0 N))->⇑(M24.bB (bp S) (2* S.L) 0 N)=N->Q ↑l H')->w9 C vs H Q E_
def vi (a:List (Key×V))(found:Zh):Prop:=⇑a<=⇑found/\∀c:Nat,bz a (Sum.inl (c:Int))=if c∈found then some (V.int (M24.ix found c:Int)) else none
def vi.one:vi [(Sum.inl 0,.int 0)] [0]:=⟨agA _,λc=>by
 by_cases h:c=0
 ·subst h;rfl
 ·rw[agT (λq=>h (agC.mp q))];show bz (putK [] (Sum.inl 0) (.int 0)) (Sum.inl (c:Int))=none;rw[pO,agT (λq=>by injection q with q;omega)];rfl⟩
def vi.put {c:List (Key×V)}{found:Zh}(h:vi c found)(nd:found.Nodup)(hc:n∉found):vi (putK c (Sum.inl (n:Int)) (.int (⇑found:Int))) (found++[n]):=by
 let g:(found++[n]).Nodup:=by
  rw[ahD];rwa[nd,by simp,λa i b j=>by cbv]
 rwa[⟨5,λf=>?_⟩]
 ·have:=gW c (Sum.inl (n:Int)) (.int (⇑found:Int));have:=h.1;rw[agw,ahI];ext
 rw[pO];by_cases e:f=n
 ·subst e;rw[agX rfl,agX (agB _ agM),M24.Sr hc]
 ·rw[agT (λq=>e (by injection q with q;omega)),h.2];by_cases d:f∈found
  ·rw[agX d,agX (agU _ d),M24.HM g d]
  cbv
structure NS (H0 H:Hp) (lf d lr:Zs) (ts:Zn) (kvs:List (Key×V)) (found:Zh) (Tb:Za3):Prop where
 same:aq H0 H
 f1:H lf\(.lst (ao (nI found)))
 d1:H d\(.dK kvs)
 nm:vi kvs found
 r1:H lr\(.lst (ts.map V.ref))
 r2:dJ H ts Tb
 un:(lf::lr::ts).Nodup
 new:∀x∈lf::lr::ts,H0 x=none
 dn:H0 d=none
section
variable {H0 H H':Hp}{lf d lr:Zs}{ts:Zn}{kvs:List (Key×V)}{found:Zh}{Tb:Za3}
def NS.more (h:NS H0 H lf d lr ts kvs found Tb)(s:aq H H'):NS H0 H' lf d lr ts kvs found Tb:=
 ⟨h.same.trans s,s^h.f1,s^h.d1,h.nm,s^h.r1,h.r2.same s,h.un,h.new,h.dn⟩
def NS.ne (h:NS H0 H lf d lr ts kvs found Tb):lf≠lr/\lf∉ts/\lr∉ts/\ts.Nodup:=by
 let a:=ahb.mp h.un
 cbv
def NS.add (h:NS H0 H lf d lr ts kvs found Tb)(nd:found.Nodup){c:Nat}(hc:c∉found):NS H0 (upd (upd H d (.dK (putK kvs (Sum.inl (c:Int)) (.int (⇑found:Int))))) lf (.lst (ao (nI found)++[.int (c:Int)]))) lf d lr ts (putK kvs (Sum.inl (c:Int)) (.int (⇑found:Int))) (found++[c]) Tb:=by
 let⟨l,j,n,m⟩:=h.ne;let dl:∀b f,H b\.lst f->b≠d:=λb f e=>bX e h.d1 (by cbv)
 rwa[⟨λb o e=>?_,55,h.nm.put nd hc,5,⟨h.r2.1,λi q ns g k=>?_⟩,h.un,h.new,h.dn⟩]
 ·rw[ak (ax e (h.new lf agM)),ak (ax e h.dn)];rwa[h.same^e]
 ·rw[ah,iW,ints_app];rfl
 ·rw[ak (ahQ (dl lf _ h.f1)),ah]
 ·rw[ak (ahQ l),ak (dl lr _ h.r1)];rwa[h.r1]
 ·let a:=h.r2.2 i q ns g k;rw[ak (λe=>j (by rw[<-e];rwa[agu g])),ak (dl q _ a)];rwa[a]
def NS.row (h:NS H0 H lf d lr ts kvs found Tb){q:Zs}{row:Zg}(f:H q\.lst (ao row))(m:H0 q=none)(c:q∉lf::lr::ts):NS H0 (upd H lr (.lst ((ts++[q]).map V.ref))) lf d lr (ts++[q]) kvs found (Tb++[row]):=by
 let⟨g,l,n,j⟩:=h.ne;simp only[agN,not_or]at c;let⟨k,i,p⟩:=c;rwa[⟨λb o e=>?_,55,h.nm,ah,55,λx a=>?_,h.dn⟩]
 ·rw[ak (ax e (h.new lr (ag3 _ agM)))];rwa[h.same^e]
 ·rw[ak g];rwa[h.f1]
 ·rw[ak (bX h.d1 h.r1 (by cbv))];rwa[h.d1]
 ·rwa[dJ.but (w:=lr) (h.r2.snoc f) Nj.upd ?_]
  cbv
 ·cbv
 ·rw[<-aip,<-aip]at a;rcases agH.mp a with a|a
  ·rwa[h.new x a]
  cbv
end
def Dq (T:Txt K mg A):T.numbered.Ok P w base 2 (w9 A.az):=by
 rwa[T.numbered.on fN (λcC AA outer s H vs Q E hr h=>?_)]
 ·let⟨r,S,a,Z,rfl,hR,lH,BH,hm,hw,hZ0,hZ,k⟩:=h;let lI:=hH hr
  erw[_,(ai (bD 1 fN.nd (pc T.p7 (ug T) hr (ae (aF (pv 0) rfl) aj)))
   (ai (bD 2 fN.nd (bU (ae au aj)))
   (ai (bD 3 fN.nd (N0 (JH au au NZ) rfl rfl (by simp) ⋯))
   (ai (bD 4 fN.nd (bU aj))
   (ai (bP (gI ag0 (bf sJ (bN bM rfl T.fe ahx (ae (pv 4) aj)) (bN bM rfl T.fe ahx (ae (pv 2) aj)) (bh _))
    (ai (kx (iy:=5) fN.nd rfl (Or.inl rfl) (fns:=["rows","rooms","found"]) (ixs:=[4,0,2]) (cl:=_) rfl (da (pv 1)) (Fw rfl rfl rfl rfl ⋯ rfl ⋯ rfl ⋯ ⋯ rfl rfl rfl rfl rfl rfl rfl rfl rfl rfl) (λC s H ex=>(pm (pv 2) (aI T) T.iq (g9 T) hr (ae (bF (Ar (K:=K) rfl) (pv 3) (bN (zj (K:=K) rfl) rfl T.fe ahx (ae (pv 1) aj)) (λ_ _=>rfl)) (ae (pv 0) aj)))))
    (ai (cP ag0 rfl (da (pv 5)) (dB 6 fN.nd)
     (aw (bP (bI (P0 (G0 lI (pv 6) (pv 3)))
      (ai (sO lI (pv 3) (pv 6) (bN bM rfl T.fe ahx (ae (pv 2) aj)) rfl)
      (aw (aU (cG agG agO agP bH (pv 2) (ae (pv 6) aj)))))
      bq))))
    (aw (aU (cG agG agO agP bH (pv 4) (ae (gM (fns:=["numbers"]) (ixs:=[3]) (cl:=_) rfl (da (pv 5)) (pL rfl rfl ⋯ rfl ⋯ rfl ⋯ ⋯ rfl rfl rfl rfl) (λC s H ex=>(DL lI (pv 1) (pv 0) (λ_ _=>rfl)))) aj))))))))
   (aw (bx (pv 4))))))))]
  rwa[mG ?_];intro qK oh jV fS gy;rwa[⟨12,r,_,a.dx,112,hR.ins,aI T,T.r0,vE^_,S.L,2,lH,3,λsl H1 s1 hs1=>?_⟩];rwa[⟨by show 1<=sizeLine;decide,λp Ci=>?_⟩];let s2:=aq.upd (o:=.lst [.int 0]) Ci;let IY:upd H1 p (.lst [.int 0]) p\(.lst (ao (nI [0]))):=ah;generalize upd H1 p (.lst [.int 0])=H2 at s2 IY ⊢;intro d hd;erw[ah,[(Sum.inl 0,.int 0)],2,by show 1<=15;decide];generalize A0:upd (upd H2 d (.dK [])) d _=H3;let Mb:H3 d\(.dK [(Sum.inl 0,.int 0)]):=by rw[<-A0,ah];rfl
  let s3:aq H2 H3:=λb o e=>by rw[<-A0,ak (ax e hd),ak (ax e hd)];rwa[e]
  clear A0;rwa[⟨agW _,λl TQ=>?_⟩];let s4:=aq.upd (o:=.lst []) TQ;let TR:upd H3 l (.lst []) l\(.lst (([]:Zn).map V.ref)):=ah;generalize upd H3 l (.lst [])=H4 at s4 TR ⊢
  let B4:NS H1 H4 p d l [] [(Sum.inl 0,.int 0)] (M24.bB (bp S) (2* S.L) 0 0) (M24.ou (bp S) (2* S.L) 0 0):=by
   let nlr:H2 l=none:=s3.free TQ;let e:p≠l:=λz=>by cbv
   rwa[⟨(s2.trans s3).trans s4,(s3.trans s4) _ _ IY,s4^Mb,vi.one,TR,⟨2,λi r ns h1=>by simp at h1⟩,by simp[e],λx hx=>?_,s2.free hd⟩];simp only[agN,ahl,aiM]at hx;rcases hx with e|e
   ·rw[e];rwa[Ci]
   ·rw[e];rwa[s2.free nlr]
  clear s2 s3 s4 IY Mb TR Ci hd TQ
  let AX:∀y i,Z y->i<2* S.L->Z (bp S i y):=λy i hy B=>by
   let⟨d,e1,e2⟩:=(hZ y hy).2 i B;unfold bp;rw[e1];rwa[e2]
  let oZ:∀n,∀z∈M24.bB (bp S) (2* S.L) 0 n,Z z:=M24.l0 hZ0 AX;let Y:∀n,⇑(M24.bB (bp S) (2* S.L) 0 n)<=300:=λn=>agJ (M11.kP S.made _ (M24.kQ _ _ _ n) λz R=>(hZ z (oZ n z R)).1) hm
  erw[λ fx H'=>∃(N:Nat) (G:Zn) (f:List (Key×V)) (v5 O:Zc),fx=#v[↑r,↑sl,↑p,↑d,↑l,v5,O]/\NS H1 H' p d l G f (M24.bB (bp S) (2* S.L) 0 N) (M24.ou (bp S) (2* S.L) 0 N)/\⇑(M24.bB (bp S) (2* S.L) 0 N)=N,5]
  ·erw[λm σ H'=>∃(n:Nat) (G:Zn) (f:List (Key×V)) (v5 O:Zc),m=300 - n/\σ=#v[↑r,↑sl,↑p,↑d,↑l,v5,O]/\NS H1 H' p d l G f (M24.bB (bp S) (2* S.L) 0 n) (M24.ou (bp S) (2* S.L) 0 n)/\n<=⇑(M24.bB (bp S) (2* S.L) 0 n),⟨_,(0),[],_,none,none,22,B4,agW _⟩];rintro m σ H5 ⟨n,G,f,v5,O,rfl,rfl,M,hn⟩;let hop:=Y n
   let U:⇑G=n:=by
    rw[M.r2.1];unfold M24.ou;rw[agy,ag8];ext
   erw[12,l,12,.inl (aH.of M.r1),12,p,12,.inl (aH.of M.f1),112212];rwa[cq (λh=>?_) (λh=>?_)]
   ·let iV:n<⇑(M24.bB (bp S) (2* S.L) 0 n):=by
     let h':(⇑(G.map V.ref):Int)<(⇑(ao (nI (M24.bB (bp S) (2* S.L) 0 n))):Int):=ahi h;rw[aL,bZ,agy,U]at h';ext
    clear h;let F:=agv iV;generalize (M24.bB (bp S) (2* S.L) 0 n)[n]=c at F;let TV:=oZ n c (agu F);let hcm:=(hZ c TV).1;erw[_,λ fx H' h=>h];let R5:ay A.az H5 r S a:=hR.same (s1.trans M.same);let D:=M.same^hs1;erw[12,sl,2,⟨_,aH.of D⟩];rwa[jo (ao ((List.range (2* S.L)).map M12.st)) (λv=>match v with|.int z=>.int (((S.by c z).getD 0:Nat):Int)|v=>v) (jK (aH.of D)) (iC (aH.of D)) (gJ (aH.of D)) ([aL,agy,ahG]▸agJ (show 2* S.L<=1000 by omega) ⋯) (λi v hv Rr L=>?_) (λlo um=>?_)]
    ·let⟨z,rfl,R⟩:=cR hv
     let B:i<2* S.L:=by
      have:=(agx.mp R).1;rw[agy,ahG]at this;rwa[this]
     let ez:M12.st i=z:=Za0 ((sj B).symm.trans R);let⟨dd,e1,e2⟩:=(hZ c TV).2 i B;rw[ez]at e1;erw[12,r,a.dx,12,R5.ins,cL _ _ _ ⋯,1212,l,12,.inl (aH.of M.r1),p,11122,aH.of M.f1,([agy,U]▸dE (cK (jN F))),12,r,S,a,c,z,2,R5,[hw]▸hcm]
     cbv
    let eo:(ao ((List.range (2* S.L)).map M12.st)).map (λv=>match v with|.int z=>V.int (((S.by c z).getD 0:Nat):Int)|v=>v)=ao (nI ((List.range (2* S.L)).map λi=>bp S i c)):=by
     unfold ao nI;rw[ahe,ahe,ahe,ahe];rfl
    rw[eo];clear eo;let s6:=aq.upd (o:=.lst (ao (nI ((List.range (2* S.L)).map λi=>bp S i c)))) um;let TX:upd H5 lo (.lst (ao (nI ((List.range (2* S.L)).map λi=>bp S i c)))) lo\(.lst (ao (nI ((List.range (2* S.L)).map λi=>bp S i c)))):=ah;generalize upd H5 lo (.lst (ao (nI ((List.range (2* S.L)).map λi=>bp S i c))))=H6 at s6 TX ⊢;let n1:lo≠p:=λz=>by rw[z,M.f1]at um;ext um
    let RG:∀i,i<2* S.L->((List.range (2* S.L)).map λi=>bp S i c)[i]?\(bp S i c):=λi B=>by rw[agR,ai5 B];rfl
    erw[12,lo,2,⟨_,aH.of TX⟩];rwa[fI (K:=K) (a:=lo) (xs:=ao (nI ((List.range (2* S.L)).map λi=>bp S i c))) (λi σ X=>∃(f:List (Key×V)) (O:Zc),σ=#v[↑r,↑sl,↑p,↑d,↑l,↑lo,O]/\NS H1 X p d l G f (M24.jg (bp S) c (M24.bB (bp S) (2* S.L) 0 n) i) (M24.ou (bp S) (2* S.L) 0 n)/\X lo\.lst (ao (nI ((List.range (2* S.L)).map λi=>bp S i c)))) ⟨f,O,2,M.more s6,TX⟩ (λi σ X _ ζ=>by let⟨_,_,_,_,h⟩:=ζ;rwa[aH.of h]) ?_ ?_]
    ·rintro i y σ X B ⟨f,O,rfl,g,u⟩
     let TY:i<2* S.L:=by
      have:=(agx.mp B).1;rw[aL,bZ,agy,ahG]at this;rwa[this]
     rw[cK (jN (RG i TY))]at B;let ey:=Za0 B;subst ey
     let Tf:⇑(M24.jg (bp S) c (M24.bB (bp S) (2* S.L) 0 n) i)<=300:=agJ (M11.kP S.made _ (M24.sZ (M24.kQ _ _ _ n) i) λz R=>by
      rcases M24.ji.mp R with q|⟨j,hj,rfl⟩
      ·rwa[(hZ z (oZ n z q)).1]
      ·rwa[(hZ _ (AX c j TV (by omega))).1]) hm
     let XG:(M24.jg (bp S) c (M24.bB (bp S) (2* S.L) 0 n) i).Nodup:=M24.sZ (M24.kQ _ _ _ n) i;let T2:=M24.jy (bp S) c (M24.bB (bp S) (2* S.L) 0 n) i;generalize M24.jg (bp S) c (M24.bB (bp S) (2* S.L) 0 n) i=come at T2 g Tf XG;rw[T2];clear T2;generalize bp S i c=o;rwa[⟨15,λ_ _ h=>h⟩];erw[1212,d,12,fY.k (k:=Sum.inl (o:Int)) g.d1,12];rw[g.nm.2 o];by_cases J:o∈come
     ·rw[agX J];rwa[dN ⟨f,125,u⟩];unfold M24.add;rw[agX J];rwa[g]
     ·rw[agT J];rwa[ic ?_];let B8:=g.add XG J;let aar:(⇑(ao (nI come)):Int)=(⇑come:Int):=by rw[aL,bZ]
      erw[12,p,12,.inl (aH.of g.f1),1212,d,12,qX.k (k:=Sum.inl (o:Int)) g.d1 (agE (show ⇑f<=300 by have:=g.nm.1;omega) ⋯)];let XH:upd X d (.dK (putK f (Sum.inl (o:Int)) (.int (⇑(ao (nI come)):Int)))) p\(.lst (ao (nI come))):=by rw[ak (bX g.f1 g.d1 (by cbv))];rwa[g.f1]
      erw[12,.inl ⟨21,aH.of XH⟩,12,p,1122,XH,5]
      ·rw[aL,bZ];rwa[agE Tf ⋯]
      rw[aar];erw[putK f (Sum.inl (o:Int)) (.int (⇑come:Int)),125]
      ·unfold M24.add;rw[agT J];rwa[B8]
      ·rw[ak n1,ak (bX u g.d1 (by cbv))];rwa[u]
    ·rintro σ X ⟨f,O,rfl,g,u⟩;rw[aL,bZ,agy,ahG,<-M24.fM F]at g;let ae8:=Y (n+ 1);let⟨t,ht⟩:=M24.A8 (bp S) (2* S.L) 0 n;let Eo:n+ 1<=⇑(M24.bB (bp S) (2* S.L) 0 (n+ 1)):=by rw[ht,agw];ext
     let hin:∀i,i<2* S.L->bp S i c∈M24.bB (bp S) (2* S.L) 0 (n+ 1):=λi B=>by rw[M24.fM F];rwa[M24.ji.mpr (.inr ⟨i,B,2⟩)]
     erw[12,.inl ⟨21,aH.of g.r1⟩,12,lo,2,⟨_,aH.of u⟩];rwa[jo (ao (nI ((List.range (2* S.L)).map λi=>bp S i c))) (λv=>match v with|.int z=>.int ((M24.ix (M24.bB (bp S) (2* S.L) 0 (n+ 1)) z.toNat:Nat):Int)|v=>v) (jK (aH.of u)) (iC (aH.of u)) (gJ (aH.of u)) ([aL,bZ,agy,ahG]▸agJ (show 2* S.L<=1000 by omega) ⋯) (λi v hv Rr L=>?_) (λlq I=>?_)]
     ·let⟨z,rfl,R⟩:=cR hv
      let B:i<2* S.L:=by
       have:=(agx.mp R).1;rw[bZ,agy,ahG]at this;rwa[this]
      let ez:((bp S i c:Nat):Int)=z:=Za0 ((jN (RG i B)).symm.trans R);subst ez;let L:Rr (.int ((M24.ix (M24.bB (bp S) (2* S.L) 0 (n+ 1)) (((bp S i c:Nat):Int)).toNat:Nat):Int)) X:=L;rw[ag4]at L;rwa[⟨1212,d,125,L⟩];have:=fY.k (k:=Sum.inl ((bp S i c:Nat):Int)) g.d1;rw[g.nm.2,agX (hin i B)]at this;rwa[this]
     let eo:(ao (nI ((List.range (2* S.L)).map λi=>bp S i c))).map (λv=>match v with|.int z=>V.int ((M24.ix (M24.bB (bp S) (2* S.L) 0 (n+ 1)) z.toNat:Nat):Int)|v=>v)=ao ((List.range (2* S.L)).map λi=>((M24.ix (M24.bB (bp S) (2* S.L) 0 (n+ 1)) (bp S i c):Nat):Int)):=by
      unfold ao nI;rw[ahe,ahe,ahe,ahe];rfl
     rw[eo];clear eo;let s8:=aq.upd (o:=.lst (ao ((List.range (2* S.L)).map λi=>((M24.ix (M24.bB (bp S) (2* S.L) 0 (n+ 1)) (bp S i c):Nat):Int)))) I;let XI:upd X lq (.lst (ao ((List.range (2* S.L)).map λi=>((M24.ix (M24.bB (bp S) (2* S.L) 0 (n+ 1)) (bp S i c):Nat):Int)))) lq\(.lst (ao ((List.range (2* S.L)).map λi=>((M24.ix (M24.bB (bp S) (2* S.L) 0 (n+ 1)) (bp S i c):Nat):Int)))):=ah;generalize upd X lq (.lst (ao ((List.range (2* S.L)).map λi=>((M24.ix (M24.bB (bp S) (2* S.L) 0 (n+ 1)) (bp S i c):Nat):Int))))=H8 at s8 XI ⊢
     let nq:lq∉p::l::G:=by
      simp only[agN,not_or];rwa[⟨λz=>?_,λz=>?_,λz=>?_⟩]
      ·rw[z,g.f1]at I;ext I
      ·rw[z,g.r1]at I;ext I
      ·let⟨ns,e⟩:=Ln g.r2 z
       cbv
     let B8:=(g.more s8).row XI (g.same.free I) nq;rw[<-M24.HN F]at B8;erw[l,1122,s8^g.r1,5]
     ·rw[agy,U];rwa[agE (show n<=300 by omega) ⋯]
     rw[ag6]at B8;rwa[300 - (n+ 1),3,n+ 1,G++[lq],f,1122,B8,Eo]
   ·erw[n,G,f,112,M];let h':¬(⇑(G.map V.ref):Int)<(⇑(ao (nI (M24.bB (bp S) (2* S.L) 0 n))):Int):=λq=>h (aha q)
    rw[aL,bZ,agy,U]at h';ext
  rintro fx H' ⟨N,G,f,v5,O,rfl,B',hN⟩;rwa[⟨12,k l N H' (s1.trans B'.same) (s1.free (B'.new l (ag3 _ agM))) ⟨G,B'.r1,5⟩ hN⟩];rw[<-M24.Kt hN];rwa[B'.r2]
inductive IZ (K:Za1) (vs:Zb) (H:Hp) (Q:VK) (E_:XK):Prop
 |mk (a:Zs) (ns:Zg) (k:Nat):vs=[↑a,.int k]->aH K H a (ao ns)->k<=1000->(∀z,Q (.int z) H)->IZ K vs H Q E_
def aX (T:Txt K mg A):T.bj.Ok P w base 1 (IZ K):=by
 rwa[T.bj.on wG (λf m b s H o Q E j h=>?_)]
 ·let⟨a,c,n,rfl,d,l,k⟩:=h
  refine⟨_,(ai (bI (bf sJ (pv 1) (bN bM rfl T.fe ahx (ae (pv 0) aj)) (bh _))
   (aw (bx (bF bO (pv 0) (pv 1) (λ_ _=>rfl))))
   bq)
   (aw (bx au))),?_⟩
  rwa[jf ?_];intro e;erw[1212,a,12,.inl d,112212];rwa[cq (λh=>?_) (λh=>?_)]
  ·let i:(n:Int)<(⇑(ao c):Int):=ahi h;rw[aL]at i;let g:c[n]?=some c[n]:=agv ∅
   rwa[1212,a,11122,d,dE (cK g),k _]
  ·rwa[k _]
structure CS (CR CG CC:Zs) (H:Hp) (x r:Zs) (q:KA) (S:RS) (a:RA) (R:Za2) (ks:Zg) (B:Nat) (rs ps:Za3) (fp:List (Zg×Nat)) (bs:List (Nat×Zg×Nat)) (gs:Zf) (ag:Zh) (W:bE) (O:Zs->Prop):Prop where
 c:ck CG CC H x r q gs ag W ⇑S.aY fp O
 q:H q.aQ\(.dT (iO fp))
 rm:iQ CR H r S a R ks B
 dj:∀b,a.own r b->¬O b
 ci:CI S bs gs ag W fL none
 bo:B6 (rs++ps) ⇑rs ks bs
 pl:yd rs fp
 br:∀b∈bs,b.2.2<S.made
 ra:∀w∈rs,w≠[]->∀c,c<S.made->S.av c=c->∃n,(n,w,c)∈bs
 pa:∀w∈ps,w≠[]->∃n,(n,w,0)∈bs
 ln:⇑bs<=S.made* ⇑fp+ ⇑ps
 wb:∀u∈rs++ps,⇑u<=1000/\∀z∈u,(-1000<=z/\z<=1000)/\z∈ks/\-z∈ks
def CS.T3 {CR:Zs}{x r:Zs}{q:KA}{rs k:Za3}{p:List (Zg×Nat)}{bs:List (Nat×Zg×Nat)}{gs:Zf}{W:bE}{e:Zs->Prop}(h:CS CR a b H x r q S O R l n rs k p bs gs [] W e)(o:0<S.made):uI rs k S:=by
 rwa[⟨λw i c hc m=>?_,λw i=>?_⟩]
 ·by_cases g:w=[]
  ·rw[g];rwa[.inl rfl]
  ·let⟨d,j⟩:=h.ra w i g c hc m;rwa[ends (b:=(d,w,c)) h.ci h.rm.g j m]
 ·by_cases g:w=[]
  ·rw[g];rwa[.inl rfl]
  ·let⟨d,j⟩:=h.pa w i g;rwa[ends (b:=(d,w,0)) h.ci h.rm.g j (by have:=(h.rm.g.el 0 o).1;rwa[Nat.le_zero.mp this])]
inductive EC (CR CG CC:Zs) (vs:Zb) (H:Hp) (Q:VK) (E_:XK):Prop
 |mk (x r:Zs) (q:KA) (S:RS) (a:RA) (R:Za2) (B:Nat) (rs ps:Za3) (fp:List (Zg×Nat)) (bs:List (Nat×Zg×Nat)) (gs:Zf) (W:bE) (O:Zs->Prop) (c:Nat) (z:Int):vs=[↑x,.int c,.int z]->CS CR CG CC H x r q S a R (a9 (2* S.L)) B rs ps fp bs gs [] W O->1<=S.L->S.L<=200->c<S.made->S.av c=c->S.by c z=none->z∈a9 (2* S.L)-> -z∈a9 (2* S.L)->S.made<1000->(S.made+ 1)* ⇑fp+ ⇑ps<=700->B<800000->⇑S.aY+ S.stand<=800000->(∀S' a' R' bs' i3 W' O' B' H',(∀b o,¬O b->¬a.own r b->H b\o->H' b\o)->CS CR CG CC H' x r q S' a' R' (a9 (2* S.L)) B' rs ps fp bs' i3 [] W' O'->(∀b,a'.own r b\/O' b->a.own r b\/O b\/H b=none)->Tr (rs++ps) ⇑rs (S.make c z (a9 (2* S.L))) S'->S'.made=S.made+ 1->S'.L=S.L->B'<=B+ 702->Q .non H')->EC CR CG CC vs H Q E_
theorem xc (T:Txt K mg A):T.mX.Ok mg P w base 9 (EC A.az A.aJ A.aD):=by
 rwa[T.mX.on wH (λcC AA outer s H vs Q E hr h=>?_)]
 ·let⟨x,r,q,S,a,R,B,rs,ps,i,bs,gs,W,O,c,z,rfl,h,lH,BH,hc,ec,d,hz,L,hm,X,hB,hwn,k⟩:=h
  refine⟨_,(ai (aU (pm (pv 0) (aM T) T.fb (i5 T) hr (ae (pm (aF (pv 0) rfl) (aI T) T.qe (zF T) hr (ae (pv 1) (ae (pv 2) aj))) aj)))
   (ai (aU (pm (pv 0) (aM T) T.eX (fG T) hr (ae (pv 1) (ae (pv 2) aj))))
   (aw (aU (vR (pv 0) (aM T) T.iG (lJ T) hr))))),?_⟩
  rwa[fK ?_];intro fS gy;let l:=h.rm.g;let rb:=h.rm.rb;let ok:=y9 l h.rm.k ∅ (by have:=h.rm.l;omega) ∅ ∅;rwa[⟨12,x,q.dx,12,h.c.ins,fj ⋯,12,x,_,q.dx,112,h.c.ins,aM T,T.eZ,fP^_,r,a.dx,12,h.rm.at_.ins,cL _ _ _ ⋯,1212,r,S,a,c,z,2,h.rm.at_,l.wf,lH,BH,hc,33,ok.sm.w,λa1 H1 b1 qw U=>?_⟩];let oth:∀b,O b->∃o,H b\o:=λb y=>by let⟨o,e,_⟩:=h.c.th b y;rwa[o,e]
  let tno:∀b Z,H b\.tup Z->H1 b\(.tup Z):=λb Z e=>b1 b _ (λy=>Pu h.rm.at_ e y) e
  let c1:=h.c.keep (λb o y e=>b1 b o (λw=>h.dj b w y) e) tno;let q1:H1 q.aQ=_:=b1 _ _ (ye h.rm.at_ h.q) h.q;let ci1:=h.ci.make l hc ec d h.br (a9 (2* S.L))
  let Eu:∀b,a1.own r b->¬O b:=λb y w=>by
   rcases U b y with v|v
   ·rwa[h.dj b v w]
   cbv
  let M6:⇑bs+ ⇑i<=700:=by have:=h.ln;rw[aj5,Nat.one_mul]at X;ext
  rwa[⟨x,r,q,S.make c z (a9 (2* S.L)),bs,gs,[],W,⇑S.aY,i,O,_,S.made,2,c1,q1,ci1,λp hp=>?_,ahS _,3,agW _,λf j I H2 u M7 J c2 F IU=>?_⟩]
  ·have:=h.wb p.1 (agU _ (agu (h.pl.a p hp)));rwa[this.1,λy hy=>(this.2 y hy).1]
  let bl:=qj S.made i;let l2:⇑(bs++gB i S.made)<=700:=by rw[agw];ext
  let XJ:B6 (rs++ps) ⇑rs (a9 (2* S.L)) (bs++gB i S.made):=by
   let nw:∀b∈gB i S.made,(rs++ps)[b.1]?\b.2.1/\b.1<⇑rs:=λb d=>by
    let⟨p,hp,d⟩:=aic.mp d;let⟨rfl,_⟩:=wZ d;let h1:=h.pl.a p hp
    cbv
   rwa[⟨λb d=>?_,λb d=>?_,λb d=>?_,λb d=>?_,3⟩]
   ·rwa[(agH.mp d).elim (h.bo.w b) λy=>(nw b y).1]
   ·rwa[(agH.mp d).elim (h.bo.n b) λy=>.inl (nw b y).2]
   ·rwa[(agH.mp d).elim (h.bo.l b) λy=>(h.wb _ (agu (nw b y).1)).1]
   ·rwa[(agH.mp d).elim (h.bo.k b) λy z' L=>((h.wb _ (agu (nw b y).1)).2 z' L).2]
  let g2:⇑f<=700:=by rw[F.len];rwa[l2]
  let Y:lg A.aJ A.aD (S.make c z (a9 (2* S.L))) (bs++gB i S.made) f W (λr s=>r=c/\s=z) (⇑j+ 2* ⇑f) x r q ⇑S.aY i I H2 j W:=⟨c2,F,λ_ _ _ z=>z,by have:=F.two;ext⟩;rwa[⟨12,x,q.dx,12,c2.ins,fj ⋯,1212,x,r,q,f,j,W,⇑S.aY,i,I,c,z,2,c2,Y.fits ∅,λns H3 m nd3 T4 c3=>?_⟩];let XM:=Y.wake nd3 T4 c3;let Tc:CI (S.make c z (a9 (2* S.L))) (bs++gB i S.made) f (j++ns) (gf W c z) fL none:=XM.i.ex λr' s' n' w' _ e=>absurd ⟨ahT Nat.cast e.1,e.2⟩ (dk.mp w').2
  let XQ:∀b,a1.own r b->¬I b:=λb y w=>by
   rcases J b w with v|v
   ·rwa[Eu b y v]
   ·let⟨o,e⟩:=qw.there y;cbv
  let N:iQ A.az H1 r (S.make c z (a9 (2* S.L))) a1 (fu R c z S.made) (a9 (2* S.L)) (B+ 2):=by
   let es:=FG (c:=c) (z:=z) (g:=a9 (2* S.L)) l.wf;let M:(S.make c z (a9 (2* S.L))).aY=S.aY:=rfl;rwa[⟨qw,l.make hc ec d _,rH h.rm.w l.wf _ _ _,λa y b e=>?_,by show S.made+ 1<=_;ext,h.rm.l,5,by rw[M];ext⟩]
   ·rcases e with e|⟨_,e,_⟩|⟨_,e,_⟩
    ·rwa[h.rm.k _ _ _ e]
    ·rw[e];rwa[hz]
    ·rw[e];rwa[L]
   ·show ⇑(S.rows++[_])+ _<=_;rw[agw,es];show ⇑S.rows+ 1+ _<=_;ext
  let rm3:=(N.keep (λb o y e=>u b o (Eu b y) e) (λb Z e=>u b _ (c1.jb e) e)).keep (λb o y e=>m b o (XQ b y) e) (λb Z e=>m b _ (c2.jb e) e);let lv:live f<=700:=agJ List.countP_le_length g2;let hmul:live f* (2* ⇑(bs++gB i S.made)+ 1)<=700* 1401:=ai9 lv ∅;let Xq:⇑(j++ns)<=2100:=by have:=XM.b;ext
  rwa[⟨12,x,q.dx,12,c3.ins,fj ⋯,x,r,q,S.make c z (a9 (2* S.L)),a1,fu R c z S.made,a9 (2* S.L),B+ 2,rs++ps,⇑rs,bs++gB i S.made,f,j++ns,gf W c z,i,I,2,c3,rm3,3,XQ,Tc,XJ,3,λS' a' R' i3 W' O' B' H' f' c' r' ow oo dj' ci' rr em eL tr AW=>?_⟩];let G:S'.made=S.made+ 1:=em
  let out:∀{b o},¬O b->¬a.own r b->H b\o->H' b\o:=λ{b o} C D e=>by
   let e1:=b1 b o D e;let e2:=u b o C e1;let V:¬I b:=λy=>(J b y).elim C λv=>by cbv
   rwa[f' b o V (λy=>(U b y).elim D λv=>by cbv) (m b o V e2)]
  let non:∀b,a1.own r b\/I b\/H3 b=none->a.own r b\/O b\/H b=none:=λb y=>by
   by_cases D:a.own r b
   ·rwa[.inl D]
   by_cases C:O b
   ·rwa[.inr (.inl C)]
   rwa[.inr (.inr ?_)]
   cases e:H b with
   |none=>rfl
   |some o=>
    exfalso
    let e1:=b1 b o D e;let V:¬I b:=λy=>(J b y).elim C λv=>by cbv
    rcases y with y|y|y
    ·cbv
    ·rwa[V y]
    ·rw[m b o V (u b o C e1)]at y;ext y
  let lt:=Later.of l (l.make hc ec d (a9 (2* S.L))) ig (aiN _);let lt2:=Later.of N.g r'.g rr (ajD em.symm);let el1:∀b,b<S.made->(S.make c z (a9 (2* S.L))).av b=S.av b:=λb iV=>(fy l.wf c z (a9 (2* S.L)) b).trans (agT ∅)
  rwa[k S' a' R' (bs++gB i S.made) i3 W' O' B' H' (λb o C D e=>out C D e) ⟨c',out (h.c.Iy h.q) (ye h.rm.at_ h.q) h.q,r',dj',ci',XJ,h.pl,λb d=>?_,λw M t b d eb=>?_,λw M t=>?_,5,h.wb⟩ (λb y=>?_) tr G (eL.trans rfl) ∅]
  ·rw[G];rcases agH.mp d with y|y
   ·have:=h.br b y;ext
   ·let⟨p,_,d⟩:=aic.mp y;let⟨rfl,_⟩:=wZ d;rwa[ahS _]
  ·by_cases e:b<S.made
   ·let e1:=lt2.el b (by show b<S.made+ 1;omega);rw[el1 b e,eb]at e1;let l1:=(l.el b e).1;let l2:=(r'.g.el (S.av b) ∅).1;let⟨n,hn⟩:=h.ra w M t b e ∅
    cbv
   ·let e:b=S.made:=∅
    subst e;let⟨n,hn⟩:=h.pl.b w M;rwa[n,agB _ (aic.mpr ⟨(w,n),hn,Ge t⟩)]
  ·let⟨n,hn⟩:=h.pa w M t
   cbv
  ·have:=h.ln;rw[agw,G,aj5,Nat.one_mul];ext
  cbv
def Nk (T:Txt K mg A):A3 K A.bA:=⟨T.F6,T.F7,T.F8,T.F9,T.Ga,T.Gb⟩
def I0 (n:Nat)(l:Zs):List (Str×V):=[("made",.int n),("rows",↑l)]
inductive Nm (C:Zs) (vs:Zb) (H:Hp) (Q:VK) (E_:XK):Prop
 |mk (x l:Zs) (n:Nat) (xs:Zb):vs=[↑x,.int n,↑l]->H x\XO x C none true->n<100000->H l\.lst xs->⇑xs<=1000000->(∀d l2 H',H d=none->H l2=none->d≠x->(∀b o,b≠x->H b\o->H' b\o)->H' x\XO x C (some d) true->H' d\XD d (I0 n l2)->H' l2\.lst xs->l2≠x->Q .non H')->Nm C vs H Q E_
def qR (T:Txt K mg A):T.dP.Ok mg P w base 1 (Nm A.bA):=by
 rwa[T.dP.on qO (λN X F s H Y Q E S h=>?_)]
 ·let⟨x,l,n,u,rfl,y,U,I,O,k⟩:=h
  refine⟨_,(ai (aU (Kq (Ed T.wF T.dP.m.at_) ⟨T.Y4,T.Y5,T.Y6⟩ rfl T.C9 (ae (pv 0) (ae (G3 (DP (N3 (pv 1)) (DP (eh (l:=[32,114,111,111,109,115,32,119,101,114,101,32,109,97,100,101,44,32,97,110,100,32,116,104,101,114,101,32,97,114,101,32,103,97,112,115,32,108,101,102,116]) rfl) QT))) aj))))
   (ai (Ea (pv 0) (pv 1) rfl)
   (aw (Ea (pv 0) (eM (Ab) rfl T.iY ahX (ae (pv 2) aj)) rfl)))),?_⟩
  rwa[fK ?_];intro R M;let Z:=JC (n:=(n:Int)) ∅ ∅;erw[1212,(n:Int),2312,by show 0+ _<=1000000;ext,1255,x,none,12,y]
  ·rw[ajf];let e:∀m:Nat,m<=100->⇑(Ai (n:Int))+ m<=1000000:=λm L=>∅
   rwa[e _ ⋯]
  ·rw[ajf,agw];let e:∀m:Nat,m<=100->⇑(Ai (n:Int))+ m<=1000000:=λm L=>∅
   rwa[e _ ⋯]
  rwa[⟨1212,x,A.bA,none,true,2,y,Nk T,T.Pb,λd r=>?_⟩];let a:d≠x:=(ax y r).symm;let f:upd (upd H d (XD d [("made",V.int n)])) x (XO x A.bA (some d) true) x\(XO x A.bA (some d) true):=ah;let i:upd (upd H d (XD d [("made",V.int n)])) x (XO x A.bA (some d) true) d\(XD d [("made",V.int n)]):=by rw[ak a,ah]
  let C:∀b o,b≠x->H b\o->upd (upd H d (XD d [("made",V.int n)])) x (XO x A.bA (some d) true) b\o:=λb o B e=>by rw[ak B,ak (ax e r)];rwa[e]
  let B:∀b,upd (upd H d (XD d [("made",V.int n)])) x (XO x A.bA (some d) true) b=none->H b=none:=λb e=>by
   by_cases q:b=x
   ·cbv
   ·rw[ak q]at e;by_cases G:b=d
    ·rw[G];rwa[r]
    ·rw[ak G]at e;rwa[e]
  generalize upd (upd H d (XD d [("made",V.int n)])) x (XO x A.bA (some d) true)=J at f i C B ⊢;let D:l≠x:=bX I y f!"";rwa[⟨12,l,u,2,.inl (aH.of (C _ _ D I)),λg c=>?_⟩];let t:=aq.upd (o:=.lst u) c;let p:upd J g (.lst u) g\(.lst u):=ah;let j:g≠x:=(ax f c).symm;let v:g≠d:=(ax i c).symm;generalize upd J g (.lst u)=H2 at t p ⊢;erw[12,x,A.bA,some d,true,2,t^f,Nk T,T.Pg,_,a,t^i,by show 1<1000;decide];rw[show bJ "rows" (V.ref g) [("made",V.int n)]=I0 n g from dO (by kernel_rfl)];rwa[k d g _ r (B _ c) a (λb o q e=>?_) ?_ ah ?_ j]
  ·rw[ak (ax e r)];rwa[t^C b o q e]
  ·rw[ak a.symm];rwa[t^f]
  ·rw[ak v];rwa[p]
inductive Fl (rs ps:Za3) (L w lim:Nat):RS->Prop
 |start {S:RS}:Tr (rs++ps) ⇑rs (RS.new L (a9 (2* L))) S->uI rs ps S->Fl rs ps L w lim S
 |next {S S':RS} {c:Nat} {z:Int}:Fl rs ps L w lim S->S.made<lim->hO w S L c z->Tr (rs++ps) ⇑rs (S.make c z (a9 (2* L))) S'->uI rs ps S'->Fl rs ps L w lim S'
def m9 (L:Nat)(u:Zg):Prop:=⇑u<=1000/\∀z∈u,z≠0/\z.natAbs<=L
def pC (d:n<=200){u:Zg}(h:m9 n u):⇑u<=1000/\∀z∈u,(-1000<=z/\z<=1000)/\z∈a9 (2* n)/\-z∈a9 (2* n):=by
 rwa[⟨h.1,λz b=>?_⟩];let⟨c,a⟩:=h.2 z b;rwa[3,iK.mpr ⟨c,a⟩,iK.mpr ⟨33⟩]
def jY (h:S.aV[n]?\n):S.av n=n:=by unfold RS.av;rw[agD,h];rfl
def Fl.ys {rs a:Za3}{w:Nat}(h:Fl rs a n w m S)(b:∀u∈rs++a,∀z∈u,z∈a9 (2* n)/\-z∈a9 (2* n)):∃R,YS S n (a9 (2* n)) R:=by
 induction h with
 |start t _=>
  let⟨R,y,_⟩:=YS.new.tr t b;rwa[R,y]
 |next _ _ l t _ d=>
  let⟨R,y⟩:=d;let⟨g,e,c,f⟩:=l.1;let⟨k,o⟩:=iK.mp c;let⟨i,j,_⟩:=(y.make g (jY e) f c (iK.mpr ⟨33⟩)).tr t b;rwa[i,j]
def _root_.Lake.L2.YS.gl (y:YS S n (a9 (2* n)) R)(a:S.made<=100000)(d:n<=200):GL S n:=⟨y.g.wf,a,d,λc hc b=>y.gi.fin y.g (Ie _) hc (jY b)⟩
def Kp.at {pos:Pos}(k:Kp a H I)(t:cU a pos x H){b:Zs}{u:HO}(e:H b\u)(n:∀c,u≠.fw c):I b\u:=k b u (λz=>by
 rcases t with w|⟨_,_,_,_,w,_⟩
 ·cbv
 cbv) e
def Nn (S:RS)(L w:Nat)(H:Hp)(v:V):Prop:=(v=.non/\∀c z,¬cS S L c z)\/∃(c:Nat) (z:Int) (t:Zs),v=↑t/\hO w S L c z/\H t\(.tup [.int (c:Int),.int z])
def xg (c b a:Zs)(H:Hp)(o:Zs)(w:Nat):Prop:=∃d,(w=0/\H o\.ins c d [])\/(w=1/\H o\.ins b d [])\/(w=2/\H o\.ins a d [])
def xg.keep {w:Nat}(h:xg a b c H d w)(k:∀C e,H d\.ins C e []->I d\.ins C e []):xg a b c I d w:=by
 obtain⟨e,h|h|h⟩:=h
 ·rwa[e,.inl ⟨h.1,k^h.2⟩]
 ·rwa[e,.inr (.inl ⟨h.1,k^h.2⟩)]
 ·rwa[e,.inr (.inr ⟨h.1,k^h.2⟩)]
def Ck {e r:Zs}{w:Nat}{Q:VK}{E:XK}(m:H d\.ins c e [])(h:ay a H r S O)(g:GL S n)(p:cU b dm gC H)(k:∀v i,Kp b H i->cU b dm gC i->Nn S n w i v->Q v i):jX a b c w [↑d,↑r] H Q E:=
 ⟨d,e,r,S,O,n,2,m,h,g,p,λq i j l=>k _ i j l (.inl ⟨2,q⟩),λf z s t i j l o=>k _ i j l (.inr ⟨f,z,t,2,s,o⟩)⟩
theorem Px {r:Zs}{w:Nat}{Q:VK}{E:XK}(f:D[5]?\some ↑a)(i:D[6]?\some ↑r)(j:xg A.cV A.bK A.cz H a w)(h:ay A.az H r S O)(g:GL S n)(c:cU A.du dm gC H)(k:∀v b,Kp A.du H b->cU A.du dm gC b->Nn S n w b v->Q v b):
 AY (ku A.cV "gap" (jX A.az A.du A.cV 0) [] E (jd 5) (jJ (jd 6) j3)) (AY (ku A.bK "gap" (jX A.az A.du A.bK 1) [] E (jd 5) (jJ (jd 6) j3)) (ku A.cz "gap" (jX A.az A.du A.cz 2) [] E (jd 5) (jJ (jd 6) j3))) D H Q:=by
 obtain⟨d,⟨rfl,e⟩|⟨rfl,e⟩|⟨rfl,e⟩⟩:=j
 ·rwa[.inl ⟨_,f,a,d,12,e,21,i,Ck e h g c k⟩]
 ·rwa[.inr (.inl ⟨_,f,a,d,12,e,21,i,Ck e h g c k⟩)]
 ·rwa[.inr (.inr ⟨_,f,a,d,12,e,21,i,Ck e h g c k⟩)]
def gR (w:Nat):Zh:=if w=0 then TL else if w=1 then Ly else TN
def lV (H:Hp)(l:Zs)(S:RS):Prop:=∃a:Zn,H l\.lst (a.map V.ref)/\Each (λp d=>bR H 4 ↑p d) a S.rows/\⇑S.rows<=1000000
inductive I7 (Pt cN cT:Zs) (vs:Zb) (H:Hp) (Q:VK) (E:XK):Prop
 |mk (ru pa:Zs) (L lim w:Nat) (rs ps:Za3):vs=[.int L,↑ru,↑pa,.int lim,.str (tx (gR w))]->w<3->1<=L->L<=40->1<=lim->lim<=300->bG H ru rs->bG H pa ps->(∀u∈rs++ps,m9 L u)->lim* ⇑rs+ ⇑ps<=700->⇑rs<=400->⇑ps<=400->cU Pt dm gC H->(∀t tb pp S N H',Kp Pt H H'->cU Pt dm gC H'->Fl rs ps L w lim S->(∀c z,¬cS S L c z)->H' t\.tup [↑tb,↑pp]->TabAt H' tb (M24.lz (bp S) (2* S.L) (M24.bB (bp S) (2* S.L) 0 N))->⇑(M24.bB (bp S) (2* S.L) 0 N)=N->lV H' pp S->Q ↑t H')->(∀d pp S H',Kp Pt H H'->cU Pt dm gC H'->Fl rs ps L w lim S->S.made=lim->(∃c z,hO w S L c z)->H' d\XD d (I0 S.made pp)->lV H' pp S->E ↑cT (some d) H')->I7 Pt cN cT vs H Q E
section
variable {CR CG CC:Zs}{H H':Hp}{x r:Zs}{q:KA}{S:RS}{a:RA}{R:Za2}{ks:Zg}{B:Nat}{rs ps:Za3}{fp:List (Zg×Nat)}{bs:List (Nat×Zg×Nat)}{gs:Zf}{ag:Zh}{W:bE}{O:Zs->Prop}
def CS.keep (h:CS CR CG CC H x r q S a R ks B rs ps fp bs gs ag W O)(f:∀b o,H b\o->(∀ps,o≠.fw ps)->H' b\o):CS CR CG CC H' x r q S a R ks B rs ps fp bs gs ag W O:=
 ⟨h.c.keep (λb o c e=>f b o e (by let⟨g,i,n⟩:=h.c.th b c;cbv)) (λb d e=>f b _ e (by cbv)),f _ _ h.q (by cbv),h.rm.keep (λb o c e=>f b o e (by
  intro ps z;rw[z]at e;rwa[qk h.rm.at_ e (by cbv) (by cbv) (by cbv) c])) (λb d e=>f b _ e (by cbv)),h.dj,h.ci,h.bo,h.pl,h.br,h.ra,h.pa,h.ln,h.wb⟩
def CS.tab (h:CS CR CG CC H x r q S a R ks B rs ps fp bs gs ag W O){c:Zs}{pos:Pos}{d:Str}(t:cU c pos d H)(f:∀b o,¬O b->¬a.own r b->H b\o->H' b\o):cU c pos d H':=by
 rwa[t.keep λb u e k=>f b u (λz=>?_) (λz=>?_) e]
 ·let⟨o,g,n⟩:=h.c.th b z
  cbv
 ·rcases k with ⟨ps,rfl⟩|⟨o,v,rfl⟩
  ·rwa[qk h.rm.at_ e (by cbv) (by cbv) (by cbv) z]
  ·rwa[qk h.rm.at_ e (by cbv) (by cbv) (by cbv) z]
end
structure xh (A:qH) (H0 H:Hp) (x r:Zs) (L lim w:Nat) (rs ps:Za3) (S:RS):Prop where
 k:Kp A.du H0 H
 t:cU A.du dm gC H
 cs:∃q a R B fp bs gs W O,CS A.az A.aJ A.aD H x r q S a R (a9 (2* L)) B rs ps fp bs gs [] W O/\(∀b,a.own r b\/O b->H0 b=none)/\B<=702* S.made
 f:Fl rs ps L w lim S
 m:S.made<=lim
 l:S.L=L
def xh.kp {H0:Hp}{x r:Zs}{w:Nat}{rs d:Za3}(h:xh A H0 H x r n m w rs d S)(k:Kp A.du H I)(t:cU A.du dm gC I):xh A H0 I x r n m w rs d S:=by
 let⟨q,a,R,B,f,bs,gs,W,O,cs,g,i⟩:=h.cs;rwa[h.k.trans k,t,⟨q,a,R,B,f,bs,gs,W,O,cs.keep λb o e c=>k.at h.t e c,g,i⟩,h.f,h.m,h.l]
theorem ED (T:Txt K mg A)(Y:kg mg base):dq P w K mg base (df P w) 11 A.HQ A.HR ["letters","rules","part","limit","order"] (I7 A.du A.nX A.bA):=by
 rwa[T.fill.R7 mh (λvs H Q E h=>?_) (λcC AA outer s H vs Q E M h=>?_)]
 ·let⟨ru,pa,L,i,I,rs,f,rfl,_⟩:=h;rfl
 ·let⟨ru,pa,L,i,I,rs,f,rfl,Xe,lH,BH,hl1,V9,IK,za,aO,Lj,y6,qx,hT,kq,ke⟩:=h
  erw[_,(ai (bD 5 mh.nd (xu (Dm T) (M.mono ⋯) rfl T.p8.m T.p8.F.kp T.p8.b .nil Vs (ae (pv 4) aj)))
   (ai (bD 6 mh.nd (xA (uX T) (tI T) (M.mono ⋯) rfl T.O9 T.gn.b .nil gj (ae (pv 0) aj)))
   (ai (bD 7 mh.nd (xA (qg T) (qQ T) (M.mono ⋯) rfl T.HS T.eV.b .nil gj (ae (pv 6) (ae (pv 1) (ae (pv 2) aj)))))
   (ai (aU (vR (pv 7) (aM T) T.iG (lJ T) M))
   (ai (bD 8 mh.nd (vL (j4 (pv 5) (By T) T.jA.m (sx T) (M.mono ⋯) T.jA.b .nil gj (ae (pv 6) aj)) (vL (j4 (pv 5) (sh T) T.gT.m (m8 T Y) (M.mono ⋯) T.gT.b .nil gj (ae (pv 6) aj)) (j4 (pv 5) (y3 T) T.iH.m (qL T) (M.mono ⋯) T.iH.b .nil gj (ae (pv 6) aj)))))
   (ai (bP (gI PassesOwn.leaving (bf lY (pv 8) cX (bh _))
    (ai (bI (bf UN (aF (pv 6) rfl) (pv 3) (bh _))
     (aw (HG (E:=E) (qR T) (M.mono ⋯) T.dP.b rfl rfl T.yZ (Ed T.wF T.dP.m.at_) T.dP.m.fn T.F5 (ae (aF (pv 6) rfl) (ae (vR (pv 6) (aI T) T.kB (pj T) M) aj)) lvD))
     bq)
    (ai (aU (pm (pv 7) (aM T) T.mX (xc T) M (ae (bF dX (pv 8) au (λ_ _=>rfl)) (ae (bF dX (pv 8) au (λ_ _=>rfl)) aj))))
    (aw (bD 8 mh.nd (vL (j4 (pv 5) (By T) T.jA.m (sx T) (M.mono ⋯) T.jA.b .nil gj (ae (pv 6) aj)) (vL (j4 (pv 5) (sh T) T.gT.m (m8 T Y) (M.mono ⋯) T.gT.b .nil gj (ae (pv 6) aj)) (j4 (pv 5) (y3 T) T.iH.m (qL T) (M.mono ⋯) T.iH.b .nil gj (ae (pv 6) aj))))))))))
   (aw (bx (cQ (ae (pc T.numbered (Dq T) M (ae (pv 6) aj)) (ae (vR (pv 6) (aI T) T.kB (pj T) M) aj)))))))))))]
  rwa[pU ?_];intro BI qK oh jV fS gy;let Np:∀u∈rs++f,∀z∈u,z∈a9 (2* L)/\-z∈a9 (2* L):=λu hu z hz=>((pC ∅ (aO u hu)).2 z hz).2
  suffices main:∀o J,aq H J->xg A.cV A.bK A.cz J o I->gy { nx:=λ_ H'=>Q .non H',rt:=Q } #v[.int L,↑ru,↑pa,.int i,.str (tx (gR I)),↑o,none,none,none] J by
   let sm:∀{C x d:Zs},H x=none->H d=none->d≠x->aq H (upd (upd H d (.own x)) x (.ins C d [])):=λ{C x d} nx nd G=>(aq.upd nd).trans (aq.upd ([ak G.symm]▸nx))
   rwa[⟨12,gR I,25,λe x d nx nd G=>main x _ (sm nx nd G) ⟨d,.inl ⟨5,ah⟩⟩,λe x d nx nd G=>main x _ (sm nx nd G) ⟨d,.inr (.inl ⟨5,ah⟩)⟩,λe x d nx nd G=>main x _ (sm nx nd G) ⟨d,.inr (.inr ⟨5,ah⟩)⟩⟩]
   all_goals rcases (show I=0\/I=1\/I=2 by omega) with rfl|rfl|rfl
   all_goals first|rfl|decide|rwa[absurd e (by decide)]
  intro o J s1 ho;let XS:=hT.same s1;replace IK:=IK.same s1;replace za:=za.same s1;rwa[⟨12,λr Z nx X G=>⟨r,Z,L,2,ah,lH,3,λra H2 k2 h2 T5=>⟨25⟩⟩⟩];let⟨s2,aas⟩:=Pw (C:=A.az) nx X G k2 T5;clear k2 T5 nx X G;rwa[⟨121212,λx Z nx X G=>?_⟩];let s0:aq H2 (upd (upd H2 Z (.own x)) x (.ins A.aD Z [])):=(aq.upd X).trans (aq.upd ([ak G.symm]▸nx));let Nq:upd (upd H2 Z (.own x)) x (.ins A.aD Z []) x\(.ins A.aD Z []):=ah;let Ez:¬ra.own r x:=λz=>by let⟨o,e⟩:=h2.there z;cbv
  let n0:∀b,upd (upd H2 Z (.own x)) x (.ins A.aD Z []) b=none->H2 b=none:=λb z=>same_none s0 z
  generalize upd (upd H2 Z (.own x)) x (.ins A.aD Z [])=H3 at s0 Nq n0 ⊢;let gd:=pT L (a9 (2* L))
  let fit:∀D,yd rs D->1* ⇑D+ ⇑f<=700:=λD h=>by
   have:=aiR ⇑rs hl1;have:=Cb h;ext
  let sl:0+ (RS.new L (a9 (2* L))).stand<=1:=by rw[Nat.zero_add];rwa[BX (RS.new L (a9 (2* L)))]
  let y0:=YS.new (L:=L) (ks:=a9 (2* L));let xi:iQ A.az H2 r (RS.new L (a9 (2* L))) ra (λ_ _ _=>False) (a9 (2* L)) 1:=⟨h2,gd,y0.w,y0.k,by show 1<=2000;decide,by rw[tj];ext,sl,agJ sl ⋯⟩;rwa[⟨x,Z,r,ru,pa,RS.new L (a9 (2* L)),ra,λ_ _ _=>False,rs,f,2,Nq,h2.same s0,gd,Nat.one_pos,by show 1<=2000;decide,Ez,(IK.same s2).same s0,(za.same s2).same s0,y6,qx,λu hu=>⟨(pC ∅ (aO u hu)).1,λz hz=>((pC ∅ (aO u hu)).2 z hz).1⟩,λD h=>by have:=fit D h;show 1* ⇑D+ ⇑f<50000;ext,λq gs ag D O H4 f4 c4 q4 o4 Ew XT hp=>⟨25⟩⟩];let hf:=fit D hp;let sd:⇑(di (RS.new L (a9 (2* L))))<=1:=agJ (aiJ _ _) ([ahG]▸agA _);let Xy:⇑(di (RS.new L (a9 (2* L))))* ⇑D<=1* ⇑D:=aiR _ sd;let l1:=lU D (di (RS.new L (a9 (2* L))));let l2:=su f ⇑rs ⇑f;let Y:⇑(dD D (di (RS.new L (a9 (2* L))))++fH f ⇑rs ⇑f)<=1* ⇑D+ ⇑f:=by rw[agw];ext
  let XU:live gs<=⇑(dD D (di (RS.new L (a9 (2* L))))++fH f ⇑rs ⇑f):=by rw[<-Ew.len];rwa[List.countP_le_length]
  let r4:iQ A.az H4 r (RS.new L (a9 (2* L))) ra (λ_ _ _=>False) (a9 (2* L)) 1:=(xi.same s0).keep (λb o hb e=>f4 b o e (λz=>Ez (by cbv))) (λb xs e=>f4 b _ e (bX e Nq (by cbv)))
  let dj:∀b,ra.own r b->¬O b:=λb z y=>by
   let⟨o,e⟩:=(h2.same s0).there z
   cbv
  let bin:∀b∈dD D (di (RS.new L (a9 (2* L))))++fH f ⇑rs ⇑f,((rs++f)[b.1]?\b.2.1/\(b.1<⇑rs\/b.2.2=0))/\b.2.2<1:=λb hb=>by
   rcases Pn hb with ⟨p,RN,e1,e2,e3⟩|⟨j,u,hj,rfl⟩
   ·let h1:=hp.a p RN;let h2:=(agx.mp h1).1;rw[e1,e2,agF h2];rwa[⟨h1,.inl h2⟩,ahr.mp (aik.mp e3).1]
   cbv
  let U:B6 (rs++f) ⇑rs (a9 (2* L)) (dD D (di (RS.new L (a9 (2* L))))++fH f ⇑rs ⇑f):=
   ⟨λb hb=>(bin b hb).1.1,λb hb=>(bin b hb).1.2,λb hb=>(aO _ (agu (bin b hb).1.1)).1,λb hb z hz=>Np _ (agu (bin b hb).1.1) z hz,3⟩
  let T6:∀w∈rs,w≠[]->∃n,(n,w,0)∈dD D (di (RS.new L (a9 (2* L))))++fH f ⇑rs ⇑f:=λw hw oF=>by
   let⟨n,hn⟩:=hp.b w hw;let hcs:0∈di (RS.new L (a9 (2* L))):=aik.mpr ⟨ahr.mpr Nat.one_pos,aha rfl⟩;rwa[n,agU _ (aic.mpr ⟨(0),hcs,aic.mpr ⟨(w,n),hn,Ge oF⟩⟩)]
  let T7:∀w∈f,w≠[]->∃n,(n,w,0)∈dD D (di (RS.new L (a9 (2* L))))++fH f ⇑rs ⇑f:=λw hw oF=>by
   let⟨j,hj⟩:=ahc hw;rwa[⟨⇑rs+ j,agB _ (aic.mpr ⟨j,ahr.mpr (agx.mp hj).1,5⟩)⟩];rw[agD,hj];rwa[Ge oF]
  generalize dD D (di (RS.new L (a9 (2* L))))++fH f ⇑rs ⇑f=bs at Ew XT Y XU bin U T6 T7;let hmul:live gs* (2* ⇑bs+ 1)<=700* 1401:=ai9 ∅ ∅;clear l1 l2 Xy sd;rwa[⟨12,x,q.dx,12,c4.ins,fj ⋯,x,r,q,RS.new L (a9 (2* L)),ra,λ_ _ _=>False,a9 (2* L),(1),rs++f,⇑rs,bs,gs,ag,sv,D,O,2,c4,r4,3,dj,Ew,U,3,λS' a' R' i3 W' O' B' H5 f5 c5 r5 ow oo XW IV rr em eL tr hb5=>?_⟩];let Nr:S'.made=1:=em
  let HB:∀b o,J b\o->H5 b\o:=λb o e=>by
   let e2:=s2^e
   let nO:¬O b:=λy=>by
    cbv
   rwa[f5 b o nO (λy=>by cbv) (f4 b o (s0^e2) (ax e2 nx))]
  let U5:∀b,a'.own r b\/O' b->J b=none:=λb y=>by
   let nn:ra.own r b\/O b\/H4 b=none->J b=none:=λy=>by
    rcases y with y|y|y
    ·rwa[aas b y]
    ·cases e:J b with
     |none=>rfl
     |some u=>
      let e2:=s2^e
      cbv
    ·cases e:J b with
     |none=>rfl
     |some u=>
      let e2:=s2^e;rw[f4 b u (s0^e2) (ax e2 nx)]at y;ext y
   cbv
  let T8:CS A.az A.aJ A.aD H5 x r q S' a' R' (a9 (2* L)) B' rs f D bs i3 [] W' O':=by
   rwa[⟨c5,f5 _ _ (c4.Iy q4) (ye r4.at_ q4) q4,r5,XW,IV,U,hp,λb hb=>[Nr]▸(bin b hb).2,λw hw oF c hc _=>?_,T7,[Nr]▸Y,λu hu=>pC ∅ (aO u hu)⟩];have:c=0:=∅
   subst this;rwa[T6 w hw oF]
  let XX:xh A J H5 x r L i I rs f S':=⟨λb u _ e=>HB b u e,XS.same HB,⟨q,a',R',B',D,bs,i3,W',O',T8,U5,by rw[Nr];ext⟩,.start tr (T8.T3 ∅),3,eL.trans rfl⟩;clear T8 U5 HB hmul T7 T6 U bin dj r4 XU Y hf xi y0 sl c5 r5 ow oo XW IV rr f5 hb5 Nr em eL tr c4 q4 o4 Ew XT hp f4 Nq Ez n0 s0 gd fit
  let look:∀{H5:Hp} {S:RS} {σ:St} {Qv:VK},xh A J H5 x r L i I rs f S->σ[5]?\some ↑o->σ[6]?\some ↑r->(∀v H6,xh A J H6 x r L i I rs f S->Nn S L I H6 v->Qv v H6)->(AY (ku A.cV "gap" (jX A.az A.du A.cV 0) [] (λ_ _ _=>False) (jd 5) (jJ (jd 6) j3)) (AY (ku A.bK "gap" (jX A.az A.du A.bK 1) [] (λ_ _ _=>False) (jd 5) (jJ (jd 6) j3)) (ku A.cz "gap" (jX A.az A.du A.cz 2) [] (λ_ _ _=>False) (jd 5) (jJ (jd 6) j3)))) σ H5 Qv:=λ{H5 S σ Qv} F e5 e6 kk=>by
   let⟨Ry,y⟩:=F.f.ys Np;let⟨q,a,R,B,D,bs,gs,W,O,cs,_⟩:=F.cs;rwa[Px e5 e6 (ho.keep λC d e=>F.k.at XS e (by cbv)) cs.rm.at_ (y.gl (by have:=F.m;omega) ∅) F.t λv H6 k6 t6 an=>kk v H6 (F.kp k6 t6) an]
  rwa[look XX rfl rfl λv H6 XY an=>?_]
  clear XX;erw[λ fx H'=>∃S,fx=#v[.int L,↑ru,↑pa,.int i,.str (tx (gR I)),↑o,↑r,↑x,some .non]/\xh A J H' x r L i I rs f S/\∀c z,¬cS S L c z,5]
  ·erw[λm σ H'=>∃S v,m=i+ 1 - S.made/\σ=#v[.int L,↑ru,↑pa,.int i,.str (tx (gR I)),↑o,↑r,↑x,some v]/\xh A J H' x r L i I rs f S/\Nn S L I H' v,⟨_,S',v,22,XY,an⟩];clear XY an;rintro m σ H7 ⟨S,v,rfl,rfl,F,an⟩;erw[12212];rcases an with ⟨rfl,hn⟩|⟨c,z,t,rfl,hl,ht⟩
   ·rwa[nB rfl ⟨S,rfl,F,hn⟩]
   rwa[cq (λ_=>?_) (λh=>absurd rfl h)];erw[_,λ fx H' h=>h];let⟨Ry,y⟩:=F.f.ys Np;let⟨q,a,R,B,D,bs,gs,W,O,cs,n0,hB⟩:=F.cs;let hm:=F.m;let eL:=F.l;let rb:=cs.rm.rb;let wr:=y.wr;let hBm:B<=702* 300:=agJ hB (Nat.mul_le_mul_left _ ∅);erw[12,r,_,a.dx,112,cs.rm.at_.ins,aI T,T.pe,sS^_,12112212];rwa[cq (λh=>?_) (λh=>?_)]
   ·let h:(i:Int)<=(S.made:Int):=ahi h;rwa[⟨12,r,_,a.dx,112,cs.rm.at_.ins,aI T,T.pe,sS^_,12,r,a.dx,12,cs.rm.at_.ins,cL _ _ _ ⋯,r,S,a,2,cs.rm.at_,3,λp d hd e=>(y.d d hd).low e,λl qs H8 s8 nl hl8 A5=>?_⟩];intro xx XZ;let s9:=aq.upd (o:=XO xx A.bA none true) XZ;let eln:⇑(qs.map V.ref)<=1000000:=by rw[agy,A5.1];ext
    rwa[⟨xx,l,S.made,qs.map V.ref,2,ah,3,s9^hl8,eln,λd l2 H9 nd Em X f9 hx9 hd9 Nt nlx=>⟨2,some d,hx9,5⟩⟩]
    let T9:aq H8 (del H9 xx):=λb u e=>by
     let nb:=ax e XZ;rw[rF nb];rwa[f9 b u nb (s9^e)]
    rwa[ke d l2 S _ (λb u nb e=>T9^(s8^(F.k b u nb (s1^e)))) ((F.t.same s8).same T9) F.f ∅ ⟨c,z,hl⟩ ([rF X]▸hd9) ⟨qs,[rF nlx]▸Nt,A5.imp (λp d _ _ e=>e.same T9),3⟩]
   let h:S.made<i:=Nat.lt_of_not_le λw=>h (aha ∅)
   let⟨g1,g2,g3,g4⟩:=hl.1;let⟨z1,z2⟩:=iK.mp g3;let M6:⇑D<=⇑rs:=Cb cs.pl;let MR:(S.made+ 1)* ⇑D<=i* ⇑rs:=ai9 h M6;rw[<-eL]at cs;rwa[⟨12,x,q.dx,12,cs.c.ins,fj ⋯,12,t,11122,bC.of ht,212,t,11122,bC.of ht,2,x,r,q,S,a,R,B,rs,f,D,bs,gs,W,O,c,z,2,cs,33,g1,jY g2,g4,[eL]▸g3,iK.mpr ⟨33⟩,3333,λS2 a2 R2 bs2 gs2 W2 O2 B2 H8 f8 Ua ow8 X1 em8 el8 hb8=>?_⟩]
   let fl8:xh A J H8 x r L i I rs f S2:=by
    rw[eL]at Ua X1;rwa[⟨λb u nb e=>f8 b u (λw=>by cbv) (λw=>by cbv) (F.k b u nb e),cs.tab F.t f8,⟨q,a2,R2,B2,D,bs2,gs2,W2,O2,Ua,λb w=>?_,by rw[em8];ext⟩,.next F.f h hl X1 (Ua.T3 ∅),3,el8.trans eL⟩];rcases ow8 b w with v|v|v
    ·rwa[n0 b (.inl v)]
    ·rwa[n0 b (.inr v)]
    ·cases e:J b with
     |none=>rfl
     |some u=>
      let nP:b≠A.du:=λw=>by
       rcases F.t with p|⟨_,_,_,_,p,_⟩
       ·cbv
       cbv
      rw[F.k b u nP e]at v;ext v
   rwa[look fl8 rfl rfl λv H9 fl9 an=>⟨i+ 1 - S2.made,3,S2,v,22,fl9,an⟩]
  rintro σ H7 ⟨S,rfl,F,hn⟩;let⟨Ry,y⟩:=F.f.ys Np;let⟨q,a,R,B,D,bs,gs,W,O,cs,n0,hB⟩:=F.cs;let hm:=F.m;let eL:=F.l;let rb:=cs.rm.rb;let g:=y.g;let hBm:B<=702* 300:=agJ hB (Nat.mul_le_mul_left _ ∅);rwa[⟨12,r,S,a,λc=>c<S.made/\S.av c=c,2,cs.rm.at_,333,g.wf.w,⟨y.m,by have:=(g.el 0 y.m).1;ext⟩,λc hc=>⟨hc.1,λk hk=>?_⟩,λtb N H8 s8 nt h8 hN=>?_⟩]
  ·cases e:S.by c (M12.st k) with
   |some d=>
    let⟨_,d2,_,d4⟩:=g.st _ _ _ e;rwa[d,2,d2,d4]
   |none=>
    rw[eL]at hk;rwa[absurd ⟨hc.1,5,agu (sj hk),e⟩ (hn c _)];rw[m6 ([g.wf.e]▸hc.1),hc.2]
  rwa[⟨12,r,a.dx,12,(cs.rm.at_.same s8).ins,cL _ _ _ ⋯,r,S,a,2,cs.rm.at_.same s8,3,λp d hd e=>(y.d d hd).low e,λpp qs H9 s9 np hp9 A5=>?_⟩];rwa[⟨by show 2<=sizeLine;decide,λt nt=>?_⟩];let sA:=aq.upd (o:=.tup [↑tb,↑pp]) nt;rwa[kq t tb pp S N _ (λb u nb e=>sA^(s9^(s8^(F.k b u nb (s1^e))))) (((F.t.same s8).same s9).same sA) F.f hn ah ((h8.same s9).same sA) hN ⟨qs,sA^hp9,A5.imp (λp d _ _ e=>e.same sA),3⟩]
theorem words_of {H:Hp}{P:Zg->Prop}:∀{ps:Zn},(∀(i:Nat) (p:Zs),ps[i]?\p->∃w,H p\.tup (ao w)/\P w)->∃a,bT H ps a/\∀w∈a,P w
 |[],_=>⟨[],⟨2,(λi p w e=>by simp at e)⟩,(λw f=>by ext f)⟩
 |p::ps,h=>by
  let⟨a,d,k⟩:=words_of (ps:=ps) λi q e=>h (i+ 1) q (by simpa using e)
  let⟨w,g,j⟩:=h 0 p rfl;rwa[⟨w::a,⟨by rw[agV,agV,d.1],λi q u b c=>?_⟩,λu l=>?_⟩]
  ·cases i with
   |zero=>ext b;ext c;rwa[g]
   |succ i=>exact d.2 i q u (by simpa using b) (by simpa using c)
  cbv
def Ub:Sp:=λa H Q _=>∃(z:Int) (L:Nat),a=[.int z,.int L]/\1<=L/\L<=200/\∀s:Int,s≠0->s.natAbs<=L->Q (.int s) H
def sC (T:Txt K mg A):T.nY.Ok P w base 1 Ub:=by
 rwa[T.nY.on Bz (λd j a s H l Q E g h=>?_) (len:=by rintro _ _ _ _ ⟨z,L,rfl,_⟩;rfl)]
 ·let⟨z,L,rfl,f,e,k⟩:=h
  erw[_,(ai (bI (bf eI (aK bL (pv 0) au) au (bh _))
   (aw (bx (eG dw (aK cI au (aK bL (aK cJ (pv 0) au) (pv 1))))))
   bq)
   (aw (bx (aK cI au (aK bL (aK cJ (pv 0) au) (pv 1))))))]
  rwa[jf ?_];intro c;let b:∀y:Int,0<=y % (L:Int)/\y % (L:Int)<L:=λy=>⟨ah7 _ ∅,ahW _ ∅⟩
  let i:=b (z / 2);rwa[⟨121122,(by show (0:Int)<2;decide),212,cq (λh=>?_) (λh=>?_)⟩]
  ·refine⟨121122,⟨44⟩,121122,(by show (0:Int)<(L:Int);omega),112212,k _ ?_ ?_⟩ <;> ext
  ·refine⟨121122,⟨44⟩,12112231122,k _ ?_ ?_⟩ <;> ext
def sD (n:Nat):Zb:=(List.range n).map λi:Nat=>V.int (i:Int)
def nh (n:Nat):⇑(sD n)=n:=by unfold sD;cbv
def EE (h:i<n):(sD n)[i]?\(V.int (i:Int)):=by
 unfold sD;rw[agR,ai5 h];rfl
def Py {x:V}(h:(sD n)[i]?\x):i<n/\x=V.int (i:Int):=by
 let a:i<n:=by
  have:=(agx.mp h).1;rw[nh]at this;rwa[this]
 rw[EE a]at h;rwa[a,(Za0 h).symm]
def xj {c:TE}{Q:VK}(g:Nat->Int)(k:n<=1000)(j:∀i:Nat,i<n->∀R:VK,R (.int (g i)) H->c (some (.int (i:Int))::D) H R)(f:∀a,H a=none->Q ↑a (upd H a (.lst (ao ((List.range n).map g))))):qV c D Q (vo 0 n) H:=by
 rwa[jo (sD n) (λv=>match v with|.int z=>.int (g z.toNat)|v=>v) (λi b=>by rw[nh]at b;rwa[b]) (λi x o b y=>?_) ([nh]▸agA _) ([nh]▸agJ k ⋯) (λi x h R d=>?_) (λa l=>?_)]
 ·rw[nh]at b;let⟨p,m⟩:=y;erw[3];rw[EE b]
  cbv
 ·let⟨b,rfl⟩:=Py h;rwa[j i b R ?_];have:R (V.int (g ((i:Int)).toNat)) H:=d;rw[ag4]at this;rwa[this]
 ·let e:((sD n).map λv=>match v with|.int z=>V.int (g z.toNat)|v=>v)=ao ((List.range n).map g):=by
   unfold sD ao;rw[ahe,ahe];rfl
  rw[e];rwa[f a l]
def qm {a:Za3}(h:bT H F a){w:Zs}{c:Zb}{o:HO}(b:H w\.lst c):bT (upd H w o) F a:=h.keep λp d e=>by
 rw[ak (bX e b (by cbv))];rwa[e]
noncomputable def sf (rows:Za3)(x:Nat)(s:Int):Nat:=if 0<s then ((rows.getD (s.natAbs - 1) []).getD x 0).toNat else (rows.getD (s.natAbs - 1) []).findIdx (λz=>z==(x:Int))
inductive yk (vs:Zb) (H:Hp) (Q:VK) (E_:XK):Prop
 |mk (a wa:Zs) (rows:Za3) (p x:Nat) (w:Zg):vs=[↑a,.int x,↑wa]->TabAt H a rows->(∀r∈rows,M11.Pm p r)->x<p->p<=1000->H wa\.tup (ao w)->M11.fW ⇑rows w->⇑rows<=1000->Q (.int ((w.foldl (sf rows) x:Nat):Int)) H->yk vs H Q E_
theorem EF:∀{r:Zg} {i:Nat} {x:Int},r.Nodup->r[i]?\x->r.findIdx (λz=>z==x)=i
 |[],i,x,_,h=>by simp at h
 |a::r,0,x,_,h=>by
  cbv
 |a::r,i+ 1,x,c,h=>by
  let b:a≠x:=λz=>(ahb.mp c).1 ([z]▸agu (l:=r) (i:=i) h)
  rw[List.findIdx_cons,show (a==x)=false from agS.mpr b,EF (ahb.mp c).2 h];rfl
def Cm {rows:Za3}{x:Nat}{r:Zg}(h:0<z)(b:rows[z.natAbs - 1]?\r)(a:r[x]?\(n:Int)):sf rows x z=n:=by
 unfold sf;rw[agX h,agD,agD,b,Option.getD_some,a,Option.getD_some];rfl
def Cp {rows:Za3}{x:Nat}{r:Zg}(h:¬ 0<z)(b:rows[z.natAbs - 1]?\r)(c:r.Nodup)(a:r[n]?\(x:Int)):sf rows x z=n:=by
 unfold sf;rw[agT h,agD,b,Option.getD_some];rwa[EF c a]
def qM (T:Txt K mg A):T.lQ.Ok P w base 1 yk:=by
 rwa[T.lQ.on ja (λZ AA N s H vs Q E hr h=>?_)]
 ·let⟨a,J,rows,p,x,w,rfl,F,L,hx,hp,l,I,y6,k⟩:=h
  erw[_,(ai (cP ag0 rfl (vp (pv 2)) (dB 3 ja.nd)
   (aw (bP (bI (bf zK (pv 3) au (bh _))
    (aw (bD 1 ja.nd (bF bO (bF bO (pv 0) (aK jH (pv 3) au) (λ_ _=>rfl)) (pv 1) (λ_ _=>rfl))))
    (aw (bD 1 ja.nd (cG agG PySem.F.slot_list_index PySem.F.type_list_index zk (bF bO (pv 0) (aK jH (eG dw (pv 3)) au) (λ_ _=>rfl)) (ae (pv 1) aj))))))))
   (aw (bx (pv 1))))]
  rwa[jf ?_];intro Y;let⟨rs,r,o⟩:=id F;erw[12,J,2,⟨_,bC.of l⟩];rwa[Dv (K:=K) (a:=J) (xs:=ao w) (λn u D=>∃v:Zc,u=#v[↑a,.int (((w.take n).foldl (sf rows) x:Nat):Int),↑J,v]/\D=H/\(w.take n).foldl (sf rows) x<p) ⟨none,22,hx⟩ (λn u D _ ζ=>by let⟨_,_,e,_⟩:=ζ;rwa[[e]▸bC.of l]) ?_ ?_]
  ·rintro n y u D hn ⟨v,rfl,rfl,b⟩;let⟨z,rfl,X⟩:=cR hn;let hs:=I z (agu X)
   let d:(w.take (n+ 1)).foldl (sf rows) x=sf rows ((w.take n).foldl (sf rows) x) z:=by
    rw[aix,X,aiZ];rfl
   rw[d];generalize (w.take n).foldl (sf rows) x=pt at b ⊢;let S:z.natAbs - 1<⇑rows:=∅
   let m:rows[z.natAbs - 1]?=some rows[z.natAbs - 1]:=agv S
   let G:z.natAbs - 1<⇑rs:=by rw[o.1];rwa[S]
   let B:rs[z.natAbs - 1]?=some rs[z.natAbs - 1]:=agv G
   generalize rows[z.natAbs - 1]=row at m;generalize rs[z.natAbs - 1]=f at B;let c:=o.2 _ _ _ B m;let C:=L row (agu m);rwa[⟨15,λ_ _ h=>h⟩];erw[12112212];rwa[cq (λh=>?_) (λh=>?_)]
   ·let R:(0:Int)<z:=ahi h;let⟨j,t,g⟩:=C.at b
    let O:kK (rs.map V.ref) (z - 1)\↑f:=by
     rw[show z - 1=((z.natAbs - 1:Nat):Int) by ext];rwa[dM B]
    erw[12121122,a,11,↑f,22,aH.of r,O,12,f,11122,aH.of c,dE (cK t)];rw[Cm R m t];rwa[122,g]
   ·let R:¬(0:Int)<z:=λq=>h (aha q)
    let⟨j,t,g⟩:=C.Sj b
    let O:kK (rs.map V.ref) (-z - 1)\↑f:=by
     rw[show -z - 1=((z.natAbs - 1:Nat):Int) by ext];rwa[dM B]
    rwa[⟨1212121122,a,11,↑f,22,aH.of r,O,.inl ⟨21,aH.of c⟩,12,f,row,(pt:Int),22,c,agu t,λi U _=>?_⟩];rw[Cp R m C.nd U]
    let M:i<p:=by
     have:=(agx.mp U).1;rw[C.len]at this;rwa[this]
    rwa[122,M]
  ·rintro u D ⟨v,rfl,rfl,b⟩;rw[aL,aib];rwa[12,k]
def Gh {rows:Za3}{x:Nat}(d:∀r∈rows,M11.Pm n r)(e:x<n)(i:z≠0)(f:z.natAbs<=⇑rows):sf rows x z<n/\sf rows (sf rows x z) (-z)=x:=by
 let g:rows[z.natAbs - 1]?\(rows[z.natAbs - 1]'∅):=agv ∅
 generalize rows[z.natAbs - 1]'∅=r at g;let c:=d r (agu g);by_cases h:0<z
 ·let⟨j,a,b⟩:=c.at e;rw[Cm h g a];rwa[b,Cp ∅ ([Int.natAbs_neg]▸g) c.nd a]
 ·let⟨j,a,b⟩:=c.Sj e;rw[Cp h g c.nd a];rwa[b,Cm ∅ ([Int.natAbs_neg]▸g) a]
def xk {w:Zg}(h:M11.fW n (z::w)):(z≠0/\z.natAbs<=n)/\M11.fW n w:=⟨h z (agM ..),λx a=>h x (ag3 _ a)⟩
theorem Gi {rows:Za3}{p:Nat}(a:∀r∈rows,M11.Pm p r):∀{w:Zg} {x:Nat},M11.fW ⇑rows w->x<p->w.foldl (sf rows) x<p
 |[],x,_,b=>b
 |s::w,x,e,b=>by
  let⟨d,c⟩:=xk e;rwa[Gi a (w:=w) c (Gh a b d.1 d.2).1]
theorem Cq {rows:Za3}{p:Nat}(a:∀r∈rows,M11.Pm p r):∀{w:Zg} {x y:Nat},M11.fW ⇑rows w->x<p->y<p->w.foldl (sf rows) x=w.foldl (sf rows) y->x=y
 |[],x,y,_,_,_,e=>e
 |s::w,x,y,d,g,f,e=>by
  let⟨b,c⟩:=xk d;let a1:=Gh a g b.1 b.2;let a2:=Gh a f b.1 b.2;have:=Cq a (w:=w) c a1.1 a2.1 e;rw[<-a1.2,<-a2.2,this]
def Uc:M11.Pm n (eS 0 n):=by
 rwa[⟨oJ 0 n,5,λz d=>?_⟩]
 ·unfold eS;rwa[List.Pairwise.map _ (λa b (c:a≠b) (z:(0:Int)+ (a:Int)=0+ (b:Int))=>c ∅) aj9]
 ·unfold eS at d;let⟨i,e,rfl⟩:=ahp.mp d;have:=ahr.mp e;ext
def Ud {f:Nat->Nat}{xs:Zh}(h:∀x∈xs,x<n)(a:∀x,x<n->M17.it f 60 x=x):xs.map (M17.it f 60)=xs.map (M17.it f 0):=aht λx b=>a x (h x b)
def gE (xs:Zh):Zg:=xs.map λx:Nat=>(x:Int)
def Pz (xs:Zh):⇑(gE xs)=⇑xs:=by unfold gE;cbv
theorem EG:∀{a ys:Zh},gE a=gE ys->a=ys
 |[],[],_=>rfl
 |[],_::_,h=>by ext h
 |_::_,[],h=>by ext h
 |x::a,y::ys,h=>by
  let b:(x:Int)::gE a=(y:Int)::gE ys:=h;injection b with d c
  rw[show x=y by ext,EG c]
def Ue (h:(gE B)[i]?\z):∃x,B[i]?\x/\z=(x:Int):=by
 unfold gE at h
 cbv
def zQ (f:Nat->Nat):V->V
 |.int z=>.int ((f z.toNat:Nat):Int)
 |v=>v
def zb (f:Nat->Nat)(xs:Zh):(ao (gE xs)).map (zQ f)=ao (gE (xs.map f)):=by
 unfold ao gE;rw[ahe,ahe,ahe,ahe];rwa[aht λx _=>?_]
 show V.int ((f ((x:Int)).toNat:Nat):Int)=V.int ((f x:Nat):Int);rw[ag4]
def zc {rs:Zn}{rows:Za3}{r:Zs}(h:dJ H rs rows)(e:H r\.lst (ao l)):dJ H (rs++[r]) (rows++[l]):=by
 rwa[⟨by rw[agw,agw,h.1];rfl,λi q d b a=>?_⟩];by_cases c:i<⇑rs
 ·rw[agF c]at b;rw[agF (by rw[<-h.1];rwa[c])]at a;rwa[h.2 i q d b a]
 ·rw[agI ∅]at b;rw[agI (by rw[<-h.1];omega)]at a;rw[agC.mp (agu b),agC.mp (agu a)];rwa[e]
inductive EH (vs:Zb) (H:Hp) (Q:VK) (E_:XK):Prop
 |mk (z:Int) (m:Nat) (b:Bool):vs=[.int z,.int m,.bl b]->1<=m->m<=100->0<=z->(∀l r H',aq H H'->H' l\.lst (ao r)->M11.Pm m r->Q ↑l H')->EH vs H Q E_
def Cr (d:n<m)(f:i<m)(h:(z+ (n:Int)) % (m:Int)=(z+ (i:Int)) % (m:Int)):n=i:=by
 let g:=Int.emod_emod_of_dvd (z+ (n:Int)) (Int.dvd_refl (m:Int));let b:(m:Int)∣(z+ (n:Int)) - (z+ (i:Int)):=Int.dvd_of_emod_eq_zero (by rw[Int.sub_emod,h,Int.sub_self];rfl);let⟨q,c⟩:=b
 let a:q=0:=by
  rwa[ajv λe=>?_]
  have:(m:Int)<=((m:Int)* q).natAbs:=by
   rw[Int.natAbs_mul];have:1<=q.natAbs:=∅
   have:=Nat.mul_le_mul_left m this;rw[Nat.mul_one]at this;show (m:Int)<=((m* q.natAbs:Nat):Int);ext
  ext
 rw[a,Int.mul_zero]at c;ext
def Nu {g:Nat->Int}(b:∀i,i<m->0<=g i/\g i<(m:Int))(d:∀i j,i<m->j<m->g i=g j->i=j):M11.Pm m ((List.range m).map g):=by
 rwa[⟨by cbv,5,λz c=>?_⟩]
 ·rwa[aih.mpr (ajK ?_ aj9)]
  cbv
 ·let⟨i,a,rfl⟩:=ahp.mp c;rwa[b i (ahr.mp a)]
def PB {r:Zg}(h:r.Perm (eS 0 m)):M11.Pm m r:=by
 let a:M11.Pm m (eS 0 m):=Uc;rwa[by rw[h.length_eq,a.len],h.nodup_iff.mpr a.nd,λz b=>a.rg z (h.mem_iff.mp b)]
theorem erase_cons:∀{s:Zg} {k:Nat} {x:Int},s[k]?\x->(x::s.eraseIdx k).Perm s
 |[],k,x,h=>by simp at h
 |a::s,0,x,h=>by
  cbv
 |a::s,k+ 1,x,h=>(List.Perm.swap a x (s.eraseIdx k)).trans ((erase_cons (s:=s) h).cons a)
def Gj {s:Zg}{k:Nat}{x:Int}(h:s[k]?\x):((l++[x])++s.eraseIdx k).Perm (l++s):=by
 rw[ahq];rwa[List.Perm.append_left l (erase_cons h)]
def VQ {k:Nat}(h:k<n):seqIndex? (k:Int) n\k:=(xB (pk h)).1
theorem xl:∀(ns:Zg) (k:Nat),(ao ns).eraseIdx k=ao (ns.eraseIdx k)
 |[],_=>rfl
 |a::ns,0=>rfl
 |a::ns,k+ 1=>by
  show V.int a::(ao ns).eraseIdx k=V.int a::ao (ns.eraseIdx k);rw[xl ns k]
def xm (T:Txt K mg A):T.mW.Ok P w base 1 EH:=by
 rwa[T.mW.on fF (λcC AA outer s H vs Q E hr h=>?_)]
 ·let⟨z,m,b,rfl,X2,BM,hz,k⟩:=h;let hu:=aj6 (hH hr)
  erw[_,(ai (bD 3 fF.nd (aK bL (aK cJ (pv 0) au) (pv 1)))
   (ai (bP (bI (PW.pt (vm (iT (pv 2)) (sG (bf eI (aK bL (pv 0) au) au (bh _)))))
    (aw (bx (gM (fns:=["_law_many","_law_by"]) (ixs:=[1,3]) (cl:=_) rfl (ia rfl T.eQ (ae (pv 1) aj)) (jM rfl rfl rfl ⋯ rfl ⋯ rfl ⋯ ⋯ rfl rfl rfl rfl rfl rfl rfl) (λC s H ex=>(aK bL (aK jH (pv 2) (pv 0)) (pv 1))))))
    bq))
   (ai (bI (iT (pv 2))
    (aw (bx (gM (fns:=["_law_many","_law_by"]) (ixs:=[1,3]) (cl:=_) rfl (ia rfl T.eQ (ae (pv 1) aj)) (jM rfl rfl rfl ⋯ rfl ⋯ rfl ⋯ ⋯ rfl rfl rfl rfl rfl rfl rfl) (λC s H ex=>(aK bL (aK cI (pv 2) (pv 0)) (pv 1))))))
    bq)
   (ai (bD 4 fF.nd (qp rfl rfl T.iY rfl T.eQ (ae (pv 1) aj)))
   (ai (bD 5 fF.nd (bU aj))
   (ai (bP (gI ag0 (bf (DS hu) (pv 4) (bU aj) (bh _))
    (ai (aU (cG agG agO agP bH (pv 5) (ae (cG agG PySem.F.slot_list_pop PySem.F.type_list_pop Jx (pv 4) (ae (aK bL (pv 0) (bN bM rfl T.fe ahx (ae (pv 4) aj))) aj)) aj)))
    (aw (bD 0 fF.nd (aK cJ (pv 0) (aK cI (bN bM rfl T.fe ahx (ae (pv 4) aj)) au)))))))
   (aw (bx (pv 5)))))))))]
  rwa[pU ?_];intro BI qK oh jV fS gy;let b1:=ah7 (z / 2) (show (m:Int)≠0 by omega);let b2:=ahW (z / 2) (show (0:Int)<(m:Int) by omega);erw[121122,⟨44⟩,1211223];obtain⟨y,hy⟩:∃y,z / 2 % (m:Int)=y:=⟨12⟩;rw[hy]at b1 b2;simp only[hy];erw[λ p q=>p=#v[.int z,.int m,.bl b,.int y,none,none]/\q=H,5]
  ·erw[1212];rwa[cq (λ_=>?_) (λ_=>dN ⟨22⟩)];erw[121122,(by show (0:Int)<2;decide),212];rwa[cq (λ_=>?_) (λ_=>⟨22⟩)];erw[12,(m:Int),233];rw[ag4];rwa[xj (λi=>(y - (i:Int)) % (m:Int)) ∅ (λi F R hR=>?_) (λD hD=>?_)]
   ·rwa[12121122121122,(by show (0:Int)<(m:Int);omega),hR]
   ·rwa[k D _ _ (aq.upd hD) ah (Nu (λi F=>⟨ah7 _ ∅,ahW _ ∅⟩) λi j F hj e=>?_)]
    let e2:((y - (m:Int)+ 1)+ (((m - 1 - i:Nat)):Int)) % (m:Int)=((y - (m:Int)+ 1)+ (((m - 1 - j:Nat)):Int)) % (m:Int):=by
     rw[show (y - (m:Int)+ 1)+ (((m - 1 - i:Nat)):Int)=y - (i:Int) by ext,show (y - (m:Int)+ 1)+ (((m - 1 - j:Nat)):Int)=y - (j:Int) by ext];rwa[e]
    have:=Cr ∅ ∅ e2;ext
  rintro p q ⟨rfl,rfl⟩;erw[1212];rwa[cq (λ_=>?_) (λ_=>?_)]
  ·erw[12,(m:Int),233];rw[ag4];rwa[xj (λi=>(y+ (i:Int)) % (m:Int)) ∅ (λi F R hR=>?_) (λD hD=>?_)]
   ·rwa[121211221211223,hR]
   ·rwa[k D _ _ (aq.upd hD) ah (Nu (λi F=>⟨ah7 _ ∅,ahW _ ∅⟩) λi j F hj e=>Cr F hj e)]
  rwa[⟨12,m,23,λd O=>?_⟩];let s1:aq q (upd q d (.lst (ao (eS 0 m)))):=aq.upd O;let h1:upd q d (.lst (ao (eS 0 m))) d\(.lst (ao (eS 0 m))):=ah;generalize upd q d (.lst (ao (eS 0 m)))=Y at s1 h1 ⊢;rwa[⟨agW _,λlt X=>?_⟩];let s2:aq Y (upd Y lt (.lst [])):=aq.upd X;let h2:upd Y lt (.lst []) lt\(.lst (ao [])):=ah;let S:d≠lt:=λe=>by cbv
  let Ug:q lt=none:=s1.free X;generalize upd Y lt (.lst [])=H2 at s2 h2 ⊢;erw[λ p l=>∃(g:Zg) (v0:Zc),p=#v[v0,.int m,.bl b,.int y,↑d,↑lt]/\aq q l/\l lt\.lst (ao g)/\g.Perm (eS 0 m),5]
  ·erw[λn σ l=>∃(g a:Zg) (x:Int),n=⇑a/\σ=#v[.int x,.int m,.bl b,.int y,↑d,↑lt]/\aq q l/\l lt\.lst (ao g)/\l d\.lst (ao a)/\(g++a).Perm (eS 0 m),⟨_,[],eS 0 m,z,22,s1.trans s2,h2,s2^h1,List.Perm.refl _⟩];rintro n σ l ⟨g,a,x,rfl,rfl,s3,v,Uh,G⟩;let hlen:=G.length_eq;rw[agw,oJ]at hlen;rwa[⟨12,agW _,λN he0=>?_⟩];let L:aq l (upd l N (.lst [])):=aq.upd he0;let h4:upd l N (.lst []) N\(.lst (ao [])):=ah;generalize upd l N (.lst [])=Z at L h4 ⊢;let B:=L^v;let r:=L^Uh;erw[d,N,a,[],22,r,h4,12];by_cases u:a=[]
   ·rwa[nB u ?_];rw[u,ag9]at G;rwa[g,12,s3.trans L,B,G]
   ·let I:0<⇑a:=List.length_pos_iff.mpr u;rwa[cq (λ_=>?_) (λh=>?_)]
    ·erw[_,λ p q h=>h];let⟨f,Q5,t⟩:=eT x (n:=⇑a) I;let hx:a[f]?=some a[f]:=agv t
     generalize a[f]=c at hx;let ekk:x % (⇑(ao a):Int)=(f:Int):=by rw[aL];rwa[Q5]
     erw[12,.inl ⟨21,aH.of B⟩,12,.inl ⟨21,aH.of r⟩,1212,d,12,.inl (aH.of r),1122,(by show (0:Int)<(⇑(ao a):Int);rw[aL];omega)];simp only[ekk];erw[d,_,(f:Int),f,.int c,22,r,33,VQ ([aL]▸t),cK hx];rw[xl];let M:upd Z d (.lst (ao (a.eraseIdx f))) lt\(.lst (ao g)):=by rw[ak (ahQ S)];rwa[B]
     let U:upd Z d (.lst (ao (a.eraseIdx f))) d\(.lst (ao (a.eraseIdx f))):=ah;let nls:q d=none:=O;let s5:aq q (upd Z d (.lst (ao (a.eraseIdx f)))):=λb o e=>by rw[ak (ax e nls)];rwa[L^s3^e]
     generalize upd Z d (.lst (ao (a.eraseIdx f)))=H5 at M U s5 ⊢;erw[lt,1122,M,5]
     ·rw[aL];rwa[agE (show ⇑g<=100 by omega) ⋯]
     let tW:⇑(a.eraseIdx f)=⇑a - 1:=List.length_eraseIdx_of_lt t;let J:upd H5 lt (.lst (ao g++[.int c])) d\(.lst (ao (a.eraseIdx f))):=by rw[ak S];rwa[U]
     erw[1212,d,12,.inl (aH.of J),11221122,⟨by show (0:Int)<(⇑(ao (a.eraseIdx f)):Int)+ 1;ext,by show (⇑(ao (a.eraseIdx f)):Int)+ 1<1073741824;rw[aL];ext⟩];rwa[⟨⇑(a.eraseIdx f),3,g++[c],a.eraseIdx f,122,λb o e=>?_,by rw[ah,ints_app];rfl,J,(Gj hx).trans G⟩];rw[ak (ax e Ug)];rwa[s5^e]
    cbv
  rintro p l ⟨g,v0,rfl,s3,v,G⟩;rwa[12,k lt g l s3 v (PB G)]
theorem I8 {r lt:Zs}{rs:Zn}(h:H r\.lst (ao l))(b:l≠[])(a:H lt\.lst (rs.map V.ref)):r≠lt:=λe=>by
 rw[e,a]at h;injection h with h
 injection h with h
 cases l with
 |nil=>exact b rfl
 |cons z l=>
  cases rs with
  |nil=>ext h
  |cons q rs=>ext h
def PD (p:Nat):eS 0 p=gE (List.range p):=by
 unfold eS gE
 cbv
inductive Ct (vs:Zb) (H:Hp) (Q:VK) (E_:XK):Prop
 |mk (ta pa wa:Zs) (rows:Za3) (p:Nat) (xs:Zh) (w:Zg):vs=[↑ta,↑pa,↑wa]->TabAt H ta rows->(∀r∈rows,M11.Pm p r)->p<=6->H pa\.lst (ao (gE xs))->(∀x∈xs,x<p)->⇑xs<=6->H wa\.tup (ao w)->M11.fW ⇑rows w->⇑rows<=40->(∀(n:Nat) H',1<=n->n<=60->(∀x∈xs,M17.it (λx=>w.foldl (sf rows) x) n x=x)->(∀c,1<=c->c<n->¬ ∀x∈xs,M17.it (λx=>w.foldl (sf rows) x) c x=x)->aq H H'->Q (.int (n:Int)) H')->Ct vs H Q E_
def pD (T:Txt K mg A):T.kz.Ok P w base 2 Ct:=by
 rwa[T.kz.on gu (λcC AA outer s H vs Q E hr h=>?_)]
 ·let⟨O,L,S,rows,p,xs,w,rfl,Y,B,EI,N,J,EJ,U,v,y6,k⟩:=h;let hu:=aj6 (hH hr)
  erw[_,(ai (bD 3 gu.nd au)
   (ai (kx (iy:=4) gu.nd rfl (Or.inl rfl) (fns:=["_law_word","_law_turns"]) (ixs:=[2,0]) (cl:=_) rfl (da (pv 1)) (jM rfl rfl rfl ⋯ rfl ⋯ rfl ⋯ ⋯ rfl rfl rfl rfl rfl rfl rfl) (λC s H ex=>(pc T.lQ (qM T) hr (ae (pv 2) (ae (pv 0) (ae (pv 1) aj))))))
   (ai (bP (gI ag0 (bf (DS hu) (pv 4) (pv 1) (bh _))
    (ai (kx (iy:=4) gu.nd rfl (Or.inl rfl) (fns:=["_law_word","_law_turns"]) (ixs:=[2,0]) (cl:=_) rfl (da (pv 4)) (jM rfl rfl rfl ⋯ rfl ⋯ rfl ⋯ ⋯ rfl rfl rfl rfl rfl rfl rfl) (λC s H ex=>(pc T.lQ (qM T) hr (ae (pv 2) (ae (pv 0) (ae (pv 1) aj))))))
    (aw (bD 3 gu.nd (aK cI (pv 3) au))))))
   (aw (bx (pv 3))))))]
  rwa[ik ?_];intro jV fS gy;obtain⟨f,hf⟩:∃f:Nat->Nat,f=λx=>w.foldl (sf rows) x:=⟨12⟩
  rw[<-hf]at k;let r:∀x,w.foldl (sf rows) x=f x:=λx=>by rw[hf]
  let M:∀x,x<p->f x<p:=λx a=>by rw[<-r];rwa[Gi B v a]
  let Z:∀x y,x<p->y<p->f x=f y->x=y:=λx y a G e=>by rw[<-r,<-r]at e;rwa[Cq B v a G e]
  let h60:=Ud J (M17.VB EI M Z);let hit:=λ(n:Nat) (x:Nat) (a:x<p)=>M17.sY M n x a
  let e0:xs.map (M17.it f 0)=xs:=(aht λx _=>rfl).trans (List.map_id xs);let step:∀c,(xs.map (M17.it f c)).map f=xs.map (M17.it f (c+ 1)):=λc=>by rw[ahe];rwa[aht λx _=>rfl]
  let lt:∀c,∀x∈xs.map (M17.it f c),x<p:=λc x a=>by
   let⟨y,G,rfl⟩:=ahp.mp a;rwa[hit c y (J y G)]
  let body:∀{j:Hp} {R:VK} {i c:Nat} {x:V},aq H j->(ao (gE (xs.map (M17.it f c))))[i]?\x->R (zQ f x) j->yk [↑O,x,↑S] j R E0:=λ{j R i c x} s2 a F=>by
   let⟨z,rfl,hz⟩:=cR a;let⟨y,G,rfl⟩:=Ue hz;let hyp:=lt c y (agu G);erw[O,S,rows,p,y,w,2,Y.same s2,B,hyp,3,s2^U,v,3];let o:R (V.int ((f ((y:Nat):Int).toNat:Nat):Int)) j:=F;rw[ag4]at o;rw[r];rwa[o]
  let ln:∀c,⇑(ao (gE (xs.map (M17.it f c))))<=sizeLine:=λc=>by rw[aL,Pz,agy];rwa[agJ EJ ⋯]
  let g:H L\(.lst (ao (gE (xs.map (M17.it f 0))))):=by rw[e0];rwa[N]
  erw[12,L,2,⟨_,aH.of g⟩];rwa[jo (ao (gE (xs.map (M17.it f 0)))) (zQ f) (jK (aH.of g)) (iC (aH.of g)) (gJ (aH.of g)) (ln 0) (λi x a R F=>⟨121212,body (aq.refl H) a F⟩) (λb XC=>?_)];rw[zb,step];let s1:aq H (upd H b (.lst (ao (gE (xs.map (M17.it f 1)))))):=aq.upd XC;let o:upd H b (.lst (ao (gE (xs.map (M17.it f 1))))) b\(.lst (ao (gE (xs.map (M17.it f 1))))):=ah;generalize upd H b (.lst (ao (gE (xs.map (M17.it f 1)))))=H1 at s1 o ⊢;erw[λ I j=>∃(b:Zs) (c:Nat),I=#v[↑O,↑L,↑S,.int (c:Int),↑b]/\aq H j/\1<=c/\c<=60/\xs.map (M17.it f c)=xs/\(∀d,1<=d->d<c->xs.map (M17.it f d)≠xs),5]
  ·erw[λm σ j=>∃(b:Zs) (c:Nat),m=60 - c/\σ=#v[↑O,↑L,↑S,.int (c:Int),↑b]/\aq H j/\j b\.lst (ao (gE (xs.map (M17.it f c))))/\1<=c/\c<=60/\(∀d,1<=d->d<c->xs.map (M17.it f d)≠xs),⟨_,b,(1),22,s1,o,agA _,3,λd o l=>∅⟩];rintro m σ j ⟨b,c,rfl,rfl,s2,l,t,D,u⟩;erw[1212,b,L,1122,l,s2^N,12];by_cases e:gE (xs.map (M17.it f c))=gE xs
   ·rwa[nB e ⟨b,c,2,s2,t,D,EG e,u⟩]
   ·rwa[cq (λ_=>?_) (λh=>absurd (by cbv) h)]
    let X3:c<60:=by
     rcases aim c 60 with q|q
     ·rwa[q]
     ·rwa[absurd (by rw[show c=60 by ext,h60,e0]) e]
    rwa[⟨_,λ_ _ h=>h,?_⟩];erw[12,b,2,⟨_,aH.of l⟩];rwa[jo (ao (gE (xs.map (M17.it f c)))) (zQ f) (jK (aH.of l)) (iC (aH.of l)) (gJ (aH.of l)) (ln c) (λi x a R F=>⟨121212,body s2 a F⟩) (λs3 Uh=>?_)];rw[zb,step];rwa[⟨121122,60 - (c+ 1),3,s3,c+ 1,25,s2.trans (aq.upd Uh),ah,33,λd o l=>?_⟩]
    ·rw[show ((c+ 1:Nat):Int)=(c:Int)+ 1 by ext];rfl
    cbv
  rintro I j ⟨b,c,rfl,s2,t,D,hxc,u⟩;rwa[⟨12,k c j t D (λx a=>?_) (λd o l z=>u d o l ((aht λx a=>z x a).trans (List.map_id xs))) s2⟩];let⟨i,hi,rfl⟩:=ais.mp a
  cbv
theorem I9 {h:TE}{Q:VK}(lo:Int)(v:n<=1000)(p:∀(i:Nat) (b:Hp) (R:VK),i<n->(∀q,b q=none->R ↑q (upd b q (.tup (ao [lo+ (i:Int)]))))->h (some (.int (lo+ (i:Int)))::D) b R)
 (l:∀a b c,aq H b->b a=none->bT b c ((List.range n).map λi:Nat=>[lo+ (i:Int)])->Q ↑a (upd b a (.lst (c.map V.ref)))):qV h D Q (vo lo n) H:=by
 erw[λi m ys b=>m=n - i/\i<=n/\∃c:Zn,ys=c.map V.ref/\aq H b/\bT b c ((List.range i).map λi:Nat=>[lo+ (i:Int)]),⟨n,by simp,agW _,[],2,λ_ _ e=>e,⟨2,λi r y s=>by simp at s⟩⟩];rintro i m ys b ⟨rfl,u,c,rfl,s2,d⟩;let g:⇑c=i:=by have:=d.1;rw[agy,ahG]at this;rwa[this]
 by_cases f:i<n
 ·rwa[.inr ⟨f,[agy,g]▸agE (show i<=1000 by omega) ⋯,λx o k=>?_⟩];let⟨rfl,rfl⟩:=k;rwa[p i o _ f λq j=>?_]
  erw[n - (i+ 1),32,f,c++[q],by cbv,s2.trans (aq.upd j)];rw[ah9,ag6];rwa[(d.same (aq.upd j)).snoc ah]
 ·let e:i=n:=∅
  subst e;rwa[.inl ⟨agA _,[agy,g]▸agJ (show i<=1000 by omega) ⋯,λa t=>l a b c s2 t d⟩]
theorem vj {g:Zn}{f c:Za3}(h:bT H F f)(e:bT H g c):bT H (F++g) (f++c):=by
 rwa[⟨by rw[agw,agw,h.1,e.1],λi p w b a=>?_⟩];by_cases d:i<⇑F
 ·rw[agF d]at b;rw[agF (by rw[<-h.1];rwa[d])]at a;rwa[h.2 i p w b a]
 ·rw[agI ∅]at b;rw[agI (by rw[<-h.1];omega),<-h.1]at a;rwa[e.2 _ p w b a]
def Cu (w:Zg)(n:Nat):(List.replicate n (ao w)).flatten=ao ((List.replicate n w).flatten):=by
 induction n with
 |zero=>rfl
 |succ n a=>rw[ai4,aj1,a,ai4,aj1,ints_app]
def Cv {w:Zg}(h:z∈(List.replicate n w).flatten):z∈w:=by
 let⟨u,b,a⟩:=List.mem_flatten.mp h
 cbv
def zf (w:Zg)(n:Nat):(List.replicate n w).flatten.length=⇑w* n:=by
 induction n with
 |zero=>rfl
 |succ n a=>cbv
theorem Cw {a:Type}(g:Nat->a->Nat)(w:List a):∀(n x:Nat),((List.replicate n w).flatten).foldl g x=M17.it (λx=>w.foldl g x) n x
 |0,x=>rfl
 |n+ 1,x=>by
  let e:=M17.vT (λx=>w.foldl g x) 1 n x;rw[show n+ 1=1+ n by ext,e,show 1+ n=n+ 1 by ext,ai4,aj1,aiZ,Cw g w n];rfl
def Ja (rows:Za3)(p:Nat)(u:Zg):Prop:=M11.fW ⇑rows u/\⇑u<=60/\∀x,x<p->u.foldl (sf rows) x=x
inductive EK (vs:Zb) (H:Hp) (Q:VK) (E_:XK):Prop
 |mk (ta:Zs) (rows:Za3) (p:Nat) (z xi:Int):vs=[↑ta,.int ⇑rows,.int z,.int xi]->xi<=60->TabAt H ta rows->1<=⇑rows->⇑rows<=3->(∀r∈rows,M11.Pm p r)->p<=6->(∀l R H',aq H H'->bG H' l R->(∀u∈R,Ja rows p u)->⇑R<=21->H l=none->Q ↑l H')->EK vs H Q E_
def zG (T:Txt K mg A):T.qc.Ok P w base 3 EK:=by
 rwa[T.qc.on c9 (λcC AA outer s H vs Q E hr h=>?_)]
 ·let⟨ta,rows,p,z0,xi,rfl,afj,X4,lH,X5,X6,EI,k⟩:=h
  refine⟨_,(ai (kx (iy:=4) c9.nd rfl (Or.inl rfl) (fns:=[]) (ixs:=[]) (cl:=[]) rfl (ny rfl T.eQ (ae au (ae (aK cI (pv 1) au) aj))) (iB (by decide) (by decide) rfl (by decide) rfl) (λC s H ex=>(cQ (ae (pv 0) aj))))
   (ai (cP ag0 rfl (ny rfl T.eQ (ae au (ae (aK cI (pv 1) au) aj))) (dB 5 c9.nd)
    (aw (cP ag0 rfl (ny rfl T.eQ (ae au (ae (pv 5) aj))) (dB 6 c9.nd)
     (aw (bD 4 c9.nd (aK Ad (pv 4) (bU (ae (cQ (ae (pv 6) (ae (pv 5) aj))) (ae (cQ (ae (pv 6) (ae (eG dw (pv 5)) aj))) (ae (cQ (ae (pv 6) (ae (pv 5) (ae (eG dw (pv 6)) (ae (eG dw (pv 5)) aj))))) aj))))))))))
   (ai (bD 7 c9.nd (bU aj))
   (ai (cP ag0 rfl (da (pv 4)) (dB 8 c9.nd)
    (ai (bD 9 c9.nd (pc T.kz (pD T) hr (ae (pv 0) (ae (qp rfl rfl T.iY rfl T.eQ (ae (bN bM rfl T.fe ahx (ae (bF bO (pv 0) au (λ_ _=>rfl)) aj)) aj)) (ae (pv 8) aj)))))
    (ai (bP (bI (PW.pt (vm (bf zK (aK bL (pv 2) au) au (bh _)) (sG (bf UM (aK mn (bN bM rfl T.fe ahx (ae (pv 8) aj)) (pv 9)) (pv 3) (bh _)))))
     (ai (aU (cG agG agO agP bH (pv 7) (ae (aK DJ (pv 8) (pv 9)) aj)))
     (aw (bD 3 c9.nd (aK jH (pv 3) (aK mn (bN bM rfl T.fe ahx (ae (pv 8) aj)) (pv 9))))))
     bq))
    (aw (bD 2 c9.nd (aK cJ (pv 2) au))))))
   (aw (bx (pv 7))))))),?_⟩
  rwa[uF ?_];intro oh jV fS gy;let⟨Ui,aat,m⟩:=id X4;let Y:0<⇑rows:=∅
  let c0:rows[0]?=some rows[0]:=agv Y
  let S:=X6 _ (agu c0);generalize rows[0]=aau at c0 S;let d0:Ui[0]?\(Ui[0]'(by rw[m.1];omega)):=agv (by rw[m.1];omega)
  generalize Ui[0]'([m.1]▸Y)=Uj at d0;let aav:=m.2 0 Uj aau d0 c0;erw[121122,(1),(⇑rows:Int)+ 1,2,⟨3333⟩];rwa[I9 1 (n:=((⇑rows:Int)+ 1 - 1).toNat) ∅ (λi H2 R hi hR=>⟨12,by show 1<=sizeLine;decide,λq hq=>hR q hq⟩) (λd H1 c s1 hlw A5=>?_)];let Uk:aq H1 (upd H1 d (.lst (c.map V.ref))):=aq.upd hlw;let h2:upd H1 d (.lst (c.map V.ref)) d\(.lst (c.map V.ref)):=ah;generalize upd H1 d (.lst (c.map V.ref))=H2 at Uk h2 ⊢;let U:=A5.same Uk
  let X7:∀u∈(List.range ((⇑rows:Int)+ 1 - 1).toNat).map (λi:Nat=>[(1:Int)+ (i:Int)]),M11.fW ⇑rows u/\⇑u<=4:=λu g=>by
   let⟨i,hi,rfl⟩:=ahp.mp g;have:=ahr.mp hi;rwa[λs j=>[agC.mp j]▸⟨33⟩,by show 1<=4;decide]
  let WT:⇑((List.range ((⇑rows:Int)+ 1 - 1).toNat).map (λi:Nat=>[(1:Int)+ (i:Int)]))<=3:=by rw[agy,ahG];ext
  generalize (List.range ((⇑rows:Int)+ 1 - 1).toNat).map (λi:Nat=>[(1:Int)+ (i:Int)])=W0 at U X7 WT;let s02:=s1.trans Uk;erw[121122,(2),(⇑rows:Int)+ 1,2,⟨3333⟩];rwa[ib (lo:=2) (n:=((⇑rows:Int)+ 1 - 2).toNat) (λi z B=>∃(d:Zs) (c:Zn) (f:Za3) (v5 I:Zc),z=#v[↑ta,.int (⇑rows:Int),.int z0,.int xi,↑d,v5,I,none,none,none]/\aq H B/\B d\.lst (c.map V.ref)/\bT B c f/\(∀u∈f,M11.fW ⇑rows u/\⇑u<=4)/\⇑f<=3+ 9* i) ⟨d,c,W0,none,none,2,s02,h2,U,X7,3⟩ ?_ ?_]
  ·rintro i z B hi ⟨d,c,f,v5,I,rfl,s3,h3,t3,Ul,hl3⟩;erw[12,(1),2+ (i:Int),2,⟨3333⟩];rwa[ib (lo:=1) (n:=(2+ (i:Int) - 1).toNat) (λn z X=>∃(d:Zs) (c:Zn) (f:Za3) (I:Zc),z=#v[↑ta,.int (⇑rows:Int),.int z0,.int xi,↑d,.int (2+ (i:Int)),I,none,none,none]/\aq H X/\X d\.lst (c.map V.ref)/\bT X c f/\(∀u∈f,M11.fW ⇑rows u/\⇑u<=4)/\⇑f<=3+ 9* i+ 3* n) ⟨d,c,f,I,2,s3,h3,t3,Ul,3⟩ ?_ ?_]
   ·rintro n z X hn ⟨d,c,f,I,rfl,s4,h4,t4,Um,hl4⟩;rwa[⟨121212,by show 2<=sizeLine;decide,λL Iq=>?_⟩];let s5:=aq.upd (o:=.tup [.int (1+ (n:Int)),.int (2+ (i:Int))]) Iq;let a5:upd X L (.tup [.int (1+ (n:Int)),.int (2+ (i:Int))]) L\(.tup (ao [1+ (n:Int),2+ (i:Int)])):=ah;generalize upd X L (.tup [.int (1+ (n:Int)),.int (2+ (i:Int))])=l at s5 a5 ⊢;rwa[⟨121212,by show 2<=sizeLine;decide,λM MQ=>?_⟩];let s6:=aq.upd (o:=.tup [.int (1+ (n:Int)),.int (-(2+ (i:Int)))]) MQ;let a6:upd l M (.tup [.int (1+ (n:Int)),.int (-(2+ (i:Int)))]) M\(.tup (ao [1+ (n:Int),-(2+ (i:Int))])):=ah;generalize upd l M (.tup [.int (1+ (n:Int)),.int (-(2+ (i:Int)))])=H6 at s6 a6 ⊢;rwa[⟨121212121212,by show 4<=sizeLine;decide,λO hq3=>?_⟩];let s7:=aq.upd (o:=.tup [.int (1+ (n:Int)),.int (2+ (i:Int)),.int (-(1+ (n:Int))),.int (-(2+ (i:Int)))]) hq3;let a7:upd H6 O (.tup [.int (1+ (n:Int)),.int (2+ (i:Int)),.int (-(1+ (n:Int))),.int (-(2+ (i:Int)))]) O\(.tup (ao [1+ (n:Int),2+ (i:Int),-(1+ (n:Int)),-(2+ (i:Int))])):=ah;generalize upd H6 O (.tup [.int (1+ (n:Int)),.int (2+ (i:Int)),.int (-(1+ (n:Int))),.int (-(2+ (i:Int)))])=H7 at s7 a7 ⊢;rwa[⟨by show 3<=sizeLine;decide,λql BO=>?_⟩];let s8:=aq.upd (o:=.lst [↑L,↑M,↑O]) BO;let a8:upd H7 ql (.lst [↑L,↑M,↑O]) ql\(.lst ([L,M,O].map V.ref)):=ah;generalize upd H7 ql (.lst [↑L,↑M,↑O])=H8 at s8 a8 ⊢;let Uo:=((s5.trans s6).trans s7).trans s8
    let t8:bT H8 [L,M,O] [[1+ (n:Int),2+ (i:Int)],[1+ (n:Int),-(2+ (i:Int))],[1+ (n:Int),2+ (i:Int),-(1+ (n:Int)),-(2+ (i:Int))]]:=by
     let b0:bT H8 [] []:=⟨2,λi p w h1=>by simp at h1⟩;rwa[((b0.snoc (s8^s7^s6^a5)).snoc (s8^s7^a6)).snoc (s8^a7)]
    let qx:⇑c=⇑f:=t4.1;rwa[⟨d,ql,1122,Uo^h4,a8,5,λl9 Nt=>?_⟩]
    ·rw[agy,agy];rwa[agJ (show ⇑c+ 3<=1000 by omega) ⋯]
    erw[l9,c++[L,M,O],112,(s4.trans Uo).trans (aq.upd Nt),by rw[ah,ag6],(vj (t4.same Uo) t8).same (aq.upd Nt),λu g=>?_]
    ·rcases agH.mp g with g|g
     ·rwa[Um u g]
     ·let ok:∀s:Int,s=1+ (n:Int)\/s=2+ (i:Int)\/s= -(1+ (n:Int))\/s= -(2+ (i:Int))->s≠0/\s.natAbs<=⇑rows:=λs j=>by
       rcases j with rfl|rfl|rfl|rfl
       ·rwa[⟨by ext,by ext⟩]
       ·rwa[⟨by ext,by ext⟩]
       ·rwa[⟨by ext,by ext⟩]
       ·rwa[⟨by ext,by ext⟩]
      simp only[agN,ahl,aiM]at g;rcases g with rfl|rfl|rfl
      ·rwa[⟨λs j=>ok s ?_,by show 2<=4;decide⟩];simp only[agN,ahl,aiM]at j;rcases j with h|h
       ·rwa[.inl h]
       ·rwa[.inr (.inl h)]
      ·rwa[⟨λs j=>ok s ?_,by show 2<=4;decide⟩];simp only[agN,ahl,aiM]at j;rcases j with h|h
       ·rwa[.inl h]
       ·rwa[.inr (.inr (.inr h))]
      ·rwa[⟨λs j=>ok s ?_,by show 4<=4;decide⟩];simp only[agN,ahl,aiM]at j;rwa[j]
    ·rw[agw];simp only[agV,ahZ];ext
   ·rintro z X ⟨d,c,f,I,rfl,s4,h4,t4,Um,hl4⟩;rwa[d,c,f,112,s4,h4,t4,Um,3]
  rintro z B ⟨d,c,f,v5,I,rfl,s3,h3,t3,Ul,hl3⟩;rwa[⟨agW _,λF Ci=>?_⟩];let Uq:aq B (upd B F (.lst [])):=aq.upd Ci;let h4:upd B F (.lst []) F\(.lst (([]:Zn).map V.ref)):=ah;generalize upd B F (.lst [])=X at Uq h4 ⊢;erw[12,d,2,⟨_,aH.of (Uq^h3)⟩];rwa[fI (K:=K) (a:=d) (xs:=c.map V.ref) (λn z l=>∃(fs:Zn) (R:Za3) (zm v:Int) (v8 v9:Zc),z=#v[↑ta,.int (⇑rows:Int),.int zm,.int v,↑d,v5,I,↑F,v8,v9]/\aq B l/\l F\.lst (fs.map V.ref)/\bT l fs R/\(∀u∈R,Ja rows p u)/\⇑R<=n/\v<=60) ⟨[],[],z0,xi,none,none,2,Uq,h4,⟨2,λi p w h1=>by simp at h1⟩,(λu g=>by ext g),agW _,3⟩ (λn z l _ ζ=>by let⟨_,_,_,_,_,_,_,s,_⟩:=ζ;rwa[aH.of (s^h3)]) ?_ ?_]
  ·rintro n y z l hn ⟨fs,R,zm,v,v8,v9,rfl,s5,h5,t5,G,EL,Jb⟩;rw[agR]at hn
   let Eo:n<⇑c:=by
    cases e:c[n]? with
    |none=>rw[e]at hn;ext hn
    |some r=>cbv
   let g1:c[n]?=some c[n]:=agv Eo
   rw[g1]at hn;let ey:V.ref c[n]=y:=Za0 hn;subst ey;generalize c[n]=wa at g1;let qx:⇑c=⇑f:=t3.1;let g2:f[n]?\(f[n]'∅):=agv ∅
   generalize f[n]'∅=w at g2;let wY:=t3.2 n wa w g1 g2;let⟨M5,W7⟩:=Ul w (agu g2);let Z:=s3.trans s5;let VR:=Z^aat;rwa[⟨1212,ta,11,↑Uj,22,aH.of VR,dM (i:=0) d0,Uj,12,.inl (aH.of (Z^aav)),p,by rw[aL,S.1],3,λlp hlp=>?_⟩];let J:aq l (upd l lp (.lst (ao (eS 0 p)))):=aq.upd hlp;let h6:upd l lp (.lst (ao (eS 0 p))) lp\(.lst (ao (eS 0 p))):=ah;generalize upd l lp (.lst (ao (eS 0 p)))=H6 at J h6 ⊢;rw[PD]at h6;rwa[⟨12,ta,lp,wa,rows,p,List.range p,w,2,X4.same (Z.trans J),X6,EI,h6,λx hx=>ahr.mp hx,[ahG]▸EI,J^s5^wY,M5,3,λon H7 ho1 T5 Jc _ s67=>?_⟩];let N:=J.trans s67;let t:=N^s5^wY;let h7:=N^h5;let t7:=t5.same N;let Ur:=s5.trans N;erw[λ fx H'=>∃(fs:Zn) (R:Za3) (v:Int),fx=#v[↑ta,.int (⇑rows:Int),.int zm,.int v,↑d,v5,I,↑F,↑wa,.int (on:Int)]/\aq B H'/\H' F\.lst (fs.map V.ref)/\bT H' fs R/\(∀u∈R,Ja rows p u)/\⇑R<=n+ 1/\v<=60,5]
   ·rwa[⟨121122,(by show (0:Int)<3;decide),112212,cq (λ_=>?_) (λ_=>dN ⟨fs,R,v,2,Ur,h7,t7,G,3,Jb⟩)⟩];rwa[⟨12,wa,12,.inr (bC.of t),121122,.inr ⟨33⟩,12112212,cq (λh=>?_) (λ_=>⟨fs,R,v,2,Ur,h7,t7,G,3,Jb⟩)⟩];let hle:(⇑(ao w):Int)* (on:Int)<=v:=ahi h;rw[aL]at hle
    let hmul:⇑w* on<=60:=by
     have:((⇑w* on:Nat):Int)=(⇑w:Int)* (on:Int):=Int.natCast_mul ..;ext
    rwa[⟨12,.inl ⟨21,aH.of h7⟩,1212,wa,1122,t,335,λq8 H8 D h8=>?_⟩]
    ·rw[aL,ag4];rwa[agJ hmul ⋯]
    rw[ag4,Cu]at h8;let Us:=D^h7;let M6:⇑fs=⇑R:=t5.1;erw[F,1122,Us,5]
    ·rw[agy];rwa[agE (show ⇑fs<=1000 by omega) ⋯]
    let aaw:upd H8 F (.lst (fs.map V.ref++[V.ref q8])) wa\(.tup (ao w)):=by
     rw[ak (bX (D^t) Us (by cbv))];rwa[D^t]
    erw[1212,wa,12,.inr (bC.of aaw),121122,.inr ⟨33⟩,1122];erw[fs++[q8],R++[(List.replicate on w).flatten],12,λb o e=>[ak (ax e Ci)]▸D^Ur^e,by rw[ah,ag6];rfl,qm ((t7.same D).snoc h8) Us,λu g=>?_,by rw[agw];simp only[agV,ahZ];ext]
    ·rcases agH.mp g with g|g
     ·rwa[G u g]
     ·rw[agC.mp g];rwa[λs j=>M5 s (Cv j),by rw[zf];ext,λx hx=>[Cw]▸Jc x (ahr.mpr hx)]
    cbv
   rintro fx H8 ⟨fs,R,v,rfl,s8,h8,t8,hR8,aax,aay⟩;rwa[121122,⟨44⟩,fs,R,_,v,112,s8,h8,t8,hR8,aax,aay]
  ·rintro z l ⟨fs,R,zm,v,v8,v9,rfl,s5,h5,t5,G,EL,Jb⟩;let qx:⇑c=⇑f:=t3.1;rw[agy]at EL;rwa[12,k F R l (s3.trans s5) ⟨fs,h5,t5⟩ G ∅ (same_none s3 Ci)]
def Ut (rows:Za3)(x:Nat)(u:Zg):Prop:=M11.fW ⇑rows u/\⇑u<=1000/\u.foldl (sf rows) x=x
inductive Jd (K:Za1) (vs:Zb) (H:Hp) (Q:VK) (E_:XK):Prop
 |mk (a ta:Zs) (ns:Zg) (rows:Za3) (p x:Nat):vs=[↑a,↑ta,.int ⇑rows,.int x]->aH K H a (ao ns)->⇑ns<=63->TabAt H ta rows->1<=⇑rows->⇑rows<=3->(∀r∈rows,M11.Pm p r)->p<=6->x<p->(∀l P H',aq H H'->bG H' l P->(∀u∈P,Ut rows x u)->⇑P<=3->Q ↑l H')->Jd K vs H Q E_
structure jF (H H':Hp) (l:Zs) (L n m:Nat) (Ws:Za3):Prop where
 s:aq H H'
 f:H l=none
 h:bG H' l Ws
 w:∀u∈Ws,M11.fW L u/\⇑u<=m
 c:⇑Ws<=n
def jF.same {b:Za3}(h:jF H I a n m i b)(s:aq I J):jF H J a n m i b:=⟨h.s.trans s,h.f,h.h.same s,h.w,h.c⟩
def jF.le {n' m':Nat}{b:Za3}(h:jF H I a n m i b)(e:m<=n')(d:i<=m'):jF H I a n n' m' b:=⟨h.s,h.f,h.h,λu c=>⟨(h.w u c).1,agJ (h.w u c).2 d⟩,agJ h.c e⟩
def jF.add {q:Zs}{d:Za3}{u:Zg}(h:jF H I a n m i d)(l:I q\.tup (ao u))(j:M11.fW n u/\⇑u<=i):∃c:Zn,I a\.lst (c.map V.ref)/\⇑c<=m/\jF H (upd I a (.lst (c.map V.ref++[↑q]))) a n (m+ 1) i (d++[u]):=by
 let⟨c,g,f⟩:=h.h;rwa[⟨c,g,[f.1]▸h.c,λb o e=>[ak (ax e h.f)]▸h.s^e,h.f,⟨c++[q],by rw[ah,ag6];rfl,qm (f.snoc l) g⟩,λv k=>?_,by rw[agw];have:=h.c;show _+ 1<=_;ext⟩];rcases agH.mp k with y|y
 ·rwa[h.w v y]
 ·rw[agC.mp y];rwa[j]
def jF.ins {K:Za1}{b:Za3}(h:jF H I a n m i b):LW K "list" ↑a I:=by
 let⟨d,c,_⟩:=h.h;rwa[.inl ⟨21,aH.of c⟩]
def Cy (T:Txt K mg A):T.rX.Ok P w base 3 (Jd K):=by
 rwa[T.rX.on gx (λcC AA outer s H vs Q E I h=>?_)]
 ·let⟨a,X,ns,rows,p,x,rfl,ha,X8,hT,lH,X5,N,EI,L,k⟩:=h;let R:=aj6 (hH I)
  erw[_,(ai (bD 4 gx.nd (aK bL (pc T.bj (aX T) I (ae (pv 0) (ae au aj))) au))
   (ai (bD 5 gx.nd (bU aj))
   (ai (bP (bI (PW.pt (UC (bf eI (pv 4) au (bh _)) (P1 (bf eI (pv 4) au (bh _)))))
    (aw (aU (cG agG agO agP bH (pv 5) (ae (cQ (ae (aK cI au (aK bL (aK cJ (pc T.bj (aX T) I (ae (pv 0) (ae au aj))) au) (pv 2))) aj)) aj))))
    bq))
   (ai (bP (bI (bf eI (pv 4) au (bh _))
    (aw (aU (cG agG agO agP bH (pv 5) (ae (cQ (ae (bF dX (bF bO (pv 5) au (λ_ _=>rfl)) au (λ_ _=>rfl)) (ae (aK jH (eG dw au) (aK bL (aK cJ (pc T.bj (aX T) I (ae (pv 0) (ae au aj))) au) (pv 2))) aj))) aj))))
    bq))
   (ai (bP (bI (bf eI (pv 4) au (bh _))
    (ai (bD 6 gx.nd (cQ aj))
    (ai (cP ag0 rfl (da (j5 DE (pv 0) (iA au) (iA au))) (dB 7 gx.nd)
     (aw (bD 6 gx.nd (aK pM (pv 6) (cQ (ae (pc T.nY (sC T) I (ae (aK bL (aK mn (pv 7) au) au) (ae (pv 2) aj))) aj))))))
    (aw (bP (bI (bf (NQ R) (pv 6) (cQ aj) (bh _))
     (aw (aU (cG agG agO agP bH (pv 5) (ae (pv 6) aj))))
     bq)))))
    bq))
   (aw (bx (gM (fns:=["_law_turns","_law_first"]) (ixs:=[1,3]) (cl:=_) rfl (da (pv 5)) (jM rfl rfl rfl ⋯ rfl ⋯ rfl ⋯ ⋯ rfl rfl rfl rfl rfl rfl rfl) (λC s H ex=>(aK DJ (pv 0) (pc T.kz (pD T) I (ae (pv 1) (ae (bU (ae (pv 2) aj)) (ae (pv 0) aj))))))))))))))]
  rwa[mG ?_];intro qK oh jV fS gy;rwa[⟨12,a,ns,(6),2,ha,4,λz=>⟨1122,(by show (0:Int)<4;decide),5⟩⟩];obtain⟨y,m⟩:∃y,z % 4=y:=⟨12⟩;rw[show V.int (z % 4)=V.int y from ahT V.int m];clear m;rwa[⟨agW _,λl nl=>?_⟩];let w0:jF H (upd H l (.lst [])) l ⇑rows 0 1 []:=⟨aq.upd nl,nl,⟨[],ah,2,λi p w h=>by simp at h⟩,(λu R=>by ext R),agA _⟩;generalize upd H l (.lst [])=H1 at w0 ⊢;let md:∀z:Int,0<=z % (⇑rows:Int)/\z % (⇑rows:Int)<⇑rows:=λz=>⟨ah7 _ ∅,ahW _ ∅⟩
  erw[λ d r=>∃g,d=#v[↑a,↑X,.int ⇑rows,.int x,.int y,↑l,none,none]/\jF H r l ⇑rows 1 2 g/\(y=2->∃s,g=[[s]]),5]
  ·erw[12212];rwa[cq (λJ=>ic ?_) (λJ=>⟨12212,cq (λh2=>?_) (λh2=>⟨[],2,w0.le ⋯ ⋯,λe=>absurd (by rw[e];rfl) h2⟩)⟩)]
   all_goals
    rwa[⟨12,w0.ins,12,a,ns,(6),2,w0.s.seq ha,4,λz1=>⟨1122,⟨44⟩,12112231122,(Za4 1),λq hq=>?_⟩⟩];let sq:=aq.upd (o:=.tup [.int (1+ z1 / 24 % (⇑rows:Int))]) hq;have:=md (z1 / 24);let⟨f,j,g2,g3⟩:=(w0.same sq).add (q:=q) (u:=[1+ z1 / 24 % (⇑rows:Int)]) ah ⟨λs G=>[agC.mp G]▸⟨33⟩,agA _⟩;rwa[l,1122,j,[agy]▸agE (show ⇑f<=100 by omega) ⋯,12,g3.le ⋯ ⋯,λ_=>⟨12⟩]
  rintro d U ⟨g,rfl,S,m⟩;erw[λ d r=>∃g,d=#v[↑a,↑X,.int ⇑rows,.int x,.int y,↑l,none,none]/\jF H r l ⇑rows 2 2 g,5]
  ·erw[12212];rwa[cq (λJ=>?_) (λJ=>⟨g,2,S.le ⋯ ⋯⟩)];let h1':V.int y=V.int 2:=ahi J;let⟨s0,rfl⟩:=m (by injection h1');let⟨f,j,g2⟩:=id S.h
   obtain⟨Z,rfl⟩:∃Z,f=[Z]:=by
    have:=g2.1
    match f,this with
    |[Z],_=>cbv
   let g3:U Z\(.tup (ao [s0])):=g2.2 0 Z _ rfl rfl;let hs0:=(S.w _ (agC.mpr rfl)).1 s0 (agC.mpr rfl);rwa[⟨12,S.ins,12,l,11122,aH.of j,2,Z,11122,bC.of g3,21212,a,ns,(7),2,S.s.seq ha,4,λz1=>⟨1122,⟨44⟩,121122,(by show (0:Int)<(⇑rows:Int);omega),1122,(Za4 2),λq hq=>?_⟩⟩];let sq:=aq.upd (o:=.tup [.int s0,.int (-1 - z1 / 192 % (⇑rows:Int))]) hq;have:=md (z1 / 192)
   let⟨f,j,g2,g3⟩:=(S.same sq).add (q:=q) (u:=[s0,-1 - z1 / 192 % (⇑rows:Int)]) ah ⟨λs G=>by
    rcases agN.mp G with rfl|G
    ·rwa[hs0]
    ·rw[agC.mp G];rwa[33],agA _⟩
   rwa[l,1122,j,[agy]▸agE (show ⇑f<=100 by omega) ⋯,12,g3]
  rintro d H3 ⟨Ws3,rfl,w3⟩;clear S m w0 g;erw[λ d r=>∃g v6 M,d=#v[↑a,↑X,.int ⇑rows,.int x,.int y,↑l,v6,M]/\jF H r l ⇑rows 3 63 g,5]
  ·erw[12212];rwa[cq (λJ=>?_) (λJ=>⟨Ws3,112,w3.le ⋯ ⋯⟩)];rwa[⟨agW _,λt nt=>?_⟩];let st:=aq.upd (o:=.tup []) nt;let qt:upd H3 t (.tup []) t\(.tup (ao [])):=ah;generalize upd H3 t (.tup [])=H4 at st qt ⊢;rwa[⟨121212,a,12,(w3.s.trans st).seq ha,λb nb=>?_⟩]
   obtain⟨ms,em,hm⟩:∃ms:Zg,fm (ao ns) (some 8) (some 63)=ao ms/\⇑ms<=63:=by
    erw[(ns.drop (HT.bW ⇑(ao ns) 0 (some 8))).take (HT.bW ⇑(ao ns) ⇑(ao ns) (some 63) - HT.bW ⇑(ao ns) 0 (some 8)),by unfold fm ao;rw[ajO,aka]];rw[ag8,aho];ext
   rw[em];let sb:=aq.upd (o:=.lst (ao ms)) nb;let qb:upd H4 b (.lst (ao ms)) b\(.lst (ao ms)):=ah;generalize upd H4 b (.lst (ao ms))=Y at sb qb ⊢;erw[b,2,⟨_,aH.of qb⟩];rwa[fI (K:=K) (a:=b) (xs:=ao ms) (λi σ r=>∃(t:Zs) (u:Zg) (M:Zc),σ=#v[↑a,↑X,.int ⇑rows,.int x,.int y,↑l,↑t,M]/\aq Y r/\r t\.tup (ao u)/\⇑u=i/\M11.fW ⇑rows u) ⟨t,[],none,2,aq.refl _,sb^qt,2,(λs G=>by ext G)⟩ (λi σ r _ ζ=>by let⟨_,_,_,_,s,_⟩:=ζ;rwa[aH.of (s^qb)]) ?_ ?_]
   ·rintro i v σ H6 B ⟨t,u,M,rfl,s6,q6,hl,R⟩;let⟨z1,rfl,hz⟩:=cR B;let TY:=(agx.mp hz).1;rwa[⟨12121122,.inr ⟨44⟩,1122,(by show (0:Int)<2147483647;decide),121,⇑rows,2,lH,3,λs J h2=>⟨(Za4 1),λu' nu=>?_⟩⟩];rwa[⟨t,u',1122,aq.upd nu _ _ q6,ah,5,λp' H7 s7 e7=>?_⟩]
    ·rw[aL];rwa[agJ (show ⇑u+ 1<=100 by omega) ⋯]
    rwa[⟨p',u++[s],12,s6.trans ((aq.upd nu).trans s7),[ints_app]▸e7,by rw[agw,hl];rfl,λx L=>?_⟩];rcases agH.mp L with q|q
    ·rwa[R x q]
    ·rw[agC.mp q];rwa[J,h2]
   rintro σ H6 ⟨t,u,M,rfl,s6,q6,hl,R⟩;rw[aL]at hl;let w6:=w3.same ((st.trans sb).trans s6);rwa[⟨λ d r=>∃g v6 M,d=#v[↑a,↑X,.int ⇑rows,.int x,.int y,↑l,v6,M]/\jF H r l ⇑rows 3 63 g,5,λ_ _ z=>z⟩];rwa[⟨12,agW _,λe0 IQ=>?_⟩];let se:=aq.upd (o:=.tup []) IQ;let w7:=(w6.same se).le (n':=2) (m':=63) ⋯ ⋯;erw[t,e0,u,[],22,bC.of (se^q6),bC.of ah,12];rwa[cq (λ_=>?_) (λ_=>⟨1112,w7.le ⋯ ⋯⟩)];let⟨f,j,g2,g3⟩:=w7.add (q:=t) (u:=u) (se^q6) ⟨R,3⟩;rwa[12,w7.ins,12,l,1122,j,[agy]▸agE (show ⇑f<=100 by omega) ⋯,1112,g3]
  rintro d H4 ⟨g,v6,M,rfl,w4⟩;let⟨f,j,g2⟩:=id w4.h;let BO:⇑f<=3:=by rw[g2.1];rwa[w4.c]
  erw[12,l,2,⟨_,aH.of j⟩];rwa[kO ⇑f (λi=>(f.map V.ref).getD i .non) (λU v i=>∃p,v=↑p/\∃w,U p\.tup (ao w)/\Ut rows x w) (λH1 U v i s ζ=>by let⟨p,e,w,q,o⟩:=ζ;rwa[⟨p,e,w,s^q,o⟩]) (agJ BO ⋯) (λi U s2 B=>jK (aH.of (s2^j)) i ([agy]▸B)) (λi v U H3 s2 B y=>?_) (λU s2=>?_) (λi Y Rr B s5 kk=>?_) (λD Y ys s5 hD yP I=>?_)]
  ·let⟨e1,e2⟩:=iC (aH.of (s2^j)) i v H3 ([agy]▸B) y;rwa[e1,by rw[agD,e2];rfl]
  ·have:=gJ (K:=K) (aH.of (K:=K) (s2^j));rw[agy]at this;rwa[this]
  ·let e1:f[i]?=some f[i]:=agv B
   let e2:g[i]?\(g[i]'(by rw[<-g2.1];rwa[B])):=agv (by rw[<-g2.1];rwa[B])
   generalize f[i]=wa at e1;generalize g[i]'(by cbv)=u at e2;let wY:=g2.2 i wa u e1 e2;let⟨F,lI⟩:=w4.w u (agu e2);rw[show (f.map V.ref).getD i .non=V.ref wa by cbv];rwa[⟨121212,(Za4 1),λl1 n1=>?_⟩];let s1:=aq.upd (o:=.lst [.int (x:Int)]) n1;let q1:upd Y l1 (.lst [.int (x:Int)]) l1\(.lst (ao (gE [x]))):=ah;generalize upd Y l1 (.lst [.int (x:Int)])=H6 at s1 q1 ⊢;let O:=s5.trans s1;rwa[⟨12,X,l1,wa,rows,p,[x],u,2,(hT.same w4.s).same O,N,EI,q1,λy m=>[agC.mp m]▸L,by show 1<=6;decide,O^wY,F,3,λn H7 hn1 Xo T4 hn4 s7=>?_⟩];let hf1:∀x,x<p->u.foldl (sf rows) x<p:=λx L=>Gi N F L
   let IY:∀x y,x<p->y<p->u.foldl (sf rows) x=u.foldl (sf rows) y->x=y:=λx y L m e=>Cq N F L m e
   let⟨c,Mj,yF,X3⟩:=M17.ring hf1 IY L
   let hn6:n<=6:=by
    rcases aim c n with q|q
    ·rwa[absurd (λy m=>by rw[agC.mp m];rwa[X3]) (hn4 c Mj q)]
    ·ext
   let hmul:⇑u* n<=1000:=agJ (ai9 lI hn6) (by decide);rwa[⟨wa,1122,s7^O^wY,335,λq8 H8 s8 h8=>?_⟩]
   ·rw[aL,ag4];rwa[agJ hmul ⋯]
   rw[ag4,Cu]at h8;rwa[kk _ _ ((s1.trans s7).trans s8) ⟨q8,21,h8,λs G=>F s (Cv G),by rw[zf];ext,[Cw]▸T4 x (agC.mpr rfl)⟩]
  let⟨pP,rfl,hqs⟩:=sX (P:=λ_ p=>∃w,Y p\.tup (ao w)/\Ut rows x w) ys 0 (λi v hv=>I i v hv);let⟨ps,tP,oP⟩:=words_of λi p e=>hqs i p e
  rwa[k D ps _ ((w4.s.trans s5).trans (aq.upd hD)) ⟨pP,ah,tP.same (aq.upd hD)⟩ oP (by rw[<-tP.1];rw[agy]at yP;omega)]
inductive Cz (Pt cT:Zs) (vs:Zb) (H:Hp) (Q:VK) (E_:XK):Prop
 |mk (ru pa:Zs) (L lim w:Nat) (ot:Zh) (rs ps:Za3):vs=[.int L,↑ru,↑pa,.int lim,.str (tx ot)]->(ot=gR w\/ot=[]/\w=0)->w<3->1<=L->L<=40->1<=lim->lim<=300->bG H ru rs->bG H pa ps->(∀u∈rs++ps,m9 L u)->lim* ⇑rs+ ⇑ps<=700->⇑rs<=400->⇑ps<=400->cU Pt dm gC H->(∀q t tb pp S N H',Kp Pt H H'->cU Pt dm gC H'->Fl rs ps L w lim S->(∀c z,¬cS S L c z)->H' q\.tup [↑t,.non]->H' t\.tup [↑tb,↑pp]->TabAt H' tb (M24.lz (bp S) (2* S.L) (M24.bB (bp S) (2* S.L) 0 N))->⇑(M24.bB (bp S) (2* S.L) 0 N)=N->lV H' pp S->Q ↑q H')->(∀q x d pp S H',Kp Pt H H'->cU Pt dm gC H'->Fl rs ps L w lim S->S.made=lim->(∃c z,hO w S L c z)->H' q\.tup [.non,↑x]->H' x\XO x cT (some d) false->H' d\XD d (I0 S.made pp)->lV H' pp S->Q ↑q H')->Cz Pt cT vs H Q E_
def lV.same (h:lV H a S)(s:aq H I):lV I a S:=by
 let⟨b,g,f,c⟩:=h;rwa[b,s^g,f.imp (λp d _ _ e=>e.same s),c]
def kr (T:Txt K mg A)(U:kg mg base):T.iX.Ok P w base 12 (Cz A.du A.bA):=by
 rwa[T.iX.on dR (λcC AA outer s H vs Q E hr h=>?_)]
 ·let⟨ru,pa,L,f,n,ot,rs,ps,rfl,R,u,O,I,v,F,M,za,D,r,J,C,hT,kq,ke⟩:=h;let⟨tkd,hbd⟩:=T.fill.bd
  erw[_,(ai (bD 5 dR.nd cX)
   (ai (bD 6 dR.nd cX)
   (ai (bP (OS rfl rfl (Sd (bf eI (pv 4) (eh (l:=[]) rfl) (bh _)) (Ec (i:=5) dR.nd rfl (Or.inl rfl) (A6 (dvs:=[V.str (tx [114,111,111,109,115])]) (ED T U) hr.Za5 rfl T.fill.m T.fill.kp hbd (.cons ⟨12⟩ .nil) (ae (pv 0) (ae (pv 1) (ae (pv 2) (ae (pv 3) aj)))))) (Ec (i:=5) dR.nd rfl (Or.inl rfl) (A6 (ED T U) hr.Za5 rfl T.fill.m T.fill.kp T.fill.b .nil (ae (pv 0) (ae (pv 1) (ae (pv 2) (ae (pv 3) (ae (pv 4) aj))))))))
    (Se (i:=7) dR.nd rfl rfl rfl T.yZ (λ_=>(aw (bD 6 dR.nd (pv 7))))
    Sf)))
   (aw (bx (cQ (ae (pv 5) (ae (pv 6) aj))))))))]
  rwa[ik ?_];intro jV fS gy;erw[λ y g=>Kp A.du H g/\cU A.du dm gC g/\∃B X,y=#v[.int L,↑ru,↑pa,.int f,.str (tx ot),some B,some X,none]/\((∃t p b S N,B=↑t/\X=.non/\Fl rs ps L n f S/\(∀c z,¬cS S L c z)/\g t\.tup [↑p,↑b]/\TabAt g p (M24.lz (bp S) (2* S.L) (M24.bB (bp S) (2* S.L) 0 N))/\⇑(M24.bB (bp S) (2* S.L) 0 N)=N/\lV g b S)\/∃x d b S,B=.non/\X=↑x/\Fl rs ps L n f S/\S.made=f/\(∃c z,hO n S L c z)/\g x\XO x A.bA (some d) false/\g d\XD d (I0 S.made b)/\lV g b S),5]
  ·erw[12212];rwa[cq (λh=>?_) (λh=>?_)]
   ·let e:ot=[]:=jE.mp (ahi h)
    let ew:n=0:=by
     rcases R with q|q
     ·rw[e]at q;rcases (show n=0\/n=1\/n=2 by omega) with rfl|rfl|rfl
      ·rfl
      ·rwa[absurd q (by decide)]
      ·rwa[absurd q (by decide)]
     ·rwa[q.2]
    subst ew;rwa[⟨12121212,ru,pa,L,f,(0),rs,ps,2,u,O,I,v,F,M,za,D,r,J,C,hT,λt p b S N g m t1 k g1 j a2 a3 Y=>?_,λd b S g m t1 k Z G j a2=>?_⟩]
    ·rwa[m,t1,↑t,.non,2,.inl ⟨t,p,b,S,N,22,k,g1,j,a2,a3,Y⟩]
    ·rwa[⟨12,true,T.Wr,ic λx nx=>⟨125⟩⟩];let a:=aq.upd (o:=XO x A.bA (some d) false) nx;rwa[m.trans (.same a),t1.same a,.non,↑x,2,.inr ⟨x,d,b,S,22,k,Z,G,ah,a^j,a2.same a⟩]
   ·let e:ot=gR n:=R.elim id λq=>absurd (aha (jE.mpr q.1)) h
    subst e;rwa[⟨1212121212,ru,pa,L,f,n,rs,ps,2,u,O,I,v,F,M,za,D,r,J,C,hT,λt p b S N g m t1 k g1 j a2 a3 Y=>?_,λd b S g m t1 k Z G j a2=>?_⟩]
    ·rwa[m,t1,↑t,.non,2,.inl ⟨t,p,b,S,N,22,k,g1,j,a2,a3,Y⟩]
    ·rwa[⟨12,true,T.Wr,ic λx nx=>⟨125⟩⟩];let a:=aq.upd (o:=XO x A.bA (some d) false) nx;rwa[m.trans (.same a),t1.same a,.non,↑x,2,.inr ⟨x,d,b,S,22,k,Z,G,ah,a^j,a2.same a⟩]
  rintro y H1 ⟨m,t1,B,X,rfl,cs⟩;rwa[⟨1212,by show 2<=sizeLine;decide,λq nq=>?_⟩];let a:=aq.upd (o:=.tup [B,X]) nq;rcases cs with ⟨t,p,b,S,N,rfl,rfl,k,g1,j,a2,a3,Y⟩|⟨x,d,b,S,rfl,rfl,k,Z,G,a0,j,a2⟩
  ·rwa[kq q t p b S N _ (m.trans (.same a)) (t1.same a) k g1 ah (a^j) (a2.same a) a3 (Y.same a)]
  ·rwa[ke q x d b S _ (m.trans (.same a)) (t1.same a) k Z G ah (a^a0) (a^j) (a2.same a)]
def ER (K:Za1):Sp:=λe H Q _=>∃(a:Zs) (ns:Zg),e=[↑a]/\aH K H a (ao ns)/\⇑ns<=63/\∀(l f d c:Zs) (L x:Nat) (R P:Za3) b,aq H b->b l\.tup [.int L,↑f,↑d,↑c,.int x]->1<=L->L<=3->bG b d R->bG b c P->(∀u∈R++P,m9 L u)->(∀u∈R,⇑u<=100)->⇑R<=23->⇑P<=3->Q ↑l b
inductive CB (vs:Zb) (H:Hp) (Q:VK) (E_:XK):Prop
 |mk (z:Int) (L m:Nat):vs=[.int z,.int L,.int m]->1<=L->L<=3->m<=12->(∀l w H',aq H H'->H' l\.tup (ao w)->m9 L w->⇑w<=100->Q ↑l H')->CB vs H Q E_
def Uu (K:Za1):Sp:=ER K
def Uv (b:Bool):∃a:Int,kK [V.int 36,V.int 60] (if b=true then 1 else 0)\.int a/\a<=60:=by
 ext b
 ·rwa[⟨(36),rfl,by decide⟩]
 ·rwa[⟨(60),rfl,by decide⟩]
def eT (z:Int){n:Nat}(h:0<n):∃x:Nat,z % (n:Int)=(x:Int)/\x<n:=by
 let b:=ah7 z (show (n:Int)≠0 by omega);let a:=ahW z (show (0:Int)<(n:Int) by omega);rwa[(z % (n:Int)).toNat,33]
def pE (T:Txt K mg A):T.kA.Ok P w base 2 CB:=by
 rwa[T.kA.on dQ (λF Z r s H vs Q E G h=>?_)]
 ·let⟨z,L,m,rfl,j,I,U,k⟩:=h
  erw[_,(ai (bD 3 dQ.nd (aK bL (pv 0) (aK cI (pv 2) au)))
   (ai (bD 0 dQ.nd (aK cJ (pv 0) (aK cI (pv 2) au)))
   (ai (bD 4 dQ.nd (cQ aj))
   (ai (cP ag0 rfl (ia rfl T.eQ (ae (pv 3) aj)) (dB 5 dQ.nd)
    (ai (bD 4 dQ.nd (aK pM (pv 4) (cQ (ae (pc T.nY (sC T) G (ae (aK bL (pv 0) (aK mn au (pv 1))) (ae (pv 1) aj))) aj))))
    (aw (bD 0 dQ.nd (aK cJ (pv 0) (aK mn au (pv 1)))))))
   (aw (bx (pv 4)))))))]
  rwa[uF ?_];intro M D O C;let⟨n,R,J⟩:=eT z (n:=m+ 1) ∅;let S:z % ((m:Int)+ 1)=(n:Int):=R;erw[121211221122,(by show (0:Int)<(m:Int)+ 1;omega)];rw[S];erw[121211221122,⟨33⟩];rwa[⟨agW _,λl x=>?_⟩];erw[12,(n:Int),233];rw[ag4];rwa[ib (lo:=0) (n:=n) (λi g c=>∃(l:Zs) (y:Int) (w:Zg) (d:Zc),g=#v[.int y,.int L,.int m,.int n,↑l,d]/\aq H c/\c l\.tup (ao w)/\⇑w=i/\∀s∈w,s≠0/\s.natAbs<=L) ⟨l,_,[],none,2,aq.upd x,ah,2,λs p=>by ext p⟩ ?_ ?_]
  ·rintro i g c X ⟨l,y,w,d,rfl,s2,e,a,f⟩;rwa[⟨1212121122,.inl ⟨44⟩,1122,(by show (0:Int)<2* (L:Int);omega),121,L,2,j,3,λs o p=>⟨by show 1<=sizeLine;decide,λq v=>?_⟩⟩];rwa[⟨l,q,1122,(aq.upd v) _ _ e,ah,agJ (show ⇑(ao w)+ 1<=100 by rw[aL];omega) ⋯,λB Y N u=>?_⟩];rw[show [V.int s]=ao [s] from rfl,<-ints_app]at u;erw[12121122,.inl ⟨44⟩,1122,⟨by show (0:Int)<2* (L:Int);ext,3⟩];rwa[⟨B,_,w++[s],12,s2.trans ((aq.upd v).trans N),u,by rw[agw,a];rfl,λt b=>?_⟩];rcases agH.mp b with b|b
   ·rwa[f t b]
   ·rw[agC.mp b];rwa[o,p]
  ·rintro g c ⟨l,y,w,d,rfl,s2,e,a,f⟩;rwa[12,k l w c s2 e ⟨3,f⟩ ∅]
def tK (T:Txt K mg A):T.kh.Ok P w base 3 (Uu K):=by
 rwa[T.kh.on dG (λcC AA Y s H vs Q E g h=>?_) (len:=by rintro _ _ _ _ ⟨a,B,rfl,_⟩;rfl)]
 ·let⟨a,B,rfl,J,hlen,k⟩:=h
  erw[_,(ai (bD 1 dG.nd (aK cI au (aK bL (aK cJ (pc T.bj (aX T) g (ae (pv 0) (ae au aj))) au) au)))
   (ai (bD 2 dG.nd (bU aj))
   (ai (cP ag0 rfl (ia rfl T.eQ (ae (aK bL (aK cJ (pc T.bj (aX T) g (ae (pv 0) (ae au aj))) au) au) aj)) (dB 3 dG.nd)
    (aw (aU (cG agG agO agP bH (pv 2) (ae (pc T.kA (pE T) g (ae (pc T.bj (aX T) g (ae (pv 0) (ae (aK cI au (pv 3)) aj))) (ae (pv 1) (ae au aj)))) aj)))))
   (ai (bD 4 dG.nd (bU aj))
   (ai (cP ag0 rfl (ia rfl T.eQ (ae (aK bL (pc T.bj (aX T) g (ae (pv 0) (ae au aj))) au) aj)) (dB 3 dG.nd)
    (aw (aU (cG agG agO agP bH (pv 4) (ae (pc T.kA (pE T) g (ae (pc T.bj (aX T) g (ae (pv 0) (ae (aK cI au (pv 3)) aj))) (ae (pv 1) (ae au aj)))) aj)))))
   (aw (bx (cQ (ae (pv 1) (ae (bU aj) (ae (pv 2) (ae (pv 4) (ae au aj)))))))))))))]
  rwa[mG ?_];intro qK oh jV fS gy;rwa[⟨12,a,B,(0),2,J,3,λz=>⟨1122,⟨44⟩,1122,(by show (0:Int)<3;decide),11225⟩⟩]
  obtain⟨L,hz,r,j⟩:∃L:Nat,1+ z / 12 % 3=(L:Int)/\1<=L/\L<=3:=by
   let⟨x,hx,EJ⟩:=eT (z / 12) (n:=3) ⋯;rwa[1+ x,by rw[show z / 12 % 3=(x:Int) from hx];ext,33]
  rw[hz];rwa[⟨agW _,λd C=>?_⟩];let w0:jF H (upd H d (.lst [])) d L 0 100 []:=⟨aq.upd C,C,⟨[],ah,2,λi p w h=>by simp at h⟩,(λu G=>by ext G),agA _⟩;generalize upd H d (.lst [])=H1 at w0 ⊢;rwa[⟨12,a,B,(1),2,w0.s.seq J,3,λz1=>?_⟩];let⟨n,hn,Eo⟩:=eT (z1 / 8) (n:=5) ⋯;erw[1122,⟨44⟩,1122,(by show (0:Int)<5;decide),(n:Int),ahT (λv=>[V.int v]) hn,33];rw[ag4];rwa[ib (lo:=0) (n:=n) (λi m t=>∃F e,m=#v[↑a,.int L,↑d,e,none]/\jF H t d L i 100 F) ⟨[],none,2,w0⟩ ?_ ?_]
  ·rintro i m t hi ⟨F,e,rfl,c⟩;rwa[⟨12,c.ins,12121122,a,B,2+ i,5,c.s.seq J,3,λy=>⟨12,y,L,(12),2,r,j,4,λq w H3 s3 h3 hw U=>?_⟩⟩]
   ·cbv
   let⟨S,Z,g2,O⟩:=(c.same s3).add h3 ⟨hw.2,U⟩;rwa[d,1122,Z,[agy]▸agE (show ⇑S<=100 by omega) ⋯,112,O]
  rintro m t ⟨R,e,rfl,c⟩;rwa[⟨agW _,λf I=>?_⟩];let b:jF t (upd t f (.lst [])) f L 0 1000 []:=⟨aq.upd I,I,⟨[],ah,2,λi p w h=>by simp at h⟩,(λu G=>by ext G),agA _⟩;generalize upd t f (.lst [])=H3 at b ⊢;rwa[⟨12,a,B,(6),2,(c.s.trans b.s).seq J,3,λz6=>?_⟩];let⟨n2,M,afk⟩:=eT z6 (n:=3) ⋯;erw[1122,(by show (0:Int)<3;decide),(n2:Int),ahT (λv=>[V.int v]) M,33];rw[ag4];rwa[ib (lo:=0) (n:=n2) (λi m N=>∃F e,m=#v[↑a,.int L,↑d,e,↑f]/\jF t N f L i 1000 F) ⟨[],e,2,b⟩ ?_ ?_]
  ·clear b;rintro i m N hi ⟨F,e,rfl,b⟩;rwa[⟨12,b.ins,12121122,a,B,8+ i,5,(c.s.trans b.s).seq J,3,λy=>⟨12,y,L,(8),2,r,j,4,λq w H5 D h5 hw _=>?_⟩⟩]
   ·cbv
   let⟨S,Z,g2,O⟩:=(b.same D).add h5 ⟨hw.2,hw.1⟩;rwa[f,1122,Z,[agy]▸agE (show ⇑S<=100 by omega) ⋯,112,O]
  clear b;rintro m N ⟨P,e,rfl,b⟩;rwa[⟨12,agW _,λlt X=>⟨1212,by show 5<=sizeLine;decide,λl nl=>?_⟩⟩];let D:=(aq.upd (o:=.lst []) X).trans (aq.upd (o:=.tup [.int L,↑lt,↑d,↑f,.int 0]) nl);let c2:=c.c;let c3:=b.c;rwa[k l lt d f L 0 R P _ ((c.s.trans b.s).trans D) ah r j ((c.h.same b.s).same D) (b.h.same D) (λu G=>(agH.mp G).elim (λh=>⟨agJ (c.w u h).2 ⋯,(c.w u h).1⟩) λh=>⟨(b.w u h).2,(b.w u h).1⟩) (λu h=>(c.w u h).2) ∅ ∅]
theorem PF:∀j:Nat,j<4->∃L:Nat,([V.int 2,V.int 1,V.int 2,V.int 3])[j]?\V.int (L:Int)/\1<=L/\L<=3
 |0,_=>⟨(2),244⟩
 |1,_=>⟨(1),244⟩
 |2,_=>⟨(2),244⟩
 |3,_=>⟨(3),244⟩
theorem vk {ws:Za3}(h:bT H F ws)(k n:Nat):bT H ((F.drop k).take n) ((ws.drop k).take n):=by
 rwa[⟨by rw[ag8,ag8,aho,aho,h.1],λi p w a c=>?_⟩];rw[List.getElem?_take]at a c;split at a
 ·rename_i b;rw[agX b,ajT]at c;rw[ajT]at a;rwa[h.2 _ p w a c]
 ·ext a
theorem Je {R:Za3}(d:H a\.lst (F.map V.ref))(c:bT H F R)(e:H b\.tup (ao []))(i:Nat)(g:i<=⇑F):bG (upd H a (.lst ((F.map V.ref).take i++[↑b]++(F.map V.ref).drop i))) a (R.take i++[[]]++R.drop i):=by
 let t1:bT H (F.take i) (R.take i):=by have:=vk c 0 i;rwa [List.drop_zero,List.drop_zero]at this
 let f:bT H (F.drop i) (R.drop i):=by
  have:=vk c i (⇑F - i)
  rwa [aiD ([aho]▸agA _),aiD ([aho,c.1]▸agA _)]at this
 rwa[⟨F.take i++[b]++F.drop i,by rw[ah,ag6,ag6,ajO,aka];rfl,qm (vj (t1.snoc e) f) d⟩]
def zH (T:Txt K mg A):T.qd.Ok P w base 4 (ER K):=by
 rwa[T.qd.on cu (λcC AA outer s H vs Q E g h=>?_) (len:=by rintro _ _ _ _ ⟨a,t,rfl,_⟩;rfl)]
 ·let⟨a,t,rfl,B,hlen,k⟩:=h
  erw[_,(ai (bI (bf eI (aK bL (aK cJ (pc T.bj (aX T) g (ae (pv 0) (ae au aj))) au) au) au (bh _))
   (aw (bx (pc T.kh (tK T) g (ae (pv 0) aj))))
   bq)
   (ai (bD 1 cu.nd (j2 eI (aK bL (pc T.bj (aX T) g (ae (pv 0) (ae au aj))) au) au (bh _)))
   (ai (bD 2 cu.nd (aK cI au (aK bL (aK cJ (pc T.bj (aX T) g (ae (pv 0) (ae au aj))) au) au)))
   (ai (bP (bI (iT (pv 1))
    (aw (bD 2 cu.nd (aK cI au (aK bL (aK cJ (pc T.bj (aX T) g (ae (pv 0) (ae au aj))) au) au))))
    bq))
   (ai (bD 3 cu.nd (bF bO (bU (ae au (ae au (ae au (ae au aj wL) wL) wL) wL)) (aK bL (pc T.bj (aX T) g (ae (pv 0) (ae au aj))) au) (λ_ _=>rfl)))
   (ai (bD 4 cu.nd (bU aj))
   (ai (cP ag0 rfl (ia rfl T.eQ (ae (pv 3) aj)) (dB 5 cu.nd)
    (aw (aU (cG agG agO agP bH (pv 4) (ae (pc T.mW (xm T) g (ae (aK bL (pc T.bj (aX T) g (ae (pv 0) (ae (aK cI au (pv 5)) aj))) au) (ae (pv 2) (ae (pv 1) aj)))) aj)))))
   (ai (bD 6 cu.nd (aK bL (pc T.bj (aX T) g (ae (pv 0) (ae au aj))) au))
   (ai (bP (bI (iT (pv 1))
    (aw (bD 6 cu.nd au))
    bq))
   (ai (bD 7 cu.nd (aK bL (aK cJ (pc T.bj (aX T) g (ae (pv 0) (ae au aj))) au) (pv 2)))
   (ai (bD 8 cu.nd (pc T.qc (zG T) g (ae (pv 4) (ae (pv 3) (ae (pv 6) (ae (bF bO (bU (ae au (ae au aj))) (eM G5 rfl T.VF PyProof.Rows.boot_int (ae (j2 eI (aK bL (pc T.bj (aX T) g (ae (pv 0) (ae au aj))) au) au (bh _)) aj)) (λ_ _=>rfl)) aj))))))
   (ai (bP (bI (bf eI (aK bL (pc T.bj (aX T) g (ae (pv 0) (ae au aj))) au) au (bh _))
    (aw (aU (cG agG PySem.F.slot_list_insert PySem.F.type_list_insert xJ (pv 8) (ae (aK bL (aK cJ (pc T.bj (aX T) g (ae (pv 0) (ae au aj))) au) (aK cI (bN bM rfl T.fe ahx (ae (pv 8) aj)) au)) (ae (cQ aj) aj)))))
    bq))
   (ai (bP (bI (PW.pt (vm (bf eI (aK bL (pc T.bj (aX T) g (ae (pv 0) (ae au aj))) au) au (bh _)) (sG (bf sI (aK bL (pc T.bj (aX T) g (ae (pv 0) (ae au aj))) au) au (bh _)))))
    (aw (bD 8 cu.nd (aK Ad (pv 8) (j5 DE (pv 8) iz (iA au)))))
    bq))
   (aw (bx (cQ (ae (pv 3) (ae (pv 4) (ae (pv 8) (ae (pc T.rX (Cy T) g (ae (pv 0) (ae (pv 4) (ae (pv 3) (ae (pv 7) aj))))) (ae (pv 7) aj)))))))))))))))))))))]
  rwa[Hl ?_];intro afl afm afn aaz u_9 WN Ik BI qK oh jV fS gy;rwa[⟨12,a,t,(1),2,B,3,λz=>⟨1122,⟨44⟩,1122,(by show (0:Int)<2;decide),212,cq (λ_=>⟨12,a,t,2,B,hlen,k⟩) λ_=>?_⟩⟩];rwa[⟨12,a,t,(0),2,B,3,λz0=>?_⟩];erw[1122,(by show (0:Int)<2;decide),2];rwa[⟨12,a,t,(0),2,B,3,λz1=>?_⟩];erw[1122,⟨44⟩,1122,(by show (0:Int)<4;decide),1122];let a1:=ah7 (z1 / 2) (show (4:Int)≠0 by decide);let a2:=ahW (z1 / 2) (show (0:Int)<4 by decide);erw[λ c v=>∃(m:Nat) (pl:Bool),c=#v[↑a,.bl pl,.int m,none,none,none,none,none,none]/\v=H/\1<=m/\m<=6,5]
  ·erw[1212];rwa[cq (λ_=>?_) (λ_=>?_)]
   ·rwa[⟨12,a,t,(0),2,B,3,λz2=>?_⟩];erw[1122,⟨44⟩,1122,(by show (0:Int)<6;decide),1122];let c1:=ah7 (z2 / 2) (show (6:Int)≠0 by decide);let c2:=ahW (z2 / 2) (show (0:Int)<6 by decide);rwa[⟨(1+ z2 / 2 % 6).toNat,decide (V.int (z0 % 2)=V.int 0),5233⟩];rw[show (((1+ z2 / 2 % 6).toNat:Nat):Int)=1+ z2 / 2 % 6 by ext];rfl
   ·rwa[⟨(2+ z1 / 2 % 4).toNat,decide (V.int (z0 % 2)=V.int 0),5233⟩];rw[show (((2+ z1 / 2 % 4).toNat:Nat):Int)=2+ z1 / 2 % 4 by ext];rfl
  rintro c v ⟨m,pl,rfl,rfl,X2,BM⟩;rwa[⟨by show 4<=sizeLine;decide,λq hq=>?_⟩];let sq:aq v (upd v q (.lst [V.int 2,V.int 1,V.int 2,V.int 3])):=aq.upd hq;let X9:upd v q (.lst [V.int 2,V.int 1,V.int 2,V.int 3]) q\(.lst [V.int 2,V.int 1,V.int 2,V.int 3]):=ah;generalize upd v q (.lst [V.int 2,V.int 1,V.int 2,V.int 3])=H1 at sq X9 ⊢;rwa[⟨12,a,t,(1),2,sq.seq B,3,λz2=>?_⟩];let⟨j,hj,Ya⟩:=eT z2 (n:=4) ⋯;let⟨L,hL,Z,Y⟩:=PF j Ya;erw[1122,(by show (0:Int)<4;decide),q,11,.int (L:Int),22,aH.of X9,(by show kK _ (z2 % 4)=_;rw[show z2 % 4=(j:Int) from hj];rwa[dE hL])];rwa[⟨agW _,λlt iV=>?_⟩];let s2:aq H1 (upd H1 lt (.lst [])):=aq.upd iV;let h2:upd H1 lt (.lst []) lt\(.lst (([]:Zn).map V.ref)):=ah;let Ug:v lt=none:=sq.free iV;generalize upd H1 lt (.lst [])=H2 at s2 h2 ⊢;erw[12,(L:Int),233];rwa[ib (lo:=0) (n:=((L:Int)).toNat) (λi σ J=>∃(rs:Zn) (rows:Za3) (v5:Zc),σ=#v[↑a,.bl pl,.int m,.int L,↑lt,v5,none,none,none]/\aq v J/\J lt\.lst (rs.map V.ref)/\dJ J rs rows/\⇑rows=i/\(∀r∈rows,M11.Pm m r)) ⟨[],[],none,2,sq.trans s2,h2,⟨2,λi r t h1=>by cbv⟩,2,by simp⟩ ?_ ?_]
  ·rintro i σ J hi ⟨rs,rows,v5,rfl,s3,h3,G,D,M⟩;let TY:i<L:=∅
   rwa[⟨12,.inl ⟨21,aH.of h3⟩,12121122,a,t,2+ i,5,s3.seq B,3,λz3=>?_⟩]
   ·cbv
   let c1:=ah7 z3 (show (720:Int)≠0 by decide);rwa[⟨1122,(by show (0:Int)<720;decide),1212,z3 % 720,m,pl,2,X2,3,c1,λr row H4 F h4 hP=>?_⟩];let X:=F^h3;let oF:r≠lt:=I8 h4 (λz=>by have:=hP.len;rw[z]at this;simp at this;omega) X;erw[lt,1122,X,5]
   ·rw[agy,G.1,D];rwa[agE (show i<=3 by omega) ⋯]
   rwa[⟨rs++[r],rows++[row],12,λb o e=>[ak (ax e Ug)]▸F^s3^e,by rw[ah,ag6];rfl,⟨(zc (G.same F) h4).1,λi' q' ms e1 e2=>?_⟩,by rw[agw,D];rfl,λr' hr'=>?_⟩]
   ·let Yb:=(zc (G.same F) h4).2 i' q' ms e1 e2
    let hnm:ms≠[]:=λz=>by
     let hmm:ms∈rows++[row]:=agu e2
     let hPm:M11.Pm m ms:=by
      rcases agH.mp hmm with y|y
      ·rwa[M ms y]
      ·cbv
     have:=hPm.len
     cbv
    rw[ak (I8 Yb hnm X)];rwa[Yb]
   cbv
  rintro σ J ⟨rs,rows,v5,rfl,s3,h3,G,D,M⟩;rw[ag4]at D;subst D;let hT:TabAt J lt rows:=⟨rs,h3,G⟩;rwa[⟨12,a,t,(5),2,s3.seq B,3,λz5=>⟨1122,(by show (0:Int)<531441;decide),5⟩⟩];erw[λ c v=>∃mk:Int,c=#v[↑a,.bl pl,.int m,.int ⇑rows,↑lt,v5,.int mk,none,none]/\v=J,5]
  ·erw[1212];rwa[cq (λ_=>⟨122⟩) (λ_=>⟨122⟩)]
  rintro c H3' ⟨mk,rfl,e3⟩;replace e3:=e3.symm;subst e3;rwa[⟨12,a,t,(6),2,s3.seq B,3,λz6=>?_⟩];let⟨x,hx,EJ⟩:=eT (z6 / 4) (n:=m) ∅;erw[1122,⟨44⟩,121122,(by show (0:Int)<(m:Int);omega)];rw[show V.int ((z6 / 4) % (m:Int))=V.int (x:Int) from ahT V.int hx];rwa[⟨121212,by show 2<=sizeLine;decide,λq2 N=>⟨12,a,t,(7),2,(s3.trans (aq.upd N)).seq B,3,λz9=>⟨1122,(by show (0:Int)<8;decide),2125⟩⟩⟩];let⟨rm,Nv,Jb⟩:=Uv (decide (V.int (z9 % 8)=V.int 6));rwa[⟨q2,11122,aH.of ah,Nv,lt,rows,m,mk,rm,2,Jb,hT.same (aq.upd N),Z,Y,M,BM,λC R H4 F O p I U=>?_⟩];replace U:J C=none:=(aq.upd N).free U;replace F:=(aq.upd N).trans F;erw[λ c v=>∃R,c=#v[↑a,.bl pl,.int m,.int ⇑rows,↑lt,v5,.int mk,.int x,↑C]/\aq J v/\bG v C R/\(∀u∈R,Ja rows m u)/\⇑R<=22,5]
  ·rwa[⟨12,a,t,(5),2,(s3.trans F).seq B,3,λz7=>⟨1122,(by show (0:Int)<4;decide),212,cq (λ_=>?_) (λ_=>⟨R,2,F,O,p,3⟩)⟩⟩];let⟨d,g1,g2⟩:=O;let BO:⇑d<=21:=by rw[g2.1];rwa[I]
   rwa[⟨12,.inl ⟨21,aH.of g1⟩,12,a,t,(6),2,(s3.trans F).seq B,3,λz8=>⟨1122,⟨44⟩,12,C,12,.inl (aH.of g1),11221122,(by show (0:Int)<(⇑(d.map V.ref):Int)+ 1;omega),agW _,λe0 IQ=>?_⟩⟩];let⟨i,hi,V4⟩:=eT (z8 / 24) (n:=⇑d+ 1) ∅;let se:=aq.upd (o:=.tup []) IQ;erw[C,_,i,↑e0,25,se^g1,[agy]▸agE (show ⇑d<=100 by omega) ⋯,by rw[agy];ext,3]
   ·cbv
   rwa[⟨R.take i++[[]]++R.drop i,2,λb o e=>[ak (ax e U)]▸se^F^e,Je (se^g1) (g2.same se) ah i ∅,λu f=>?_,by rw[agw,agw,ag8,aho];show _+ 1+ _<=_;ext⟩];rcases agH.mp f with f|f
   ·rcases agH.mp f with f|f
    ·cbv
    ·rw[agC.mp f];rwa[(λs hs=>by ext hs),by show 0<=60;decide,λx _=>rfl]
   cbv
  rintro c H5 ⟨R,rfl,s5,O,p,I⟩;erw[λ c v=>∃C R,c=#v[↑a,.bl pl,.int m,.int ⇑rows,↑lt,v5,.int mk,.int x,↑C]/\aq J v/\bG v C R/\(∀u∈R,Ja rows m u)/\⇑R<=23,5]
  ·rwa[⟨12,a,t,(5),2,(s3.trans s5).seq B,3,λz7=>⟨1122,(by show (0:Int)<4;decide),212,cq (λ_=>?_) (λ_=>dN ⟨C,R,2,s5,O,p,3⟩)⟩⟩];rwa[⟨12,a,t,(7),2,(s3.trans s5).seq B,3,λz7=>⟨1122,(by show (0:Int)<8;decide),212,cq (λ_=>?_) (λ_=>⟨C,R,2,s5,O,p,3⟩)⟩⟩];let⟨d,g1,g2⟩:=O;rwa[⟨121212,C,12,aH.of g1,λb nb=>?_⟩];let sb:=aq.upd (o:=.lst (fm (d.map V.ref) none (some 1))) nb
   obtain⟨i,n,e,hn⟩:∃i n:Nat,fm (d.map V.ref) none (some 1)=((d.drop i).take n).map V.ref/\n<=1:=by
    erw[11,by unfold fm;rw[ajO,aka]];have:=HT.oE ⇑(d.map V.ref) ⇑(d.map V.ref) 1;rw[show ((1:Nat):Int)=1 from rfl]at this;rw[this];ext
   let eb:upd H5 b (.lst (fm (d.map V.ref) none (some 1))) b\(.lst (((d.drop i).take n).map V.ref)):=by rw[ah,e]
   generalize upd H5 b (.lst (fm (d.map V.ref) none (some 1)))=H6 at sb eb ⊢;let g3:=g2.same sb;let BO:⇑d<=22:=by rw[g2.1];rwa[I]
   rwa[⟨C,b,1122,sb^g1,eb,5,λl9 n9=>?_⟩]
   ·rw[agy,agy,ag8];rwa[agJ (show ⇑d+ min n _<=100 by omega) ⋯]
   let s9:=aq.upd (o:=.lst (d.map V.ref++((d.drop i).take n).map V.ref)) n9;rwa[⟨l9,R++(R.drop i).take n,2,(s5.trans sb).trans s9,⟨d++(d.drop i).take n,by rw[ah,ag6],(vj g3 (vk g3 i n)).same s9⟩,λu f=>?_,by rw[agw,ag8];ext⟩]
   cbv
  rintro c H6 ⟨lr',R,rfl,s6,O,p,I⟩;rwa[⟨12121212121212,a,lt,t,rows,m,x,2,(s3.trans s6).seq B,hlen,hT.same s6,Z,Y,M,BM,EJ,λpa P H7 s7 hP S Yc=>?_⟩];rwa[⟨12,by show 5<=sizeLine;decide,λl nl=>?_⟩];rwa[k l lt lr' pa ⇑rows x R P _ (((s3.trans s6).trans s7).trans (aq.upd nl)) ah Z Y ((O.same s7).same (aq.upd nl)) (hP.same (aq.upd nl)) (λu f=>?_) (λu f=>agJ (p u f).2.1 ⋯) I Yc];rcases agH.mp f with f|f
  ·rwa[⟨agJ (p u f).2.1 (by decide),(p u f).1⟩]
  ·rwa[⟨(S u f).2.1,(S u f).1⟩]
def gw (g:Nat->Nat->Nat)(w:Zg)(p:Nat):Nat:=w.foldl (λp s=>g (M11.pl s) p) p
def Uw (g:Nat->Nat->Nat)(w u:Zg)(i:Nat):gw g (w++u) i=gw g u (gw g w i):=aiZ ..
structure Mv (rs ps:Za3) (L:Nat) (D:Nat->Prop) (g:Nat->Nat->Nat) (x:Nat):Prop where
 o:D x
 d:∀p k,D p->k<2* L->D (g k p)
 b:∀p k,D p->k<2* L->g (M11.flip k) (g k p)=p
 r:∀w∈rs,∀p,D p->gw g w p=p
 p:∀w∈ps,gw g w x=x
def Nw (h:z≠0):M12.st (M11.pl z)=z:=by
 unfold M11.pl M12.st;split
 ·rw[agX ∅];ext
 ·rw[agT ∅];ext
section
variable {rs ps:Za3}{L o lim x:Nat}{S:RS}{D:Nat->Prop}{g:Nat->Nat->Nat}
def lW (h:z∈a9 (2* L)):M11.pl z<2* L/\M11.pl (-z)=M11.flip (M11.pl z)/\-z∈a9 (2* L):=by
 let⟨a,b⟩:=iK.mp h;rwa[M11.FI ⟨a,b⟩,M11.OX a,iK.mpr ⟨33⟩]
theorem Mv.inj (m:Mv rs ps L D g x):∀(w:Zg) {p q:Nat},(∀z∈w,z∈a9 (2* L))->D p->D q->gw g w p=gw g w q->p=q
 |[],_,_,_,_,_,e=>e
 |z::w,p,q,h,a,b,e=>by
  let hz:=(lW (h z agM)).1;have:=m.inj w (λy c=>h y (ag3 _ c)) (m.d p _ a hz) (m.d q _ b hz) e;rw[<-m.b p _ a hz,this,m.b q _ b hz]
theorem Mv.uw (m:Mv rs ps L D g x):∀{w:Zg} {p q:Nat},UW (λp z q=>D p/\z∈a9 (2* L)/\q=g (M11.pl z) p) p w q->q=gw g w p/\(D p->D q)/\(D q->D p)
 |[],p,q,h=>by rw[show p=q from h];rwa[2,id,id]
 |z::w,p,q,⟨r,⟨c,f,e⟩,d⟩=>by
  let⟨a,b,_⟩:=m.uw d;rw[e]at a b;rwa[a,λ_=>b (m.d p _ c (lW f).1),λ_=>c]
def Mv.md (m:Mv rs ps L D g x)(C:∀u∈rs++ps,∀z∈u,z∈a9 (2* L)/\-z∈a9 (2* L))(i:Nat->Nat)(M:Nat)(B:i 0=x)(N:∀c,c<M->D (i c)):Rq (rs++ps) ⇑rs M i λp z q=>D p/\z∈a9 (2* L)/\q=g (M11.pl z) p:=by
 rwa[⟨λp z q ⟨f,k,l⟩=>?_,λp z q Q ζ ξ=>by let⟨_,_,h⟩:=ζ;let⟨_,_,I⟩:=ξ;rwa[h.trans I.symm],λwhich word start n c d z f k l s F E=>?_⟩]
 ·let⟨a,b,c⟩:=lW k;rw[l];rwa[m.d p _ f a,c,by rw[b,m.b p _ f a]]
 let ps:=N start l
 let e:gw g word (i start)=i start:=by
  by_cases j:which<⇑rs
  ·rw[agF j]at f;rwa[m.r word (agu f) _ ps]
  ·rw[agI ∅]at f;rw[k.resolve_left j,B];rwa[m.p word (agu f)]
 let t:=C _ (agu f);let⟨G,J,_⟩:=m.uw F;let⟨H,_,O⟩:=m.uw E;let hz:=(t z (agu s)).1;let r:=J ps;rwa[⟨r,hz,m.inj (word.drop (n+ 1)) (λy v=>(t y (List.mem_of_mem_drop v)).1) (O ps) (m.d _ _ r (lW hz).1) ?_⟩];let q:gw g (word.take n++(z::word.drop (n+ 1))) (i start)=i start:=by rw[<-drop_cons s,ahJ];rwa[e]
 rw[Uw,<-G]at q;rwa[H.symm.trans q.symm]
def Fl.mv (m:Mv rs ps L D g x)(n:∀u∈rs++ps,∀z∈u,z∈a9 (2* L)/\-z∈a9 (2* L))(h:Fl rs ps L o lim S):∃ f:Nat->Nat,f 0=x/\∀c z d,S.by c z=some d->D (f c)/\z∈a9 (2* L)/\f d=g (M11.pl z) (f c):=by
 suffices ∃(f:Nat->Nat) (R:Za2),f 0=x/\(∀c,c<S.made->D (f c))/\0<S.made/\Good S [] R/\e9 S/\(∀a z b,R a z b->z∈a9 (2* L))/\∀a z b,R a z b->D (f a)/\z∈a9 (2* L)/\f b=g (M11.pl z) (f a) by
  let⟨f,R,B,E,_,j,_,_,u⟩:=this;rwa[f,B,λc z d q=>AQ (U:=λp z q=>D p/\z∈a9 (2* L)/\q=g (M11.pl z) p) j (m.md n f _ B E).fn u q]
 induction h with
 |start t _=>
  let⟨R,g,w,e,_,_,k,u⟩:=t.sound (R:=λ_ _ _=>False) (m.md n (λ_=>x) 1 rfl λ_ _=>m.o) n (pT L _) YS.new.w (agA _) (λ_ _ _ q=>q.elim) λ_ _ _ q=>q.elim
  let e:_=1:=e;rwa[λ_=>x,R,2,λ_ _=>m.o,3,g,w,k,u]
 | @next i S1 c z _ _ gp t _ J=>
   let⟨f,R,B,E,I,j,w,k,u⟩:=J;let⟨C,M,v,g4⟩:=gp.1;let⟨z1,z2,Y⟩:=lW v;let F:=E c C;let Q:=m.d _ _ F z1;let e:∀a,a<i.made->(if a=i.made then g (M11.pl z) (f c) else f a)=f a:=λa G=>agT ∅
   let s:∀a,a<i.made+ 1->D (if a=i.made then g (M11.pl z) (f c) else f a):=λa G=>by
    split
    ·rwa[Q]
    ·rwa[E a ∅]
   let l:(if 0=i.made then g (M11.pl z) (f c) else f 0)=x:=by rw[e 0 I];rwa[B]
   let md:=m.md n (λa=>if a=i.made then g (M11.pl z) (f c) else f a) (i.made+ 1) l s;let V:D (f c)/\z∈a9 (2* L)/\g (M11.pl z) (f c)=g (M11.pl z) (f c):=⟨F,v,2⟩
   let⟨O,g',T,H,_,_,Z,X⟩:=t.sound (R:=fu R c z i.made) md n (j.make C (jY M) g4 _) (rH w j.wf _ _ _) (agA _) (λa y b r=>by
    rcases r with r|⟨_,e,_⟩|⟨_,e,_⟩
    ·rwa[k _ _ _ r]
    ·rw[e];rwa[v]
    ·rw[e];rwa[Y]) λa y b r=>by
    rcases r with r|⟨rfl,rfl,rfl⟩|⟨rfl,rfl,rfl⟩
    ·let⟨N,l2,_⟩:=j.rl _ _ _ r;simp only[e a N,e b l2];rwa[u _ _ _ r]
    ·simp only[e _ C,aj0];rwa[F,v,True.intro]
    ·simp only[e _ C,aj0];rwa[md.sy _ _ _ V]
   let H:S1.made=i.made+ 1:=H;rwa[_,O,l,λa G=>s a ∅,3,g',T,Z,X]
end
def Fl.cl {rs a:Za3}(h:Fl rs a n m i S):uI rs a S:=by cases h <;> ext
def Fl.mL {rs e:Za3}(h:Fl rs e n m i S)(b:∀u∈rs++e,∀z∈u,z∈a9 (2* n)/\-z∈a9 (2* n))(q:1<=i):S.made<=i/\S.L=n:=by
 rwa[⟨5,by let⟨R,y⟩:=h.ys b;rwa[y.l]⟩]
 cases h with
 |start t _=>
  let⟨_,_,a,_⟩:=YS.new.tr t b;let a:S.made=1:=a;ext
 | @next j _ c z f p l t _=>
   let⟨R,y⟩:=f.ys b;let⟨k,g,d,o⟩:=l.1;let⟨_,_,a,_⟩:=(y.make k (jY g) o d (lW d).2.2).tr t b;let a:S.made=j.made+ 1:=a;ext
def Lp (u v:Zg):M11.back (u++v)=M11.back v++M11.back u:=by unfold M11.back;cbv
def sE (u:Zg):M11.back (M11.back u)=u:=by unfold M11.back;rw[<-ajx,List.reverse_reverse,ahe];rwa[(aht λz _=>air z).trans (List.map_id' u)]
def CD (a b:Zg)(z:Int):M11.back (a++z::b)=M11.back b++(-z)::M11.back a:=by
 rw[Lp];unfold M11.back;rw[ajp,ag6,ahq];rfl
def Fills (F:RS)(p:Nat)(w:Zg):Prop:=∀(a:Zg) (z:Int) (b:Zg) (c d:Nat),w=a++z::b->wk F.by p a=some c->wk F.by d b=some p->F.by c z=some d
section
variable {F:RS}{R:Za2}{p:Nat}{w:Zg}
def jG (g:Good F [] R)(h:DY F p w):Fills F p w:=λa z b c d e i f=>by
 subst e;rwa[Ka g h (m:=⇑a) ?_ ?_ ?_]
 ·cbv
 ·cbv
 ·rw[show (a++z::b).drop (⇑a+ 1)=b by rw[show a++z::b=(a++[z])++b by rw[ahq];rfl,List.drop_left' (by rw[agw];rfl)]];rwa[f]
theorem mj (g:Good F [] R):∀{w:Zg} {c d:Nat},wk F.by c w=some d->wk F.by d (M11.back w)=some c
 |[],c,d,h=>by rw[Za0 h];rfl
 |z::w,c,d,h=>by
  let⟨e,b,a⟩:=fz h;rw[show z::w=[]++z::w from rfl,CD,ip (mj g a)];rwa[Hn (g.sy _ _ _ b)]
theorem xn (g:Good F [] R):∀{w:Zg} {c d:Nat},c<F.made/\F.av c=c->wk F.by c w=some d->d<F.made/\F.av d=d
 |[],c,d,f,h=>by rw[<-Za0 h];rwa[f]
 |z::w,c,d,f,h=>by
  let⟨e,j,i⟩:=fz h;let⟨_,a,_,b⟩:=g.st _ _ _ j;rwa[xn g ⟨a,b⟩ i]
def Fills.back (g:Good F [] R)(h:Fills F p (M11.back w)):Fills F p w:=λa z b c d e i f=>by
 subst e;have:=g.sy _ _ _ (h _ _ _ d c (CD a b z) (mj g f) (mj g i))
 cbv
theorem CF (g:Good F [] R){a b:Zg}{z:Int}{c d q:Nat}(j:wk F.by c (z::b)=some q)(i:wk F.by d b=some q):F.by c z=some d:=by
 let⟨e,h,f⟩:=fz j;rw[h,vI g f i]
theorem Fills.Yd (g:Good F [] R){u v:Zg}(h:∀p,p<F.made->F.av p=p->Fills F p (v++u))(n:p<F.made/\F.av p=p):Fills F p (u++v):=λa z b c d e r o=>by
 let one:∀i,a=u++i->v=i++z::b->F.by c z=some d:=λi j f=>by
  subst j f;let⟨q,k1,k2⟩:=kb r;let⟨l,k⟩:=xn g n k1;rwa[h q l k i z (b++u) c d (by cbv) k2 ([ip o]▸k1)]
 rcases List.append_eq_append_iff.mp e with ⟨i,j,f⟩|⟨m,j,f⟩
 ·rwa[one i j f]
 ·cases m with
  |nil=>cbv
  |cons y m=>
   rw[aip]at f;injection f with f s
   subst f s j;let⟨q,k1,k2⟩:=kb o;let t:=mj g k2;let⟨l,k⟩:=xn g n t;rwa[h q l k (v++a) z m c d (by rw[ahq]) ([ip k2]▸r) k1]
theorem Fills.aaA (g:Good F [] R):Fills F p (w++M11.back w):=λa z b c d e m l=>by
 let one:∀j,a=w++j->M11.back w=j++z::b->F.by c z=some d:=λj i f=>by
  subst i;let⟨q,k1,k2⟩:=kb m;let h:=mj g k1;rw[f,ip k2]at h;rwa[CF g (a:=[]) h l]
 rcases List.append_eq_append_iff.mp e with ⟨j,i,f⟩|⟨k,i,f⟩
 ·rwa[one j i f]
 ·cases k with
  |nil=>cbv
  |cons y k=>
   rw[aip]at f;injection f with f n
   subst f n;let⟨q,k1,k2⟩:=kb l;let h:=mj g k2;rw[sE,i,ip m]at h;rwa[CF g (a:=[]) h k1]
end
def iN (c d b a:Za3):Prop:=∀(F:RS) (R:Za2),Good F [] R->0<F.made->uI b a F->(∀w∈c,∀p,p<F.made->F.av p=p->Fills F p w)/\∀w∈d,Fills F 0 w
def iN.refl (rs b:Za3):iN rs b rs b:=λF R g _ c=>⟨λw a p e d=>jG g (c.r w a p e d),λw a=>jG g (c.p w a)⟩
def _root_.Lake.L2.Good.Lq (g:Good S [] R){a b:Nat}{z:Int}(r:R a z b):S.by (S.av a) z=some (S.av b):=g.rx.mpr ⟨a,b,r,22⟩
def _root_.Lake.L2.Later.r (l:Later S T)(g:Good S [] R){a b:Nat}{z:Int}(r:R a z b):T.by (T.av a) z=some (T.av b):=by
 let h:=l.by_ _ _ _ (g.Lq r);let⟨d,c,_⟩:=g.rl _ _ _ r;rw[l.el a d,l.el b c]at h;rwa[h]
theorem CH {rs v o r:Za3}{F:RS}{R1:Za2}(H:iN rs v o r)(t:Tr (rs++v) ⇑rs S T)(j:∀w∈rs++v,∀z∈w,z∈l/\-z∈l)(g:Good S [] R1)(w:e9 S)(k:∀a z b,R1 a z b->z∈l)(n:Good F [] R)(L:uI o r F)(B:0<F.made)(E:S.made<=F.made)(h:∀a z b,R1 a z b->F.by (F.av a) z=some (F.av b)):Later T F:=by
 let⟨J,O⟩:=H F R n B L
 let md:Rq (rs++v) ⇑rs F.made F.av (λp z q=>F.by p z=some q):=by
  rwa[⟨λp z q h=>n.sy _ _ _ h,λp z q Y V Q=>by cbv,λi word start m Z d z j N C M y x=>?_⟩];let e:word=word.take m++z::word.drop (m+ 1):=by rw[<-drop_cons M,ahJ]
  by_cases s:i<⇑rs
  ·rw[agF s]at j;rwa[J word (agu j) _ (n.lt C) (n.el _ C).2 _ _ _ _ _ e (vJ y) (vJ x)]
  ·rw[agI ∅]at j;let G:start=0:=N.resolve_left s;have:F.av start=0:=by rw[G];have:=(n.el 0 B).1;ext
   rw[this]at y x;rwa[O word (agu j) _ _ _ _ _ e (vJ y) (vJ x)]
 let⟨f,D,_,X,_,_,_,u⟩:=t.sound md j g w E k h;rwa[⟨λc I=>?_,λc z d e=>AQ D md.fn u e⟩];rwa[(AO (U:=λp z q=>F.by p z=some q) md.fn u (D.cg c I)).symm]
def Jf (e:∀i z,cS S m i z↔cS T m i z)(h:hO n S m i z)(g:hO n T m j y):i=j/\z=y:=by
 let a:=h.2 j y ((e _ _).mpr g.1);let b:=g.2 i z ((e _ _).mp h.1);unfold rk at a b;split at a
 ·rename_i f;rw[agX f,agX f]at b;let⟨x,d⟩:=yi a b;rwa[3,(yg d).symm]
 ·rename_i f;rw[agT f,agT f]at b;split at a
  ·rename_i c;rw[agX c,agX c]at b;let⟨x,d⟩:=yi a b;rwa[3,(yg x).symm]
  ·rename_i c;rw[agT c,agT c]at b;let⟨x,d⟩:=yi a b;rwa[3,(yg d).symm]
def CJ {i:Za2}(g:Good S [] R)(f:Good T [] i)(em:S.made=T.made)(l:Later S T)(j:Later T S):(∀c,c<S.made->S.av c=T.av c)/\∀c z,S.by c z=T.by c z:=by
 let half:∀{S T:RS} {R i:Za2},Good S [] R->Good T [] i->S.made=T.made->Later S T->∀c,c<S.made->T.av c<=S.av c:=λ{S T R i} g f e l c a=>by
  rw[<-l.el c a];rwa[(f.el _ (by rw[<-e];rwa[g.lt a])).1]
 let h:∀c,c<S.made->S.av c=T.av c:=λc a=>Nat.le_antisymm (half f g em.symm j c ∅) (half g f em l c a)
 let b:∀{S T:RS} {R:Za2},Good S [] R->Later S T->(∀c,c<S.made->S.av c=T.av c)->∀c z d,S.by c z=some d->T.by c z=some d:=λ{S T R} g l h c z d e=>by
  let⟨o,p,n,m⟩:=g.st _ _ _ e;have:=l.by_ _ _ _ e
  cbv
 rwa[⟨h,λc z=>?_⟩]
 cases e:S.by c z with
 |some d=>exact(b g l h c z d e).symm
 |none=>
  cases k:T.by c z with
  |none=>rfl
  |some d=>rw[b f j (λc a=>(h c ∅).symm) c z d k]at e;ext e
def Jg {o:Za2}(g:Good S [] R)(f:Good T [] o)(em:S.made=T.made)(h:(∀c,c<S.made->S.av c=T.av c)/\∀c z,S.by c z=T.by c z)(c:Nat)(z:Int):cS S n c z↔cS T n c z:=by
 let d:∀{S T:RS},S.Wf->T.Wf->S.made=T.made->(∀c,c<S.made->S.av c=T.av c)->(∀c z,S.by c z=T.by c z)->cS S n c z->cS T n c z:=λ{S T} w l e a b ζ=>by let⟨m,i,k,j⟩:=ζ;rwa[⟨3,by rw[m6 (by rw[l.e];omega),<-a c m,jY i],k,by rw[<-b];rwa[j]⟩]
 rwa[d g.wf f.wf em h.1 h.2,d f.wf g.wf em.symm (λc p=>(h.1 c ∅).symm) λc z=>(h.2 c z).symm]
theorem Fl.step {rs E e k:Za3}(cv:iN rs E e k)(G:∀u∈rs++E,∀z∈u,z∈a9 (2* n)/\-z∈a9 (2* n))(g:∀u∈e++k,∀z∈u,z∈a9 (2* n)/\-z∈a9 (2* n))(h:Fl rs E n m i S)(M:Fl e k n m j T)(em:S.made=T.made)
 (X:∀{f o:RS},Fl rs E n m i f->Fl e k n m j o->f.made=o.made->f.made<S.made->Later f o/\Later o f):Later S T:=by
 let⟨RF,D⟩:=M.ys g;let U:=M.cl
 cases h with
 |start t _=>exact CH (R1:=λ_ _ _=>False) cv t G (pT n _) YS.new.w (λ_ _ _ q=>q.elim) D.g U D.m D.m λ_ _ _ q=>q.elim
 | @next f _ c z f0 _ V t _=>
   let⟨R0,p⟩:=f0.ys G;let⟨Z,Y,Q,g4⟩:=V.1;let F:=p.make Z (jY Y) g4 Q (lW Q).2.2;let⟨_,_,d,_⟩:=F.tr t G;let d:S.made=f.made+ 1:=d
   cases M with
   |start J _=>
    let⟨_,_,C,_⟩:=YS.new.tr J g;let C:T.made=1:=C;have:=p.m;ext
   | @next o _ c' z' B _ s J _=>
     let⟨R0',l⟩:=B.ys g;let⟨N,L,v,O⟩:=s.1;let⟨R2,H,C,sub,_⟩:=(l.make N (jY L) O v (lW v).2.2).tr J g;let C:T.made=o.made+ 1:=C;let x:f.made=o.made:=∅
     let⟨R,l2⟩:=X f0 B x ∅;let⟨rfl,rfl⟩:=Jf (Jg p.g l.g x (CJ p.g l.g x R l2)) V s;let I:=Later.of l.g H.g (λa z b r=>sub _ _ _ (ig a z b r)) ∅;rwa[CH cv t G F.g F.w F.k D.g U D.m (by show f.made+ 1<=_;omega) ?_];rintro a y b (r|⟨rfl,rfl,rfl⟩|⟨rfl,rfl,rfl⟩)
     ·let⟨h1,h2,_⟩:=p.g.rl _ _ _ r;have:=I.by_ _ _ _ (R.r p.g r);rw[I.el a ∅,I.el b ∅]at this;ext
     ·rw[x];rwa[H.g.Lq (sub _ _ _ j9)]
     ·rw[x];rwa[H.g.sy _ _ _ (H.g.Lq (sub _ _ _ j9))]
theorem Fl.later {rs l f g:Za3}(cv:iN rs l f g)(o:iN f g rs l)(q:∀u∈rs++l,∀z∈u,z∈a9 (2* n)/\-z∈a9 (2* n))(k:∀u∈f++g,∀z∈u,z∈a9 (2* n)/\-z∈a9 (2* n)):∀(e:Nat) {S F:RS},Fl rs l n m i S->Fl f g n m j F->S.made=F.made->S.made<e->Later S F/\Later F S:=by
 intro e
 induction e with
 |zero=>exact λ_ _ _ z=>∅
 |succ e p=>exact λh r em s=>⟨Fl.step cv q k h r em λa b c d=>p a b c ∅,Fl.step o k q r h em.symm λa b c d=>And.symm (p b a c.symm ∅)⟩
def Fl.one {rs f a b:Za3}(cv:iN rs f a b)(k:iN a b rs f)(l:∀u∈rs++f,∀z∈u,z∈a9 (2* n)/\-z∈a9 (2* n))(d:∀u∈a++b,∀z∈u,z∈a9 (2* n)/\-z∈a9 (2* n))(h:Fl rs f n m i S)(o:Fl a b n m j T)(g:S.made=T.made):(∀c z,cS S n c z↔cS T n c z)/\∀c z,S.by c z=T.by c z:=by
 let⟨R,y⟩:=h.ys l;let⟨r,p⟩:=o.ys d;let⟨q,l2⟩:=Fl.later cv k l d _ h o g (ahS _);let e:=CJ y.g p.g g q l2;rwa[Jg y.g p.g g e,e.2]
def Fl.most {rs f b e:Za3}(cv:iN rs f b e)(g:iN b e rs f)(l:∀u∈rs++f,∀z∈u,z∈a9 (2* n)/\-z∈a9 (2* n))(d:∀u∈b++e,∀z∈u,z∈a9 (2* n)/\-z∈a9 (2* n))(h:Fl rs f n m i S)(v:∀c z,¬cS S n c z)(x:Fl b e n m j T):T.made<=S.made:=by
 induction x with
 |start t _=>
  let⟨_,_,a,_⟩:=YS.new.tr t d;let⟨R,y⟩:=h.ys l;rw[a];rwa[y.m]
 | @next o T c z f0 _ p t _ D=>
   let⟨E,r⟩:=f0.ys d;let⟨B,s,k,C⟩:=p.1;let⟨_,_,a,_⟩:=(r.make B (jY s) C k (lW k).2.2).tr t d;let a:T.made=o.made+ 1:=a;rcases aim o.made S.made with q|q
   ·ext
   ·rwa[absurd (((Fl.one cv g l d h f0 (by omega)).1 c z).mpr p.1) (v c z)]
def PH (j:Nat):M12.st (M11.flip j)= -M12.st j:=by unfold M11.flip M12.st;split <;> split <;> ext
def Fl.full {rs a:Za3}(h:Fl rs a n m i S)(f:∀u∈rs++a,∀z∈u,z∈a9 (2* n)/\-z∈a9 (2* n))(o:∀c z,¬cS S n c z){c k:Nat}(hc:c<S.made/\S.av c=c)(l:k<2* n):∃d,S.by c (M12.st k)=some d/\bp S k c=d/\d<S.made/\S.av d=d:=by
 let⟨R,y⟩:=h.ys f;let g:=y.g
 cases e:S.by c (M12.st k) with
 |some d=>
  let⟨_,j,_,b⟩:=g.st _ _ _ e;rwa[d,2,by unfold bp;rw[e];rfl,j,b]
 |none=>exact absurd ⟨hc.1,by rw[m6 ([g.wf.e]▸hc.1),hc.2],agu (sj l),e⟩ (o c _)
def Fl.Ye {rs x:Za3}(h:Fl rs x n m i S)(v:∀u∈rs++x,∀z∈u,z∈a9 (2* n)/\-z∈a9 (2* n))(C:∀c z,¬cS S n c z):Mv rs x n (λc=>c<S.made/\S.av c=c) (bp S) 0:=by
 let⟨R,y⟩:=h.ys v;let g:=y.g;let J:0<S.made/\S.av 0=0:=⟨y.m,by have:=(g.el 0 y.m).1;ext⟩
 let O:∀(u:Zg) {c:Nat},M11.fW n u->c<S.made/\S.av c=c->wk S.by c u=some (gw (bp S) u c):=λu=>by
  induction u with
  |nil=>exact λ_ _=>rfl
  |cons s u M=>
   intro c H hc;let G:=H s agM;let⟨d,D,o,hd⟩:=h.full v C hc (M11.FI G);rw[Nw G.1]at D;rw[gY D,M (λt N=>H t (ag3 _ N)) hd];show some (gw (bp S) u d)\gw (bp S) u (bp S (M11.pl s) c);rw[o]
 let B:∀w∈rs++x,M11.fW n w:=λw h z hz=>iK.mp (v w h z hz).1
 let rd:∀{w:Zg} {c:Nat},w∈rs++x->c<S.made/\S.av c=c->DY S c w->gw (bp S) w c=c:=λ{w c} b hc I=>by
  let e:=O w (B w b) hc;rcases I with I|⟨a,j,f,r,y,T,_,L,_,Q,n1,_⟩
  ·cbv
  ·let hd:=xn g hc Q;let F:=B w b y (agu L);let⟨_,o,_⟩:=h.full v C hd (M11.FI F);rw[Nw F.1,n1]at o;ext o
 rwa[⟨J,λp k l E=>?_,λp k l E=>?_,λw b p l=>rd (agU _ b) l (h.cl.r w b p l.1 l.2),λw b=>rd (agB _ b) J (h.cl.p w b)⟩]
 ·let⟨d,_,e,hd⟩:=h.full v C l E;rw[e];rwa[hd]
 ·let⟨d,D,o,_⟩:=h.full v C l E;let q:=g.sy _ _ _ D;rw[o];unfold bp;rw[PH,q];rfl
theorem Fl.same {rs D:Za3}{B N M:Nat}(t:∀u∈rs++D,∀z∈u,z∈a9 (2* n)/\-z∈a9 (2* n))(h:Fl rs D n m j S)(O:∀c z,¬cS S n c z)(H:Fl rs D n i B T)(C:∀c z,¬cS T n c z)(hN:⇑(M24.bB (bp S) (2* n) 0 N)=N)(X:⇑(M24.bB (bp T) (2* n) 0 M)=M):
 M24.lz (bp T) (2* n) (M24.bB (bp T) (2* n) 0 M)=M24.lz (bp S) (2* n) (M24.bB (bp S) (2* n) 0 N):=by
 let G:=h.Ye t O;let V:=H.Ye t C;let⟨o,I,Y⟩:=h.mv V t;let⟨v,q0,U⟩:=H.mv G t
 let co:∀c k,c<S.made/\S.av c=c->k<2* n->(o c<T.made/\T.av (o c)=o c)/\o (bp S k c)=bp T k (o c):=λc k hc y=>by
  let⟨d,F,E,_⟩:=h.full t O hc y;let⟨a,_,b⟩:=Y _ _ _ F;rw[M12.zO]at b;rw[E];rwa[a,b]
 let cl:∀c k,(c<S.made/\S.av c=c)/\v (o c)=c->k<2* n->(bp S k c<S.made/\S.av (bp S k c)=bp S k c)/\v (o (bp S k c))=bp S k c:=λc k ζ y=>by
  let⟨hc,e⟩:=ζ
  let⟨a,b⟩:=co c k hc y;let⟨d,F,E,_⟩:=H.full t C a y;let⟨_,_,x⟩:=U _ _ _ F;rw[M12.zO,e]at x;rwa[G.d c k hc y,[b,E]▸x]
 let Q:(0<S.made/\S.av 0=0)/\v (o 0)=0:=⟨G.o,[I]▸q0⟩
 let L:∀l,(M24.bB (bp S) (2* n) 0 l).map o=M24.bB (bp T) (2* n) 0 l:=λl=>by
  have:=M24.Eh (f:=bp S) (g:=bp T) (φ:=o) (P:=λc=>(c<S.made/\S.av c=c)/\v (o c)=c) (k:=2* n) (λa b R Z e=>by rw[<-R.2,e,Z.2]) (λx p s r=>cl x p s r) (λx p s r=>(co x p s.1 r).2) (x0:=0) Q l;rw[I]at this;rwa[this]
 let eN:M=N:=M24.Eg X (by cbv);subst eN;rw[<-L M];let al:=M24.l0 (f:=bp S) (k:=2* n) (x0:=0) (P:=λc=>(c<S.made/\S.av c=c)/\v (o c)=c) Q (λx p s r=>cl x p s r) M;rwa[M24.Ks (M24.kQ _ _ _ M) ([L M]▸M24.kQ _ _ _ M) (λx s p r=>?_) λx s p r=>(co x p (al x s).1 r).2]
 let⟨q,J⟩:=ahc s;rwa[M24.lP (by have:=(agx.mp J).1;omega) J r]
def Ux:Sp:=λc H Q _=>∃(a:Zs) (ns:Zg),c=[↑a]/\H a\.tup (ao ns)/\⇑ns<=1000/\∀l b,aq H b->b l\.tup (ao (M11.back ns))->Q ↑l b
def Cj (w a:Zg):Prop:=∃u v,w=u++v/\(a=v++u\/a=M11.back (v++u))
inductive EV (vs:Zb) (H:Hp) (Q:VK) (E_:XK):Prop
 |mk (ra:Zs) (z:Int) (R:Za3) (L:Nat):vs=[↑ra,.int z]->bG H ra R->(∀u∈R,m9 L u)->(∀u∈R,⇑u<=100)->⇑R<=23->(∀l R' H',aq H H'->bG H' l R'->(∀u∈R',m9 L u)->⇑R'<=24->(∀w∈R,∃w'∈R',Cj w w')->(∀w'∈R',(∃w∈R,Cj w w')\/∃w,w'=w++M11.back w)->Q ↑l H')->EV vs H Q E_
def yl {w:Zg}(h:m9 n w):m9 n (M11.back w):=by
 unfold M11.back;rwa[⟨[agy,ahk]▸h.1,λz b=>?_⟩];let⟨y,a,rfl⟩:=ahp.mp b;have:=h.2 y (aiH.mp a);ext
def Cj.ok {w:Zg}(h:Cj w l)(hw:m9 n w):m9 n l:=by
 let⟨u,v,rfl,h⟩:=h;have:m9 n (v++u):=⟨by have:=hw.1;rw[agw]at this ⊢;ext,λz hz=>hw.2 z (agH.mpr (agH.mp hz).symm)⟩;rcases h with rfl|rfl
 ·ext
 ·rwa[yl this]
def ni (T:Txt K mg A):T.kY.Ok P w base 1 Ux:=by
 rwa[T.kY.on BD (λg u c s H y Q E t h=>?_) (len:=by rintro _ _ _ _ ⟨a,ns,rfl,_⟩;rfl)]
 ·let⟨a,ns,rfl,m,o,k⟩:=h;erw[_,(aw (bx (eM lh rfl T.o8 aiw (ae (gM (fns:=[]) (ixs:=[]) (cl:=[]) rfl (vp (yA NR (pv 0) iz iz (iA (eG dw au)))) (iB ⋯ ⋯ rfl ⋯ rfl) (λC s H ex=>(eG dw (pv 0)))) aj))))];rwa[⟨121212,a,12,m,222,λp f=>?_⟩];let s1:aq H (upd H p (.tup (ao ns).reverse)):=aq.upd f;let b:upd H p (.tup (ao ns).reverse) p\(.tup (ao ns.reverse)):=by rw[ah];unfold ao;rw[ajx]
  generalize upd H p (.tup (ao ns).reverse)=B at s1 b ⊢;erw[p,2,⟨_,bC.of b⟩];rwa[jo (ao ns.reverse) (λv=>match v with|.int z=>.int (-z)|v=>v) (GQ (bC.of b)) (DH (bC.of b)) (Ag (bC.of b)) ?_ (λi x n R d=>?_) (λD r=>?_)]
  ·rw[aL,ahk];rwa[agJ o ⋯]
  ·let⟨z,rfl,_⟩:=cR n;rwa[1212,d]
  ·let e:((ao ns.reverse).map λv=>match v with|.int z=>V.int (-z)|v=>v)=ao (M11.back ns):=by unfold ao M11.back;rw[ahe,ahe];rfl
   rw[e];rwa[D,12,.inl ⟨aH.of ah,λl q=>k l _ (s1.trans ((aq.upd r).trans (aq.upd q))) ah⟩]
def Uy (ns:Zg){b:Nat}(h:b<=⇑ns):fm (ao ns) (some (b:Int)) none=ao (ns.drop b)/\fm (ao ns) none (some (b:Int))=ao (ns.take b):=by
 unfold fm;rw[HT.oE,HT.zZ,HT.oE,HT.zZ,aL,aiC h,Nat.sub_zero,List.drop_zero];unfold ao;rw[<-aka,<-ajO,<-ajO,aiD ([aho]▸agA _)];rwa[22]
theorem Ls {ws:Za3}(h:bT H F ws):bT H F.reverse ws.reverse:=by
 rwa[⟨[ahk,ahk]▸h.1,λi p w a c=>?_⟩];let b:i<⇑F:=by have:=(agx.mp a).1;rw[ahk]at this;rwa[this]
 rw[List.getElem?_reverse b]at a;rw[List.getElem?_reverse (by rw[<-h.1];rwa[b]),<-h.1]at c;rwa[h.2 _ p w a c]
def zg {b:Za3}(h:bG H a b):∃xs,H a\.lst xs/\⇑xs=⇑b:=by
 let⟨e,d,c⟩:=h;rwa[_,d,by rw[agy,c.1]]
def xo {c:Za3}(h:bG H a c)(d:H a\.lst L)(i:H b\.tup (ao l)):bG (upd H a (.lst (L++[↑b]))) a (c++[l]):=by
 let⟨f,e,g⟩:=h;rw[d]at e;ext e;rwa[f++[b],by rw[ah,ag6];rfl,qm (g.snoc i) d]
def tL (T:Txt K mg A):T.ki.Ok P w base 2 EV:=by
 rwa[T.ki.on dg (λcC AA outer s H vs Q E hr h=>?_)]
 ·let⟨U,z,R,L,rfl,wR,ok,C,EL,k⟩:=h;let M:=aj6 (hH hr)
  erw[_,(ai (bD 2 dg.nd (bU aj))
   (ai (cP ag0 rfl (Au rfl T.oz (yA NT (pv 0) iz iz (iA (eG dw au)))) (kF rfl (cE (dB 3 dg.nd) (cE (dB 4 dg.nd) jn)))
    (ai (bD 5 dg.nd (aK bL (aK cJ (pv 1) (aK cI (pv 3) au)) (bN (yp rfl) rfl T.My PyProof.Rows.boot_max (ae au (ae (bN bM rfl T.fe ahx (ae (pv 4) aj)) aj)))))
    (ai (bD 4 dg.nd (aK pM (j5 pN (pv 4) (iA (pv 5)) iz) (j5 pN (pv 4) iz (iA (pv 5)))))
    (ai (bP (bI (bf eI (aK bL (aK cJ (pv 1) au) (aK cI (pv 3) au)) au (bh _))
     (aw (bD 4 dg.nd (pc T.kY (ni T) hr (ae (pv 4) aj))))
     bq))
    (aw (aU (cG agG agO agP bH (pv 2) (ae (pv 4) aj))))))))
   (ai (bP (bI (bf (OW M) (pv 0) (bU aj) (bh _))
    (aw (aU (cG agG agO agP bH (pv 2) (ae (aK pM (bF bO (pv 0) au (λ_ _=>rfl)) (pc T.kY (ni T) hr (ae (bF bO (pv 0) au (λ_ _=>rfl)) aj))) aj))))
    bq))
   (aw (bx (pv 2))))))]
  rwa[ik ?_];intro jV fS gy;rwa[⟨agW _,λl nl=>?_⟩];let s0:aq H (upd H l (.lst [])):=aq.upd nl;let w0:bG (upd H l (.lst [])) l []:=⟨[],ah,2,λi p w h=>by simp at h⟩;generalize upd H l (.lst [])=H0 at s0 w0 ⊢;let⟨Y,hR,tR⟩:=wR.same s0;let qx:=tR.1;rwa[⟨121212,U,12,aH.of hR,222,λp np=>?_⟩];let s1:=aq.upd (o:=.lst (Y.map V.ref).reverse) np;let hp:upd H0 p (.lst (Y.map V.ref).reverse) p\(.lst (Y.reverse.map V.ref)):=by rw[ah,ajx]
  let S3:p≠l:=λe=>by
   let⟨_,h,_⟩:=w0
   cbv
  generalize upd H0 p (.lst (Y.map V.ref).reverse)=H1 at s1 hp ⊢;let tV:=(Ls tR).same s1;erw[p,2,⟨_,aH.of hp⟩];let sH:=s0.trans s1
  refine yG (K:=K) (a:=p) (xs:=Y.reverse.map V.ref) (λi σ O=>∃(y:Za3) (v3 v4 v5:Zc),σ=#v[↑U,.int z,↑l,v3,v4,v5]/\aq H O/\(∀b o,b≠l->H1 b\o->O b\o)/\bG O l y/\⇑y=i/\∀(j:Nat) (w d:Zg),R.reverse[j]?\w->y[j]?\d->Cj w d)
   ⟨[],none,none,none,2,sH,λ_ _ _ e=>e,w0.same s1,2,λj w d _ h=>by simp at h⟩ (λi σ O _ ζ=>by let⟨_,_,_,_,_,_,f,_⟩:=ζ;rwa[aH.of (f _ _ S3 hp)]) ?_ ?_
  ·rintro i v σ O q hi hq ⟨y,v3,v4,v5,rfl,s2,f2,w2,B,hW⟩;rw[agR]at hi
   obtain⟨m,t,rfl⟩:∃m,Y.reverse[i]?\m/\v=↑m:=by
    cases e:Y.reverse[i]? with
    |none=>rw[e]at hi;ext hi
    |some r=>cbv
   let Z:i<⇑R.reverse:=by rw[<-tV.1];rwa[(agx.mp t).1]
   obtain⟨w,D⟩:∃w,R.reverse[i]?\w:=⟨_,agv Z⟩
   let Z:i<23:=by rw[ahk]at Z;ext
   let G:=aiH.mp (agu D);let hlen:=C w G;let⟨xs,hx,EJ⟩:=zg w2;let e1:=tV.2 i m w t D;let e2:=f2 m _ (λe=>by rw[e]at e1;let⟨_,h,_⟩:=w0.same s1;cbv) e1;let s3:=aq.upd (o:=.tup [.int (i:Int),↑m]) hq;erw[q,12,bC.of ah,21121122];generalize upd O q (.tup [.int (i:Int),↑m])=H3 at s3 ⊢;replace e2:=s3^e2;erw[121211221122,⟨by show (0:Int)<(i:Int)+ 1;ext,3⟩,12,m,12,.inr (bC.of e2),112]
   obtain⟨b,hb,sr⟩:∃b:Nat,z / ((i:Int)+ 1) % (if (⇑(ao w):Int) > 1 then (⇑(ao w):Int) else 1)=(b:Int)/\b<=⇑w:=by
    rw[aL];split
    ·let⟨b,h1,h2⟩:=eT (z / ((i:Int)+ 1)) (n:=⇑w) ∅;rwa[b,h1,3]
    cbv
   erw[1122,(by show (0:Int)<if (⇑(ao w):Int) > 1 then _ else _;split <;> omega)];rw[hb];let⟨c1,c2⟩:=Uy w sr;rwa[⟨121212,m,12,e2,λp1 H4 s4 h4=>?_⟩];rw[c1]at h4;rwa[⟨121212,m,12,s4^e2,λp2 H5 s5 h5=>?_⟩];rw[c2]at h5;rwa[⟨p1,p2,1122,s5^h4,h5,agJ (show ⇑(ao (w.drop b))+ ⇑(ao (w.take b))<=1000 by rw[aL,aL,aho,ag8];omega) ⋯,λp3 H6 s6 h6=>?_⟩];rw[<-ints_app]at h6;let g:=s3.trans (s4.trans (s5.trans s6));clear s3 s4 s5 s6 h4 h5 e1 e2 hb c1 c2;let cj:∀d,d=w.drop b++w.take b\/d=M11.back (w.drop b++w.take b)->Cj w d:=λd h=>⟨w.take b,w.drop b,(ahJ b w).symm,h⟩
   erw[λ F H'=>∃p4 d,F=#v[↑U,.int z,↑l,.int (i:Int),↑p4,.int (b:Int)]/\aq H6 H'/\H' p4\.tup (ao d)/\Cj w d,5]
   ·rwa[⟨121122,⟨44⟩,1211221122,(by show (0:Int)<(i:Int)+ 2;omega),212,cq (λ_=>?_) (λ_=>⟨p3,12,λ_ _ e=>e,h6,cj _ (.inl rfl)⟩)⟩];rwa[12,p3,12,h6,by rw[agw,aho,ag8];ext,λl7 H7 s7 h7=>⟨l7,12,s7,h7,cj _ (.inr rfl)⟩]
   rintro F H7 ⟨p4,d,rfl,s7,h7,cw⟩;replace g:=g.trans s7;erw[12,.inl ⟨21,aH.of (g^hx)⟩,12,l,1122,g^hx,agE (show ⇑xs<=63 by omega) ⋯];rwa[⟨y++[d],1112,λc o e=>[ak (ax e nl)]▸g^s2^e,λc o hc e=>[ak hc]▸g^f2 _ _ hc e,xo (w2.same g) (g^hx) h7,by rw[agw,B];rfl,λj x x' a1 N=>?_⟩];rcases aim j i with r|r
   ·rw[agF (by omega)]at N;rwa[hW j x x' a1 N]
   ·rw[agI ∅]at N
    have:j=i:=by
     have:=(agx.mp N).1;simp only[agV,ahZ]at this;ext
    subst this;rw[B,ain]at N;rw[D]at a1;rw[<-Za0 a1,<-Za0 N];rwa[cw]
  rintro σ O ⟨y,v3,v4,v5,rfl,s2,f2,w2,B,hW⟩;rw[agy,ahk,qx]at B
  let h1:∀w∈R,∃d∈y,Cj w d:=λw D=>by
   let⟨j,hj⟩:=ahc (aiH.mpr D)
   cbv
  let h2:∀d∈y,∃w∈R,Cj w d:=λd I=>by
   let⟨j,hj⟩:=ahc I;let Ya:=(agx.mp hj).1;let e:R.reverse[j]?\(R.reverse[j]'(by rw[ahk];omega)):=agv (by rw[ahk];omega)
   rwa[_,aiH.mp (agu e),hW j _ d e hj]
  let Yf:∀u∈y,m9 L u:=λu M=>by
   let⟨w,D,cj⟩:=h2 u M;rwa[cj.ok (ok w D)]
  erw[λ F H'=>∃S v3 v4 v5,F=#v[↑U,.int z,↑l,v3,v4,v5]/\aq H H'/\bG H' l S/\(∀u∈S,m9 L u)/\⇑S<=24/\(∀w∈R,∃d∈S,Cj w d)/\∀d∈S,(∃w∈R,Cj w d)\/∃w,d=w++M11.back w,5]
  ·let⟨X,Yg,Yh⟩:=wR.same s2;rwa[⟨12,agW _,λq nq=>?_⟩];let s3:=aq.upd (o:=.lst []) nq;erw[U,q,122,s3^Yg,ah,12];generalize upd O q (.lst [])=H3 at s3 ⊢;rwa[cq (λh=>?_) (λ_=>⟨y,1112,s2.trans s3,w2.same s3,Yf,3,h1,λd I=>.inl (h2 d I)⟩)]
   let Yi:0<⇑X:=by
    rcases Nat.eq_zero_or_pos ⇑X with e|e
    ·cbv
    ·rwa[e]
   obtain⟨m,t⟩:∃m,X[0]?\m:=⟨_,agv Yi⟩
   obtain⟨w,D⟩:∃w,R[0]?\w:=⟨_,agv (by rw[<-Yh.1];rwa[Yi])⟩
   let G:=agu D;let hlen:=C w G;let e3:=s3^(Yh.2 0 m w t D);let r3:=s3^Yg;let⟨xs,hx,EJ⟩:=zg w2;rwa[⟨12,.inl ⟨21,aH.of (s3^hx)⟩,12,U,11122,aH.of r3,dM (i:=0) t,12,U,11122,aH.of r3,dM (i:=0) t,m,w,2,e3,3,λl4 H4 s4 h4=>?_⟩];rwa[⟨m,l4,1122,s4^e3,h4,agJ (show ⇑(ao w)+ ⇑(ao (M11.back w))<=1000 by rw[aL,aL];unfold M11.back;rw[agy,ahk];omega) ⋯,λl5 H5 s5 h5=>?_⟩];rw[<-ints_app]at h5;let J:=s3.trans (s4.trans s5);erw[l,1122,J^hx,agE (show ⇑xs<=63 by omega) ⋯];rwa[⟨y++[w++M11.back w],1112,λc o e=>[ak (ax e nl)]▸J^s2^e,xo (w2.same J) (J^hx) h5,λu M=>?_,by rw[agw,B];show _+ 1<=24;ext,λw D=>?_,λd I=>?_⟩]
   ·rcases agH.mp M with M|M
    ·rwa[Yf u M]
    ·rw[agC.mp M];let a:=ok w G;let b:=yl a;rwa[by rw[agw];unfold M11.back;rw[agy,ahk];ext,λz hz=>(agH.mp hz).elim (a.2 z) (b.2 z)]
   ·cbv
   cbv
  rintro F H3 ⟨S,v3,v4,v5,rfl,s3,w3,a1,N,a3,a4⟩;rwa[12,k l S H3 s3 w3 a1 N a3 a4]
def Kp.words {pos:Pos}(k:Kp a H I)(t:cU a pos x H){l:Zs}{ws:Za3}(h:bG H l ws):bG I l ws:=by
 let⟨d,b,c⟩:=h;rwa[d,k.at t b (by cbv),c.keep λp f e=>k.at t e (by cbv)]
def Kp.tabs {pos:Pos}(k:Kp a H I)(t:cU a pos x H){l:Zs}{T:Za3}(h:TabAt H l T):TabAt I l T:=by
 let⟨f,e,d⟩:=h;rwa[f,k.at t e (by cbv),d.1,λi r row c b=>k.at t (d.2 i r row c b) (by cbv)]
def Kp.seq {pos:Pos}{K:Za1}(k:Kp a H I)(t:cU a pos x H){l:Zs}{b:Zb}(h:aH K H l b):aH K I l b:=by
 rcases h with h|h
 ·rcases h with h|⟨u,h⟩
  ·rwa[.inl (.inl (k.at t h (by cbv)))]
  ·rwa[.inl (.inr ⟨u,k.at t h (by cbv)⟩)]
 ·rwa[.inr h]
def VS {R j P:Za3}(h:∀w∈R,∃f∈j,Cj w f):iN R P j (P.map M11.back):=λF Q g m c=>by
 rwa[⟨λw d p l k=>?_,λw d=>(jG g (c.p _ (aiA d))).back g⟩];let⟨f,i,u,v,rfl,e⟩:=h w d;rwa[Fills.Yd g (λq a b=>?_) ⟨l,k⟩];have:=jG g (c.r f i q a b);rcases e with rfl|rfl
 ·ext
 ·rwa[this.back g]
def VW {R j P:Za3}(h:∀f∈j,(∃w∈R,Cj w f)\/∃w,f=w++M11.back w):iN j (P.map M11.back) R P:=λF Q g m c=>by
 rwa[⟨λf d p l k=>?_,λf d=>?_⟩]
 ·rcases h f d with ⟨w,i,u,v,rfl,e⟩|⟨w,rfl⟩
  ·have:=Fills.Yd g (u:=v) (v:=u) (λq a b=>jG g (c.r _ i q a b)) ⟨l,k⟩;rcases e with rfl|rfl
   ·ext
   ·rwa[Fills.back g (by rw[sE];omega)]
  ·rwa[Fills.aaA g]
 ·let⟨w,i,rfl⟩:=ahp.mp d;rwa[Fills.back g ([sE]▸jG g (c.p w i))]
def PL {ys:Zb}{ws:Za3}(d:⇑ys=⇑ws)(h:∀(j:Nat) (v:V),ys[j]?\v->∃p,v=↑p/\∀w,ws[j]?\w->H p\.tup (ao w)):∃c:Zn,ys=c.map V.ref/\bT H c ws:=by
 rwa[⟨ys.map (λv=>match v with|.ref p=>p|_=>0),5,by cbv,λi r w a b=>?_⟩]
 ·apply aif;intro j;rw[ahe,agR]
  cases e:ys[j]? with
  |none=>rfl
  |some v=>let⟨p,rfl,_⟩:=h j v e;rfl
 ·rw[agR]at a
  cases e:ys[i]? with
  |none=>rw[e]at a;ext a
  |some v=>
   let⟨p,rfl,q⟩:=h i v e;rw[e]at a;rw[<-Za0 a];rwa[q w b]
def Fd (R P:Za3)(L a o:Nat)(T:Za3):Prop:=∃S N,Fl R P L o a S/\(∀c z,¬cS S L c z)/\⇑(M24.bB (bp S) (2* L) 0 N)=N/\T=M24.lz (bp S) (2* L) (M24.bB (bp S) (2* L) 0 N)
def Uz (R P:Za3)(L a i:Nat)(H:Hp)(v:V):Prop:=(v=.non\/∃b T o,v=↑b/\TabAt H b T/\Fd R P L a o T)/\∀o T,o<i->Fd R P L a o T->v≠.non
def Fd.eq {R P:Za3}{T a:Za3}(c:∀u∈R++P,∀z∈u,z∈a9 (2* n)/\-z∈a9 (2* n))(h:Fd R P n m i T)(f:Fd R P n m j a):T=a:=by
 let⟨S,N,d,g,k,rfl⟩:=h;let⟨o,p,e,b,l,rfl⟩:=f;rwa[Fl.same c e b d g l k]
seal L2.PE L2.PS L2.iL L2.PA L2.PT
theorem UA (T:Txt K mg A)(sr:kg mg base):T.law.Ok P w base 13 (zP K A.du):=by
 rwa[T.law.on dC (λcC AA outer s H vs Q E X h=>?_) (len:=by rintro _ _ _ _ ⟨a,ns,rfl,_⟩;rfl)]
 ·let⟨a,ns,rfl,I,X8,hP,k⟩:=h;let lI:=hH X
  erw[_,(ai (kH (pc T.qd (zH T) X (ae (pv 0) aj)) (kF rfl (cE (dB 1 dC.nd) (cE (dB 2 dC.nd) (cE (dB 3 dC.nd) (cE (dB 4 dC.nd) (cE (dB 5 dC.nd) jn)))))))
   (ai (bD 6 dC.nd au)
   (ai (bP (bI (bf eI (aK bL (pc T.bj (aX T) X (ae (pv 0) (ae au aj))) au) au (bh _))
    (aw (bD 6 dC.nd (aK cI au (aK bL (aK cJ (pc T.bj (aX T) X (ae (pv 0) (ae au aj))) au) au))))
    bq))
   (ai (bD 7 dC.nd cX)
   (ai (cP ag0 rfl (da (bU (ae (eh (l:=[114,111,111,109,115]) rfl) (ae (eh (l:=[108,101,116,116,101,114,115]) rfl) (ae (eh (l:=[110,101,119,101,115,116]) rfl) aj))))) (dB 8 dC.nd)
    (ai (kH (pc T.iX (kr T sr) X (ae (pv 1) (ae (pv 3) (ae (pv 4) (ae (pv 6) (ae (pv 8) aj)))))) (kF rfl (cE (dB 9 dC.nd) (cE (dB 10 dC.nd) jn))))
    (aw (bP (bI (bf mq (pv 10) cX (bh _))
     (ai (bP (bI (PW.pt (vm (bf lY (pv 7) cX (bh _)) (sG (bf (N7 lI) (bF dX (pv 9) au (λ_ _=>rfl)) (pv 7) (bh _)))))
      (aw (bx zI))
      bq))
     (aw (bD 7 dC.nd (bF dX (pv 9) au (λ_ _=>rfl)))))
     bq)))))
   (ai (bD 8 dC.nd (bF bO (bU (ae (eh (l:=[114,111,111,109,115]) rfl) (ae (eh (l:=[108,101,116,116,101,114,115]) rfl) (ae (eh (l:=[110,101,119,101,115,116]) rfl) aj)))) (aK bL (aK cJ (pc T.bj (aX T) X (ae (pv 0) (ae au aj))) au) au) (λ_ _=>rfl)))
   (ai (kH (pc T.iX (kr T sr) X (ae (pv 1) (ae (pv 3) (ae (pv 4) (ae (pv 6) (ae (pv 8) aj)))))) (kF rfl (cE (dB 5 dC.nd) (cE (dB 10 dC.nd) jn))))
   (ai (bD 11 dC.nd (pc T.ki (tL T) X (ae (pv 3) (ae (aK bL (aK cJ (pc T.bj (aX T) X (ae (pv 0) (ae au aj))) au) au) aj))))
   (ai (kH (pc T.iX (kr T sr) X (ae (pv 1) (ae (pv 11) (ae (gM (fns:=[]) (ixs:=[]) (cl:=[]) rfl (da (pv 4)) (iB ⋯ ⋯ rfl ⋯ rfl) (λC s H ex=>(pc T.kY (ni T) X (ae (pv 0) aj)))) (ae (pv 6) (ae (pv 8) aj)))))) (kF rfl (cE (dB 9 dC.nd) (cE (dB 12 dC.nd) jn))))
   (ai (bI (bf sI (j2 mq (pv 10) cX (bh _)) (j2 mq (pv 12) cX (bh _)) (bh _))
    (aw (bx zI))
    bq)
   (aw (bx (UE (j2 lY (pv 10) cX (bh _)) (Gq (P8 (j2 (DR lI) (bF dX (pv 9) au (λ_ _=>rfl)) (bF dX (pv 5) au (λ_ _=>rfl)) (bh _)) (Gq (j2 (DR lI) (bF dX (pv 9) au (λ_ _=>rfl)) (pv 7) (bh _))))))))))))))))))]
  rwa[Hk ?_];intro aaz u_9 WN Ik BI qK oh jV fS gy;let I:aH K H a (ao ns):=I;rwa[⟨12,a,ns,2,I,X8,λq ta ra pa L x R G H1 s1 hq lH X5 wR wP ok okl EL Yc=>?_⟩];erw[q,12,bC.of hq,21121121121121122];replace I:=s1.seq I;let hT:cU A.du dm gC H1:=.inl (s1^hP);erw[λ fx H'=>∃b:Nat,fx=#v[↑a,.int L,↑ta,↑ra,↑pa,.int x,.int b,none,none,none,none,none,none]/\H'=H1/\1<=b/\b<=12,5]
  ·rwa[⟨12,a,ns,(7),2,I,4,λz=>⟨1122,(by show (0:Int)<2;decide),212,cq (λ_=>?_) (λ_=>⟨(12),2244⟩)⟩⟩];rwa[⟨12,a,ns,(7),2,I,4,λz=>⟨1122,⟨44⟩,1122,(by show (0:Int)<12;decide),11225⟩⟩];let⟨y,hy,yP⟩:=eT (z / 2) (n:=12) ⋯;rw[show z / 2 % 12=(y:Int) from hy,show (1:Int)+ (y:Int)=((1+ y:Nat):Int) by ext];rwa[1+ y,2233]
  rintro fx H' ⟨b,rfl,rfl,J,UB⟩;let fit:b* ⇑R+ ⇑G<=700:=by have:=ai9 UB EL;ext
  let d:∀u∈R++G,∀z∈u,z∈a9 (2* L)/\-z∈a9 (2* L):=λu hu z hz=>((pC ∅ (ok u hu)).2 z hz).2
  let cr:=iN.refl R G
  let no:∀{o:Nat} {S F:RS},Fl R G L o b S->(∀c z,¬cS S L c z)->Fl R G L o b F->F.made=b->(∃c z,hO o F L c z)->False:=λ{o S F} f g f' m ζ=>by
   let⟨c,z,hg⟩:=ζ
   let e1:=Fl.most cr cr d d f g f';let⟨e2,_⟩:=f.mL d J;rwa[g c z (((Fl.one cr cr d d f f' ∅).1 c z).mpr hg.1)]
  rwa[⟨by show 3<=sizeLine;decide,λlo um=>?_⟩];let s2:=aq.upd (o:=.lst [V.str (tx [114,111,111,109,115]),V.str (tx [108,101,116,116,101,114,115]),V.str (tx [110,101,119,101,115,116])]) um;let Nx:upd H' lo (.lst [V.str (tx [114,111,111,109,115]),V.str (tx [108,101,116,116,101,114,115]),V.str (tx [110,101,119,101,115,116])]) lo\(.lst [V.str (tx [114,111,111,109,115]),V.str (tx [108,101,116,116,101,114,115]),V.str (tx [110,101,119,101,115,116])]):=ah;replace I:=s2.seq I;replace wR:=wR.same s2;replace wP:=wP.same s2;replace hT:=hT.same s2;generalize upd H' lo _=H2 at Nx I wR wP hT ⊢;clear s2;erw[lo,2,⟨_,aH.of Nx⟩]
  refine fI (K:=K) (a:=lo) (xs:=[V.str (tx [114,111,111,109,115]),V.str (tx [108,101,116,116,101,114,115]),V.str (tx [110,101,119,101,115,116])]) (λi σ H3=>∃(M:V) (v8 v9 v10:Zc),σ=#v[↑a,.int L,↑ta,↑ra,↑pa,.int x,.int b,some M,v8,v9,v10,none,none]/\Kp A.du H2 H3/\cU A.du dm gC H3/\Uz R G L b i H3 M)
   ⟨.non,none,none,none,2,Kp.refl,hT,.inl rfl,λo T h=>∅⟩ (λi σ H3 _ ζ=>by let⟨_,_,_,_,_,k3,_⟩:=ζ;rwa[aH.of (k3.at hT Nx s!"")]) ?_ ?_
  ·rintro i y σ H3 Y ⟨M,v8,v9,v10,rfl,k3,t3,d3⟩
   obtain⟨hy,hi3⟩:y=V.str (tx (gR i))/\i<3:=by
    match i,Y with
    |0,Y=>rwa[(Za0 Y).symm,4]
    |1,Y=>rwa[(Za0 Y).symm,4]
    |2,Y=>rwa[(Za0 Y).symm,4]
    |i+ 3,Y=>simp at Y
   subst hy;rwa[⟨1212121212,ra,pa,L,b,i,gR i,R,G,2,.inl rfl,hi3,lH,3,J,3,k3.words hT wR,k3.words hT wP,ok,fit,33,t3,λq t B pp S N H4 k4 t4 f1 g1 a0 a1 a2 a3 _=>?_,λq y dd pp S H4 k4 t4 f1 m1 l1 a0 _ _ _=>?_⟩]
   ·erw[q,12,bC.of a0,21121122];rw[(f1.mL d J).2]at a2 a3;let fd:Fd R G L b i _:=⟨S,N,f1,g1,a3,2⟩;rwa[⟨15,λ_ _ h=>h⟩];rwa[⟨12212,ic ?_⟩];let d4:M=.non\/∃B T o,M=↑B/\TabAt H4 B T/\Fd R G L b o T:=d3.1.imp id λ⟨B,T,o,e,Z,h2⟩=>⟨B,T,o,e,k4.tabs t3 Z,h2⟩
    let go:∃(M:V) (v8 v9 v10:Zc),#v[↑a,.int L,↑ta,↑ra,↑pa,.int x,.int b,some (V.ref B),some (V.str (tx (gR i))),some (V.ref t),some V.non,none,none]=#v[↑a,.int L,↑ta,↑ra,↑pa,.int x,.int b,some M,v8,v9,v10,none,none]/\Kp A.du H2 H4/\cU A.du dm gC H4/\Uz R G L b (i+ 1) H4 M:=⟨↑B,1112,k3.trans k4,t4,.inr ⟨B,_,i,2,a2,fd⟩,λ_ _ _ _ z=>by ext z⟩;erw[λ fx H'=>fx=#v[↑a,.int L,↑ta,↑ra,↑pa,.int x,.int b,some M,some (V.str (tx (gR i))),some (V.ref t),some V.non,none,none]/\H'=H4,5]
    ·rcases d4 with rfl|⟨td,Td,od,rfl,Z,h2⟩
     ·rwa[⟨_,rfl,rfl,_,rfl,dN (dN ⟨rfl,rfl⟩)⟩]
     ·rwa[⟨_,rfl,rfl,_,rfl,ic ⟨_,rfl,t,_,_,_,rfl,rfl,bC.of a1,rfl,_,rfl,B,td,_,_,rfl,rfl,a2,Z,_,rfl,nB (Fd.eq d fd h2) ⟨rfl,rfl⟩⟩⟩]
    rintro fx H' ⟨rfl,rfl⟩;rwa[12,t,11122,bC.of a1,2,go]
   ·erw[q,12,bC.of a0,21121122];rwa[⟨15,λ_ _ h=>h⟩];rwa[⟨12212,dN ?_⟩];rwa[⟨M,1112,k3.trans k4,t4,d3.1.imp id λζ=>by let⟨B,T,o,e,Z,h2⟩:=ζ;rwa[⟨B,T,o,e,k4.tabs t3 Z,h2⟩],λo T ho h=>?_⟩];rcases aim o i with r|r
    ·rwa[d3.2 o T r h]
    ·let⟨S',_,b1,b2,_⟩:=h;let e:o=i:=∅
     subst e;rwa[(no b1 b2 f1 m1 l1).elim]
  rintro σ H3 ⟨M,v8,v9,v10,rfl,k3,t3,d3⟩;replace I:=k3.seq hT I;replace wR:=k3.words hT wR;replace wP:=k3.words hT wP;clear k3 hT Nx um;let d3':∀o T,o<3->Fd R G L b o T->M≠.non:=d3.2;rwa[⟨by show 3<=sizeLine;decide,λlo um=>⟨12,a,ns,(7),2,(aq.upd um).seq I,4,λz=>⟨1122,⟨44⟩,1122,(by show (0:Int)<3;decide),5⟩⟩⟩]
  obtain⟨o,Nv,Jc⟩:∃o:Nat,kK [V.str (tx [114,111,111,109,115]),V.str (tx [108,101,116,116,101,114,115]),V.str (tx [110,101,119,101,115,116])] (z / 48 % 3)\.str (tx (gR o))/\o<3:=by
   rcases (show z / 48 % 3=0\/z / 48 % 3=1\/z / 48 % 3=2 by omega) with e|e|e
   ·rwa[⟨(0),by rw[e];rfl,by decide⟩]
   ·rwa[⟨(1),by rw[e];rfl,by decide⟩]
   ·rwa[⟨(2),by rw[e];rfl,by decide⟩]
  rwa[⟨lo,_,_,_,rfl,rfl,aH.of ah,Nv,?_⟩];let s2:=aq.upd (o:=.lst [V.str (tx [114,111,111,109,115]),V.str (tx [108,101,116,116,101,114,115]),V.str (tx [110,101,119,101,115,116])]) um;replace I:=s2.seq I;replace wR:=wR.same s2;replace wP:=wP.same s2;replace t3:=t3.same s2;let d1:M=.non\/∃B T o,M=↑B/\TabAt (upd H3 lo (.lst [V.str (tx [114,111,111,109,115]),V.str (tx [108,101,116,116,101,114,115]),V.str (tx [110,101,119,101,115,116])])) B T/\Fd R G L b o T:=d3.1.imp id λζ=>by let⟨B,T,o,e,Z,h2⟩:=ζ;rwa[⟨B,T,o,e,Z.same s2,h2⟩]
  generalize upd H3 lo _=H4 at I wR wP t3 d1 ⊢;clear s2 um Nv d3
  let main:∀vf vr H5,Kp A.du H4 H5->cU A.du dm gC H5->((∃t B pp T,vf=↑t/\vr=.non/\H5 t\.tup [↑B,↑pp]/\TabAt H5 B T/\Fd R G L b o T)\/∃y F,vf=.non/\vr=↑y/\Fl R G L o b F/\F.made=b/\∃c z,hO o F L c z)->Ik { nx:=λ_ H'=>Q .non H',rt:=Q } #v[↑a,.int L,↑ta,↑ra,↑pa,some vf,.int b,some M,.str (tx (gR o)),v9,some vr,none,none] H5:=λvf vr H5 k5 t5 res=>by
   replace I:=k5.seq t3 I;replace wR:=k5.words t3 wR;replace wP:=k5.words t3 wP;replace d1:M=.non\/∃B T o,M=↑B/\TabAt H5 B T/\Fd R G L b o T:=d1.imp id λζ=>by let⟨B,T,o,e,Z,h2⟩:=ζ;rwa[⟨B,T,o,e,k5.tabs t3 Z,h2⟩]
   rwa[⟨1212,a,ns,(7),2,I,4,λz=>⟨1122,⟨44⟩,1122,(by show (0:Int)<1000003;decide),ra,_,R,L,2,wR,λu hu=>ok u (agU _ hu),okl,EL,λlw R' H6 s6 w6 ok6 hl6 c1 c2=>?_⟩⟩];replace wP:=wP.same s6;let⟨pQ,hQ,tQ⟩:=id wP;let el:⇑(pQ.map V.ref)=⇑pQ:=agy ..;let hpq:=tQ.1;erw[121212,pa,2,⟨_,aH.of hQ⟩];rwa[kO ⇑pQ (λi=>(pQ.map V.ref).getD i .non) (λH7 v i=>∃p,v=↑p/\∀w,(G.map M11.back)[i]?\w->H7 p\.tup (ao w)) (λH7 H8 v i s ζ=>by let⟨p,e,h⟩:=ζ;rwa[⟨p,e,λw hw=>s^h w hw⟩]) (agJ (show ⇑pQ<=100 by omega) ⋯) (λi H7 s7 Y=>jK (aH.of (s7^hQ)) i ∅) (λi x H7 H8 s7 Y y=>?_) (λH7 s7=>by have:=gJ (aH.of (K:=K) (s7^hQ));rw[el]at this;rwa[this]) (λi H7 Rr Y s7 kk=>?_) (λD H7 ys s7 nD yP X=>?_)]
   ·let⟨e1,e2⟩:=iC (aH.of (s7^hQ)) i x H8 ∅ y;rwa[e1,by rw[agD,e2];rfl]
   ·let g1:pQ[i]?=some pQ[i]:=agv Y
    generalize pQ[i]=wp at g1;obtain⟨u,hu⟩:∃u,G[i]?\u:=⟨_,agv ∅⟩
    rwa[⟨12,wp,u,5,s7^tQ.2 i wp u g1 hu,(ok u (agB _ (agu hu))).1,λl H8 s8 h8=>kk _ H8 s8 ⟨l,2,λw hw=>?_⟩⟩]
    ·rw[agD,agR,g1];rfl
    ·rw[agR,hu]at hw;rw[<-Za0 hw];rwa[h8]
   let⟨qs,rfl,tV⟩:=PL (ws:=G.map M11.back) (by cbv) X;let s8:=s7.trans (aq.upd (o:=.lst (qs.map V.ref)) nD);let w8:bG (upd H7 D (.lst (qs.map V.ref))) D (G.map M11.back):=⟨qs,ah,tV.same (aq.upd nD)⟩;generalize upd H7 D (.lst (qs.map V.ref))=H8 at s8 w8 ⊢;clear X yP tV nD s7
   let Yj:∀u∈R'++G.map M11.back,m9 L u:=λu hu=>by
    rcases agH.mp hu with h|h
    ·rwa[ok6 u h]
    ·let⟨w,hw,rfl⟩:=ahp.mp h;rwa[yl (ok w (agB _ hw))]
   let j:∀u∈R'++G.map M11.back,∀z∈u,z∈a9 (2* L)/\-z∈a9 (2* L):=λu hu z hz=>((pC ∅ (Yj u hu)).2 z hz).2
   let cv:=VS (P:=G) c1;let U:=VW (P:=G) c2;let O:=s6.trans s8;rwa[⟨1212,lw,D,L,b,o,gR o,R',G.map M11.back,2,.inl rfl,Jc,lH,3,J,3,w6.same s8,w8,Yj,by have:=ai9 UB hl6;rw[agy];ext,3,by rw[agy];ext,t5.same O,λq t B pp S N H9 k9 t9 f1 g1 a0 a1 a2 a3 _=>?_,λq y dd pp S H9 k9 t9 f1 m1 l1 a0 _ _ _=>?_⟩]
   ·erw[q,12,bC.of a0,21121122];rw[(f1.mL j J).2]at a2 a3;rcases res with ⟨t1,Yk,pp1,T1,rfl,rfl,b1,b2,b3⟩|⟨y1,F,rfl,rfl,b1,b2,c,z,b3⟩
    ·replace b1:=k9.at (t5.same O) (O^b1) (by cbv);replace b2:=k9.tabs (t5.same O) (b2.same O);let⟨S1,N1,f2,g2,x1,x2⟩:=id b3;let e1:=Fl.most cv U d j f2 g2 f1;let e2:=Fl.most U cv j d f1 g1 f2
     let eb:bp S=bp S1:=by
      funext kk c
      unfold bp;rw[(Fl.one cv U d j f2 f1 ∅).2]
     rw[eb]at a2 a3;rw[M24.Eg a3 x1,<-x2]at a2;let⟨td,Td,od,rfl,Z,h2⟩:=d1.resolve_left (d3' o T1 Jc b3);replace Z:=k9.tabs (t5.same O) (Z.same O);rwa[⟨122122212,nB rfl ?_⟩];rwa[⟨12212,dN ⟨12,t,11122,bC.of a1,212,t1,11122,bC.of b1,2,B,Yk,T1,T1,22,a2,b2,5⟩⟩];rw[aha rfl];rwa[⟨true,2,ic ⟨12,t,11122,bC.of a1,212,B,td,T1,Td,22,a2,Z,5⟩⟩];rw[aha (Fd.eq d b3 h2)];rwa[k _]
    ·exfalso
     let e1:=Fl.most U cv j d f1 g1 b1;let⟨e2,_⟩:=f1.mL j J;rwa[g1 c z (((Fl.one U cv j d f1 b1 ∅).1 c z).mpr b3.1)]
   ·erw[q,12,bC.of a0,21121122];rcases res with ⟨t1,Yk,pp1,T1,rfl,rfl,b1,b2,S1,N1,f2,g2,_⟩|⟨y1,F,rfl,rfl,b1,b2,b3⟩
    ·exfalso
     let e1:=Fl.most cv U d j f2 g2 f1;let⟨e2,_⟩:=f2.mL d J;let⟨c,z,hg⟩:=l1;rwa[g2 c z (((Fl.one cv U d j f2 f1 ∅).1 c z).mpr hg.1)]
    ·rwa[122122212,nB rfl ⟨12212,ic (k _)⟩]
  rwa[⟨1212121212,ra,pa,L,b,o,gR o,R,G,2,.inl rfl,Jc,lH,3,J,3,wR,wP,ok,fit,33,t3,λq t B pp S N H5 k5 t5 f1 g1 a0 a1 a2 a3 _=>?_,λq y dd pp S H5 k5 t5 f1 m1 l1 a0 _ _ _=>?_⟩]
  ·rw[(f1.mL d J).2]at a2 a3;rwa[q,12,bC.of a0,21121122,main _ _ H5 k5 t5 (.inl ⟨t,B,pp,122,a1,a2,S,N,f1,g1,a3,2⟩)]
  ·rwa[q,12,bC.of a0,21121122,main _ _ H5 k5 t5 (.inr ⟨y,S,22,f1,m1,l1⟩)]
unseal L2.PE L2.PS L2.iL L2.PA L2.PT
end
theorem all_mk {l:PySem.W.OpenLaw}(hfa:M "law"=some ↑a)
 {b h f j d i k n g:Zs}
 {o m:Zs}
 {f1 f2 f3 f4 f5 f6 f7 f8 f9 G f11 y f13 f14 V R f17 f18 f19 W f21 f22 Q f24 t f26 f27 f28 f29 X L U r f34 f35 z f37 f38 f39 f40 Z f42 f43 f44 f45 x f47 O f49 f50 f51 f52 P f54:Zs} {d1 d2 d3 d4 d5 d6 d7 d8 d9 I d11 d12 d13 d14 d15 H d17 p q d20 d21 J d23 d24 D d26 d27 Y d29 d30 E d32 N d34 d35 d36 d37 B S d40 d41 d42 A d44 d45 d46 F d48 C d50 d51 d52 d53 u:FuncData}
 (T:Txt K M ⟨f1,d1,f2,d2,f3,d3,f4,d4,f5,d5,f6,d6,f7,d7,f8,d8,f9,d9,G,I,f11,d11,y,d12,f13,d13,f14,d14,V,d15,R,H,f17,d17,f18,p,f19,q,W,d20,f21,d21,f22,J,Q,d23,f24,d24,t,D,f26,d26,f27,d27,f28,Y,f29,d29,X,d30,L,E,U,d32,r,N,f34,d34,f35,d35,z,d36,f37,d37,f38,B,f39,S,f40,d40,Z,d41,f42,d42,f43,A,f44,d44,f45,d45,x,d46,f47,F,O,d48,f49,C,f50,d50,f51,d51,f52,d52,P,d53,f54,u,b,h,f,j,d,i,k,n,g,o,m⟩)
 :∃fd:FuncData,(∃fd2 c,LamAt K fd2 c m)/\(∀(s:Zu) (v:Zt),BindsTo s fd ⟨[v],[]⟩ [("_law_script",v)])/\∀base:Heap,K.In base->base.Ns mainGlobals M->kg M base->dq l.prog w K M base (df l.prog w) 13 a fd ["_law_script"] (zP K m):=by
 let e:=hfa.symm.trans T.law.m;ext e;let⟨kV,doc,pm,an,cC,ct,e⟩:=T.law.fd;rwa[_,⟨11,T.lam⟩,λs v=>[e]▸.of_eq rfl,λbase _ _ sr=>UA T sr]
theorem walk {l:PySem.W.OpenLaw}{loose:Zp}{XP:(Str->Zl)->Heap->Prop}{i:World->Heap->Prop}{d:DefRec}{K:Params->Za1}(m:l.most\63)(g:d.params.defaults=[])
 (p:∀(w:World) (h:Heap),i w h->(K w.params).In h/\h.get? a\(PySem.W.tabObj #[]))
 (F:∀(w:World) (e:Str->Zl) (j:Zs) (h:Heap),(K w.params).In h->h.Ns mainGlobals e->e d.name\↑j->
  ∃fd:FuncData,(∃fd2 c,LamAt (K w.params) fd2 c a)/\(∀(s:Zu) (u:Zt),BindsTo s fd ⟨[u],[]⟩ [("_law_script",u)])/\∀base:Heap,(K w.params).In base->base.Ns mainGlobals e->kg e base->dq l.prog w (K w.params) e base (df l.prog w) 13 j fd ["_law_script"] (zP (K w.params) a)):
 PySem.W.WalkO P loose XP i l.row.toRowW d [] (λf o=>PySem.call f o):=
 L2.Kc (n:=63) (k:=13) (x:="_law_script") (CX:=λw=>(df l.prog w)) (sp:=λw=>zP (K w.params) a) m ⋯ g ⟨244⟩ p F (λ_ _ b t q r v=>⟨b,t,2,v,q,r,λ_=>rfl⟩) λ_ _ _ _ _ z=>Mq z
end K40
end Lake
open PySem PySem.W PyProof.Rows
namespace PySem.W.Fast
universe tw3993164679064258107 tw7516781669357795546 tw593812202155565926 tw17977952436160379510 tw8886031493546291974 tw8192640323418858155 tw12308091529120396671 tw9311519481008816043 tw15127863603149368639 tw3645254231729808395 tw12962677777989240784 tw12158731036030030458 tw1661145873865012828 tw15770295317627337520 tw2407266715620341900 tw3531641535363384239 tw15164879599647355375 tw14229509373161052571 tw5582775675847611086 tw705299131367954883 tw5854195863779150046 tw10153692322492980750 tw3864654608535589724 tw8174026941439941370 tw4490489975795363823 tw12450916837515364200 tw4995659223746376763 tw5312564021828197830 tw905174011244398726 tw3020024826875851054 tw12006261423479277642 tw3682487436753214815 tw13878695693141852247 tw11379600189451245151 tw4920806779328910954 tw6672010766055675610 tw15041291371555328462 tw17674013361360483271 tw8340206807999259706 tw4117181100429458580 tw4212322600762592233 tw7073493693812614287 tw3998144224181180892 tw6814046435392296832 tw7256313218611912820 tw17063842453832494663 tw709944361937381881 tw7225107064466403936 tw1076039509111791480 tw4490266477041070865 tw6433761431070245734 tw2850456417846249295 tw14874087027791993852 tw10399009743468122870 tw12087655215723501794 tw13105406671059296956 tw11916560236198284391 tw3380093254843957619 tw7327223320708011947 tw4890482298752012739 tw3331270876375485268 tw3970385637691782308 tw18008170084934778512 tw10959894188543792695 tw10862525656135613926 tw2069566838190944544 tw11478157038305207898 tw4133083462324726614 tw18357285728080945277 tw14637901460964519635 tw15242375891762242655 tw1100935109932164704 tw9297845224708420611 tw3161840125658954261 tw1288480953448823442 tw18321979211525050482 tw16338440236217794238 tw17560687538061675622 tw16782856866938410157 tw3026181942283930327 tw12555831880171225041 tw15329869076722259012 tw3990927152207906328 tw10166373835707801203 tw15540675298520182282 tw1963444305903129690 tw17892065826126423833 tw2217585893469471456 tw6383921016773654147 tw11381250459783217693 tw6141463165153643233 tw12384819032672237439 tw3271971269998478581 tw12484413805003193651 tw17758388844570622926 tw17119314531360382599 tw5644034867239415830 tw4726565451659814657 tw3970890302976255336 tw12735659702514895476 tw14845427052979806827 tw10153215586905172099 tw6255969802333795683 tw5041784385463720853 tw3000499048280120785 tw4364994602297126287 tw4030743734137191746 tw7668088464084921988 tw4181591895409511442 tw17341764460052209159 tw16553919996862483630 tw17554300654290334814 tw4576826460852876391 tw10965033115222008463 tw10142516997086182551 tw9730020206910106033 tw8779369776924013188 tw2810355928728205502 tw2432501132216224115 tw10726130785095229306 tw13690505713694684567 tw13064443386041301385 tw6419531282803204129 tw11742865521476741320 tw14809059826890224134 tw313710562214304376 tw6486071368068587878 tw7915876721819109693 tw15442637214708219086 tw6504424294944210620 tw3243132845747501568 tw483242811055058237 tw2420680914121971743 tw2687619978489915161 tw17035395258829651364 tw13247565887645694973 tw8521093784294796137 tw2482915533306968690 tw10743747506239698040 tw2737994028582029719 tw8858920026556330989 tw3159550466181794754 tw1676080144213289273 tw3167364782890041192 tw13970847862147952915 tw8748094645979255178 tw2645404076381789768 tw18103536707318022863 tw1543231931137193208 tw16284254605330937374 tw12836540032449429966 tw2356247678784318265 tw8138774253861619978 tw16261539978978234345 tw15220358836786982239 tw8597313985181814420 tw15129158688399278162 tw3628431064426375920 tw4804530912602817870 tw8438425507043739229 tw17245417586327225219 tw13790912702520335897 tw4106481796806900964 tw8674847255845959261 tw5773974771615402735 tw6033004826532695665 tw15235539034352572384 tw7567008197028083421 tw7870503962563806884 tw2532827711141881522 tw285120857104342374 tw11201498888175737125 tw2090233542153975383 tw16812487866564779214 tw1541964974140454831 tw6356130068618223693 tw13358182945779589916 tw3137692863281092709 tw6876980901994670887 tw7426061855929836944 tw14636805536132475822 tw11823837338098754704 tw6658717797810975543 tw17602829433034213495 tw10583836164935737481 tw10958621597474046959 tw1267287913239044487 tw724468654570805490 tw13008555990566281850 tw5427920929643968559 tw14237783261476619282 tw3096328886344786026 tw12054550966880751449 tw4094036097157207714 tw1095108607821123831 tw6651219511128441213 tw7587455801839791988 tw634774382424953075 tw5898290415731910298 tw46962128370826050 tw4375211104700308199 tw14547312158500320483 tw13941563833167315052 tw10040281275368058996 tw4813739812266843797 tw11922197746417762154 tw11245250526998550632 tw9074452642401254072 tw14458779603392113999 tw8187895684258513923 tw2659911823092675366 tw17302835032274195200 tw17161489280249158460 tw16864247385433319600 tw15968904874365326686 tw18240147471003310107 tw8549475533202637592 tw2357740950274075721 tw14535584213801413430 tw7310534312287577342 tw8183259116028606348 tw9563242716241893503 tw9000420558703224073 tw14530700076390673509 tw10967788058605598292 tw9869878507140277112 tw9280793022809111062 tw7317301256042563478 tw6868094766785740352 tw6045880707256764762 tw4303370111590729167 tw3885039850561916728 tw3591200893220089986 tw18170390641908419503 tw17880791178710147442 tw17612808942949212194 tw16402086837229581630 tw139111131040568820 tw12722206956293459011 tw12304386950211301866 tw12243591137373942466 tw10992402074537121711 tw15706802670083015610 tw3463083385555961840 tw12484992291305865691 tw10394170605315819344 tw9564633882629041890 tw9108493198609395368 tw797207080865531905 tw3015229441637816952 tw15126501228477323360 tw14000878388395434366 tw13348696257077133922 tw1418944887773460297 tw1380558894901948869
end PySem.W.Fast
end
open Lake
set_option maxRecDepth 100000 in
set_option maxHeartbeats 0 in
theorem PySem.Challenge.cw_cosetyard_k40_whole_orders_meet_holds : PySem.Challenge.rw_cosetyard_k40_whole_orders_meet.Holds := by
  w_on; o_law; k_head;(case hw => w_witness2)
  k_fill
  refine K40.walk (l := PySem.Challenge.rw_cosetyard_k40_whole_orders_meet) rfl rfl (fun w h Y => ⟨PySem.W.km_in_of Y, PySem.W.km_tabs_of Y _ (List.Mem.head _)⟩) ?F
  case F =>
    intro w mg fa h KX G hmg
    refine' K40.all_mk hmg ⟨?D1,?D2,?D3,?D4,?D5,?D6,?D7,?D8,?D9,?D10,?D11,?D12,?D13,?D14,?D15,?D16,?D17,?D18,?D19,?D20,?D21,?D22,?D23,?D24,?D25,?D26,?D27,?D28,?D29,?D30,?D31,?D32,?D33,?D34,?D35,?D36,?D37,?D38,?D39,?D40,?D41,?D42,?D43,?D44,?D45,?D46,?D47,?D48,?D49,?D50,?D51,?D52,?D53,?D54,?z1,?z2,?z3,?z4,?z5,?z6,?z7,?z8,?z9,?z10,?z11,?z12,?z13,?y_YardError,?y_NoOrder,?y_TooMany,?y_Order,?y_ByLetters,?y_Newest,?y_Rooms,?y_Going,?y_Closing,_,_,_,_,_,_,_,_,_,_,_,_,_,_,_,_,_,_,_,_,_,_,_,_,_,_,_,_,_,_,_,_,_,_,_,_,_,_,_,_,_,_,_,_,_,_,_,_,_,_,_,_,_,_,_,_,_,_,_,_,_,_,_,_,_,_,_,_,_,_,_,_,_,_,_,_,_,_,_,_,_,?w_lam⟩
    all_goals try dsimp only
    (case y_YardError|y_NoOrder|y_TooMany|y_Order|y_ByLetters|y_Newest|y_Rooms|y_Going|y_Closing => refine' PySem.W.mg_of KX G ?a;(case a => k_is))
    (case D1|D13|D14|D15|D18 => refine' L2.Def.of KX G ?_ ?_ ?_ ?_ (fun _ _ _ _ _ _ _ hl => by obtain ⟨_, _, _, rfl⟩ := L2.args_is3 hl; rfl);all_goals try k_is)
    (case D2|D3|D4|D5|D6|D8|D9|D19|D20|D22|D24 => refine' L2.Def.of KX G ?_ ?_ ?_ ?_ (fun _ _ _ _ _ _ _ hl => by obtain ⟨_, rfl⟩ := L2.args_is1 hl; rfl);all_goals try k_is)
    (case D7|D11|D12|D23 => refine' L2.Def.of KX G ?_ ?_ ?_ ?_ (fun _ _ _ _ _ _ _ hl => by obtain ⟨_, _, rfl⟩ := L2.args_is2 hl; rfl);all_goals try k_is)
    (case D10 => refine' L2.DDef.of KX G ?_ ?_ ?_ ?_ ?_ (fun _ _ _ _ _ _ _ hl => by obtain ⟨_, _, _, _, _, rfl⟩ := L2.args_is5 hl; exact ⟨_, rfl, rfl⟩) (fun _ _ _ _ _ _ _ hl => by obtain ⟨_, _, _, _, rfl⟩ := L2.args_is4 (Nat.succ.inj hl); exact ⟨_, rfl, rfl⟩);all_goals try k_is)
    (case D16|D17 => refine' L2.Def.of KX G ?_ ?_ ?_ ?_ (fun _ _ _ _ _ _ _ hl => by obtain ⟨_, _, _, _, rfl⟩ := L2.args_is4 hl; rfl);all_goals try k_is)
    (case D21 => refine' L2.Def.of KX G ?_ ?_ ?_ ?_ (fun _ _ _ _ _ _ _ hl => by obtain ⟨_, _, _, _, _, rfl⟩ := L2.args_is5 hl; rfl);all_goals try k_is)
    (case D25|D28|D30|D34|D51 => refine' L2.MDef.of ?_ ?_ ?_ ?_ ?_ (fun _ _ _ _ _ _ _ hl => by obtain ⟨_, _, _, _, rfl⟩ := L2.args_is4 hl; rfl);all_goals try k_is)
    (case D26|D27|D29|D33|D35|D38|D40|D41|D42|D43|D47|D50 => refine' L2.MDef.of ?_ ?_ ?_ ?_ ?_ (fun _ _ _ _ _ _ _ hl => by obtain ⟨_, _, rfl⟩ := L2.args_is2 hl; rfl);all_goals try k_is)
    (case D31|D37|D48|D49 => refine' L2.MDef.of ?_ ?_ ?_ ?_ ?_ (fun _ _ _ _ _ _ _ hl => by obtain ⟨_, rfl⟩ := L2.args_is1 hl; rfl);all_goals try k_is)
    (case D32|D36|D39|D44|D46|D52|D54 => refine' L2.MDef.of ?_ ?_ ?_ ?_ ?_ (fun _ _ _ _ _ _ _ hl => by obtain ⟨_, _, _, rfl⟩ := L2.args_is3 hl; rfl);all_goals try k_is)
    (case D45 => refine' L2.MDef.of ?_ ?_ ?_ ?_ ?_ (fun _ _ _ _ _ _ _ hl => by obtain ⟨_, _, _, _, _, rfl⟩ := L2.args_is5 hl; rfl);all_goals try k_is)
    (case D53 => refine' L2.MDef.of ?_ ?_ ?_ ?_ ?_ (fun _ _ _ _ _ _ _ hl => by obtain ⟨_, _, _, _, _, _, rfl⟩ := L2.args_is6 hl; rfl);all_goals try k_is)
    (case z1|z2|z3|z4|z5|z6|z7|z8|z9|z10|z11|z12|z13 => refine' PySem.W.mg_none_of KX G ?a;(case a => k_is))
    (case w_lam => refine' L2.LamAt.mk ?e ?h ?n;(case e => rfl);(case h => kernel_rfl);(case n => kernel_rfl))
    all_goals first|k_is|kit_is|kts_exm|kernel_rfl
