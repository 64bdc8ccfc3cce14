import PyProof.Rows.All
import Wide.All
import OpenK.AllK
import Wide.FinOn
import Lean
import PyProof.EqAt
import PyProof.EqKinds
import PyProof.TupleCall
import PyProof.FString
import OpenK.KOwn
import KE.KTryMore
import PyProof.NsDelKeeps
import PyProof.StrBlock2
import PyProof.AutoListH
import KE.KIntText
import PyProof.Rows.StrIntSpec
import KE.KRevIter
import PyProof.StrWalks
import PyProof.CompUse
import PyProof.NeKinds
import PyProof.Rows.Range3
import PyProof.Rows.EnumRows
import PyProof.ConsumeWalk
import PyProof.Rows.SeqGen
import PyProof.StrLawsRepr
import PyProof.ZipIter
import PyProof.Rows.FactsT2
import PyProof.EnumMake
import PyProof.DictWalks
import PyProof.DictTruth
import PyProof.ListRange
import PyProof.ListStr
import PyProof.TupleOfGen
import PyProof.TupleOfSeq
import PyProof.MinMaxWalk
import PyProof.WalkInts
import KE.KSortAsk
import PyProof.MeetsSeq3
import KE.KRevSl
import PyProof.Rows.SeqMore
import PyProof.ListMulRoad
import PyProof.Rows.SumAny
import PyProof.SeqI3
import PyProof.AttrMissSeq
import KE.KDictOf
import PyProof.Rows.StrCut
import PyProof.Rows.StrSplitCount
import PyProof.DictItems
import PyProof.Rows.SortWalk
import PySem.Challenge.RW_cosetyard_k37_whole_greatest_move
set_option Elab.async false
set_option linter.all false
set_option maxRecDepth 100000
set_option compiler.extract_closed false
set_option compiler.small 0
set_option genSizeOfSpec false
set_option maxHeartbeats 4000000
noncomputable section
local macro_rules|`(tactic|decide)=>`(tactic|decide +kernel)
local macro_rules|`(tactic|ac_rfl)=>`(tactic|exact⟨rfl,rfl,rfl,by decide,rfl,by decide,by decide⟩)
local macro_rules|`(⟨$x,*⟩)=>do
  let mut r:Array Lean.Term:=#[]
  let mut b:=false
  for e in x.getElems do
    match e.raw.isNatLit? with
    |some n=>
      b:=true
      for c in (toString n).toList do r:=r.push (←if c='1'then`(_)else if c='2'then`(rfl)else if c='3'then`(by omega)else if c='4'then`(by decide)else`(?_))
    |_=>r:=r.push e
  if b then`(⟨$r,*⟩)else Lean.Macro.throwUnsupported
local macro_rules|`(tactic|erw[$r,*])=>do let a:=r.getElems.map λe=>(⟨e.raw[1]⟩:Lean.Term);`(tactic|refine⟨$a,*, ?_⟩)
local macro_rules|`(tactic|rwa[$r,*])=>do let a:=r.getElems.map λe=>(⟨e.raw[1]⟩:Lean.Term);if a.size=1&&(a[0]!).raw.isNatLit?.isNone then`(tactic|refine $(a[0]!))else`(tactic|exact⟨$a,*⟩)
local macro_rules|`([$x,*]▸$e)=>do let a←x.getElems.mapM λt=>do match(⟨t⟩:Lean.Term)with|`(-$s)=>`(Lean.Parser.Tactic.rwRule|←$s:term)|s=>`(Lean.Parser.Tactic.rwRule|$s:term)
                                   `(by rw[$a,*];exact $e)
def CVP:Nat→Lean.Term→Lean.MacroM (Lean.TSyntax `rcasesPat)
|0,_=>Lean.Macro.throwUnsupported
|n+1,t=>do match t with
  |`(⟨$x,*⟩)=>let a←x.getElems.mapM λt=>do`(Lean.Parser.Tactic.rcasesPatLo|$(←CVP n t):rcasesPat)
              `(rcasesPat|⟨$a,*⟩)
  |`($i:ident)=>`(rcasesPat|$i:ident)
  |`(_)=>`(rcasesPat|_)
  |_=>Lean.Macro.throwUnsupported
local macro_rules|`(tactic|let $p:term:=$e)=>do match p with|`(⟨$_,*⟩)=>`(tactic|obtain $(←CVP 9 p):rcasesPat:=$e)|_=>Lean.Macro.throwUnsupported
local macro_rules|`(∅)=>`(by omega)
local macro_rules|`(⋯)=>`(by decide)
local macro_rules|`(tactic|omega)=>`(tactic|lia)
local macro_rules|`($a\$b)=>`($a=some $b)
local macro_rules|`($a^$b)=>match b.raw.isNatLit? with|some _=>Lean.Macro.throwUnsupported|_=>`($a _ _ $b)
local macro_rules|`(↥$s)=>`(($s).heap.objs.size)
local macro_rules|`(#v[$x,*])=>do let a←x.getElems.mapM λe=>do if e.raw.isOfKind `coeNotation||e.raw.isOfKind ``Lean.Parser.Term.dotIdent||e.raw[0].isOfKind ``Lean.Parser.Term.dotIdent then`(some $e)else pure e
                                  `([$a,*])
local macro_rules|`(s!"")=>`(by intro _ z;cases z)
local macro_rules|`(f!"")=>`(by intro z;cases z)
local macro_rules|`($s<*$h)=>`({ $s with heap:=$h })
local macro_rules|`(⇑$s)=>`(($s).length)
local macro_rules|`(↑$s)=>`(.ref $s)
local macro_rules|`(tactic|let $x:ident$[:$t]?:=$e)=>`(tactic|have $x$[:$t]?:=$e)
local macro_rules|`(tactic|trivial)=>`(tactic|first|exact Or.inl rfl|exact Or.inr rfl|exact Or.inr (.inl rfl)|exact Or.inr (.inr rfl)|assumption)
local macro_rules|`(tactic|cbv)=>`(tactic|grind -abstractProof)
local macro_rules|`(tactic|ext $p*)=>match p with|#[]=>`(tactic|omega)|_=>let i:Lean.Ident:=⟨p[0]!.raw[0][0]⟩;`(tactic|cases $i:ident)
local macro_rules|`($a:str>>>$b)=>`({ cls:=.type $a,data:=$b })
local macro_rules|`($x⁻¹)=>`(PySem.wpAny (PySem.model ($x).prog ($x).w))
local macro_rules|`($x<|>$y)=>`(PySem.wpAny (PySem.model $x $y))
local macro_rules|`(universe $x*)=>do return Lean.mkNullNode (←x.mapM λi=>do return(←`(command|def $i:ident:=Nat)).raw)
abbrev Zg:=List Int
abbrev Zh:=List Nat
abbrev Zi:=Option Nat
abbrev Zj:=Option Int
abbrev Zk:=List PySem.Value
abbrev Zl:=Option PySem.Value
abbrev Zm:=Array PySem.Value
abbrev Zn:=List PySem.Addr
abbrev Zo:=Option PySem.Addr
abbrev Zp:=List PySem.Str
abbrev Zq:=List PySem.Env
abbrev Zr:=List PySem.Expr
abbrev Zs:=PySem.Addr
abbrev Zt:=PySem.Value
abbrev Zu:=PySem.Shared
abbrev Za0:=@Option.some.inj
abbrev Za1:=PySem.W.Frag
abbrev Za2:=Nat->Int->Nat->Prop
abbrev Za3:=List Zg
def Za4 (n:Nat)(h:n<=PySem.sizeLine:=by decide):n<=PySem.sizeLine:=h
abbrev agg:=@PySem.wpAny_bind
abbrev agh:=@List.mem_of_getElem?
abbrev agi:=@PySem.Heap.get?_push_of_some
abbrev agj:=@List.getElem?_eq_some_iff
abbrev agk:=@List.length_append
abbrev agl:=@List.getElem?_eq_getElem
abbrev agm:=@List.length_map
abbrev agn:=@PySem.wpAny_pure
abbrev ago:=@List.mem_singleton
abbrev agp:=@Nat.le_refl
abbrev agq:=@List.getD_eq_getElem?_getD
abbrev agr:=@List.mem_append_right
abbrev ags:=@List.getElem?_append_left
abbrev agt:=@List.getElem?_append_right
abbrev agu:=@Nat.lt_of_le_of_lt
abbrev agv:=@List.mem_append
abbrev agw:=@PySem.F.plainAttrs_list
abbrev agx:=@List.getElem?_map
abbrev agy:=@PySem.Heap.get?_push_size
abbrev agz:=@Nat.le_trans
abbrev agA:=@List.mem_cons_self
abbrev agB:=@List.mem_cons
abbrev agC:=@PySem.Heap.lt_size
abbrev agD:=@List.size_toArray
abbrev agE:=@beq_eq_false_iff_ne
abbrev agF:=@if_neg
abbrev agG:=@PySem.F.slot_list_append
abbrev agH:=@PySem.F.type_list_append
abbrev agI:=@if_pos
abbrev agJ:=@List.mem_append_left
abbrev agK:=@List.length_set
abbrev agL:=@List.length_cons
abbrev agM:=@Nat.lt_of_lt_of_le
abbrev agN:=@PySem.PassesOwn.never
abbrev agO:=@Nat.ne_of_lt
abbrev agP:=@Nat.zero_le
abbrev agQ:=@List.append_nil
abbrev agR:=@List.map_append
abbrev agS:=@List.mem_cons_of_mem
abbrev agT:=@Int.toNat_natCast
abbrev agU:=@of_decide_eq_true
abbrev agV:=@List.length_take
abbrev agW:=@decide_eq_true
abbrev agX:=@List.nodup_cons
abbrev agY:=@List.getElem?_eq_none
abbrev agZ:=@List.length_range
abbrev ag0:=@Bool.false_ne_true
abbrev ag2:=@PySem.Heap.get?_update_self
abbrev ag3:=@PySem.Heap.get?_update_other
abbrev ag4:=@List.not_mem_nil
abbrev ag6:=@List.map_map
abbrev ag8:=@List.getElem?_of_mem
abbrev ag9:=@List.getElem?_set_self
abbrev aha:=@PySem.boot_len
abbrev ahb:=@PyProof.Rows.boot_isinstance
abbrev ahc:=@List.mem_map
abbrev ahd:=@PySem.wpAny_newObj_type
abbrev ahe:=@List.append_assoc
abbrev ahf:=@List.nodup_append
abbrev ahg:=@PySem.Calls.spliced_cons
abbrev ahh:=@List.length_drop
abbrev ahi:=@decide_eq_true_iff
abbrev ahj:=@PyProof.Rows.callWith_type1
abbrev ahk:=@PySem.wpAny_mono
abbrev ahl:=@List.mem_range
abbrev ahm:=@decide_eq_false
abbrev ahn:=@PySem.wpAny_holding
abbrev aho:=@PySem.wpAny_callSpecial?_slot
abbrev ahp:=@PySem.wpAny_field
abbrev ahq:=@PySem.Calls.callWith_builtin
abbrev ahr:=@PySem.wpAny_call_entry
abbrev ahs:=@PyProof.Rows.slot_tuple_getitem
abbrev aht:=@PySem.wpAny_Call_Name_kw
abbrev ahu:=@List.length_singleton
abbrev ahv:=@List.map_congr_left
abbrev ahw:=@Nat.ne_of_gt
abbrev ahx:=@Option.map_eq_some_iff
abbrev ahy:=@PyProof.Rows.boot_list
abbrev ahz:=@Nat.lt_irrefl
abbrev ahA:=@List.map_cons
abbrev ahB:=@PySem.wpAny_setField_rec
abbrev ahC:=@Ne.symm
abbrev ahD:=@List.range_succ
abbrev ahE:=@Nat.lt_succ_self
abbrev ahF:=@congrArg
abbrev ahG:=@PySem.F.plainAttrs_dict
abbrev ahH:=@Nat.lt_succ_of_lt
abbrev ahI:=@List.getElem?_set_ne
abbrev ahJ:=@Int.emod_lt_of_pos
abbrev ahK:=@Bool.eq_iff_iff
abbrev ahL:=@PySem.W.kia_one
abbrev ahM:=@List.eq_nil_of_length_eq_zero
abbrev ahN:=@PySem.F.slot_dict_itemiterator_next
abbrev ahO:=@PySem.mem_of_lookup
abbrev ahP:=@List.getElem?_range
abbrev ahQ:=@PySem.Heap.SameBut.update
abbrev ahR:=@PySem.Calls.spliced_nil
abbrev ahS:=@PySem.F.slot_dict_keyiterator_next
abbrev ahT:=@Int.emod_nonneg
abbrev ahU:=@List.length_nil
abbrev ahV:=@PySem.Obj.data_mapFields
abbrev ahW:=@PySem.Calls.evalArgs_plain
abbrev ahX:=@PySem.codeAny_call_builtin
abbrev ahY:=@Nat.mul_le_mul_right
abbrev ahZ:=@List.take_length
abbrev ah0:=@List.mem_flatMap
abbrev ah1:=@Array.getElem?_eq_some_iff
abbrev ah2:=@Array.length_toList
abbrev ah3:=@List.ext_getElem?
abbrev ah4:=@List.pairwise_map
abbrev ah5:=@PySem.Heap.size_push
abbrev ah6:=@List.nodup_nil
abbrev ah7:=@List.mem_filter
abbrev ah8:=@PySem.F.slot_dict_get
abbrev ah9:=@Nat.sub_self
abbrev aia:=@PySem.wpAny_typeNameOfWhole_itemiter
abbrev aib:=@Bool.and_eq_true
abbrev aic:=@PySem.wpAny_typeNameOfWhole_keyiter
abbrev aid:=@Int.neg_neg
abbrev aie:=@List.mem_iff_getElem
abbrev aif:=@List.dropLast_concat_getLast
abbrev aih:=@PySem.F.slot_dict_setdefault
abbrev aii:=@PyProof.Rows.boot_tuple
abbrev aij:=@List.take_succ
abbrev aik:=@PySem.wpAny_dictEntries
abbrev ail:=@List.replicate_succ
abbrev aim:=@List.filter_sublist
abbrev ain:=@PySem.F.slot_tuple_iterator_next
abbrev aio:=@PySem.F.excBase_ValueError
abbrev aip:=@List.lookup_cons
abbrev aiq:=@List.length_filter_le
abbrev air:=@PySem.tupleKind_room_in1
abbrev ais:=@PySem.Obj.isFreed_of_fields
abbrev ait:=@or_false
abbrev aiu:=@List.getElem?_drop
abbrev aiv:=@Nat.le_succ
abbrev aiw:=@PySem.wpAny_setField
abbrev aix:=@List.mem_or_eq_of_mem_set
abbrev aiy:=@PySem.wpAny_typeNameOf_itemiter
abbrev aiz:=@List.drop_eq_getElem_cons
abbrev aiA:=@List.getElem?_eq_none_iff
abbrev aiB:=@PySem.wpAny_truthy_bool
abbrev aiC:=@PySem.wpAny_execs_nil
abbrev aiD:=@PySem.wpAny_passesOwn
abbrev aiE:=@PySem.wpAny_pyIter_list
abbrev aiF:=@List.flatten_cons
abbrev aiG:=@PySem.wpAny_Call_method
abbrev aiH:=@PySem.wpAny_loadPart'
abbrev aiI:=@PySem.wpAny_typeNameOf_keyiter
abbrev aiJ:=@PySem.wpAny_updateSeq
abbrev aiK:=@List.foldl_append
abbrev aiL:=@not_false_eq_true
abbrev aiM:=@List.length_erase_of_mem
abbrev aiN:=@Nat.min_eq_left
abbrev aiO:=@PySem.codeAny_mono
abbrev aiP:=@PySem.wpAny_typeOf
abbrev aiQ:=@PySem.call_meetsIn
abbrev aiR:=@PySem.plainId_quiet
abbrev aiS:=@List.mem_map_of_mem
abbrev aiT:=@Nat.add_mul
abbrev aiU:=@List.cons_append
abbrev aiV:=@PySem.F.plain_min_loop
abbrev aiW:=@PySem.wpAny_call
abbrev aiX:=@PySem.call_meets
abbrev aiY:=@PySem.wpAny_seqItems
abbrev aiZ:=@PySem.F.entry_dict_get
abbrev ai0:=@List.take_of_length_le
abbrev ai1:=@List.find?_cons_of_neg
abbrev ai2:=@PySem.W.callWith_K
abbrev ai3:=@Bool.false_eq_true
abbrev ai4:=@Array.getElem?_toList
abbrev ai5:=@List.nil_append
abbrev ai6:=@List.find?_cons
abbrev ai7:=@PySem.F.slot_dict_pop
abbrev ai8:=@PySem.F.slot_enumerate_next
abbrev ai9:=@PySem.F.slot_enumerate_iter
abbrev aja:=@PySem.wpAny_notOrdered_dict
abbrev ajb:=@PySem.wpAny_dictEpoch
abbrev ajc:=@Nat.lt_or_ge
abbrev ajd:=@List.take_append_drop
abbrev aje:=@PySem.wpAny_standAt
abbrev ajf:=@if_false
abbrev ajg:=@Decidable.not_not
abbrev ajh:=@PySem.wpAny_loadPart_at
abbrev aji:=@List.getElem?_set
abbrev ajj:=@PySem.Around.under_plainId
abbrev ajk:=@Classical.byContradiction
abbrev ajl:=@Nat.mul_le_mul
abbrev ajm:=@Nat.min_eq_right
abbrev ajn:=@PySem.W.hideAll_get
abbrev ajo:=@List.flatMap_append
abbrev ajp:=@Nat.le_of_lt
abbrev ajq:=@beq_iff_eq
abbrev ajr:=@Nat.le_of_eq
abbrev ajs:=@Option.isSome_iff_exists
abbrev ajt:=@List.getElem?_take_of_lt
abbrev aju:=@PySem.F.args_tuple_add_2
abbrev ajv:=@Nat.lt_trans
abbrev ajw:=@List.Pairwise.imp_of_mem
abbrev ajx:=@List.mem_filterMap
abbrev ajy:=@PySem.F.entry_tuple_add
abbrev ajz:=@Bool.or_eq_true
abbrev ajA:=@PySem.wpAny_attempt
abbrev ajB:=@PySem.codeAny_builtin
abbrev ajC:=@PySem.wpAny_ite_split
abbrev ajD:=@Nat.max_eq_left
abbrev ajE:=@List.filter_cons_of_pos
abbrev ajF:=@List.getElem?_take
abbrev ajG:=@PySem.W.cellsFrom_some
abbrev ajH:=@PySem.F.slot_tuple_add
abbrev ajI:=@Array.getElem?_eq_none
abbrev ajJ:=@Option.map_eq_none_iff
abbrev ajK:=@List.pairwise_lt_range
abbrev ajL:=@PyProof.Rows.boot_dict
abbrev ajM:=@if_true
abbrev ajN:=@PySem.wpAny_rule
abbrev ajO:=@PySem.wpAny_letGo
abbrev ajP:=@List.filter_congr
abbrev ajQ:=@PySem.wpAny_tryCatch
abbrev ajR:=@Nat.le_total
abbrev ajS:=@Nat.zero_add
abbrev ajT:=@Nat.max_eq_right
abbrev ajU:=@List.nodup_range
abbrev ajV:=@List.map_take
abbrev ajW:=@List.map_drop
namespace Lake
namespace L2
open PySem PySem.Spec PyProof.Rows
abbrev Key:=Sum Int Str
abbrev Zd:=List Key
noncomputable def sC:Key->Zt->Bool
 |.inl k,v=>Value.isInt k v
 |.inr x,v=>Value.isStrOf x v
noncomputable def XW (w:World):Key->Int
 |.inl k=>hashInt k
 |.inr x=>hashStr w x
theorem dN:∀{k:Key} {v:Zt},sC k v=true->(∃i t,k=Sum.inl i/\v=Value.int i t)\/(∃x t,k=Sum.inr x/\v=Value.str x t)
 |.inl i,v,h=>by
  let⟨t,e⟩:=Value.isInt_shape (k:=i) (v:=v) h;rwa[.inl ⟨i,t,2,e⟩]
 |.inr x,v,h=>by
  let⟨t,e⟩:=Value.isStrOf_shape (x:=x) (v:=v) h;rwa[.inr ⟨x,t,2,e⟩]
def F0 (i:Int)(t:Tok):sC (.inl i) (.int i t)=true:=by simp[sC,Value.isInt]
def F1 (x:Str)(t:Tok):sC (.inr x) (.str x t)=true:=by simp[sC,Value.isStrOf]
def OO (a b:Int):decide ((Sum.inl a:Key)=Sum.inl b)=(a==b):=by
 cbv
def OQ (a b:Str):decide ((Sum.inr a:Key)=Sum.inr b)=decide (a=b):=by
 cbv
def OS (a:Int)(b:Str):decide ((Sum.inl a:Key)=Sum.inr b)=false:=ahm (λq=>nomatch q)
def OU (a:Str)(b:Int):decide ((Sum.inr a:Key)=Sum.inl b)=false:=ahm (λq=>nomatch q)
def bQ (c:Program)(w:World):PySem.KeyKind c w Key where
 is:=sC
 hash:=XW w
 inj:=λv a b l f=>by
  rcases dN l with ⟨i,t,rfl,rfl⟩|⟨x,t,rfl,rfl⟩
  ·rcases dN f with ⟨j,u,rfl,e⟩|⟨y,u,rfl,e⟩
   ·cbv
   cbv
  ·rcases dN f with ⟨j,u,rfl,e⟩|⟨y,u,rfl,e⟩
   ·rwa[nomatch e]
   cbv
 byValue:=λk v h=>by
  rcases dN h with ⟨i,t,rfl,rfl⟩|⟨x,t,rfl,rfl⟩ <;> rfl
 pyHash:=λd h=>by
  rcases dN d with ⟨i,t,rfl,rfl⟩|⟨x,t,rfl,rfl⟩
  ·rwa[wpAny_pyHash_int h]
  ·rwa[wpAny_pyHash_str h]
 eqBool:=λm d h=>by
  rcases dN m with ⟨i,t,rfl,rfl⟩|⟨x,t,rfl,rfl⟩
  ·rcases dN d with ⟨j,u,rfl,rfl⟩|⟨y,u,rfl,rfl⟩
   ·rw[OO]at h;rwa[wpAny_eqBool_int h]
   ·rw[OS]at h;rwa[SeqAt.EqAt.int_str i t y u _ _ _ _ h]
  ·rcases dN d with ⟨j,u,rfl,rfl⟩|⟨y,u,rfl,rfl⟩
   ·rw[OU]at h;rwa[SeqAt.EqAt.str_int x t j u _ _ _ _ h]
   ·rw[OQ]at h;rwa[wpAny_eqBool_str h]
 «strs»:=λk x t v h=>by
  rcases dN h with ⟨i,u,rfl,e⟩|⟨y,u,rfl,e⟩
  ·rwa[nomatch e]
  ·injection e with g _
   subst g;cases v <;> rfl
def Cj (a:Program)(w:World)(i:Int)(t:Tok):(bQ a w).is (.inl i) (.int i t)=true:=F0 i t
def Ck (a:Program)(w:World)(x:Str)(t:Tok):(bQ a w).is (.inr x) (.str x t)=true:=F1 x t
end L2
variable {n m i j:Nat}{a b c d:PySem.Addr}{z y:Int}{v u:PySem.Value}{x f:PySem.Str}{e:PySem.Expr}{p:PySem.Pos}{K:Za1}{Q E:PySem.Value->PySem.Shared->Prop}{s t:PySem.Shared}{P:PySem.Program}{w:PySem.World}{h g:PySem.Heap}{R:Za2}{A:PySem.Around}{o:List (PySem.Addr×PySem.Obj)}{M:PySem.Str->Option PySem.Value}{l:Zg}{N:List PySem.Value}{B:Zh}{W:Za3}{U:Unit->PySem.Shared->Prop}{C:List PySem.Expr}{F:List PySem.Addr}{Z:List PySem.Str}
namespace L2
open PySem PySem.Spec PyProof.Rows
inductive V where
 |non|bl (b:Bool)|int (i:Int)|str (x:Str)|mS (b:Array UInt8)|zF (b:UInt64)|ref (a:Zs)|ty (n:String)
 deriving DecidableEq
abbrev Zc:=Option V
abbrev Zb:=List V
def RelV:V->Zt->Prop
 |.non,u=>u=Value.none
 |.bl b,u=>u=Value.bool b
 |.int i,u=>∃t,u=Value.int i t
 |.str x,u=>∃t,u=Value.str x t
 |.mS b,u=>∃t,u=Value.bytes b t
 |.zF b,u=>∃t,u=Value.float b t
 |.ref a,u=>u=Value.ref a
 |.ty n,u=>u=Value.type n
abbrev Vals:Zb->Zk->Prop:=Paired RelV
def Vals.length {xs:Zb}{us:Zk}(r:Vals xs us):⇑xs=⇑us:=Paired.length r
theorem Vals.get:∀{b:Zb} {a:Zk} {i:Nat} {x:V},Vals b a->b[i]?\x->∃u,a[i]?\u/\RelV x u
 |_,_,_,_,.nil,e=>by simp at e
 |_,_,0,_,.cons r _,e=>by simp at e;subst e;rwa[12,r]
 |_,_,i+ 1,x,.cons _ t,e=>by
  let⟨u,d,c⟩:=Vals.get (i:=i) (x:=x) t (by simpa using e);rwa[u,by simpa using d,c]
theorem Vals.set {x:V}(r:RelV x u):∀{xs:Zb} {us:Zk} (i:Nat),Vals xs us->Vals (xs.set i x) (us.set i u)
 |_,_,_,.nil=>.nil
 |_,_,0,.cons _ t=>.cons r t
 |_,_,i+ 1,.cons q t=>.cons q (Vals.set r i t)
theorem Vals.append:∀{b ys:Zb} {a ws:Zk},Vals b a->Vals ys ws->Vals (b++ys) (a++ws)
 |_,_,_,_,.nil,s=>s
 |_,_,_,_,.cons r t,s=>.cons r (Vals.append t s)
theorem Vals.take:∀{xs:Zb} {us:Zk} (n:Nat),Vals xs us->Vals (xs.take n) (us.take n)
 |_,_,0,_=>.nil
 |_,_,_+ 1,.nil=>.nil
 |_,_,n+ 1,.cons r t=>.cons r (Vals.take n t)
theorem Vals.drop:∀{xs:Zb} {us:Zk} (n:Nat),Vals xs us->Vals (xs.drop n) (us.drop n)
 |_,_,0,r=>r
 |_,_,_+ 1,.nil=>.nil
 |_,_,n+ 1,.cons _ t=>Vals.drop n t
def eA:Zc->Zl->Prop
 |some v,some u=>RelV v u
 |none,none=>True
 |_,_=>False
def KV {a:Type}:List (a×V)->List (a×Zt)->Prop:=Paired λ(p:a×V) (q:a×Zt)=>p.1=q.1/\RelV p.2 q.2
noncomputable def kV:Key->V
 |.inl i=>.int i
 |.inr x=>.str x
inductive HO where
 /-- a list -/
 |lst (xs:Zb)
 /-- a tuple (never changes) -/
 |tup (xs:Zb)
 /-- a dict whose keys are ints and texts;one whose keys are tuples of ints and texts (the empty one is both) -/
 |dK (kvs:List (Key×V))|dT (kvs:List (Zd×V))
 /-- a set of ints:its members,its size -/
 |set (S:Int->Bool) (n:Nat)
 /-- an instance of the class at C,its dict at dx,its attributes -/
 |ins (C dx:Zs) (fs:List (Str×V))
 /-- the dict of the instance at x -/
 |own (x:Zs)
 /-- the dict of an exception -/
 |xd (fs:List (Str×V))
 /-- a bound method,f of x -/
 |met (f x:Zs)
 /-- a range object lo,lo+ 1,.. below hi -/
 |eM (lo hi:Int)
 /-- a thing that is known to the object (the script;a dict while a loop walks it):read,never written while it is so -/
 |cR (o:Obj) (u:HO)
 /-- a code object's table -/
 |fw (ps:Zm)
 /-- any other thing,by what is true of its one object (a def of aeO own:aeX a S n:=HO.ext λh=>..) -/
 |ext (φ:Heap->Prop)
abbrev Hp:=Zs->Option HO
noncomputable def upd (H:Hp)(a:Zs)(o:HO):Hp:=λb=>if b=a then some o else H b
def ah {H:Hp}{o:HO}:upd H a o a\o:=by unfold upd;cbv
def ak {H:Hp}{o:HO}(h:b≠a):upd H a o b=H b:=by unfold upd;rw[agF h]
def M3 {H:Hp}{o u:HO}:upd (upd H a o) a u=upd H a u:=by
 funext b;unfold upd;cbv
def bZ {H:Hp}{o u:HO}(h:H a\o)(c:H b\u)(d:o≠u):a≠b:=by
 cbv
def aw {H:Hp}{o:HO}(h:H a\o)(c:H b=none):a≠b:=by
 cbv
section
variable (P:Program) (w:World)
def bY (H:Hp)(h:Heap)(a:Zs):HO->Prop
 |.lst xs=>⇑xs<=sizeLine/\∃(c:Zk) (n:Nat),Vals xs c/\h.get? a\("list">>>.seq c.toArray n)
 |.tup xs=>⇑xs<=sizeLine/\∃c:Zk,Vals xs c/\IsTup h a c.toArray
 |.dK b=>⇑b<=sizeLine/\(a==sysModules)=false/\∃j,KV b j/\h.DictOf (bQ P w) a j
 |.dT b=>⇑b<=sizeLine/\(a==sysModules)=false/\∃xs:List (Zd×Zs×Zt),
  Paired (λ(p:Zd×V) (q:Zd×Zs×Zt)=>p.1=q.1/\H q.2.1\.tup (p.1.map kV)/\RelV p.2 q.2.2) b xs/\
  ∃o l s,h.get? a\o/\o.ExactDict/\o.data=.dict l s/\l.toList=xs.map (entryOfKey (tupleKind (bQ P w)))/\(xs.map (·.1)).Nodup
 |.set S n=>h.SetOf (intKind P w) a S n
 |.ins C e fs=>H e\.own a/\⇑fs<=1000/\e≠a/\h.get? a\PySem.W.instObj C e/\
  ∃d,h.Ns1 e d/\(∀f,eA (fs.lookup f) (d f))/\PySem.Within d (fs.map (·.1))
 |.own _=>∃o,h.get? a\o
 |.xd fs=>∃d,h.Ns1 a d/\∀f,eA (fs.lookup f) (d f)
 |.eM lo r=>∃t u v,h.get? a\("range">>>.fields #[.int lo t,.int r u,.int 1 v])
 |.cR o u=>h.get? a\o/\bY H h a u
 |.fw m=>h.get? a\{ cls:=.none,data:=.fields m }
 |.met f x=>h.get? a\(PySem.W.methodObj ↑f ↑x)
 |.ext g=>g h/\(∃o,h.get? a\o)/\∀k i:Heap,g k->(∀o,k.get? a\o->i.get? a\o)->g i
def dz (H:Hp)(h:Heap):Prop:=∀a o,H a\o->bY P w H h a o
end
section
variable {P:Program}{w:World}{H H':Hp}{h h':Heap}{a:Zs}{o:HO}
def bY.lt (x:bY P w H h a o):a<h.objs.size:=by
 cases o with
 |lst c=>let⟨_,_,_,_,e⟩:=x;rwa[agC e]
 |tup c=>let⟨_,_,_,p⟩:=x;rwa[p.lt]
 |dK b=>let⟨_,_,_,_,o,_,_,e,_⟩:=x;rwa[agC e]
 |dT b=>let⟨_,_,_,_,o,_,_,e,_⟩:=x;rwa[agC e]
 |set S n=>let⟨o,_,_,_,e,_⟩:=x;rwa[agC e]
 |ins C dx fs=>let⟨_,_,_,e,_⟩:=x;rwa[agC e]
 |own y=>let⟨_,e⟩:=x;rwa[agC e]
 |xd fs=>let⟨_,⟨_,_,_,e,_⟩,_⟩:=x;rwa[agC e]
 |eM lo i=>let⟨_,_,_,e⟩:=x;rwa[agC e]
 |cR j u=>let⟨e,_⟩:=x;rwa[agC e]
 |fw d=>exact agC (show h.get? a=some _ from x)
 |met f y=>exact agC (show h.get? a=some _ from x)
 |ext g=>let⟨_,⟨_,e⟩,_⟩:=x;rwa[agC e]
theorem Paired.IV {g e:Type}{F G:g->e->Prop}:∀{c:List g} {d:List e},Paired F c d->(∀a b,F a b->G a b)->Paired G c d
 |_,_,.nil,_=>.nil
 |_,_,.cons r t,f=>.cons (f^r) (Paired.IV t f)
theorem bY.fi (x:bY P w H h a o)(k:∀b u,(b=a\/H b\.own a)->h.get? b\u->h'.get? b\u)
 (I:∀b,H b\.own a->H' b\.own a) (E:∀b m,H b\.tup m->H' b\.tup m):bY P w H' h' a o:=by
 induction o with
 |lst m=>let⟨z,l,n,r,e⟩:=x;rwa[z,l,n,r,k _ _ (.inl rfl) e]
 |tup m=>let⟨z,l,r,g,e,c⟩:=x;rwa[z,l,r,g,k _ _ (.inl rfl) e,c]
 |dK s=>let⟨z,y,F,r,g,i,j,e,c⟩:=x;rwa[z,y,F,r,g,i,j,k _ _ (.inl rfl) e,c]
 |dT s=>
  let⟨z,y,m,r,g,i,j,e,c⟩:=x;rwa[z,y,m,Paired.IV r λp q z=>⟨z.1,E^z.2.1,z.2.2⟩,g,i,j,k _ _ (.inl rfl) e,c]
 |set S n=>let⟨g,i,j,t,e,c⟩:=x;rwa[g,i,j,t,k _ _ (.inl rfl) e,c]
 |ins C dx fs=>
  let⟨d,z,ne,e,A,⟨B,i,j,G,c⟩,r⟩:=x;rwa[I _ d,z,ne,k _ _ (.inl rfl) e,A,⟨B,i,j,k _ _ (.inr d) G,c⟩,r]
 |own y=>let⟨g,e⟩:=x;rwa[g,k _ _ (.inl rfl) e]
 |xd fs=>let⟨A,⟨B,i,j,e,c⟩,r⟩:=x;rwa[A,⟨B,i,j,k _ _ (.inl rfl) e,c⟩,r]
 |eM lo M=>let⟨t,u,v,e⟩:=x;rwa[t,u,v,k _ _ (.inl rfl) e]
 |cR g u J=>let⟨e,q⟩:=x;rwa[k _ _ (.inl rfl) e,J q]
 |fw D=>
  let e:h.get? a\{ cls:=.none,data:=.fields D }:=x;show h'.get? a\{ cls:=.none,data:=.fields D };rwa[k a _ (.inl rfl) e]
 |met f y=>
  let e:h.get? a\(PySem.W.methodObj ↑f ↑y):=x;show h'.get? a\PySem.W.methodObj ↑f ↑y;rwa[k a _ (.inl rfl) e]
 |ext L=>let⟨p,⟨o,e⟩,st⟩:=x;rwa[st _ _ p λo q=>k _ _ (.inl rfl) q,⟨o,k _ _ (.inl rfl) e⟩,st]
def dz.lt (x:dz P w H h)(e:H a\o):a<h.objs.size:=(x a o e).lt
def dz.fresh (x:dz P w H h)(e:h.objs.size<=a):H a=none:=by
 cases q:H a with
 |none=>rfl
 |some u=>exact absurd (agM (x.lt q) e) (ahz _)
def dz.kept (x:dz P w H h)(k:∀b u,h.get? b\u->h'.get? b\u):dz P w H h':=λa o e=>
 (x a o e).fi (λb u _ q=>k b u q) (λ_ q=>q) λ_ _ q=>q
def dz.laid (x:dz P w H h)(k:∀b u,h.get? b\u->h'.get? b\u)(g:h.objs.size<=a)(new:bY P w (upd H a o) h' a o):dz P w (upd H a o) h':=λb u e=>by
 let f:=x.fresh g;by_cases d:b=a
 ·subst d;rw[ah]at e;cbv
 ·rw[ak d]at e;rwa[(x b u e).fi (λc v _ q=>k c v q) (λc q=>[ak (aw q f)]▸q) λc i q=>[ak (aw q f)]▸q]
end
def Rd (H:Hp)(a:Zs)(u:HO):Prop:=H a\u\/∃o,H a\(.cR o u)
def Rd.ok {H:Hp}{u:HO}(r:Rd H a u)(x:dz P w H h):bY P w H h a u:=by
 rcases r with r|⟨o,r⟩
 ·rwa[x a u r]
 ·let⟨_,q⟩:=x a _ r;rwa[q]
def tF:Option HO->Prop
 |some (.lst _)=>True
 |some (.dK _)=>True
 |some (.dT _)=>True
 |some (.set _ _)=>True
 |some (.ins _ _ _)=>True
 |some (.ext _)=>True
 |_=>False
section
variable {P:Program}{w:World}{H:Hp}{h h':Heap}{x e:Zs}{o':HO}
theorem dz.write (ok:dz P w H h)(mu:tF (H x))(l:e=x\/H e\.own x)(k:∀b u,b≠e->h.get? b\u->h'.get? b\u)(g:∃u,h'.get? e\u)
 (new:bY P w (upd H x o') h' x o'):dz P w (upd H x o') h':=λb u q=>by
 let a:∀c y,H c\.own y->c≠x:=λc y r z=>by subst z;rw[r]at mu;rwa[mu]
 let i3:∀c d,H c\.tup d->c≠x:=λc d r z=>by subst z;rw[r]at mu;rwa[mu]
 by_cases i:b=x
 ·subst i;rw[ah]at q;cbv
 ·rw[ak i]at q;by_cases f:b=e
  ·let j:H b\(.own x):=by
    rcases l with z|z
    ·cbv
    ·rw[f];rwa[z]
   rw[q]at j;ext j;let⟨v,m⟩:=g;rwa[v,by cbv]
  ·refine(ok b u q).fi (λc v hc r=>k c v ?_ r) (λc r=>[ak (a c b r)]▸r) λc d r=>by rw[ak (i3 c d r)];rwa[r]
   cbv
end
structure Un (fs ex:Zn) (H H':Hp) (h h':Heap):Prop where
 keep:∀b o,h.get? b\o->H b=none->b∉fs->b∉ex->h'.get? b\o
 slot:∀b o,h.get? b\o->H b=none->b∈fs->b∉ex->∃sl,h'.get? b\{ o with slots:=sl }
 free:∀b o,h.get? b\o->H b=none->b∉ex->H' b=none
 there:∀b o,h.get? b\o->b∉ex->∃o',h'.get? b\o'
 hX:∀b xs,H b\.tup xs->H' b\(.tup xs)
 gH:∀b o u,H b\.cR o u->H' b\(.cR o u)
 hY:∀b ps,H b\.fw ps->∃more,H' b\(.fw (ps++more))
section
variable {fs ex:Zn}{H H1:Hp}{h h1 h':Heap}{a x e:Zs}{o:HO}
def Un.any (u:Un fs ex H H1 h h1){b:Zs}{c:Obj}(q:h.get? b\c)(n:H b=none)(f:b∉ex):∃sl,h1.get? b\{ c with slots:=sl }:=by
 by_cases d:b∈fs
 ·rwa[u.slot b c q n d f]
 ·rwa[c.slots,u.keep b c q n d f]
def Un.kept (k:∀b u,h.get? b\u->h'.get? b\u):Un fs ex H H h h':=
 ⟨λb c q _ _ _=>k b c q,λb c q _ _ _=>⟨c.slots,k b c q⟩,λ_ _ _ n _=>n,λb c q _=>⟨c,k b c q⟩,λ_ _ q=>q,λ_ _ _ q=>q,λ_ d q=>⟨#[],by rw[q];simp⟩⟩
def Un.refl:Un fs ex H H h h:=Un.kept λ_ _ q=>q
theorem Un.laid (k:∀b u,h.get? b\u->h'.get? b\u)(d:h.objs.size<=a)(c:H a=none):Un fs ex H (upd H a o) h h' where
 keep:=λb u q _ _ _=>k b u q
 slot:=λb u q _ _ _=>⟨u.slots,k b u q⟩
 free:=λb u q n _=>by rw[ak (agO (agM (agC q) d))];rwa[n]
 there:=λb u q _=>⟨u,k b u q⟩
 hX:=λb f q=>by rw[ak (aw q c)];rwa[q]
 gH:=λb u f q=>by rw[ak (aw q c)];rwa[q]
 hY:=λb g q=>⟨#[],by rw[ak (aw q c),q];simp⟩
def Un.write (mu:tF (H x))(l:e=x\/H e\.own x)(k:∀b u,b≠e->h.get? b\u->h'.get? b\u)(g:∃u,h'.get? e\u):Un fs ex H (upd H x o) h h':=by
 let i:∀b,H b=none->b≠x:=λb n z=>by subst z;rw[n]at mu;rwa[mu]
 let d:∀b,H b=none->b≠e:=λb n z=>by
  cbv
 let c:∀b u,H b\u->¬tF (some u)->b≠x:=λb u q nm z=>by cbv
 rwa[⟨λb u q n _ _=>k b u (d b n) q,λb u q n _ _=>⟨u.slots,k b u (d b n) q⟩,λb u q n _=>[ak (i b n)]▸n,λb u q _=>?_,λb f q=>[ak (c b _ q λz=>z)]▸q,λb u f q=>[ak (c b _ q λz=>z)]▸q,λb j q=>⟨#[],by rw[ak (c b _ q λz=>z),q];simp⟩⟩]
 cbv
end
noncomputable def K1 (h:Heap)(H:Hp):Zn:=(List.range h.objs.size).filter λa=>(H a).isSome
def pe (h:Heap)(H:Hp):Heap:=PySem.W.hideAll h (K1 h H)
def F2 (h:Heap)(H:Hp):(pe h H).objs.size=h.objs.size:=PySem.W.hideAll_size _ _
def t9 {H:Hp}{o:Obj}(e:h.get? b\o)(n:H b=none):(pe h H).get? b\o:=
 ajn _ e λa=>by
  let q:(H b).isSome=true:=(ah7.mp a).2
  cbv
def M4 {H:Hp}{o:Obj}(e:(pe h H).get? b\o):h.get? b\o/\H b=none:=by
 let a:h.get? b\o:=PySem.W.of_hideAll (K1 h H) e;erw[a]
 cases q:H b with
 |none=>rfl
 |some x=>
  let c:b∈K1 h H:=ah7.mpr ⟨ahl.mpr (agC a),by simp[q]⟩;let z:(pe h H).get? b=none:=PySem.W.hideAll_none (K1 h H) c
  cbv
noncomputable def M5 (g h:Heap)(L:Zs):List (Zs×Obj):=(List.range h.objs.size).filterMap λa=>if a=L\/(g.get? a).isSome=true then none else (h.get? a).map λo=>(a,o)
def rest (g h:Heap)(L d:Zs):List (Zs×Obj):=(M5 g h L).filter λp=>decide (p.1≠d)
end L2
variable {H I J:L2.Hp}{q:L2.V}{L:List L2.V}
namespace L2
open PySem PySem.Spec PyProof.Rows
structure Mod (K:Za1) (mg:Str->Zl) (base:Heap):Prop where
 uX:K.In base
 glob:base.Ns mainGlobals mg
 blt:∃mb,base.Ns builtinsNs mb/\∀x:Str,x≠"__name__"->mb x=bootBuiltins x
 nolimit:base.NoLimit
structure Cx where
 prog:Program
 w:World
 K:Za1
 mg:Str->Zl
 base:Heap
 A:Around
 N:Zp
 dY:Zu
 ua:Hp
 env:Env
 outer:Zq
 stack:Zq
 ex:Zn
 fn:Str->Bool
 calm:Bool
 pn:List (Zs×Obj)
 xe:Zt->Zu->Prop
def cJ (l:Zq):Zn:=l.filterMap (·.frame)
abbrev Cx.fs (X:Cx):Zn:=cJ X.outer
def OV (sc:Scope)(x:Str):Prop:=sc.names.lookup x=some .local\/sc.names.lookup x=some .cell\/sc.names.lookup x=some .free
def Loc (sc:Scope)(x:Str):Prop:=sc.names.lookup x=some .local\/sc.names.lookup x=some .cell
def Look (env:Env)(h:Heap)(m:Str->Zl)(x:Str)(u:Zt):Prop:=
 (env.kindOf x=some .local/\m x\u)\/((env.kindOf x=some .cell\/env.kindOf x=some .free)/\∃c,env.cells.lookup x\c/\h.IsCell c (some u))
structure Cx.Ok (X:Cx):Prop where
 mod:Mod X.K X.mg X.base
 kind:X.env.scope.kind=.function
 glob:X.env.globals=mainGlobals
 blt:X.env.builtins=builtinsNs
 above:X.dY.heap.objs.size<=X.env.locals
 inj:∀x y c,X.env.cells.lookup x\c->X.env.cells.lookup y\c->x=y
 has:∀x,(X.env.kindOf x=some .cell\/X.env.kindOf x=some .free)->∃c,X.env.cells.lookup x\c
 zG:∀x c,X.fn x=true->X.env.cells.lookup x\c->X.dY.heap.objs.size<=c
 hd:X.calm=true->X.A.handled=none
 frames:X.A.frames\X.stack
 C1:X.stack=X.outer\/(X.stack=X.env::X.outer/\X.env.frame\X.env.locals)
 K2:∀b∈X.ex,b≠X.env.locals/\∀x c,X.env.cells.lookup x\c->c≠b
 bs:∀b o,X.base.get? b\o->X.dY.heap.get? b\o/\X.ua b=none
 qG:X.base.objs.size<=X.dY.heap.objs.size
 ub:∀b o,X.base.get? b\o->b∉X.ex
 wO:∀b∈X.ex,b∉X.fs
 i5:X.dY.heap.FunFrames X.base X.outer
 tG:∀b∈X.fs,X.ua b=none
structure Inv (X:Cx) (pins:List (Zs×Obj)) (σ:List Zc) (H:Hp) (s:Zu):Prop where
 ok:X.Ok
 os:s.os=X.dY.os
 bare:AllBare s.gens
 base:Un X.fs X.ex X.ua H X.dY.heap s.heap
 loc:∃m,s.heap.Ns X.env.locals m/\∀(i:Nat) (x:Str) (v:V),X.N[i]?\x->σ[i]?\some v->OV X.env.scope x->∃u,RelV v u/\Look X.env s.heap m x u
 cell:∀x c,X.env.cells.lookup x\c->∃v,s.heap.IsCell c v
 free:H X.env.locals=none
 gI:∀x c,X.env.cells.lookup x\c->H c=none
 pin:∀p∈X.pn++pins,s.heap.get? p.1\p.2/\H p.1=none/\p.1≠X.env.locals/\p.1∉X.fs/\∀v,p.2.data≠.cell v
 aL:dz X.prog X.w H s.heap
 len:⇑σ=⇑X.N
section
variable {X:Cx}{pins:List (Zs×Obj)}{σ:List Zc}{H H':Hp}{s:Zu}{h':Heap}
def Cx.Ok.XX (ok:X.Ok){b:Zs}{o:Obj}(e:X.base.get? b\o):b∉X.fs:=λa=>by
 have:=(ok.i5.mem a).1
 cbv
def Inv.bs (I:Inv X pins σ H s):∀b o,X.base.get? b\o->s.heap.get? b\o/\H b=none:=λb o e=>
 ⟨I.base.keep b o (I.ok.bs b o e).1 (I.ok.bs b o e).2 (I.ok.XX e) (I.ok.ub b o e),I.base.free b o (I.ok.bs b o e).1 (I.ok.bs b o e).2 (I.ok.ub b o e)⟩
def Inv.bk (I:Inv X pins σ H s):∀b o,X.base.get? b\o->s.heap.get? b\o:=λb o e=>(I.bs b o e).1
def Inv.mod (I:Inv X pins σ H s):Mod X.K X.mg X.base:=I.ok.mod
def Inv.dk (I:Inv X pins σ H s):X.K.In s.heap:=I.ok.mod.uX.keeps I.bk
def Inv.lt (I:Inv X pins σ H s):X.env.locals<↥s:=let ⟨_,a,_⟩:=I.loc;a.lt
def Inv.sz (I:Inv X pins σ H s):X.dY.heap.objs.size<=↥s:=agz I.ok.above (ajp I.lt)
def Inv.Es (I:Inv X pins σ H s){a:Zs}(h:↥s<=a):a∉X.fs:=λc=>by
 let⟨_,o,b,_⟩:=I.ok.i5.mem c;rwa[absurd (agM (agC b) (agz I.sz h)) (ahz _)]
def Inv.lb (I:Inv X pins σ H s):∀x c,X.env.cells.lookup x\c->c≠X.env.locals:=λx c e z=>by
 let⟨v,o,f,hd⟩:=I.cell x c e;let⟨m,⟨h,g,d,b,a,_⟩,_⟩:=I.loc
 cbv
def Inv.i5 (I:Inv X pins σ H s):s.heap.FunFrames X.base X.outer:=by
 let all:∀(l:Zq),(∀b∈cJ l,b∈X.fs)->X.dY.heap.FunFrames X.base l->s.heap.FunFrames X.base l:=by
  intro l
  induction l with
  |nil=>intro _ _;trivial
  |cons env r i=>
   intro f j;let⟨g,⟨L,o,d,m,h,hd⟩,k⟩:=j;let a:L∈X.fs:=f L (by unfold cJ;cbv);let⟨sl,e⟩:=I.base.slot L o h (I.ok.tG L a) a λz=>I.ok.wO L z a
   rwa[g,⟨L,_,d,m,e,hd⟩,i (λb c=>f b (by unfold cJ;rw[List.filterMap_cons,d];rwa[agS _ c])) k]
 rwa[all X.outer (λ_ c=>c) I.ok.i5]
def Inv.stack (I:Inv X pins σ H s):s.heap.FunFrames X.base X.stack:=by
 rcases I.ok.C1 with e|⟨e,a⟩
 ·rw[e];rwa[I.i5]
 ·rw[e];let⟨m,b,_⟩:=I.loc;rwa[.cons (by rw[I.ok.kind];decide) a b ?_ I.i5];rwa[Heap.get?_none_of_le (agz I.ok.qG I.ok.above)]
def Inv.zH (I:Inv X pins σ H s):∀b∈cJ X.stack,b∈X.env.locals::X.fs:=λb a=>by
 rcases I.ok.C1 with e|⟨e,c⟩
 ·cbv
 ·rw[e]at a;unfold cJ at a;rw[List.filterMap_cons,c]at a;rwa[a]
def Inv.nS (I:Inv X pins σ H s):∀b∈cJ X.stack,H b=none:=λb a=>by
 rcases agB.mp (I.zH b a) with e|a
 ·rw[e];rwa[I.free]
 ·let⟨_,o,c,_⟩:=I.ok.i5.mem a;rwa[I.base.free b o c (I.ok.tG b a) λz=>I.ok.wO b z a]
theorem Inv.step {g':Array GenState}{t':Nat}{d':Drawn}{ch:Zn}(I:Inv X pins σ H s)
 (g:∀b∈ch,(b∈X.ex\/X.dY.heap.objs.size<=b)/\b≠X.env.locals/\(∀x c,X.env.cells.lookup x\c->c≠b)/\∀p∈X.pn++pins,p.1≠b)
 (keep:∀b o,b≠X.env.locals->b∉X.fs->b∉ch->s.heap.get? b\o->H b=none->h'.get? b\o)
 (slot:∀b o,b≠X.env.locals->b∈X.fs->b∉ch->s.heap.get? b\o->H b=none->∃sl,h'.get? b\{ o with slots:=sl }) (free:∀b o,b∉ch->s.heap.get? b\o->H b=none->H' b=none)
 (there:∀b o,b∉ch->s.heap.get? b\o->∃B,h'.get? b\B)
 (hX:∀b j,H b\.tup j->H' b\.tup j) (gH:∀b o u,H b\.cR o u->H' b\.cR o u) (hY:∀b C,H b\.fw C->∃more,H' b\.fw (C++more))
 (ns:∀m,s.heap.Ns X.env.locals m->h'.Ns X.env.locals m) (aL:dz X.prog X.w H' h') (J:AllBare g'):
 Inv X pins σ H' { s with heap:=h',gens:=g',drawn:=d',toks:=t' }:=by
 let A:∀b o,X.dY.heap.get? b\o->b≠X.env.locals:=λb o e=>agO (agM (agC e) I.ok.above)
 let h:∀b o,X.dY.heap.get? b\o->b∉X.ex->b∉ch:=λb o e a w=>by
  rcases (g b w).1 with z|z
  ·rwa[a z]
  ·rwa[absurd (agM (agC e) z) (ahz _)]
 let cellK:∀x c,X.env.cells.lookup x\c->∀v,s.heap.IsCell c v->h'.IsCell c v:=λx c e v ζ=>by
  let⟨o,y,hd⟩:=ζ
  let f:c∉ch:=λz=>(g c z).2.2.1 x c e rfl
  by_cases hc:c∈X.fs
  ·let⟨sl,q⟩:=slot c o (I.lb x c e) hc f y (I.gI x c e);rwa[_,q,hd]
  ·rwa[o,keep c o (I.lb x c e) hc f y (I.gI x c e),hd]
 rwa[⟨I.ok,I.os,J,⟨λb o e n w a=>?_,λb o e n w a=>?_,λb o e n a=>?_,λb o e a=>?_,λb j e=>hX b j (I.base.hX b j e),λb o j e=>gH b o j (I.base.gH b o j e),λb C e=>?_⟩,5,λx c e=>?_,5,λx c e=>?_,λp F=>?_,aL,I.len⟩]
 ·rwa[keep b o (A b o e) w (h b o e a) (I.base.keep b o e n w a) (I.base.free b o e n a)]
 ·let⟨sl,t⟩:=I.base.slot b o e n w a;let⟨E,D⟩:=slot b _ (A b o e) w (h b o e a) t (I.base.free b o e n a);rwa[E,D]
 ·let⟨B,t⟩:=I.base.there b o e a;rwa[free b B (h b o e a) t (I.base.free b o e n a)]
 ·let⟨B,t⟩:=I.base.there b o e a;rwa[there b B (h b o e a) t]
 ·let⟨O,t⟩:=I.base.hY b C e
  cbv
 ·let⟨m,M,L⟩:=I.loc;rwa[⟨m,ns m M,λi x v t D N=>?_⟩];let⟨u,r,l⟩:=L i x v t D N;erw[u,r];rcases l with l|⟨k,c,e,z⟩
  ·rwa[.inl l]
  ·rwa[.inr ⟨k,c,e,cellK x c e _ z⟩]
 ·let⟨v,z⟩:=I.cell x c e;rwa[v,cellK x c e v z]
 ·let⟨m,⟨o,_,_,y,_⟩,_⟩:=I.loc;rwa[free _ o (λz=>(g _ z).2.1 rfl) y I.free]
 ·let⟨v,o,y,hd⟩:=I.cell x c e;rwa[free c o (λz=>(g c z).2.2.1 x c e rfl) y (I.gI x c e)]
 ·let⟨e,n,ne,G,d⟩:=I.pin p F;let f:p.1∉ch:=λz=>(g p.1 z).2.2.2 p F rfl
  rwa[keep p.1 p.2 ne G f e n,free p.1 p.2 f e n,ne,G,d]
def Inv.un {t':Nat}(I:Inv X pins σ H s)(u:Un X.fs [] H H' s.heap h')(aL:dz X.prog X.w H' h'):Inv X pins σ H' { s with heap:=h',toks:=t' }:=by
 let⟨m,⟨o,p,v,g,r⟩,_⟩:=id I.loc;let⟨sl,i⟩:=u.any g I.free (by simp)
 exact I.step (g':=s.gens) (d':=s.drawn) (ch:=[]) (λ_ z=>nomatch z) (λb o _ c _ e n=>u.keep b o e n c (by simp)) (λb o _ c _ e n=>u.slot b o e n c (by simp)) (λb o _ e n=>u.free b o e n (by simp)) (λb o _ e=>u.there b o e (by simp)) u.hX u.gH u.hY (λt j=>by
  let⟨q,f,d,a,h⟩:=j;rw[g]at a;ext a;rwa[_,f,d,i,h]) aL I.bare
theorem Inv.call {g':Array GenState}{t':Nat}{d':Drawn}{ch:Zn}(I:Inv X pins σ H s)(u:Un (cJ X.stack) ch H H' s.heap h')(aL:dz X.prog X.w H' h')(l:AllBare g')
 (d:∀b∈ch,(b∈X.ex\/X.dY.heap.objs.size<=b)/\b≠X.env.locals/\(∀x c,X.env.cells.lookup x\c->c≠b)/\∀p∈X.pn++pins,p.1≠b):
 Inv X pins σ H' { s with heap:=h',gens:=g',drawn:=d',toks:=t' }:=by
 let⟨m,⟨o,t,y,i,r⟩,_⟩:=id I.loc;let⟨sl,g⟩:=u.any i I.free λz=>(d _ z).2.1 rfl
 exact I.step (ch:=ch) d (λb o g k hc e n=>u.keep b o e n (λz=>(agB.mp (I.zH b z)).elim g k) hc) (λb o _ _ hc e n=>u.any e n hc) (λb o hc e n=>u.free b o e n hc) (λb o hc e=>u.there b o e hc) u.hX u.gH u.hY (λw q=>by
  let⟨v,h,f,a,j⟩:=q;rw[i]at a;ext a;rwa[_,h,f,g,j]) aL l
theorem Inv.turned {t':Nat}{it:Zs}(I:Inv X pins σ H s)(k:∀b o,b≠it->s.heap.get? b\o->h'.get? b\o)(C:H it=none)(a:it≠X.env.locals)
 (g:it∈X.ex\/X.dY.heap.objs.size<=it) (d:∀x c,X.env.cells.lookup x\c->c≠it) (j:∀p∈X.pn++pins,p.1≠it):Inv X pins σ H { s with heap:=h',toks:=t' }:=by
 let l:∀b u,H b\u->b≠it:=λb u e z=>by cbv
 refine I.step (g':=s.gens) (d':=s.drawn) (ch:=[it]) (λb f=>?_) (λb o _ _ hc e _=>k b o (λz=>hc (by simp[z])) e) (λb o _ _ hc e _=>⟨o.slots,k b o (λz=>hc (by simp[z])) e⟩) (λ_ _ _ _ n=>n)
  (λb o hc e=>⟨o,k b o (λz=>hc (by simp[z])) e⟩) (λ_ _ e=>e) (λ_ _ _ e=>e) (λb y e=>⟨#[],by rw[e];simp⟩) (λm t=>?_) (λb u e=>?_) I.bare
 ·let e:b=it:=by simpa using f
  subst e;rwa[g,a,d,j]
 ·let⟨o,i,w,h,r⟩:=t;rwa[o,i,w,k _ o (ahC a) h,r]
 ·rwa[(I.aL b u e).fi (λc v hc q=>k c v ?_ q) (λ_ q=>q) λ_ _ q=>q]
  cbv
def Inv.tok (I:Inv X pins σ H s)(t:Nat):Inv X pins σ H { s with toks:=t }:=I.un (h':=s.heap) (t':=t) Un.refl I.aL
def Inv.kept {t':Nat}(I:Inv X pins σ H s)(k:∀b u,s.heap.get? b\u->h'.get? b\u):Inv X pins σ H { s with heap:=h',toks:=t' }:=I.un (Un.kept k) (I.aL.kept k)
theorem Inv.laid {o:HO}{t':Nat}(I:Inv X pins σ H s)(k:∀b u,s.heap.get? b\u->h'.get? b\u)(c:↥s<=a)(new:bY X.prog X.w (upd H a o) h' a o):
 Inv X pins σ (upd H a o) { s with heap:=h',toks:=t' }:=I.un (Un.laid k c (I.aL.fresh c)) (I.aL.laid k c new)
theorem Inv.write {x e:Zs}{o:HO}{t':Nat}(I:Inv X pins σ H s)(mu:tF (H x))(c:e=x\/H e\.own x)(k:∀b u,b≠e->s.heap.get? b\u->h'.get? b\u)(a:∃u,h'.get? e\u)
 (new:bY X.prog X.w (upd H x o) h' x o):Inv X pins σ (upd H x o) { s with heap:=h',toks:=t' }:=I.un (Un.write mu c k a) (I.aL.write mu c k a new)
def Inv.jf (I:Inv X pins σ H s)(h:∀p∈o,s.heap.get? p.1\p.2/\H p.1=none/\p.1≠X.env.locals/\p.1∉X.fs/\∀v,p.2.data≠.cell v):Inv X o σ H s:=
 ⟨I.ok,I.os,I.bare,I.base,I.loc,I.cell,I.free,I.gI,λp a=>(agv.mp a).elim (λz=>I.pin p (agJ _ z)) (h p),I.aL,I.len⟩
def uc (d:Z.Nodup){i j:Nat}{x:Str}(a:Z[i]?\x)(b:Z[j]?\x):i=j:=by
 let⟨g,c⟩:=agj.mp a;let⟨f,e⟩:=agj.mp b;rwa[(List.getElem_inj d).mp (c.trans e.symm)]
theorem xZ {M:Model}{v:V}(I:Inv X pins σ H s)(hN:X.N.Nodup)(L:X.N[i]?\x)(l:Loc X.env.scope x)(r:RelV v u)
 (h:∀O,Inv X pins (σ.set i (some v)) H O->(∃a,Heap.SameBut a s.heap O.heap/\(a=X.env.locals\/X.env.cells.lookup x\a))->U () O) (hf:X.fn x=true\/X.env.scope.names.lookup x=some .local:=by trivial):wpAny M A (storeName X.env x u) U E s:=by
 let⟨m,hn,hl⟩:=id I.loc;let J:(X.env.scope.kind==.class || (X.env.scope.kind==.module && X.env.locals !=X.env.globals))=false:=by rw[I.ok.kind];rfl
 let B:i < ⇑σ:=by rw[I.len];rwa[(agj.mp L).1]
 let lb:=I.lb
 let tracked:∀{a:Zs} {h':Heap},(∃o,s.heap.get? a\o/\H a=none)->Heap.SameBut a s.heap h'->dz X.prog X.w H h':=λ{a h'} ha f b ob e=>by
  let⟨_,_,T⟩:=ha;rwa[(I.aL b ob e).fi (λc Q t q=>(f.2 c ?_).trans q) (λ_ q=>q) λ_ _ q=>q]
  cbv
 rcases l with G|G
 ·rwa[wpAny_storeName_local G hn (λh' hn' f=>?_) J];let⟨oL,_,_,hoL,_⟩:=id hn;rwa[h _ ⟨I.ok,I.os,I.bare,⟨λb o e n C l=>?_,λb o e n C l=>?_,I.base.free,λb o e l=>?_,I.base.hX,I.base.gH,I.base.hY⟩,⟨_,hn',λj y R g w e3=>?_⟩,λy c e=>?_,I.free,I.gI,λp hp=>?_,tracked ⟨oL,hoL,I.free⟩ f,by simpa using I.len⟩ ⟨_,f,.inl rfl⟩]
  ·rwa[(f.2 b (agO (agM (agC e) I.ok.above))).trans (I.base.keep b o e n C l)]
  ·let⟨Y,g⟩:=I.base.slot b o e n C l;rwa[Y,(f.2 b (agO (agM (agC e) I.ok.above))).trans g]
  ·let⟨o',g⟩:=I.base.there b o e l;rwa[o',(f.2 b (agO (agM (agC e) I.ok.above))).trans g]
  ·by_cases D:j=i
   ·subst D;rw[L]at g;ext g;rw[ag9 B]at w;ext w;rwa[u,r,.inl ⟨G,by simp⟩]
   ·rw[ahI (ahC D)]at w;let⟨u',S,q⟩:=hl j y R g w e3;erw[u',S];rcases q with ⟨k,e⟩|⟨k,c,e,z⟩
    ·rwa[.inl ⟨k,?_⟩];have:y≠x:=λe=>D (uc hN g (e ▸ L))
     simp[this,e]
    ·rwa[.inr ⟨k,c,e,z.sameBut f (lb y c e)⟩]
  ·let⟨Q,z⟩:=I.cell y c e;rwa[Q,z.sameBut f (lb y c e)]
  ·let⟨e,n,ne,nf,d⟩:=I.pin p hp;rwa[(f.2 p.1 ne).trans e,n,ne,nf,d]
 ·let F:X.fn x=true:=by
   rcases hf with z|z
   ·rwa[z]
   ·cbv
  let⟨c,t⟩:=I.ok.has x (.inl G);let⟨Q,z⟩:=I.cell x c t;rwa[wpAny_storeName_cell I.ok.kind G t z (λh' Z f=>?_)];let⟨oc,P,aeY⟩:=id z;rwa[h (s<*h') ⟨I.ok,I.os,I.bare,⟨λb o e n C l=>?_,λb o e n C l=>?_,I.base.free,λb o e l=>?_,I.base.hX,I.base.gH,I.base.hY⟩,⟨m,hn.sameBut f (ahC (lb x c t)),λj y R g w e3=>?_⟩,λy N e=>?_,I.free,I.gI,λp hp=>?_,tracked ⟨oc,P,I.gI x c t⟩ f,by simpa using I.len⟩ ⟨c,f,.inr t⟩]
  ·rwa[(f.2 b (agO (agM (agC e) (I.ok.zG x c F t)))).trans (I.base.keep b o e n C l)]
  ·let⟨Y,g⟩:=I.base.slot b o e n C l;rwa[Y,(f.2 b (agO (agM (agC e) (I.ok.zG x c F t)))).trans g]
  ·let⟨o',g⟩:=I.base.there b o e l;rwa[o',(f.2 b (agO (agM (agC e) (I.ok.zG x c F t)))).trans g]
  ·by_cases D:j=i
   ·subst D;rw[L]at g;ext g;rw[ag9 B]at w;ext w;rwa[u,r,.inr ⟨.inl G,c,t,Z⟩]
   ·rw[ahI (ahC D)]at w;let⟨u',S,q⟩:=hl j y R g w e3;erw[u',S];rcases q with q|⟨k,N,e,z'⟩
    ·rwa[.inl q]
    ·rwa[.inr ⟨k,N,e,z'.sameBut f ?_⟩];rintro rfl;rwa[D (uc hN g (I.ok.inj _ _ _ e t ▸ L))]
  ·by_cases W:N=c
   ·cbv
   ·let⟨w2,z2⟩:=I.cell y N e;rwa[w2,z2.sameBut f W]
  ·let⟨e,n,ne,nf,d⟩:=I.pin p hp;rwa[⟨(f.2 p.1 ?_).trans e,n,ne,nf,d⟩]
   cbv
theorem pf {M:Model}{v:V}(I:Inv X pins σ H s)(d:X.N.Nodup)(e:X.N[i]?\x)(f:Loc X.env.scope x)(r:RelV v u)
 (h:∀a,Inv X pins (σ.set i (some v)) H a->U () a) (b:X.fn x=true\/X.env.scope.names.lookup x=some .local:=by trivial):wpAny M A (storeName X.env x u) U E s:=
 xZ I d e f r (λa c _=>h a c) b
theorem Inv.Eu {s':Zu}{ch:Zn}(I:Inv X pins σ H s)(h:s'.os=s.os)(u:Un (cJ X.stack) ch H H' s.heap s'.heap)(aL:dz X.prog X.w H' s'.heap)(i:AllBare s'.gens)
 (a:∀b∈ch,(b∈X.ex\/X.dY.heap.objs.size<=b)/\b≠X.env.locals/\(∀x c,X.env.cells.lookup x\c->c≠b)/\∀p∈X.pn++pins,p.1≠b):Inv X pins σ H' s':=by
 let⟨h',g,d,f,j⟩:=s';let e:j=s.os:=h;subst e;rwa[I.call (g':=g) (t':=f) (d':=d) u aL i a]
end
abbrev XK:=Zt->Zo->Hp->Prop
abbrev St:=List Zc
abbrev VK:=V->Hp->Prop
abbrev TE:=St->Hp->VK->Prop
abbrev TT:=St->Hp->(Bool->Hp->Prop)->Prop
abbrev TA:=St->Hp->(Zb->Hp->Prop)->Prop
structure Ends where
 nx:St->Hp->Prop
 rt:VK
 bk:St->Hp->Prop:=λ_ _=>False
 ct:St->Hp->Prop:=λ_ _=>False
abbrev TS:=Ends->St->Hp->Prop
def EP (X:Cx)(a:List (Zs×Obj))(d:St)(Q:VK)(u:Zt)(c:Zu):Prop:=∃v b,Inv X a d b c/\RelV v u/\Q v b
def TP (X:Cx)(a:List (Zs×Obj))(e:St)(Q:Bool->Hp->Prop)(b:Bool)(d:Zu):Prop:=∃c,Inv X a e c d/\Q b c
def AP (X:Cx)(a:List (Zs×Obj))(f:St)(Q:Zb->Hp->Prop)(e:Zk)(d:Zu):Prop:=∃b c,Inv X a f c d/\Vals b e/\Q b c
def SP (X:Cx)(b:List (Zs×Obj))(D:Ends)(f:Flow)(d:Zu):Prop:=
 match f with
 |.next=>∃ a c,Inv X b a c d/\D.nx a c
 |.brk=>∃ a c,Inv X b a c d/\D.bk a c
 |.cont=>∃ a c,Inv X b a c d/\D.ct a c
 |.ret u=>∃v a c,Inv X b a c d/\RelV v u/\D.rt v c
def PE (X:Cx)(e:Expr)(t:TE):Prop:=
 ∀(a:List (Zs×Obj)) (s:Zu) (b:St) (H:Hp) (Q:VK),Inv X a b H s->t b H Q->X⁻¹ X.A (eval e X.env) (EP X a b Q) X.xe s
def PT (X:Cx)(e:Expr)(t:TT):Prop:=
 ∀(a:List (Zs×Obj)) (s:Zu) (b:St) (H:Hp) (Q:Bool->Hp->Prop),Inv X a b H s->t b H Q->X⁻¹ X.A (isTrue e X.env (eval e X.env)) (TP X a b Q) X.xe s
def PW (X:Cx)(e:Expr)(t:TT):Prop:=
 ∀(whole:Sem Zt) (a:List (Zs×Obj)) (s:Zu) (b:St) (H:Hp) (Q:Bool->Hp->Prop),Inv X a b H s->t b H Q->X⁻¹ X.A (isTrue e X.env whole) (TP X a b Q) X.xe s
def PW.pt {X:Cx}{t:TT}(h:PW X e t):PT X e t:=h _
def PA (X:Cx)(d:Zr)(t:TA):Prop:=
 ∀(b:Pos) (a:List (Zs×Obj)) (s:Zu) (c:St) (H:Hp) (Q:Zb->Hp->Prop),Inv X a c H s->t c H Q->X⁻¹ X.A (spliced (backTo b (starEach d X.env))) (AP X a c Q) X.xe s
def PS (X:Cx)(st:Stmt)(t:TS):Prop:=
 ∀(a:List (Zs×Obj)) (s:Zu) (b:St) (H:Hp) (D:Ends),Inv X a b H s->t D b H->X⁻¹ X.A (exec st X.env) (SP X a D) X.xe s
def iI (X:Cx)(st:List Stmt)(t:TS):Prop:=
 ∀(a:List (Zs×Obj)) (s:Zu) (b:St) (H:Hp) (D:Ends),Inv X a b H s->t D b H->X⁻¹ X.A (execs st X.env) (SP X a D) X.xe s
def a9 {c:Type}{t:Sem c}{Q b:c->Zu->Prop}{M:Model}(h:wpAny M A t Q E s)(d:∀a s,Q a s->b a s):wpAny M A t b E s:=ahk h d λ_ _ x=>x
end L2
variable {D:L2.St}{r:L2.TE}{G:L2.Ends}{X:L2.Cx}
namespace L2
open PySem PySem.Spec PyProof.Rows
section
variable {X:Cx}
theorem bin {b:Expr}{l:TE}(B:PE X e r)(o:PE X b l){a:List (Zs×Obj)}{s:Zu}{c:St}{H:Hp}{R:V->V->Hp->Prop}(I:Inv X a c H s)(h:r c H λx k=>l c k λy d=>R x y d)
 {m:Type} {Q:m->Zu->Prop} {f:Zt->Zt->Sem m}
 (w:∀v u j x y d,Inv X a c d j->RelV x v->RelV y u->R x y d->X⁻¹ X.A (f v u) Q X.xe j):
 X⁻¹ X.A (eval e X.env) (λv i=>X⁻¹ X.A (eval b X.env) (λu g=>X⁻¹ X.A (f v u) Q X.xe g) X.xe i) X.xe s:=by
 rwa[a9 (B a s c H _ I h) λv z ζ=>?_];let⟨x,k,p,n,q⟩:=ζ
 rwa[a9 (o a z c k _ p q) λu j ζ=>?_];let⟨y,d,t,A,C⟩:=ζ
 rwa[w v u j x y d t n A C]
inductive i6 (i:Nat) (σ:St) (H:Hp) (Q:VK):Prop
 |mk (v:V):σ[i]?\some v->Q v H->i6 i σ H Q
def tC (v:V):TE:=λ_ H Q=>Q v H
def OW (o:X.N[i]?\x)(w:OV X.env.scope x)(f:(x==("__debug__":Str))=false:=by decide)(g:(x==("__classdict__":Str))=false:=by decide):PE X (.Name x p) (i6 i):=by
 intro d s n H Q I h;let⟨v,e,h⟩:=h;let⟨m,q,k⟩:=I.loc;let⟨u,r,l⟩:=k i x v o e w;let fin:EP X d n Q u s:=⟨v,H,I,r,h⟩;rcases l with ⟨b,t⟩|⟨b,c,j,a⟩
 ·rwa[wpAny_Name (wpAny_loadName_local I.ok.kind b q t fin) f]
 ·rcases b with b|b
  ·rwa[wpAny_Name (wpAny_loadName_cell I.ok.kind b j a fin) f]
  ·rwa[wpAny_Name (wpAny_loadName_free I.ok.kind b j a fin g) f]
def av {i j a}:PE X (.Constant (.int i) j a) (tC (.int i)):=λ_ _ _ H _ I h=>wpAny_Constant_int ⟨.int i,H,I.tok _,⟨12⟩,h⟩
def kb {b j a}:PE X (.Constant (.bool b) j a) (tC (.bl b)):=λ_ _ _ H _ I h=>Constant_bool ⟨.bl b,H,I,2,h⟩
def cO {j a}:PE X (.Constant .none j a) (tC .non):=λ_ _ _ H _ I h=>Constant_none ⟨.non,H,I,2,h⟩
def OX {x j a}:PE X (.Constant (.str x) j a) (tC (.str x)):=λ_ _ _ H _ I h=>Calls.Constant_str ⟨.str x,H,I.tok _,⟨12⟩,h⟩
def Gl (X:Cx)(x:Str):Prop:=X.env.kindOf x=some .globalImplicit
theorem jU (I:Inv X o D H s)(c:Gl X x)(b:X.mg x\u)(h:Q u s)
 (a:(x==("__debug__":Str))=false:=by decide):X⁻¹ X.A (eval (.Name x p) X.env) Q E s:=
 Calls.Name_function_global I.ok.kind c (Calls.loadGlobal_global ([I.ok.glob]▸I.mod.glob.keeps I.bk) b h) a
theorem gT (I:Inv X o D H s)(f:Gl X x)(b:X.mg x=none)(c:bootBuiltins x\u)(h:Q u s)
 (g:x≠"__name__":=by decide) (a:(x==("__debug__":Str))=false:=by decide):X⁻¹ X.A (eval (.Name x p) X.env) Q E s:=by
 let⟨i,e,d⟩:=I.mod.blt;rwa[Calls.Name_function_global I.ok.kind f (Calls.loadGlobal_builtin ([I.ok.glob]▸I.mod.glob.keeps I.bk) b ([I.ok.blt]▸e.keeps I.bk) ((d x g).trans c) h) a]
def jg {v:V}(d:Gl X x)(b:X.mg x=none)(c:bootBuiltins x\u)(r:RelV v u)(e:x≠"__name__":=by decide)(a:(x==("__debug__":Str))=false:=by decide):PE X (.Name x p) (tC v):=
 λ_ _ _ H _ I h=>gT I d b c ⟨v,H,I,r,h⟩ e a
def t2I (e b:TE)(k:Int->Int->Hp->Prop):St->Hp->Prop:=λ a H=>e a H λx d=>b a d λy c=>∃i j,x=.int i/\y=.int j/\k i j c
variable {a b:Expr}{ta tb:TE}{pos:Pos}
def PC (X:Cx)(g:CmpOp)(a b:Expr)(t:TE):Prop:=
 ∀(c:List (Zs×Obj)) (s:Zu) (f:St) (H:Hp) (Q:VK),Inv X c f H s->t f H Q->
  X⁻¹ X.A (eval a X.env) (λv e=>X⁻¹ X.A (eval b X.env) (λu d=>X⁻¹ X.A (compareOp g v u) (EP X c f Q) X.xe d) X.xe e) X.xe s
def IW (b:Expr){c:CmpOp}(h:c≠.In)(f:c≠.NotIn):behindInMarks c b=false:=by
 let d:(c==CmpOp.In)=false:=by cbv
 let e:(c==CmpOp.NotIn)=false:=by cbv
 cases b <;> simp[behindInMarks,d,e]
def XY (p:Int->Int->Bool)(ta tb:TE):TE:=λ d H Q=>t2I ta tb (λi j c=>Q (.bl (p i j)) c) d H
abbrev K3:TE->TE->TE:=XY λi j=>decide (i<j)
def tB (t:TE):TT:=λ e H Q=>t e H λx d=>∃c,x=.bl c/\Q c d
def OY {g:CmpOp}(h:PC X g a b r)(f:behindInMarks g b=false:=by first|rwa[IW _ (by decide) (by decide)]|rfl):PT X (.Compare a [g] [b] pos) (tB r):=by
 intro e s o H Q I m;rwa[wpAny_isTrue_Compare1 (a9 (h e s o H _ I m) λv t f=>a9 f λu p i=>a9 i λc w ζ=>?_) f];let⟨x,n,k,j,l⟩:=ζ;let⟨d,rfl,q⟩:=l;ext j;rwa[aiB ⟨n,k,q⟩]
def gU (h:PE X e r)(m:∀whole,isTrue e X.env whole=(do let v <-whole;standAt e.pos;holding [v] (truthy v)):=by intro _;rfl):PT X e (tB r):=by
 intro c s l H Q I j;rwa[isTrue_plain (a9 (h c s l H _ I j) λv n ζ=>?_) (m _)];let⟨x,k,g,f,i⟩:=ζ;let⟨d,rfl,q⟩:=i;ext f;rwa[aiB ⟨k,g,q⟩]
variable {tA K4:TT}{rest:Zr}
def XZ (t u:TT):TT:=λ e H Q=>t e H λc d=>if c=true then u e d Q else Q false d
def tOr (t u:TT):TT:=λ e H Q=>t e H λc d=>if c=true then Q true d else u e d Q
def X1 (t:TT):TT:=λ e H Q=>t e H λc d=>Q (!c) d
def sD (f:PT X a tA):PW X (.BoolOp .And [a] pos) tA:=by
 intro i d s g H Q I h;rwa[isTrue_and (a9 (f d s g H Q I h) λc j e=>?_)]
 cases c with
 |true=>exact isTrue_and_nil e
 |false=>exact e
def zI (f:PT X a tA):PW X (.BoolOp .Or [a] pos) tA:=by
 intro i d s g H Q I h;rwa[isTrue_or (a9 (f d s g H Q I h) λc j e=>?_)]
 cases c with
 |false=>exact isTrue_or_nil e
 |true=>exact e
def uY (j:PT X a tA)(m:PW X (.BoolOp .And (b::rest) pos) K4):PW X (.BoolOp .And (a::b::rest) pos) (XZ tA K4):=by
 intro k d s i H Q I h;rwa[isTrue_and (a9 (j d s i H _ I h) λc l ζ=>?_)];let⟨e,g,f⟩:=ζ
 cases c with
 |true=>exact m k d l i e Q g f
 |false=>rwa[e,g,f]
def Ew (j:PT X a tA)(m:PW X (.BoolOp .Or (b::rest) pos) K4):PW X (.BoolOp .Or (a::b::rest) pos) (tOr tA K4):=by
 intro k d s i H Q I h;rwa[isTrue_or (a9 (j d s i H _ I h) λc l ζ=>?_)];let⟨e,g,f⟩:=ζ
 cases c with
 |true=>rwa[e,g,f]
 |false=>exact m k d l i e Q g f
def F3 (f:PT X a tA):PT X (.UnaryOp .Not a pos) (X1 tA):=by
 intro d s g H Q I h;rwa[isTrue_not (f d s g H (λc e=>Q (!c) e) I h)]
def Uh (ta tb:TE):TE:=λ e H Q=>ta e H λx d=>∃c,x=.bl c/\if c=true then tb e d Q else Q (.bl false) d
def OZ {e}(h:PE X a r):PE X (.BoolOp e [a] pos) r:=λc s f H Q I d=>BoolOp_one (h c s f H Q I d)
def O6 (j:PE X a ta)(m:PE X (.BoolOp .And (b::rest) pos) tb):PE X (.BoolOp .And (a::b::rest) pos) (Uh ta tb):=by
 intro d s i H Q I h;rwa[BoolOp_and (a9 (j d s i H _ I h) λv l ζ=>?_)];let⟨x,f,g,k,e⟩:=ζ;let⟨c,rfl,e⟩:=e;ext k;rwa[aiB ?_]
 cases c with
 |true=>exact m d l i f Q g e
 |false=>rwa[.bl false,f,g,2,e]
end
def aF (K:Za1)(H:Hp)(a:Zs)(c:Zb):Prop:=
 Rd H a (.lst c)\/
  ∃(o:Obj) (b:Zm) (n:Nat),K.lookup a\o/\o.cls=.type "list"/\o.dict=none/\o.data=.seq b n/\b.size<=sizeLine/\Vals c b.toList
def bA (K:Za1)(H:Hp)(a:Zs)(c:Zb):Prop:=
 Rd H a (.tup c)\/
  ∃(o:Obj) (b:Zm) (n:Nat),K.lookup a\o/\o.cls=.type "tuple"/\o.data=.seq b n/\b.size<=sizeLine/\Vals c b.toList
noncomputable def X2:Zt->Zc
 |.none=>some .non
 |.bool b=>some (.bl b)
 |.int i _=>some (.int i)
 |.str x _=>some (.str x)
 |.bytes b _=>some (.mS b)
 |.float b _=>some (.zF b)
 |.ref a=>some ↑a
 |.type n=>some (.ty n)
 |_=>none
def RelV.abs {x:V}(r:RelV x u):X2 u\x:=by
 cases x with
 |non=>ext r;rfl
 |bl _=>ext r;rfl
 |int _=>let⟨t,rfl⟩:=r;rfl
 |str _=>let⟨t,rfl⟩:=r;rfl
 |mS _=>let⟨t,rfl⟩:=r;rfl
 |zF _=>let⟨t,rfl⟩:=r;rfl
 |ref _=>ext r;rfl
 |ty _=>ext r;rfl
def RelV.inj {x:V}(r:RelV x u)(a:RelV q u):x=q:=Za0 (r.abs.symm.trans a.abs)
theorem Vals.inj:∀{b ys:Zb} {a:Zk},Vals b a->Vals ys a->b=ys
 |_,_,_,.nil,.nil=>rfl
 |_,_,_,.cons r t,.cons c d=>by rw[r.inj c,Vals.inj t d]
section
variable {X:Cx}{pins:List (Zs×Obj)}{σ:St}{H:Hp}{s:Zu}{a:Zs}{xs ys:Zb}
def aF.of (h:H a\.lst xs):aF K H a xs:=.inl (.inl h)
def bA.of (h:H a\.tup xs):bA K H a xs:=.inl (.inl h)
def Inv.list (I:Inv X pins σ H s)(h:aF X.K H a xs):∃b:Zk,Vals xs b/\PlainL s.heap a b.toArray/\⇑xs<=sizeLine:=by
 rcases h with h|⟨o,b,n,c,hc,hd,d,hz,r⟩
 ·let⟨z,b,n,r,e⟩:=h.ok I.aL;rwa[b,r,⟨_,n,e,222⟩,z]
 ·erw[b.toList,r,⟨o,n,I.dk a o c,hc,hd,3⟩];let e:=⇑r;simp only[ah2]at e;ext
def Inv.tuple (I:Inv X pins σ H s)(h:bA X.K H a xs):∃b:Zk,Vals xs b/\IsTup s.heap a b.toArray/\⇑xs<=sizeLine:=by
 rcases h with h|⟨o,b,n,c,hc,d,hz,r⟩
 ·let⟨z,b,r,p⟩:=h.ok I.aL;rwa[b,r,p,z]
 ·erw[b.toList,r,⟨o,I.dk a o c,hc,n,3⟩];let e:=⇑r;simp only[ah2]at e;ext
def Inv.ud (I:Inv X pins σ H s)(h:aF X.K H a xs)(i:aF X.K H a ys):xs=ys:=by
 let⟨c,r,⟨o,n,e,_,_,d⟩,_⟩:=I.list h;let⟨b,j,⟨l,k,g,_,_,f⟩,_⟩:=I.list i;rw[e]at g;ext g;rw[d]at f;injection f with d1 _
 have:c=b:=by simpa using ahF Array.toList d1
 subst this;rwa[r.inj j]
def Inv.F4 (I:Inv X pins σ H s)(h:bA X.K H a xs)(i:bA X.K H a ys):xs=ys:=by
 let⟨c,r,⟨o,e,_,n,d⟩,_⟩:=I.tuple h;let⟨b,j,⟨l,g,_,k,f⟩,_⟩:=I.tuple i;rw[e]at g;ext g;rw[d]at f;injection f with d1 _
 have:c=b:=by simpa using ahF Array.toList d1
 subst this;rwa[r.inj j]
end
abbrev Cx.wish (X:Cx) (E:Zt->Zu->Prop):Cx:={ X with xe:=E }
abbrev Cx.tH (X:Cx):Cx:=X.wish λ_ _=>False
def Cx.Ok.wish (ok:X.Ok)(E:Zt->Zu->Prop):(X.wish E).Ok:=
 ⟨ok.mod,ok.kind,ok.glob,ok.blt,ok.above,ok.inj,ok.has,ok.zG,ok.hd,ok.frames,ok.C1,ok.K2,ok.bs,ok.qG,ok.ub,ok.wO,ok.i5,ok.tG⟩
def Cx.Ok.ia (ok:(X.wish E).Ok):X.Ok:=
 ⟨ok.mod,ok.kind,ok.glob,ok.blt,ok.above,ok.inj,ok.has,ok.zG,ok.hd,ok.frames,ok.C1,ok.K2,ok.bs,ok.qG,ok.ub,ok.wO,ok.i5,ok.tG⟩
section
variable {X:Cx}{pins:List (Zs×Obj)}{σ:St}{H:Hp}{s:Zu}{E:Zt->Zu->Prop}
def Inv.wish (I:Inv X pins σ H s)(E:Zt->Zu->Prop):Inv (X.wish E) pins σ H s:=⟨I.ok.wish E,I.os,I.bare,I.base,I.loc,I.cell,I.free,I.gI,I.pin,I.aL,I.len⟩
def Inv.ia (I:Inv (X.wish E) pins σ H s):Inv X pins σ H s:=⟨I.ok.ia,I.os,I.bare,I.base,I.loc,I.cell,I.free,I.gI,I.pin,I.aL,I.len⟩
def SP.ia {f:Flow}(h:SP (X.wish E) pins G f t):SP X pins G f t:=by
 cases f with
 |next=>let⟨a,b,I,q⟩:=h;rwa[a,b,I.ia,q]
 |brk=>let⟨a,b,I,q⟩:=h;rwa[a,b,I.ia,q]
 |cont=>let⟨a,b,I,q⟩:=h;rwa[a,b,I.ia,q]
 |ret u=>let⟨v,a,b,I,r,q⟩:=h;rwa[v,a,b,I.ia,r,q]
def iI.tH {st:List Stmt}{t:TS}(h:iI X.tH st t):iI X st t:=λpins s σ H D I a=>
 ahk (h pins s σ H D (I.wish _) a) (λ_ _ q=>q.ia) λ_ _ z=>False.elim z
end
section
variable {X:Cx}{st:Stmt}{rest:List Stmt}{t u:TS}{e:Expr}{te:TE}{pos:Pos}
def Ui:TS:=λD a H=>D.nx a H
def aP (t u:TS):TS:=λD a H=>t { D with nx:=u D } a H
def bp:iI X [] Ui:=λ_ _ a H _ I h=>aiC ⟨a,H,I,h⟩
def ai (d:PS X st t)(c:iI X rest u):iI X (st::rest) (aP t u):=by
 intro a s k H D I h;rwa[wpAny_execs_cons (a9 (d a s k H { D with nx:=u D } I h) λf i q=>?_)]
 cases f with
 |next=>
  let⟨b,j,g,q⟩:=q;rwa[c a i b j D g q]
 |ret v=>exact q
 |brk=>exact q
 |cont=>exact q
def au (b:PS X st t):iI X [st] t:=by
 intro a s c H D I h;rwa[wpAny_execs_cons (a9 (b a s c H D I h) λf d q=>?_)]
 cases f with
 |next=>exact aiC q
 |ret v=>exact q
 |brk=>exact q
 |cont=>exact q
def O8:TS:=λD a H=>D.bk a H
def uf:PS X (.Break pos) O8:=λ_ _ a H _ I h=>wpAny_Break ⟨a,H,I,h⟩
def Inv.quiet (I:Inv X o D H s):interactive X.env=false:=by simp[interactive,I.ok.kind]
def Uj (te:TE):TS:=λD a H=>te a H λ_ b=>D.nx a b
def aV (d:PE X e te)(g:swapsWith e none pos.line X.env=pure false:=by rfl):PS X (.Expr e pos) (Uj te):=by
 intro a s b H D I h;rwa[wpAny_Expr_any (a9 (d a s b H _ I h) λv k ζ=>?_) I.quiet g];let⟨x,c,i,j,f⟩:=ζ;rwa[⟨b,c,i,f⟩]
def X3 (te:TE):TS:=λD a H=>te a H D.rt
def bj (d:PE X e te):PS X (.Return (some e) pos) (X3 te):=by
 intro a s b H D I h;rwa[wpAny_Return_some (a9 (d a s b H _ I h) λv j ζ=>?_)];let⟨x,c,i,f,g⟩:=ζ;rwa[⟨x,b,c,i,f,g⟩]
def Uk:TS:=λD _ H=>D.rt .non H
def wQ:PS X (.Return none pos) Uk:=λ_ _ a H _ I h=>wpAny_Return_none ⟨.non,a,H,I,2,h⟩
def X4 (c:TT)(t u:TS):TS:=λD a H=>c a H λb d=>if b=true then t D a d else u D a d
def bD {c:Expr}{a b:List Stmt}{j:TT}(p:PT X c j)(o:iI X a t)(n:iI X b u):PS X (.If c a b pos) (X4 j t u):=by
 intro f s g H D I h;rwa[wpAny_If (a9 (p f s g H _ I h) λd m ζ=>?_)];let⟨l,i,k⟩:=ζ
 cases d with
 |true=>exact o f m g l D i k
 |false=>exact n f m g l D i k
def F5:TS:=λ_ _ _=>False
def IX:PS X st F5:=λ_ _ _ _ _ _ h=>h.elim
def kr {a:List Stmt}:iI X a F5:=λ_ _ _ _ _ _ h=>h.elim
end
abbrev TG:=V->St->Hp->(St->Hp->Prop)->Prop
abbrev C2:=Zb->St->Hp->(St->Hp->Prop)->Prop
def PG (X:Cx)(target:Expr)(t:TG):Prop:=
 ∀(a:List (Zs×Obj)) (s:Zu) (d:St) (H:Hp) (v:V) (u:Zt) (Q:St->Hp->Prop),Inv X a d H s->RelV v u->t v d H Q->
  X⁻¹ X.A (assign target X.env u) (λ_ e=>∃ b c,Inv X a b c e/\Q b c) X.xe s
def K5 (X:Cx)(h:Zr)(t:C2):Prop:=
 ∀(a:List (Zs×Obj)) (s:Zu) (f:St) (H:Hp) (d:Zb) (c:Zk) (Q:St->Hp->Prop),Inv X a f H s->Vals d c->t d f H Q->
  X⁻¹ X.A (assignInOrder ((assignEach h X.env).map (·.2)) c) (λ_ g=>∃ b e,Inv X a b e g/\Q b e) X.xe s
abbrev IY:=V->V->V->Hp->(Hp->Prop)->Prop
def O9 (X:Cx)(t:IY):Prop:=
 ∀(a:List (Zs×Obj)) (s:Zu) (e:St) (H:Hp) (o i v:V) (d b u:Zt) (Q:Hp->Prop),Inv X a e H s->RelV o d->RelV i b->RelV v u->t o i v H Q->
  X⁻¹ X.A (setItem d b u) (λ_ f=>∃c,Inv X a e c f/\Q c) X.xe s
section
variable {X:Cx}{pos:Pos}
def lB (i:Nat):TG:=λv a H Q=>Q (a.set i (some v)) H
def C3 (d:X.N.Nodup)(e:X.N[i]?\x)(f:Loc X.env.scope x)(b:X.fn x=true\/X.env.scope.names.lookup x=some .local:=by trivial):PG X (.Name x pos) (lB i):=by
 intro a s j H v u Q I r h;rwa[wpAny_assign_Name (pf I d e f r (λg c=>⟨_,H,c,h⟩) b)]
def X5:C2:=λb a H Q=>b=[]/\Q a H
inductive K6 (t:TG) (u:C2) (vs:Zb) (σ:St) (H:Hp) (Q:(St->Hp->Prop)):Prop
 |mk (v:V) (r:Zb):vs=v::r->(t v σ H λ fx H'=>u r fx H' Q)->K6 t u vs σ H Q
def jh:K5 X [] X5:=by
 intro a s b H d c Q I r h;let⟨e,h⟩:=h;subst e;rwa[assignInOrder_nil ⟨b,H,I,h⟩]
theorem cG {t:TG}{u:C2}(g:PG X e t)(c:K5 X C u)
 (l:(assignEach (e::C) X.env).map (·.2)=assign e X.env::(assignEach C X.env).map (·.2):=by rfl):K5 X (e::C) (K6 t u):=by
 intro a s m H o q Q I r h;let⟨v,p,n,h⟩:=h;subst n
 cases r with
 |cons r i=>
  rw[l];rwa[assignInOrder_cons (a9 (g a s m H _ _ _ I r h) λ_ k ζ=>?_)];let⟨b,j,d,f⟩:=ζ;rwa[c a k b j _ _ Q d i f]
inductive Pa (K:Za1) (n:Nat) (t:C2) (v:V) (σ:St) (H:Hp) (Q:(St->Hp->Prop)):Prop
 |mk (a:Zs) (xs:Zb):v=↑a->bA K H a xs->⇑xs=n->t xs σ H Q->Pa K n t v σ H Q
theorem ku {k:Nat}{t:C2}(B:X.calm=true)(h:K5 X C t)
 (y:⇑(assignEach C X.env)=n:=by rfl) (d:(assignEach C X.env).findIdx? (·.1)=none:=by rfl):PG X (.Tuple C k pos) (Pa X.K n t):=by
 intro c s g H v u Q I r f;let⟨a,x,A,m,w,f⟩:=f;subst A;ext r;let⟨p,q,i,E⟩:=I.tuple m;rwa[assign_Tuple_tuple (I.ok.hd B) i (by simp[y,<-w,⇑q]) d λl z=>?_]
 let j:Inv X c g H (s<*l):=I.kept (t':=s.toks) λb o e=>z b o (agO (agC e)) e
 rwa[h c _ g H x _ Q j ∅ f]
def X6 (to b:TE)(t:IY):TG:=λv a H Q=>to a H λo d=>b a d λi c=>t o i v c λe=>Q a e
theorem nT {i:Expr}{to:TE}{t:IY}(q:PE X e to)(B:PE X i r)(A:O9 X t)
 (G:∀v,assign (.Subscript e i pos) X.env v=(do
  let c <-holding [v] (eval e X.env)
  let d <-holding [v,c] (eval i X.env)
  standAt pos
  holding [v,c,d] (setItem c d v)
  release [v,c,d] []):=by intro _;rfl):PG X (.Subscript e i pos) (X6 to r t):=by
 intro b s f H v u Q I a h;rwa[agg (ahn (a9 (q b s f H _ I h) λc z ζ=>?_))];let⟨x,w,j,g,n⟩:=ζ;rwa[agg (ahn (a9 (B b z f w _ j n) λd m ζ=>?_))];let⟨y,D,p,C,E⟩:=ζ;rwa[agg (aje (agg (ahn (a9 (A b m f D x y v c d u _ p g C a E) λ_ F ζ=>?_))))];let⟨k,l,o⟩:=ζ;rwa[wpAny_release ⟨f,k,l,o⟩]
def wR (b:TE)(g:TG):TS:=λD a H=>b a H λx c=>g x a c D.nx
def jA {a:Expr}{g:TG}(p:PE X a r)(f:PG X e g)(o:swapsWithSole [e] a pos.line X.env=pure false:=by rfl)(l:swappedStores [e] a X.env=pure none:=by rfl)
 (k:(assignEach [e] X.env).map (·.2)=[assign e X.env]:=by rfl):PS X (.Assign [e] a pos) (wR r g):=by
 intro b s c H D I h;rwa[wpAny_Assign_stores (a9 (p b s c H _ I h) λv n ζ=>?_) o l];let⟨x,m,i,d,j⟩:=ζ;rw[k];rwa[a9 (f b n c m x v _ i d j) λ_ t q=>q]
def Pb {pos':Pos}(o:X.N.Nodup)(l:X.N[i]?\x)(n:Loc X.env.scope x)(p:PE X e r)(k:swapsWith e (some (.Name x pos')) pos.line X.env=pure false:=by rfl)(g:X.fn x=true\/X.env.scope.names.lookup x=some .local:=by trivial):
 PS X (.Assign [.Name x pos'] e pos) (wR r (lB i)):=by
 intro a s m H D I h;rwa[wpAny_Assign_Name (a9 (p a s m H _ I h) λv t ζ=>?_) k];let⟨y,j,c,b,d⟩:=ζ;rwa[pf c o l n b (λq f=>⟨_,j,f,d⟩) g]
inductive ipI (f:Int->Int->Int) (x:V) (y:V) (H:Hp) (Q:VK):Prop
 |mk (i j:Int):x=.int i->y=.int j->Q (.int (f i j)) H->ipI f x y H Q
end
section
variable {X:Cx}{pos:Pos}
def Pg (c:TT)(h:TS):TS:=λD a H=>∃W:Nat->St->Hp->Prop,(∃m,W m a H)/\∀m a H,W m a H->
 c a H λb e=>if b=true then ∃N:St->Hp->Prop,(∀ d g,N d g->∃f,f<m/\W f d g)/\h { D with nx:=N,ct:=N,bk:=D.nx } a e else D.nx a e
def gJ {body:List Stmt}{r:TT}{u:TS}(w:PassesOwn (model X.prog X.w) X.A X.env X.xe)(P:PT X e r)(E:iI X body u):PS X (.While e body [] pos) (Pg r u):=by
 intro c s O H D I h;let⟨W,⟨J,L⟩,turn⟩:=h;rwa[wpAny_While (codeAny_whileLoop (λn B=>∃ i z,Inv X c i z B/\W n i z) ?_ J ⟨O,H,I,L⟩)];rintro n M ⟨d,x,F,C⟩;rwa[aiD w (a9 (P c M d x _ F (turn n d x C)) λb G ζ=>?_)];let⟨y,t,k⟩:=ζ
 cases b with
 |true=>
  let⟨N,A,k⟩:=k;rwa[aiD w (a9 (E c G d y _ t k) λf Q j=>?_)]
  cases f with
  |next=>
   let⟨a,g,o,m⟩:=j;let⟨p,q,l⟩:=A a g m;rwa[p,q,a,g,o,l]
  |cont=>
   let⟨a,g,o,m⟩:=j;let⟨p,q,l⟩:=A a g m;rwa[p,q,a,g,o,l]
  |brk=>exact j
  |ret v=>exact j
 |false=>
  rwa[aiC ⟨d,y,t,k⟩]
end
structure It where
 go:Nat->Hp->Prop
 lP:Nat->Hp->V->Hp->Prop
 stop:Nat->Hp->Prop
def pj (X:Cx)(a:List (Zs×Obj))(H:Hp)(b:Zs):Prop:=
 H b=none/\b≠X.env.locals/\b∉X.fs/\(b∈X.ex\/X.dY.heap.objs.size<=b)/\(∀x c,X.env.cells.lookup x\c->c≠b)/\∀p∈X.pn++a,p.1≠b
def Inv.pk (a:Inv X o D H s)(d:↥s<=b)(g:I b=none):pj X o I b:=by
 rwa[⟨g,ahw (agM a.lt d),a.Es d,.inr (agz a.sz d),λx c e z=>?_,λp f z=>?_⟩]
 ·let⟨v,q⟩:=a.cell x c e;rwa[absurd (agM q.lt ([z]▸d)) (ahz _)]
 ·rwa[absurd (agM (agC (a.pin p f).1) ([z]▸d)) (ahz _)]
structure Turn (P:Program) (w:World) (K:Za1) (tg:Expr) (J:It) (fp:Zn) (it:Zs) (tn:Nat->Heap->Prop):Prop where
 mem:it∈fp
 obj:∀i h,tn i h->∀b∈fp,∃o,h.get? b\o/\∀v,o.data≠.cell v
 keep:∀i h h',tn i h->(∀b∈fp,∀o,h.get? b\o->h'.get? b\o)->tn i h'
 item:∀(X:Cx),X.prog=P->X.w=w->X.K=K->X.calm=true->∀(i:Nat) (pins:List (Zs×Obj)) (s:Zu) (σ:St) (H:Hp) (E:Zt->Zu->Prop),Inv X pins σ H s->(∀b∈fp,pj X pins H b)->tn i s.heap->J.go i H->
  (P<|>w) X.A (pyNext ↑it) (λr s1=>∃u,r\u/\
   (P<|>w) X.A (letOwnedTupleGo tg ↑it u) (λ_ s2=>∃x H',Inv X pins σ H' s2/\RelV x u/\J.lP i H x H'/\tn (i+ 1) s2.heap/\∀b∈fp,H' b=none) E s1) E s
 done:∀(X:Cx),X.prog=P->X.w=w->X.K=K->X.calm=true->∀(i:Nat) (pins:List (Zs×Obj)) (s:Zu) (σ:St) (H:Hp) (E:Zt->Zu->Prop),Inv X pins σ H s->(∀b∈fp,pj X pins H b)->tn i s.heap->J.stop i H->
  (P<|>w) X.A (pyNext ↑it) (λr s1=>r=none/\Inv X pins σ H s1) E s
 self:∀(A:Around) (i:Nat) (s:Zu) (Q:Zt->Zu->Prop) (E:Zt->Zu->Prop),tn i s.heap->Q ↑it s->(P<|>w) A (pyIter ↑it) Q E s
abbrev TI:=St->Hp->(It->Hp->Prop)->Prop
def Vy (X:Cx)(a:List (Zs×Obj))(h:St)(g:Expr)(R:It->Hp->Prop)(c:Zt)(s2:Zu):Prop:=
 ∃(it:Zs) (f:Zn) (e:Nat->Heap->Prop) (J:It) (d:Hp),c=↑it/\Inv X a h d s2/\Turn X.prog X.w X.K g J f it e/\e 0 s2.heap/\(∀b∈f,pj X a d b)/\R J d
def PI (X:Cx)(d iter:Expr)(c:TI):Prop:=
 ∀(a:List (Zs×Obj)) (s:Zu) (b:St) (H:Hp) (R:It->Hp->Prop),Inv X a b H s->c b H R->
  X⁻¹ X.A (eval iter X.env) (λv e=>X⁻¹ X.A (pyIter v) (Vy X a b d R) X.xe e) X.xe s
theorem zu {M:Model}{it:Zs}{o:Obj}{n:String}{b:Zm}(d:s.heap.get? it\o)(f:o.cls=.type n)(c:o.data=.fields b)
 (g:["enumerate","zip","dict_itemiterator","dict_reverseitemiterator","odict_iterator","itertools.zip_longest","itertools.pairwise"].contains n=false) (a:U () s):wpAny M A (letOwnedTupleGo e ↑it u) U E s:=by
 cases e <;> first
  |rwa[agn a]
  |(cases u <;> first
   |rwa[agn a]
   |(rwa[agg (wpAny_load d ?_)]
     rw[f,c];show wpAny M A (if (["enumerate","zip","dict_itemiterator","dict_reverseitemiterator","odict_iterator","itertools.zip_longest","itertools.pairwise"].contains n && b[0]?==some (rawInt _))=true then _ else _) U E s;rw[agF (by cbv)];rwa[agn a]))
def x6 (K:Za1)(a:Zs):It:=
 ⟨λi H=>∃xs x,aF K H a xs/\xs[i]?\x,λi H x b=>b=H/\∀xs,aF K H a xs->xs[i]?\x,λi H=>∃xs,aF K H a xs/\⇑xs<=i⟩
def x8 (K:Za1)(a:Zs):It:=
 ⟨λi H=>∃xs x,bA K H a xs/\xs[i]?\x,λi H x b=>b=H/\∀xs,bA K H a xs->xs[i]?\x,λi H=>∃xs,bA K H a xs/\⇑xs<=i⟩
noncomputable def uZ (lo:Int)(n:Nat):It:=⟨λi _=>i<n,λi H x a=>a=H/\x=.int (lo+ i),λi _=>n<=i⟩
theorem F6 (a it:Zs):Turn P w K e (x6 K a) [it] it (λi h=>h.IsListIter it a i) where
 mem:=by simp
 obj:=λi h st b j=>by
  let f:b=it:=by simpa using j
  subst f;let⟨o,f,c,d⟩:=st
  cbv
 keep:=λi h m st k=>st.at λo f=>k it (by simp) o f
 item:=by
  intro X G B z M i g s L H E I q st r;subst G B z;let⟨T,x,n,D⟩:=r;let⟨y,A,p,R⟩:=I.list n;let⟨u,U,W⟩:=A.get D;let⟨t,v,V,J,F,C⟩:=q it (by simp);rwa[wpAny_pyNext_list_item st p.isList (x:=u) (by simpa using U) λm l Y=>?_]
  let O:Inv X g L H (s<*m):=I.turned (t':=s.toks) (λb o j f=>(Y.2 b j).trans f) t v J F C;let⟨o,f,c,d⟩:=id l;rwa[u,2,zu (s:=(s<*m)) f c d ⋯ ⟨x,H,O,W,⟨2,λys S=>[I.ud S n]▸D⟩,l,λb j=>(q b j).1⟩]
 done:=by
  intro X G B z M i g s L H E I q st r;subst G B z;let⟨T,n,D⟩:=r;let⟨y,A,p,R⟩:=I.list n;let⟨t,v,V,J,F,C⟩:=q it (by simp);let Z:=⇑A;rwa[wpAny_pyNext_list_end (I.ok.hd M) st p.isList (by simp;omega) λm Q=>⟨2,I.turned (t':=s.toks) (λb o j f=>Q b o j f) t v J F C⟩]
 self:=λ_ _ _ _ _ st h=>wpAny_pyIter_listiter st h
theorem Ey (a it:Zs):Turn P w K e (x8 K a) [it] it (λi h=>h.IsTupleIter it a i) where
 mem:=by simp
 obj:=λi h st b j=>by
  let f:b=it:=by simpa using j
  subst f;let⟨o,f,c,d⟩:=st
  cbv
 keep:=λi h n st k=>st.at λo f=>k it (by simp) o f
 item:=by
  intro X G B z M i g s L H E I r st t;subst G B z;let⟨T,x,q,D⟩:=t;let⟨l,A,p,R⟩:=I.tuple q;let⟨u,U,W⟩:=A.get D;let⟨v,y,V,J,F,C⟩:=r it (by simp);rwa[wpAny_pyNext_tuple_item st (show s.heap.IsTuple a l.toArray from p) (x:=u) (by simpa using U) λn m Y=>?_]
  let O:Inv X g L H (s<*n):=I.turned (t':=s.toks) (λb o j f=>(Y.2 b j).trans f) v y J F C;let⟨o,f,c,d⟩:=id m;rwa[u,2,zu (s:=(s<*n)) f c d ⋯ ⟨x,H,O,W,⟨2,λys S=>[I.F4 S q]▸D⟩,m,λb j=>(r b j).1⟩]
 done:=by
  intro X G B z M i g s L H E I r st t;subst G B z;let⟨T,q,D⟩:=t;let⟨l,A,p,R⟩:=I.tuple q;let⟨v,y,V,J,F,C⟩:=r it (by simp);let Z:=⇑A;rwa[wpAny_pyNext_tuple_end (I.ok.hd M) st (show s.heap.IsTuple a l.toArray from p) (by simp;omega) λn Q=>⟨2,I.turned (t':=s.toks) (λb o j f=>Q b o j f) v y J F C⟩]
 self:=λ_ _ _ _ _ st h=>wpAny_pyIter_tupleiter st h
theorem Ez (it:Zs)(lo:Int)(n:Nat):Turn P w K e (uZ lo n) [it] it (λi h=>IsRangeIter h it (lo+ (i:Nat)* 1) ((n:Int) - (i:Nat)) 1) where
 mem:=by simp
 obj:=λi h st b d=>by
  cbv
 keep:=λi h g st k=>k it (by simp) _ st
 item:=by
  intro X D A z x i c s C H E I j st l;subst D A z;let⟨m,p,L,u,r,q⟩:=j it (by simp);let W:=Walks.range (prog:=X.prog) (w:=X.w) (I.ok.hd x) it lo 1 n;rwa[W.item i s _ _ l st λv g y M f G=>?_]
  let⟨t,rfl⟩:=M;let F:Inv X c C H { s with heap:=g,toks:=y }:=I.turned (λb o d a=>G b o (by cbv) a) m p u r q;rwa[⟨12,zu (s:={ s with heap:=g,toks:=y }) (n:="range_iterator") f rfl rfl ⋯ ⟨.int (lo+ i),H,F,⟨t,5⟩,⟨22⟩,f,λb d=>(j b d).1⟩⟩]
  cbv
 done:=by
  intro X D A z x i c s C H E I j st l;let⟨m,p,L,u,r,q⟩:=j it (by simp);rwa[wpAny_pyNext_range_end (I.ok.hd x) st (by have:n<=i:=l;omega) λg J=>⟨2,I.turned (t':=s.toks) (λb o d a=>J b o d a) m p u r q⟩]
 self:=λ_ _ _ _ _ st h=>wpAny_pyIter_rangeiter st h
section
variable {X:Cx}{tg:Expr}
def Ul (K:Za1)(tl:TE):TI:=λ d H R=>tl d H λx b=>∃a,x=↑a/\(∃c,aF K b a c)/\R (x6 K a) b
def X7 (K:Za1)(tl:TE):TI:=λ d H R=>tl d H λx b=>∃a,x=↑a/\(∃c,bA K b a c)/\R (x8 K a) b
def cX {tl:TE}(n:PE X e tl):PI X tg e (Ul X.K tl):=by
 intro d s r H R I h;rwa[a9 (n d s r H _ I h) λv s1 ζ=>?_];let⟨x,m,f,g,l⟩:=ζ
 let⟨a,c,⟨y,j⟩,q⟩:=l;subst c;ext g;let⟨k,u,p,w⟩:=f.list j;rwa[aiE p.isList ?_];rwa[⟨↥s1,[↥s1],11,m,2,f.kept (t':=s1.toks) λb o c=>agi _ c,F6 a _,⟨_,agy _ rfl,22⟩,λb i=>?_,q⟩];let c:b=↥s1:=by simpa using i
 subst c;rwa[f.pk (agp _) (f.aL.fresh (agp _))]
def zJ {tl:TE}(n:PE X e tl):PI X tg e (X7 X.K tl):=by
 intro d s r H R I h;rwa[a9 (n d s r H _ I h) λv s1 ζ=>?_];let⟨x,m,f,i,l⟩:=ζ
 let⟨a,c,⟨y,k⟩,q⟩:=l;subst c;ext i;let⟨g,u,p,w⟩:=f.tuple k;rwa[wpAny_pyIter_tuple (show s1.heap.IsTuple a g.toArray from p) ?_];rwa[⟨↥s1,[↥s1],11,m,2,f.kept (t':=s1.toks) λb o c=>agi _ c,Ey a _,⟨_,agy _ rfl,22⟩,λb j=>?_,q⟩];let c:b=↥s1:=by simpa using j
 subst c;rwa[f.pk (agp _) (f.aL.fresh (agp _))]
theorem zK {R:It->Hp->Prop}{lo:Int}{t u v:Tok}(I:Inv X o D H s)(h: -(2 ^ 62)<=lo)(d:lo<2 ^ 62)(j: -(2 ^ 62)<=z)(g:z<2 ^ 62)
 (q:R (uZ lo (z - lo).toNat) H):X⁻¹ X.A (pyIter ↑↥s) (Vy X o D tg R) E { s with heap:=s.heap.push ("range">>>.fields #[.int lo t,.int z u,.int 1 v]),toks:=n }:=by
 rwa[wpAny_pyIter_range (IsRange.new ..) (small_one h d j g) ?_];let c:Inv X o D H { s with heap:=s.heap.push ("range">>>.fields #[.int lo t,.int z u,.int 1 v]),toks:=n }:=I.kept λb a e=>agi _ e
 rwa[⟨(s.heap.push ("range">>>.fields #[.int lo t,.int z u,.int 1 v])).objs.size,[(s.heap.push ("range">>>.fields #[.int lo t,.int z u,.int 1 v])).objs.size],11,H,2,c.kept (t':=n) λb a e=>agi _ e,Ez _ lo (z - lo).toNat,5,λb f=>?_,q⟩]
 ·let k:lo+ ((0:Nat):Int)* 1=lo:=by simp
  let i:(((z - lo).toNat:Nat):Int) - ((0:Nat):Int)=Builtin.Range.rangeSize lo z 1:=by rw[rangeSize_one];split <;> ext
  rw[k,i];rwa[agy _ rfl]
 ·let e:b=(s.heap.push ("range">>>.fields #[.int lo t,.int z u,.int 1 v])).objs.size:=by simpa using f
  subst e;rwa[c.pk (agp _) (c.aL.fresh (agp _))]
def Um (c:TA):TI:=λ d H R=>c d H λa b=>∃j:Int,a=[.int j]/\-(2 ^ 62)<=j/\j<2 ^ 62/\R (uZ 0 j.toNat) b
def Uo (c:TA):TI:=λ d H R=>c d H λa b=>∃i j:Int,a=[.int i,.int j]/\(-(2 ^ 62)<=i/\i<2 ^ 62/\-(2 ^ 62)<=j/\j<2 ^ 62)/\R (uZ i (j - i).toNat) b
def mU {f:TA}{c:Pos}(i:Gl X "range")(o:X.mg "range"=none)(u:PA X [e] f)(m:starEach [e] X.env=[(false,eval e X.env)]:=by rfl):PI X tg (.Call (.Name "range" p) [e] [] c) (Um f):=by
 intro a s n H R I h;rwa[Call_ (gT I i o boot_range (ahj (a9 (u c a s n H _ I h) λz y ζ=>?_) m rfl))];let⟨w,x,k,g,d⟩:=ζ;let⟨j,b,d,v,q⟩:=d;subst b
 cases g with
 |cons r l=>
  ext l;let⟨t,rfl⟩:=r;rwa[call_range_1 (zK k ∅ ∅ d v (by simpa using q))]
theorem mV {b:Expr}{l:TA}{f:Pos}(o:Gl X "range")(z:X.mg "range"=none)(A:PA X [e,b] l)(x:starEach [e,b] X.env=[(false,eval e X.env),(false,eval b X.env)]:=by rfl)(d:starEach [b] X.env=[(false,eval b X.env)]:=by rfl):
 PI X tg (.Call (.Name "range" p) [e,b] [] f) (Uo l):=by
 intro a s y H R I h;rwa[Call_ (gT I o z boot_range (ahj (a9 (A f a s y H _ I h) λG F ζ=>?_) (by rw[x,d]) (by rw[d];rfl)))];let⟨D,E,u,n,g⟩:=ζ;let⟨i,j,c,⟨g,B,v,w⟩,q⟩:=g;subst c
 cases n with
 |cons r k=>
  cases k with
  |cons m k=>
   ext k;let⟨t,rfl⟩:=r;let⟨C,rfl⟩:=m;rwa[call_range_2 (zK u g B v w q)]
def X8 (h:TI)(g:TG)(f:TS):TS:=λD a H=>h a H λJ k=>∃W:Nat->Nat->St->Hp->Prop,(∃m,W 0 m a k)/\∀i m a H,W i m a H->
 (J.stop i H/\D.nx a H)\/(J.go i H/\∃N:St->Hp->Prop,(∀ c b,N c b->∃e,e<m/\W (i+ 1) e c b)/\∀x b,J.lP i H x b->g x a b λ d j=>f { D with nx:=N,ct:=N,bk:=D.nx } d j)
noncomputable def u6 (a:Zn)(h:Heap):List (Zs×Obj):=a.filterMap λb=>(h.get? b).map λo=>(b,o)
def iw {o:Obj}(a:b∈F)(e:h.get? b\o):(b,o)∈u6 F h:=ajx.mpr ⟨b,a,by rw[e];rfl⟩
def F7 {p:Zs×Obj}(a:p∈u6 F h):p.1∈F/\h.get? p.1\p.2:=by
 let⟨b,c,e⟩:=ajx.mp a
 cases q:h.get? b with
 |none=>rw[q]at e;ext e
 |some o=>
  cbv
def Inv.pinned (I:Inv X o D H s)(d:∀b∈F,pj X o H b)(h:∀b∈F,∃a,s.heap.get? b\a/\∀v,a.data≠.cell v):Inv X (o++u6 F s.heap) D H s:=
 I.jf λp c=>(agv.mp c).elim (λz=>I.pin p (agr _ z)) λz=>by
  let⟨f,e⟩:=F7 z;let⟨i,f1,g,_⟩:=d p.1 f
  cbv
def Inv.ug {pl:List (Zs×Obj)}(I:Inv X (o++pl) D H s):Inv X o D H s:=I.jf λp a=>I.pin p (agr _ (agJ _ a))
theorem cS {iter:Expr}{body:List Stmt}{S:TI}{g:TG}{Z:TS}(F:PassesOwn (model X.prog X.w) X.A X.env X.xe)(Y:X.calm=true)(hi:PI X tg iter S)(hg:PG X tg g)(k:iI X body Z)
 (hs:∀x,foldedSetIterable iter X.env x=pure x:=by intro _;rfl):PS X (.For tg iter body [] p) (X8 S g Z):=by
 intro c s σ H D I h;rwa[wpAny_For (a9 (hi c s σ H _ I h) λv s1 h1=>a9 h1 λitv s2 h2=>?_) hs];let⟨it,B,tn,J,H2,e,I2,T,P,V,W,⟨m0,w0⟩,turn⟩:=h2;subst e
 let stat:∀{w:Hp},(∀b∈B,w b=none)->∀b∈B,pj X c w b:=λhn b k=>⟨hn b k,(V b k).2⟩
 rwa[codeAny_forLoop_any (λn s'=>∃i t w,Inv X c t w s'/\tn i s'.heap/\(∀b∈B,w b=none)/\W i n t w) ?_ m0 ⟨(0),σ,H2,I2,P,λb k=>(V b k).1,w0⟩];rintro n s3 ⟨i,j,G,I3,C,E,w3⟩;rcases turn i n j G w3 with ⟨stop,qn⟩|⟨go,N,hN,step⟩
 ·rwa[aiD F (a9 (T.done X rfl rfl rfl Y i c s3 j G X.xe I3 (stat E) C stop) λr s4 ζ=>?_)];let⟨Q,I4⟩:=ζ;subst Q;rwa[aiC ⟨j,G,I4,qn⟩]
 ·rwa[aiD F (a9 (T.item X rfl rfl rfl Y i c s3 j G X.xe I3 (stat E) C go) λr s4 ζ=>?_)];let⟨u,Q,h4⟩:=ζ;subst Q;rwa[aiD F (a9 h4 λ_ s5 ζ=>?_)];let⟨x,U,I5,r5,y5,z,M⟩:=ζ;let R:=I5.pinned (stat M) (T.obj^z);rwa[aiD F (a9 (hg _ s5 j U x u _ R r5 (step x U y5)) λ_ s6 ζ=>?_)];let⟨O,H6,I6,q6⟩:=ζ;rwa[aiD F (a9 (k _ s6 O H6 _ I6 q6) λf L y=>?_)]
  let again:∀{a:St} {l:Hp},Inv X (c++u6 B s5.heap) a l L->N a l->∃m,m<n/\∃i t w,Inv X c t w L/\tn i L.heap/\(∀b∈B,w b=none)/\W i m t w:=λ{a l} q A=>by
   let⟨m',hm,w7⟩:=hN a l A;rwa[⟨m',hm,i+ 1,a,l,q.ug,T.keep _ _ _ z λb k o e=>(q.pin (b,o) (agr _ (agr _ (iw k e)))).1,λb k=>?_,w7⟩];let⟨o,e,d⟩:=T.obj _ _ z b k;rwa[(q.pin (b,o) (agr _ (agr _ (iw k e)))).2.1]
  cases f with
  |next=>let⟨a,l,q,A⟩:=y;rwa[again q A]
  |cont=>let⟨a,l,q,A⟩:=y;rwa[again q A]
  |brk=>let⟨a,l,q,y⟩:=y;rwa[a,l,q.ug,y]
  |ret v=>let⟨x7,a,l,q,r7,y⟩:=y;rwa[x7,a,l,q.ug,r7,y]
end
theorem eP {xs:Zb}{g:TG}{k:TS}(b:Nat->St->Hp->Prop)(o:b 0 D H)(r:∀i D H,i<=⇑xs->b i D H->aF K H a xs)
 (s:∀i x D H,xs[i]?\x->b i D H->g x D H λ d j=>k { G with nx:=b (i+ 1),ct:=b (i+ 1),bk:=G.nx } d j) (n:∀ D H,b ⇑xs D H->G.nx D H):
 ∃W:Nat->Nat->St->Hp->Prop,(∃m,W 0 m D H)/\∀i m D H,W i m D H->
  ((x6 K a).stop i H/\G.nx D H)\/((x6 K a).go i H/\∃N:St->Hp->Prop,(∀ c f,N c f->∃l,l<m/\W (i+ 1) l c f)/\∀x f,(x6 K a).lP i H x f->g x D f λ d j=>k { G with nx:=N,ct:=N,bk:=G.nx } d j):=by
 erw[λi m D H=>m=⇑xs - i/\i<=⇑xs/\b i D H,⟨⇑xs,by simp,agP _,o⟩];rintro i m D H ⟨rfl,t,p⟩;let q:=r i D H t p;by_cases h:i<⇑xs
 ·rwa[.inr ⟨⟨xs,xs[i],q,by simp[h]⟩,b (i+ 1),λ c f u=>⟨⇑xs - (i+ 1),32,h,u⟩,λx f y=>?_⟩];let⟨e,y⟩:=y;subst e;rwa[s i x D _ (y xs q) p]
 ·let e:i=⇑xs:=∅
  subst e;rwa[.inl ⟨⟨xs,q,agp _⟩,n D H p⟩]
theorem C4 {xs:Zb}{g:TG}{k:TS}(b:Nat->St->Hp->Prop)(o:b 0 D H)(r:∀i D H,i<=⇑xs->b i D H->bA K H a xs)
 (s:∀i x D H,xs[i]?\x->b i D H->g x D H λ d j=>k { G with nx:=b (i+ 1),ct:=b (i+ 1),bk:=G.nx } d j) (n:∀ D H,b ⇑xs D H->G.nx D H):
 ∃W:Nat->Nat->St->Hp->Prop,(∃m,W 0 m D H)/\∀i m D H,W i m D H->
  ((x8 K a).stop i H/\G.nx D H)\/((x8 K a).go i H/\∃N:St->Hp->Prop,(∀ c f,N c f->∃l,l<m/\W (i+ 1) l c f)/\∀x f,(x8 K a).lP i H x f->g x D f λ d j=>k { G with nx:=N,ct:=N,bk:=G.nx } d j):=by
 erw[λi m D H=>m=⇑xs - i/\i<=⇑xs/\b i D H,⟨⇑xs,by simp,agP _,o⟩];rintro i m D H ⟨rfl,t,p⟩;let q:=r i D H t p;by_cases h:i<⇑xs
 ·rwa[.inr ⟨⟨xs,xs[i],q,by simp[h]⟩,b (i+ 1),λ c f u=>⟨⇑xs - (i+ 1),32,h,u⟩,λx f y=>?_⟩];let⟨e,y⟩:=y;subst e;rwa[s i x D _ (y xs q) p]
 ·let e:i=⇑xs:=∅
  subst e;rwa[.inl ⟨⟨xs,q,agp _⟩,n D H p⟩]
theorem mW {lo:Int}{g:TG}{j:TS}(b:Nat->St->Hp->Prop)(o:b 0 D H)
 (q:∀i D H,i<n->b i D H->g (.int (lo+ i)) D H λ d h=>j { G with nx:=b (i+ 1),ct:=b (i+ 1),bk:=G.nx } d h) (l:∀ D H,b n D H->G.nx D H):
 ∃W:Nat->Nat->St->Hp->Prop,(∃m,W 0 m D H)/\∀i m D H,W i m D H->
  ((uZ lo n).stop i H/\G.nx D H)\/((uZ lo n).go i H/\∃N:St->Hp->Prop,(∀ c f,N c f->∃k,k<m/\W (i+ 1) k c f)/\∀x f,(uZ lo n).lP i H x f->g x D f λ d h=>j { G with nx:=N,ct:=N,bk:=G.nx } d h):=by
 erw[λi m D H=>m=n - i/\i<=n/\b i D H,⟨n,by simp,agP _,o⟩];rintro i m D H ⟨rfl,t,p⟩;by_cases a:i<n
 ·rwa[.inr ⟨a,b (i+ 1),λ c f r=>⟨n - (i+ 1),32,a,r⟩,λx f y=>?_⟩];let⟨e,y⟩:=y;subst e y;rwa[q i D _ a p]
 ·let e:i=n:=∅
  subst e;rwa[.inl ⟨agp _,l D H p⟩]
abbrev R2:=V->V->Hp->VK->Prop
def gF (X:Cx)(f:Zt->Zt->Sem Zt)(r:R2):Prop:=
 ∀(a:List (Zs×Obj)) (s:Zu) (b:St) (H:Hp) (x y:V) (v u:Zt) (Q:VK),Inv X a b H s->RelV x v->RelV y u->r x y H Q->
  X⁻¹ X.A (f v u) (EP X a b Q) X.xe s
def Ph (X:Cx)(f:Zt->Sem Zt)(r:V->Hp->VK->Prop):Prop:=
 ∀(a:List (Zs×Obj)) (s:Zu) (b:St) (H:Hp) (x:V) (v:Zt) (Q:VK),Inv X a b H s->RelV x v->r x H Q->
  X⁻¹ X.A (f v) (EP X a b Q) X.xe s
def iz (X:Cx)(f:Zt)(r:Zb->Hp->VK->Prop):Prop:=
 ∀(a:List (Zs×Obj)) (s:Zu) (d:St) (H:Hp) (c:Zb) (b:Zk) (Q:VK),Inv X a d H s->Vals c b->r c H Q->
  X⁻¹ X.A (call f b) (EP X a d Q) X.xe s
noncomputable def X9 (X:Cx)(r:V->Hp->(Bool->Hp->Prop)->Prop):Prop:=
 ∀(a:List (Zs×Obj)) (s:Zu) (b:St) (H:Hp) (x:V) (v:Zt) (Q:Bool->Hp->Prop),Inv X a b H s->RelV x v->r x H Q->
  X⁻¹ X.A (truthy v) (TP X a b Q) X.xe s
def K7 (r:R2)(e b:TE):TE:=λ a H Q=>e a H λx d=>b a d λy c=>r x y c Q
def tUn (r:V->Hp->VK->Prop)(b:TE):TE:=λ c H Q=>b c H λx a=>r x a Q
inductive rI (C:Int->Int->Prop) (g:Int->Int->V) (x:V) (y:V) (H:Hp) (Q:VK):Prop
 |mk (i j:Int):x=.int i->y=.int j->C i j->Q (g i j) H->rI C g x y H Q
inductive u9 (g:Int->Int->V) (x:V) (y:V) (H:Hp) (Q:VK):Prop
 |mk (i j:Int):x=.int i->y=.int j->Q (g i j) H->u9 g x y H Q
inductive rU (g:Int->V) (x:V) (H:Hp) (Q:VK):Prop
 |mk (i:Int):x=.int i->Q (g i) H->rU g x H Q
section
variable {X:Cx}{a b:Expr}{ta tb:TE}{pos:Pos}
theorem IZ (z:PE X a ta)(n:PE X b tb){d:List (Zs×Obj)}{s:Zu}{e:St}{H:Hp}{R:V->V->Hp->Prop}(I:Inv X d e H s)
 (h:ta e H λx l=>tb e l λy g=>R x y g) {Q:Zt->Zu->Prop} {f:Zt->Zt->Sem Zt}
 (r:∀v u k x y g,Inv X d e g k->RelV x v->RelV y u->R x y g->X⁻¹ X.A (f v u) Q X.xe k):
 X⁻¹ X.A (eval a X.env) (λv j=>X⁻¹ X.A (eval b X.env) (λu i=>X⁻¹ X.A (f v u) Q X.xe i) X.xe j) X.xe s:=by
 rwa[a9 (z d s e H _ I h) λv t ζ=>?_];let⟨x,l,o,m,p⟩:=ζ
 rwa[a9 (n d t e l _ o p) λu k ζ=>?_];let⟨y,g,q,w,A⟩:=ζ
 rwa[r v u k x y g q m w A]
def aO {e:Operator}{r:R2}(j:gF X (binaryOp e) r)(o:PE X a ta)(f:PE X b tb):PE X (.BinOp a e b pos) (K7 r ta tb):=by
 intro d s m H Q I h;rwa[wpAny_BinOp (IZ o f I h λv u g x y n i k l q=>j d g m n x y v u Q i k l q)]
def fy {e:UnaryOp}{r:V->Hp->VK->Prop}(g:Ph X (unaryOp e) r)(i:PE X a ta):PE X (.UnaryOp e a pos) (tUn r ta):=by
 intro d s f H Q I h;rwa[UnaryOp_ (a9 (i d s f H _ I h) λv m ζ=>?_)];let⟨x,j,n,k,l⟩:=ζ;rwa[g d m f j x v Q n k l]
theorem Pj {f:Zt->Zt->Sem Zt}{C:Int->Int->Prop}{g:Int->Int->Int}
 (rule:∀(i j:Int) (t u:Tok) (s:Zu) (Q:Zt->Zu->Prop) (E:Zt->Zu->Prop),C i j->Q (.int (g i j) s.toks) { s with toks:=s.toks+ 1 }->X⁻¹ X.A (f (.int i t) (.int j u)) Q E s):
 gF X f (rI C λi j=>.int (g i j)):=by
 intro d s n H x y v u Q I k l h;let⟨i,j,rfl,rfl,m,q⟩:=h;let⟨t,rfl⟩:=k;let⟨e,rfl⟩:=l;rwa[rule i j t e s _ _ m ⟨.int (g i j),H,I.tok _,⟨12⟩,q⟩]
theorem Pk {f:Zt->Zt->Sem Zt}{g:Int->Int->Int}
 (rule:∀(i j:Int) (t u:Tok) (s:Zu) (Q:Zt->Zu->Prop) (E:Zt->Zu->Prop),Q (.int (g i j) s.toks) { s with toks:=s.toks+ 1 }->X⁻¹ X.A (f (.int i t) (.int j u)) Q E s):
 gF X f (u9 λi j=>.int (g i j)):=by
 intro d s m H x y v u Q I k l h;let⟨i,j,rfl,rfl,q⟩:=h;let⟨t,rfl⟩:=k;let⟨e,rfl⟩:=l;rwa[rule i j t e s _ _ ⟨.int (g i j),H,I.tok _,⟨12⟩,q⟩]
theorem EA {f:Zt->Zt->Sem Zt}{g:Int->Int->Bool}
 (rule:∀(i j:Int) (t u:Tok) (s:Zu) (Q:Zt->Zu->Prop) (E:Zt->Zu->Prop),Q (.bool (g i j)) s->X⁻¹ X.A (f (.int i t) (.int j u)) Q E s):
 gF X f (u9 λi j=>.bl (g i j)):=by
 intro d s m H x y v u Q I k l h;let⟨i,j,rfl,rfl,q⟩:=h;let⟨t,rfl⟩:=k;let⟨e,rfl⟩:=l;rwa[rule i j t e s _ _ ⟨.bl (g i j),H,I,2,q⟩]
def Ya (i j:Int):Prop:=0<j/\j<1073741824
def I0 (i j:Int):Prop:=(-(2 ^ 64)<i/\i<2 ^ 64)\/(-(2 ^ 64)<j/\j<2 ^ 64)
def I0.ok (h:I0 z y):IntMulOk z y:=by
 rcases h with ⟨e,d⟩|⟨e,d⟩
 ·rwa[.of_left (intBits_le_64 e d)]
 ·rwa[.of_right (intBits_le_64 e d)]
def dg:gF X (binaryOp .Add) (u9 λi j=>.int (i+ j)):=Pk λ_ _ _ _ _ _ _ q=>add_int q
def gW:gF X (binaryOp .Sub) (u9 λi j=>.int (i - j)):=Pk λ_ _ _ _ _ _ _ q=>sub_int q
def kx:gF X (binaryOp .Mult) (rI I0 λi j=>.int (i* j)):=Pj λ_ _ _ _ _ _ _ d q=>mul_int q d.ok
def dC:gF X (binaryOp .FloorDiv) (rI Ya λi j=>.int (i / j)):=Pj λi j _ _ _ _ _ d q=>by
 let f:(0:Int)<j:=d.1;let e:j<1073741824:=d.2;rwa[floordiv_int ∅ ([Int.fdiv_eq_ediv_of_nonneg i ∅]▸q) (.inl (PyProof.noPylong_small ∅))]
def bX:gF X (binaryOp .Mod) (rI (λ_ j=>0<j) λi j=>.int (i % j)):=Pj λi j _ _ _ _ _ d q=>by
 rwa[mod_int' ∅ ([Int.fmod_eq_emod_of_nonneg i ∅]▸q)]
theorem unI {f:Zt->Sem Zt}{g:Int->Int}
 (rule:∀(i:Int) (t:Tok) (s:Zu) (Q:Zt->Zu->Prop) (E:Zt->Zu->Prop),Q (.int (g i) s.toks) { s with toks:=s.toks+ 1 }->X⁻¹ X.A (f (.int i t)) Q E s):
 Ph X f (rU λi=>.int (g i)):=by
 intro d s j H x v Q I e h;let⟨i,rfl,q⟩:=h;let⟨t,rfl⟩:=e;rwa[rule i t s _ _ ⟨.int (g i),H,I.tok _,⟨12⟩,q⟩]
def dO:Ph X (unaryOp .USub) (rU λi=>.int (-i)):=unI λ_ _ _ _ _ q=>neg_int q
end
noncomputable def I7:V->V->Bool
 |.non,.non=>true|.non,.int _=>true|.int _,.non=>true|.non,.bl _=>true|.bl _,.non=>true|.non,.str _=>true|.str _,.non=>true
 |.int _,.int _=>true|.bl _,.bl _=>true|.str _,.str _=>true|.mS _,.mS _=>true
 |.int _,.str _=>true|.str _,.int _=>true|.bl _,.str _=>true|.str _,.bl _=>true
 |_,_=>false
inductive Vz (x:V) (y:V) (H:Hp) (Q:VK):Prop
 |mk:I7 x y=true->Q (.bl (decide (x=y))) H->Vz x y H Q
inductive VA (x:V) (y:V) (H:Hp) (Q:VK):Prop
 |mk:I7 x y=true->Q (.bl (!decide (x=y))) H->VA x y H Q
def C5:decide (V.int z=V.int y)=(z==y):=by
 rw[ahK];simp
def F8 {i j:Bool}:decide (V.bl i=V.bl j)=(i==j):=by
 rw[ahK];simp
def C6:decide (V.str x=V.str f)=(x==f):=by
 rw[ahK];simp
def C7 {i j:Array UInt8}:decide (V.mS i=V.mS j)=(i.toList==j.toList):=by
 rw[ahK];ext i;ext j;simp
section
variable {X:Cx}{a b:Expr}{ta tb:TE}{pos:Pos}
def bT {Q:VK}{k d:Bool}(I:Inv X o D H s)(q:Q (.bl k) H)(e:k=d):EP X o D Q (.bool d) s:=by
 subst e;rwa[.bl k,H,I,2,q]
def eB:gF X (compareOp .Eq) Vz:=by
 intro k s l H x y v u Q I g d h;let⟨f,q⟩:=h
 cases x with
 |non=>
  ext g
  cases y with
  |non=>ext d;rwa[PySem.EqNone.eq_none_none (bT I q (by simp))]
  |bl j=>ext d;rwa[PySem.EqNone.eq_none_bool (bT I q (by simp))]
  |int j=>let⟨e,rfl⟩:=d;rwa[PySem.EqNone.eq_none_int (bT I q (by simp))]
  |str j=>let⟨e,rfl⟩:=d;rwa[PySem.EqNone.eq_none_str (bT I q (by simp))]
  |_=>exact absurd (show false=true from f) ag0
 |bl i=>
  ext g
  cases y with
  |non=>ext d;rwa[PySem.EqNone.eq_bool_none (bT I q (by simp))]
  |bl j=>ext d;rwa[eq_bool (bT I q F8)]
  |str j=>let⟨e,rfl⟩:=d;rwa[PySem.EqMixed.eq_bool_str (bT I q (by simp))]
  |_=>exact absurd (show false=true from f) ag0
 |int i=>
  let⟨t,rfl⟩:=g
  cases y with
  |non=>ext d;rwa[PySem.EqNone.eq_int_none (bT I q (by simp))]
  |int j=>let⟨e,rfl⟩:=d;rwa[eq_int (bT I q C5)]
  |str j=>let⟨e,rfl⟩:=d;rwa[PySem.EqMixed.eq_int_str (bT I q (by simp))]
  |_=>exact absurd (show false=true from f) ag0
 |str i=>
  let⟨t,rfl⟩:=g
  cases y with
  |non=>ext d;rwa[PySem.EqNone.eq_str_none (bT I q (by simp))]
  |bl j=>ext d;rwa[PySem.EqMixed.eq_str_bool (bT I q (by simp))]
  |int j=>let⟨e,rfl⟩:=d;rwa[PySem.EqMixed.eq_str_int (bT I q (by simp))]
  |str j=>let⟨e,rfl⟩:=d;rwa[eq_str (bT I q C6)]
  |_=>exact absurd (show false=true from f) ag0
 |mS i=>
  let⟨t,rfl⟩:=g
  cases y with
  |mS j=>let⟨e,rfl⟩:=d;rwa[PySem.W.eq_bytes (bT I q C7)]
  |_=>exact absurd (show false=true from f) ag0
 |_=>cases y <;> rwa[absurd (show false=true from f) ag0]
def jB:gF X (compareOp .NotEq) VA:=by
 intro k s l H x y v u Q I g d h;let⟨f,q⟩:=h
 cases x with
 |non=>
  ext g
  cases y with
  |non=>ext d;rwa[PySem.EqNone.ne_none_none (bT I q (by simp))]
  |bl j=>ext d;rwa[PySem.EqNone.ne_none_bool (bT I q (by simp))]
  |int j=>let⟨e,rfl⟩:=d;rwa[PySem.EqNone.ne_none_int (bT I q (by simp))]
  |str j=>let⟨e,rfl⟩:=d;rwa[PySem.EqNone.ne_none_str (bT I q (by simp))]
  |_=>exact absurd (show false=true from f) ag0
 |bl i=>
  ext g
  cases y with
  |non=>ext d;rwa[PySem.EqNone.ne_bool_none (bT I q (by simp))]
  |bl j=>ext d;rwa[ne_bool (bT I q (ahF not F8))]
  |str j=>let⟨e,rfl⟩:=d;rwa[PySem.EqMixed.ne_bool_str (bT I q (by simp))]
  |_=>exact absurd (show false=true from f) ag0
 |int i=>
  let⟨t,rfl⟩:=g
  cases y with
  |non=>ext d;rwa[PySem.EqNone.ne_int_none (bT I q (by simp))]
  |int j=>let⟨e,rfl⟩:=d;rwa[ne_int (bT I q (ahF not C5))]
  |str j=>let⟨e,rfl⟩:=d;rwa[PySem.EqMixed.ne_int_str (bT I q (by simp))]
  |_=>exact absurd (show false=true from f) ag0
 |str i=>
  let⟨t,rfl⟩:=g
  cases y with
  |non=>ext d;rwa[PySem.EqNone.ne_str_none (bT I q (by simp))]
  |bl j=>ext d;rwa[PySem.EqMixed.ne_str_bool (bT I q (by simp))]
  |int j=>let⟨e,rfl⟩:=d;rwa[PySem.EqMixed.ne_str_int (bT I q (by simp))]
  |str j=>let⟨e,rfl⟩:=d;rwa[ne_str (bT I q (ahF not C6))]
  |_=>exact absurd (show false=true from f) ag0
 |mS i=>
  let⟨t,rfl⟩:=g
  cases y with
  |mS j=>let⟨e,rfl⟩:=d;rwa[PySem.W.ne_bytes (bT I q (ahF not C7))]
  |_=>exact absurd (show false=true from f) ag0
 |_=>cases y <;> rwa[absurd (show false=true from f) ag0]
def sE:gF X (compareOp .Lt) (u9 λi j=>.bl (decide (i<j))):=EA λ_ _ _ _ _ _ _ q=>lt_int q
def Uq:gF X (compareOp .LtE) (u9 λi j=>.bl (decide (i<=j))):=EA λ_ _ _ _ _ _ _ q=>le_int q
def va:gF X (compareOp .Gt) (u9 λi j=>.bl (decide (j<i))):=EA λ_ _ _ _ _ _ _ q=>gt_int q
def Ur:gF X (compareOp .GtE) (u9 λi j=>.bl (decide (j<=i))):=EA λ_ _ _ _ _ _ _ q=>ge_int q
def nU:gF X (compareOp .Is) (λx y H Q=>y=.non/\Q (.bl (decide (x=.non))) H):=by
 intro d s g H x y v u Q I e f h;let⟨rfl,q⟩:=h;ext f;rwa[is_none_gen (bT I q ?_)]
 cases x <;> first
  |(ext e;rfl)
  |(let⟨t,rfl⟩:=e;rfl)
noncomputable def lL:gF X (compareOp .IsNot) (λx y H Q=>y=.non/\Q (.bl (!decide (x=.non))) H):=by
 intro d s g H x y v u Q I e f h;let⟨rfl,q⟩:=h;ext f;rwa[isnot_none_gen (bT I q ?_)]
 cases x <;> first
  |(ext e;rfl)
  |(let⟨t,rfl⟩:=e;rfl)
def bf (b:Expr){d:CmpOp}(h:d≠.In:=by decide)(g:d≠.NotIn:=by decide):behindInMarks d b=false:=by
 let e:(d==CmpOp.In)=false:=by cbv
 let f:(d==CmpOp.NotIn)=false:=by cbv
 cases b <;> simp[behindInMarks,e,f]
def wU {e:CmpOp}{r:R2}(j:gF X (compareOp e) r)(p:PE X a ta)(f:PE X b tb)(n:behindInMarks e b=false):PE X (.Compare a [e] [b] pos) (K7 r ta tb):=by
 intro d s m H Q I h;rwa[wpAny_Compare1 (IZ p f I h λv u g x y o i k l q=>j d g m o x y v u Q i k l q) n]
inductive Pl (x:V) (H:Hp) (Q:Bool->Hp->Prop):Prop
 |mk (k:Bool):x=.bl k->Q k H->Pl x H Q
def Us (t:TE):TT:=λ e H Q=>t e H λx d=>Pl x d Q
def aX {g:CmpOp}{r:R2}(A:gF X (compareOp g) r)(G:PE X a ta)(l:PE X b tb)(E:behindInMarks g b=false):PT X (.Compare a [g] [b] pos) (Us (K7 r ta tb)):=by
 intro d s f H Q I h
 rwa[wpAny_isTrue_Compare1 (a9 (G d s f H _ I h) λv C ζ=>?_) E];let⟨x,B,m,j,q⟩:=ζ;rwa[a9 (l d C f B _ m q) λu p ζ=>?_];let⟨y,F,w,D,J⟩:=ζ;rwa[ a9 (A d p f F x y v u _ w j D J) λc L ζ=>?_];let⟨z,n,o,i,k,e,t⟩:=ζ
 subst e;ext i;rwa[aiB ⟨n,o,t⟩]
def Pn (K:Za1)(x:V)(H:Hp)(k:Bool):Prop:=
 match x with
 |.non=>k=false
 |.bl b=>k=b
 |.int i=>k=(i !=0)
 |.str y=>⇑y<=sizeLine/\k=((⇑y:Int) !=0)
 |.mS y=>y.size<=sizeLine/\k=((y.size:Int) !=0)
 |.ref p=>(∃xs,aF K H p xs/\k=!xs.isEmpty)\/(∃xs,bA K H p xs/\k=!xs.isEmpty)\/∃d,H p\.dK d/\k=!d.isEmpty
 |_=>False
def EB {f:Type}{d:List (f×V)}{e:List (f×Zt)}(r:KV d e):(!e.isEmpty)=!d.isEmpty:=by
 cases r <;> rfl
def vd {xs:Zb}(r:Vals xs N):(!N.toArray.isEmpty)=!xs.isEmpty:=by
 cases r <;> simp
def qH:(sizeLine:Nat)<2 ^ 63:=⋯
def Pp:X9 X (λx H Q=>∃k,Pn X.K x H k/\Q k H):=by
 intro u s C H x v Q I g h;let⟨k,e,q⟩:=h;let A:=qH;let B:sizeLine=16777216:=sizeLine_eq
 cases x with
 |non=>
  ext g;let d:k=false:=e;subst d;rwa[truthy_none ⟨H,I,q⟩]
 |bl b=>
  ext g;let d:k=b:=e;subst d;rwa[aiB ⟨H,I,q⟩]
 |int i=>
  let⟨t,rfl⟩:=g;let d:k=(i !=0):=e;subst d;rwa[PySem.P.truthy_int ⟨H,I,q⟩]
 |str y=>
  let⟨t,rfl⟩:=g;obtain⟨w,d⟩:⇑y<=sizeLine/\k=((⇑y:Int) !=0):=e;subst d;rwa[PySem.P.truthy_str ∅ ⟨H,I.tok _,q⟩]
 |mS y=>
  let⟨t,rfl⟩:=g;obtain⟨w,d⟩:y.size<=sizeLine/\k=((y.size:Int) !=0):=e;subst d;rwa[PySem.W.truthy_bytes ∅ ⟨H,I.tok _,q⟩]
 |ref p=>
  ext g;let d:(∃xs,aF X.K H p xs/\k=!xs.isEmpty)\/(∃xs,bA X.K H p xs/\k=!xs.isEmpty)\/∃f,H p\.dK f/\k=!f.isEmpty:=e;rcases d with ⟨xs,j,d⟩|⟨xs,j,d⟩|⟨f,j,d⟩
  ·subst d;let⟨n,r,pl,o⟩:=I.list j;let hlen:=⇑r;rwa[wpAny_truthy_list pl.isList (by simp only[agD];omega) ⟨H,I.tok _,[vd r]▸q⟩]
  ·subst d;let⟨n,r,pl,o⟩:=I.tuple j;let hlen:=⇑r;rwa[truthy_tuple pl (by simp only[agD];omega) ⟨H,I.tok _,[vd r]▸q⟩]
  ·subst d;obtain⟨o,z,l,r,m⟩:⇑f<=sizeLine/\(p==sysModules)=false/\∃l,KV f l/\s.heap.DictOf (bQ X.prog X.w) p l:=I.aL p _ j;let hlen:⇑f=⇑l:=Paired.length r;rwa[wpAny_truthy_dict z m ∅ ⟨H,I.tok _,[EB r]▸q⟩]
 |_=>exact(show False from e).elim
theorem zL (j:PE X a ta)(i:∀whole,isTrue a X.env whole=(do let v <-whole;standAt a.pos;holding [v] (truthy v))):
 PT X a (λ e H Q=>ta e H λx f=>∃k,Pn X.K x f k/\Q k f):=by
 intro d s e H Q I h;rwa[isTrue_plain (a9 (j d s e H _ I h) λv n ζ=>?_) (i _)];let⟨x,g,o,l,m⟩:=ζ;rwa[Pp d n e g x v Q o l m]
def vals1 {x:V}(r:Vals [x] N):∃u,N=[u]/\RelV x u:=by
 cases r with
 |cons e d=>ext d;rwa[12,e]
def vals2 {x:V}(r:Vals [x,q] N):∃u d,N=[u,d]/\RelV x u/\RelV q d:=by
 cases r with
 |cons h e=>
  cases e with
  |cons g f=>ext f;rwa[112,h,g]
def I8:iz X (.builtin "abs") (λd H Q=>∃i,d=[.int i]/\Q (.int (if i<0 then -i else i)) H):=by
 intro e s j H d f Q I r h;let⟨i,rfl,q⟩:=h;let⟨u,rfl,t,rfl⟩:=vals1 r;rwa[call_abs_int λu g=>⟨.int (if i<0 then -i else i),H,I.tok _,⟨12⟩,q⟩]
def F9 (g:X.calm=true):iz X (.builtin "max") (λe H Q=>∃i j,e=[.int i,.int j]/\Q (.int (if j > i then j else i)) H):=by
 intro f s p H e v Q I r h;let⟨i,j,rfl,q⟩:=h;let⟨u,l,rfl,⟨t,rfl⟩,⟨m,rfl⟩⟩:=vals2 r;rwa[max_two_ints (I.ok.hd g) λn o k=>⟨_,H,I.kept k,5,q⟩]
 by_cases d:j > i
 ·rw[agI d,agI d];rwa[12]
 ·rw[agF d,agF d];rwa[12]
def Ga (g:X.calm=true):iz X (.builtin "min") (λe H Q=>∃i j,e=[.int i,.int j]/\Q (.int (if j<i then j else i)) H):=by
 intro f s p H e v Q I r h;let⟨i,j,rfl,q⟩:=h;let⟨u,l,rfl,⟨t,rfl⟩,⟨m,rfl⟩⟩:=vals2 r;rwa[min_two_ints (I.ok.hd g) λn o k=>⟨_,H,I.kept k,5,q⟩]
 by_cases d:j<i
 ·rw[agI d,agI d];rwa[12]
 ·rw[agF d,agF d];rwa[12]
end
structure uh (h:Heap) (x dx C:Zs) (mA:Str->Zl):Prop where
 obj:h.get? x\(PySem.W.instObj C dx)
 ns:h.Ns1 dx mA
 ne:dx≠x
def ya (n:h.Ns1 a M):∃d,h.get? a\d/\∀name,PySem.W.lookIn name d\(M name):=by
 let⟨o,k,m,i,f,g,_,l⟩:=n;rwa[⟨o,i,λname=>?_⟩];let e:=l name;unfold nsFind findBy at e;rw[<-Array.find?_toList]at e;unfold PySem.W.lookIn;rw[f];dsimp only;split
 ·cbv
 ·rename_i q;rw[q]at e
  let b:k.toList.any (·.refKey)=false:=by
   rw[List.any_eq_false];intro y j;let⟨z,t,c⟩:=g y (Array.mem_toList_iff.mp j);simp[DictEntry.refKey,c]
  cbv
def uh.look {x dx:Zs}(I:uh h x dx a M):∃b,PySem.W.InstAt h x (PySem.W.instObj a dx) a (some b)/\∀name,PySem.W.lookIn name b\(M name):=
 let ⟨b,c,d⟩:=ya I.ns
 ⟨b,⟨I.obj,22,c⟩,d⟩
section
variable {prog:Program}{w:World}{A:Around}{E:Zt->Zu->Prop}{s:Zu}{K:Za1}{x dx C f:Zs}{mA:Str->Zl}{name:Str}{v:Zt}
theorem get_map {expr:Bool}(X:K.In s.heap)(I:uh s.heap x dx C mA)(g:PySem.W.plainGet K C name=true)(d:PySem.W.hasDictIn K C=true)
 (c:PySem.W.findIn K ↑C name\none) (b:mA name\v) (a:PySem.W.handedIn v=true) (h:Q v { s with toks:=s.toks+ 1 }):
 (prog<|>w) A (getAttr ↑x name expr) Q E s:=by
 let⟨i,J,e⟩:=I.look;rwa[PySem.W.get_value X J (PySem.W.plainGet_of g).1 (PySem.W.findObj_own d c rfl (by rw[e,b])) a h]
theorem I9 {pl:Sem Bool}{Q:Zt×Zk->Zu->Prop}(X:K.In s.heap)(I:uh s.heap x dx C mA)(a:PySem.W.plainGet K C name=true)
 (b:PySem.W.findIn K ↑C name\some ↑f) (g:PySem.W.isFn K ↑f=true) (c:mA name=none) (h:Q (↑f,[↑x]) s):
 (prog<|>w) A (getMethod ↑x name pl) Q E s:=by
 let⟨d,J,e⟩:=I.look;rwa[PySem.W.method_fn X J (PySem.W.plainGet_of a).1 (PySem.W.plainGet_of a).2 b (ajq.mp g) (by show (PySem.W.lookIn name d).map (·.isSome)\false;rw[e,c];rfl) h]
theorem M6 {ns:Zp}(X:K.In s.heap)(I:uh s.heap x dx C mA)
 (t:PySem.W.findIn K ↑C "__setattr__"=some (some (.builtin "object.__setattr__"))) (o:PySem.W.plainOver K C=true) (l:PySem.W.takerIn K C name\none) (q:PySem.W.hasDictIn K C=true)
 (p:PySem.Within mA ns) (n:⇑ns<=sizeLine)
 (h:∀e,uh e x dx C (λy=>if y=name then some v else mA y)->Heap.SameBut dx s.heap e->U () { s with heap:=e,toks:=s.toks+ 2 }):
 (prog<|>w) A (setAttr ↑x name v) U E s:=by
 let⟨H,J,G⟩:=I.look;rwa[PySem.W.set_plain X J t (PySem.W.osa_open (s:={ s with toks:=s.toks+ 1 }) (r:=none) X J o l λb=>?_)];let⟨F,z,k⟩:=PySem.W.any_some q;let u:s.heap.get? x\⟨↑C,some dx,.plain,#[]⟩:=I.obj;rwa[agg (agn (agg (agg (wpAny_loadPart u (agg (PySem.W.Looks.here (s:={ s with toks:=s.toks+ 1 }) (PySem.W.looks_clsIn X z) ?_))))))];rw[k];rwa[agn (a:=some dx) (agg (agn (agg ?_)))];rwa[wpAny_nsSet1 (s:={ s with toks:=s.toks+ 1 }) I.ns λe d c=>?_]
 let⟨D,B,m,j,g,i⟩:=d.count (PySem.Within.cons name v p);rwa[agg (wpAny_lookBehind j ([g]▸pastItsLine_dict (agz i (by rw[agL];omega))) ?_)];rwa[agn (h _ ⟨(c.2 _ (ahC I.ne)).trans I.obj,d,I.ne⟩ c)]
theorem Ja {R:Result->Zu->Prop}{a:List (Str×Zt)}(X:K.In s.heap)(b:PySem.W.makesIn K C=true)
 (d:PySem.W.findIn K ↑C "__init__"=some (some ↑f)) (c:PySem.W.typeIn K ↑f\(.type "function"))
 (h:codeAny (model prog w) (A.under (.builtin "type.__call__" ⟨↑C::N,a⟩)) (.call ↑f ⟨↑(↥s+ 1)::N,a⟩) (PySem.W.InitBack (↥s+ 1) R)
  { s with heap:=(s.heap.push PySem.W.emptyDict).push (PySem.W.instObj C ↥s) }):
 codeAny (model prog w) A (.call ↑C ⟨N,a⟩) R s:=by
 rwa[PySem.W.make_core (PySem.W.makes_of X b) (PySem.W.looks_findIn X d) (λself=>PySem.W.bind_fn X self c) (.inl rfl) h]
theorem Gb {R:Result->Zu->Prop}(X:K.In s.heap)(a:PySem.W.makesIn K C=true)
 (c:PySem.W.findIn K ↑C "__init__"=some (some (.builtin "object.__init__")))
 (b:∀self,PySem.W.Looks (model prog w) s.heap (bindSpecial (.builtin "object.__init__") self) (.builtin "object.__init__",[self]))
 (h:codeAny (model prog w) (A.under (.builtin "type.__call__" ⟨[↑C],[]⟩)) (.call (.builtin "object.__init__") ⟨[↑(↥s+ 1)],[]⟩) (PySem.W.InitBack (↥s+ 1) R)
  { s with heap:=(s.heap.push PySem.W.emptyDict).push (PySem.W.instObj C ↥s) }):
 codeAny (model prog w) A (.call ↑C ⟨[],[]⟩) R s:=by
 rwa[PySem.W.make_core (PySem.W.makes_of X a) (PySem.W.looks_findIn X c) b (.inr ⟨22⟩) h]
end
noncomputable def bJ (f:Str)(v:V):List (Str×V)->List (Str×V)
 |[]=>[(f,v)]
 |(g,x)::r=>if g=f then (g,v)::r else (g,x)::bJ f v r
theorem nB (f g:Str)(v:V):∀fs:List (Str×V),(bJ f v fs).lookup g=if g=f then some v else fs.lookup g
 |[]=>by
  show List.lookup g [(f,v)]=_
  cbv
 |(k,x)::r=>by
  let a:=nB f g v r;rw[show bJ f v ((k,x)::r)=(if k=f then (k,v)::r else (k,x)::bJ f v r) from rfl]
  cbv
theorem ky (f:Str)(v:V):∀fs:List (Str×V),f∈(bJ f v fs).map (·.1)/\∀g,g∈fs.map (·.1)->g∈(bJ f v fs).map (·.1)
 |[]=>⟨by simp[bJ],λg h=>by simp at h⟩
 |(k,x)::r=>by
  let⟨a,b⟩:=ky f v r;rw[show bJ f v ((k,x)::r)=(if k=f then (k,v)::r else (k,x)::bJ f v r) from rfl]
  cbv
theorem tI (f:Str)(v:V):∀fs:List (Str×V),⇑(bJ f v fs)<=⇑fs+ 1
 |[]=>by simp[bJ]
 |(k,x)::r=>by
  let a:=tI f v r;rw[show bJ f v ((k,x)::r)=(if k=f then (k,v)::r else (k,x)::bJ f v r) from rfl]
  cbv
def eA.some_of {v:V}{o:Zl}(r:eA (some v) o):∃u,o\u/\RelV v u:=by
 cases o with
 |none=>exact(show False from r).elim
 |some u=>rwa[u,2,r]
def eA.none_of {o:Zl}(r:eA none o):o=none:=by
 cases o with
 |none=>rfl
 |some u=>exact(show False from r).elim
def yb (r:RelV q u):PySem.W.handedIn u=true:=by
 cases q with
 |non=>cases (show u=Value.none from r);rfl
 |bl b=>cases (show u=Value.bool b from r);rfl
 |int i=>let⟨t,e⟩:=(show ∃t,u=Value.int i t from r);ext e;rfl
 |str x=>let⟨t,e⟩:=(show ∃t,u=Value.str x t from r);ext e;rfl
 |mS b=>let⟨t,e⟩:=(show ∃t,u=Value.bytes b t from r);ext e;rfl
 |zF b=>let⟨t,e⟩:=(show ∃t,u=Value.float b t from r);ext e;rfl
 |ref a=>cases (show u=Value.ref a from r);rfl
 |ty n=>cases (show u=Value.type n from r);rfl
section
variable {P:Program}{w:World}{H:Hp}{h:Heap}{a C dx:Zs}{fs:List (Str×V)}
def sF (c:dz P w H h)(e:H a\.ins C dx fs):∃b,uh h a dx C b/\(∀f,eA (fs.lookup f) (b f))/\PySem.Within b (fs.map (·.1))/\⇑fs<=1000/\H dx\(.own a):=by
 let⟨d,z,ne,g,b,n,r,q⟩:=(show bY P w H h a (.ins C dx fs) from c a _ e);rwa[b,⟨g,n,ne⟩,r,q,z,d]
end
structure jS (K:Za1) (C:Zs):Prop where
 pg:PySem.W.plainGet K C Str.empty=true
 hd:PySem.W.hasDictIn K C=true
 po:PySem.W.plainOver K C=true
 sa:PySem.W.findIn K ↑C "__setattr__"=some (some (.builtin "object.__setattr__"))
def jS.get (c:jS K a)(f:Str):PySem.W.plainGet K a f=true:=c.pg
def kz (K:Za1)(C:Zs)(f:Str):Prop:=PySem.W.findIn K ↑C f\none
def kz.EC (n:kz K a f):PySem.W.takerIn K a f\none:=by
 unfold PySem.W.takerIn;rw[show PySem.W.findIn K ↑a f=some none from n];rfl
structure Con (K:Za1) (C:Zs) (f:Str) (v:V) (u:Zt):Prop where
 at_:PySem.W.findIn K ↑C f\(some u)
 rel:RelV v u
 get:PySem.W.specialIn K u "__get__"=some none
 cp:PySem.W.copiedNames.contains f=false
structure Meth (K:Za1) (C:Zs) (m:Str) (f:Zs):Prop where
 at_:PySem.W.findIn K ↑C m\(some ↑f)
 fn:PySem.W.isFn K ↑f=true
 kp:PySem.W.keepIn K ↑f=true
section
variable {X:Cx}{pins:List (Zs×Obj)}{σ:St}{H:Hp}{s:Zu}{a C dx:Zs}{fs:List (Str×V)}{f:Str}{v:V}{A:Around}{E:Zt->Zu->Prop}
theorem ED {b:Bool}(I:Inv X pins σ H s)(e:H a\.ins C dx fs)(c:jS X.K C)(n:kz X.K C f)(l:fs.lookup f\v)
 (h:∀u d,Inv X pins σ H d->RelV v u->Q u d):X⁻¹ A (getAttr ↑a f b) Q E s:=by
 let⟨j,O,r,_,_,_⟩:=sF I.aL e;let⟨u,i,g⟩:=eA.some_of (v:=v) (o:=j f) (by rw[<-l];rwa[r f]);rwa[get_map I.dk O (c.get f) c.hd n i (yb g) (h u _ (I.tok _) g)]
theorem ve {pl:Sem Bool}{Q:Zt×Zk->Zu->Prop}(I:Inv X pins σ H s)(e:H a\.ins C dx fs)(c:jS X.K C)(k:Meth X.K C x b)(l:fs.lookup x=none)
 (h:Q (↑b,[↑a]) s):X⁻¹ A (getMethod ↑a x pl) Q E s:=by
 let⟨g,O,r,_,_,_⟩:=sF I.aL e;let d:g x=none:=eA.none_of (by cbv);rwa[I9 I.dk O (c.get x) k.at_ k.fn d h]
theorem EE (I:Inv X pins σ H s)(e:H a\.ins C dx fs)(c:jS X.K C)(n:kz X.K C f)(J:⇑fs<1000)(D:RelV q u)
 (h:∀j,Inv X pins σ (upd H a (.ins C dx (bJ f q fs))) j->U () j):X⁻¹ A (setAttr ↑a f u) U E s:=by
 let⟨F,O,r,k,_,l⟩:=sF I.aL e;let B:⇑(fs.map (·.1))<=sizeLine:=by rw[agm,sizeLine_eq];ext
 rwa[M6 I.dk O c.sa c.po n.EC c.hd k B λw i G=>h _ ?_]
 let m:∃o,w.get? dx\o:=let ⟨o,_,_,y,_⟩:=i.ns;⟨o,y⟩
 rwa[I.write (x:=a) (e:=dx) ([e]▸True.intro) (.inr l) (λb d p z=>(G.2 b p).trans z) m ?_];rwa[⟨[ak O.ne]▸l,5,O.ne,i.obj,_,i.ns,λg=>?_,λg t=>?_⟩]
 ·have:=tI f q fs;ext
 ·show eA ((bJ f q fs).lookup g) (if g=f then some u else F g);rw[nB];by_cases d:g=f
  ·rw[agI d,agI d];rwa[D]
  cbv
 ·by_cases d:g=f
  ·rw[d];rwa[(ky f q fs).1]
  ·rwa[(ky f q fs).2 g (k g λz=>t ?_)]
   cbv
theorem Inv.made (I:Inv X pins σ H s):Inv X pins σ (upd (upd H ↥s (.own (↥s+ 1))) (↥s+ 1) (.ins C ↥s []))
 { s with heap:=(s.heap.push PySem.W.emptyDict).push (PySem.W.instObj C ↥s) }:=by
 let c:(s.heap.push PySem.W.emptyDict).get? ↥s\PySem.W.emptyDict:=agy s.heap rfl
 let k:((s.heap.push PySem.W.emptyDict).push (PySem.W.instObj C ↥s)).get? (↥s+ 1)\(PySem.W.instObj C ↥s):=by
  have:=agy (s.heap.push PySem.W.emptyDict) (o:=PySem.W.instObj C ↥s) rfl
  rwa [ah5]at this
 let d:(s.heap.push PySem.W.emptyDict).Ns ↥s (λ_=>none):=⟨PySem.W.emptyDict,#[],_,c,2,(λe g=>absurd g (by simp)),λ_=>rfl⟩;let j:=I.laid (a:=↥s) (o:=.own (↥s+ 1)) (h':=s.heap.push PySem.W.emptyDict) (t':=s.toks) (λb u q=>agi _ q) (agp _) ⟨_,c⟩;rwa[j.laid (a:=↥s+ 1) (o:=.ins C ↥s []) (t':=s.toks) (λb u q=>agi _ q) (ajr (ah5 _ _)) ?_];let ne:↥s≠↥s+ 1:=agO (ahE _);rwa[⟨by rw[ak ne,ah],agP _,ne,k,λ_=>none,(Heap.Ns1.of_empty d).at λo q=>agi _ q,λ_=>True.intro,λy h=>absurd rfl h⟩]
theorem C8 {env:Env}{f:Str}{s:Zu}(c:attributeBase e f env (eval e env)=eval e env)
 (h:(P<|>w) A (eval e env) (λo b=>(P<|>w) A (getAttr o f true) Q E b) E s):(P<|>w) A (eval (.Attribute e f p) env) Q E s:=
 Attribute_any_ h (by rw[arm_eval_Attribute,c])
end
inductive Pq (K:Za1) (f:Str) (x:V) (H:Hp) (Q:VK):Prop
 |mk (a C dx:Zs) (fs:List (Str×V)) (v:V):x=↑a->H a\.ins C dx fs->jS K C->kz K C f->fs.lookup f\v->Q v H->Pq K f x H Q
def Pu (K:Za1)(b:TE)(f:Str):TE:=λ c H Q=>b c H λx a=>Pq K f x a Q
inductive Pw (K:Za1) (f:Str) (y x:V) (H:Hp) (N:Hp->Prop):Prop
 |mk (a C dx:Zs) (fs:List (Str×V)):x=↑a->H a\.ins C dx fs->jS K C->kz K C f->⇑fs<1000->N (upd H a (.ins C dx (bJ f y fs)))->Pw K f y x H N
def Yb (K:Za1)(e b:TE)(f:Str):TS:=λD a H=>b a H λy d=>e a d λx c=>Pw K f y x c (D.nx a)
section
variable {X:Cx}{o e value:Expr}{f:Str}{pos pos':Pos}{ta tv:TE}
def aH (p:PE X e ta)(d:attributeBase e f X.env (eval e X.env)=eval e X.env):PE X (.Attribute e f pos) (Pu X.K ta f):=by
 intro b s m H Q I h;rwa[C8 d (a9 (p b s m H _ I h) λu z ζ=>?_)];let⟨x,j,g,k,a,C,A,fs,v,ex,t,c,n,l,q⟩:=ζ;subst ex;obtain rfl:u=Value.ref a:=k;rwa[ED g t c n l λy w i r=>⟨v,j,i,r,q⟩]
def b8 (z:PE X o ta)(w:PE X value tv)(r:swapsWith value (some (.Attribute o f pos')) pos.line X.env=pure false):PS X (.Assign [.Attribute o f pos'] value pos) (Yb X.K ta tv f):=by
 intro b s d H D I h;rwa[plainObj_wpAny_Assign_Attribute (a9 (w b s d H _ I h) λu m ζ=>?_) r];let⟨y,k,g,t,q⟩:=ζ;rwa[a9 (z b m d k _ g q) λp E ζ=>?_];let⟨x,F,j,v,a,C,J,fs,ex,A,c,n,l,B⟩:=ζ;subst ex;obtain rfl:p=Value.ref a:=v;rwa[EE j A c n l t λG i=>⟨d,_,i,B⟩]
inductive Yd (x:V) (y:V) (H:Hp) (Q:VK):Prop
 |mk (i j:Int):x=.int i->y=.int j->Q (.int (i+ j)) H->Yd x y H Q
inductive Ye (x:V) (y:V) (H:Hp) (Q:VK):Prop
 |mk (i j:Int):x=.int i->y=.int j->Q (.int (i - j)) H->Ye x y H Q
end
section
variable {X:Cx}{pins:List (Zs×Obj)}{σ:St}{H:Hp}{s:Zu}{A:Around}{E:Zt->Zu->Prop}{Q:Zt->Zu->Prop}{c:Zt}{b:Bool}
inductive jC (K:Za1) (H:Hp):V->Zt->Prop where
 |non:jC K H .non (.type "NoneType")
 |bl (x:Bool):jC K H (.bl x) (.type "bool")
 |int (i:Int):jC K H (.int i) (.type "int")
 |str (x:Str):jC K H (.str x) (.type "str")
 |zF (x:UInt64):jC K H (.zF x) (.type "float")
 |lst {a:Zs} {xs:Zb} (e:H a\.lst xs):jC K H ↑a (.type "list")
 |cR {a:Zs} {o:Obj} {xs:Zb} (e:H a\.cR o (.lst xs)):jC K H ↑a (.type "list")
 |tup {a:Zs} {xs:Zb} (e:H a\.tup xs):jC K H ↑a (.type "tuple")
 |dK {a:Zs} {kvs:List (Key×V)} (e:H a\.dK kvs):jC K H ↑a (.type "dict")
 |dT {a:Zs} {kvs:List (Zd×V)} (e:H a\.dT kvs):jC K H ↑a (.type "dict")
 |ins {a C dx:Zs} {fs:List (Str×V)} (e:H a\.ins C dx fs) (cl:jS K C) (ha:PySem.W.findIn K ↑C "__class__"=some (some (.builtin "object.__class__")))
  (hn:PySem.W.specialIn K (.builtin "object.__class__") "__get__"=some (some (.builtin "getset_descriptor.__get__"))) (htk:PySem.W.takesIn K (.builtin "object.__class__")\true)
  (hm:PySem.W.mroIn K C (.type "object")\true):jC K H ↑a ↑C
theorem Ge {x:V}(I:Inv X pins σ H s)(d:RelV x u)(B:jC X.K H x v)(e:PySem.W.kitOne X.K v c\b)(h:∀r,Q (.bool b) { s with toks:=r }):
 X⁻¹ A (call (.builtin "isinstance") [u,c]) Q E s:=by
 cases B with
 |non=>cases (show u=Value.none from d);rwa[ahL PySem.W.kitx_none I.dk True.intro e (λz=>nomatch z) h]
 |bl y=>cases (show u=Value.bool y from d);rwa[ahL PySem.W.kitx_bool I.dk True.intro e (λz=>nomatch z) h]
 |int i=>let⟨v,q⟩:=(show ∃v,u=Value.int i v from d);ext q;rwa[ahL PySem.W.kitx_int I.dk True.intro e (λz=>nomatch z) h]
 |str y=>let⟨v,q⟩:=(show ∃v,u=Value.str y v from d);ext q;rwa[ahL PySem.W.kitx_str I.dk True.intro e (λz=>nomatch z) h]
 |zF y=>let⟨v,q⟩:=(show ∃v,u=Value.float y v from d);ext q;rwa[ahL PySem.W.kitx_float I.dk True.intro e (λz=>nomatch z) h]
 | @lst a k f=>
   cases (show u=Value.ref a from d);let⟨_,_,n,_,g⟩:=(show bY X.prog X.w H s.heap a (.lst k) from I.aL a _ f);rwa[ahL PySem.W.kitx_list I.dk ⟨_,g,2⟩ e (λz=>nomatch z) h]
 | @cR a t k f=>
   cases (show u=Value.ref a from d);let⟨_,_,_,n,_,g⟩:=(show bY X.prog X.w H s.heap a (.cR t (.lst k)) from I.aL a _ f);rwa[ahL PySem.W.kitx_list I.dk ⟨_,g,2⟩ e (λz=>nomatch z) h]
 | @tup a k f=>
   cases (show u=Value.ref a from d);let⟨_,_,_,p⟩:=(show bY X.prog X.w H s.heap a (.tup k) from I.aL a _ f);let⟨o,g,l,_⟩:=p;rwa[ahL PySem.W.kitx_tuple I.dk ⟨o,g,l⟩ e (λz=>nomatch z) h]
 | @dK a j f=>
   cases (show u=Value.ref a from d);let⟨_,_,M,_,p⟩:=(show bY X.prog X.w H s.heap a (.dK j) from I.aL a _ f);let⟨o,w,F,g,l,_⟩:=p;rwa[ahL PySem.W.kitx_dict I.dk ⟨o,g,l.1⟩ e (λz=>nomatch z) h]
 | @dT a j f=>
   cases (show u=Value.ref a from d);let⟨_,_,k,_,o,w,F,g,l,_⟩:=(show bY X.prog X.w H s.heap a (.dT j) from I.aL a _ f);rwa[ahL PySem.W.kitx_dict I.dk ⟨o,g,l.1⟩ e (λz=>nomatch z) h]
 | @ins a C R fs f cl L D m G=>
   cases (show u=Value.ref a from d);let⟨N,O,_⟩:=sF I.aL f;let⟨P,J,_⟩:=O.look;rwa[ahL (PySem.W.kitx_own (cl.get _) cl.hd L D m G) I.dk J e (λz=>nomatch z) h]
end
structure cy (k:Nat) (A:Around):Prop where
 hd:A.handled=none
 dp:A.depth+ 3* k+ 5<recursionLimit
 un:A.units+ 16* k+ 200<cLine
def cy.mono {k:Nat}(r:cy k A)(h:j<=k):cy j A:=⟨r.hd,by have:=r.dp;ext,by have:=r.un;ext⟩
def cy.Za5 {j k:Nat}{A:Around}(r:cy k A)(h:j<=k:=by decide):cy j A:=r.mono h
def cy.deeper {k:Nat}(r:cy (k+ 1) A)(env:Env):cy k (A.deeper env):=
 ⟨r.hd,by have:=r.dp;show A.depth+ 1+ 3* k+ 5<_;ext,by have:=r.un;show A.units+ 3+ 16* k+ 200<_;ext⟩
def cy.in1 {k:Nat}(r:cy (k+ 1) A):cy k A.in1:=
 ⟨r.hd,by have:=r.dp;show A.depth+ 3* k+ 5<_;ext,by have:=r.un;show A.units+ 1+ 16* k+ 200<_;ext⟩
def EF {b:List (Str×Zt)}:(A.under (.builtin "type.__call__" ⟨↑a::N,b⟩)).depth=A.depth+ 1:=by
 first|rfl|simp[Around.under,Code.weight,Code.isCreation,Code.isGuard,Code.isCaller,Code.frames,Code.isFrame,guardIds]
def EG {b:List (Str×Zt)}:(A.under (.builtin "type.__call__" ⟨↑a::N,b⟩)).units=A.units+ 1:=by
 first|rfl|simp[Around.under,Code.cUnits,Code.frames,Code.isFrame]
def cy.make {k:Nat}(r:cy (k+ 1) A)(C:Zs)(a:Zk)(b:List (Str×Zt)):cy k (A.under (.builtin "type.__call__" ⟨↑C::a,b⟩)):=
 ⟨r.hd,by have:=r.dp;rw[EF];ext,by have:=r.un;rw[EG];ext⟩
def cy.depth {k:Nat}(r:cy k A):A.depth<recursionLimit:=by have:=r.dp;ext
def cy.units {k:Nat}(r:cy k A):A.units+ 64<cLine:=by have:=r.un;ext
def jV:TA:=λ_ H Q=>Q [] H
def jD (e:TE)(tr:TA):TA:=λ a H Q=>e a H λx c=>tr a c λd b=>Q (x::d) b
section
variable {X:Cx}{e:Expr}{es:Zr}{te:TE}{t:TA}{pos:Pos}
def aj:PA X [] jV:=λ_ _ _ _ H Q I h=>ahR ⟨[],H,I,.nil,h⟩
def ae (p:PE X e te)(j:PA X es t)(m:starEach (e::es) X.env=(false,eval e X.env)::starEach es X.env:=by rfl):PA X (e::es) (jD te t):=by
 intro pos a s b H Q I h;rw[m];rwa[ahg (a9 (p a s b H _ I h) λu l ζ=>?_)];let⟨x,i,d,c,f⟩:=ζ;rwa[a9 (j pos a l b i _ d f) λv r ζ=>?_];let⟨k,o,g,n,q⟩:=ζ;rwa[⟨x::k,o,g,.cons c n,q⟩]
inductive Px (xs:Zb) (H:Hp) (Q:VK):Prop
 |mk:⇑xs<=sizeLine->(∀p,H p=none->Q ↑p (upd H p (.tup xs)))->Px xs H Q
def Yf (t:TA):TE:=λ c H Q=>t c H λb a=>Px b a Q
inductive Py (xs:Zb) (H:Hp) (Q:VK):Prop
 |mk:⇑xs<=sizeLine->(∀p,H p=none->Q ↑p (upd H p (.lst xs)))->Py xs H Q
def Yg (t:TA):TE:=λ c H Q=>t c H λb a=>Py b a Q
def cE {l}(h:PA X es t):PE X (.Tuple es l pos) (Yf t):=by
 intro a s j H Q I f;rwa[wpAny_Tuple_spliced (a9 (h pos a s j H _ I f) λk s1 ζ=>?_)];let⟨i,d,c,r,z,q⟩:=ζ;rwa[⟨by rw[<-⇑r];rwa[z],5⟩];let g:d ↥s1=none:=c.aL.fresh (agp _);rwa[⟨↑↥s1,upd d ↥s1 (.tup i),c.laid (t':=s1.toks) (λb u e=>agi _ e) (agp _) ?_,2,q _ g⟩];rwa[z,k,r,⟨_,agy _ rfl,212⟩]
def b9 (h:PA X es t):PE X (.List es pos) (Yg t):=by
 intro a s j H Q I f;rwa[wpAny_List_spliced (a9 (h pos a s j H _ I f) λk s1 ζ=>?_)];let⟨i,d,c,r,z,q⟩:=ζ;rwa[⟨by rw[<-⇑r];rwa[z],5⟩];let g:d ↥s1=none:=c.aL.fresh (agp _);rwa[⟨↑↥s1,upd d ↥s1 (.lst i),c.laid (t':=s1.toks) (λb u e=>agi _ e) (agp _) ?_,2,q _ g⟩];rwa[z,k,(0),r,agy _ rfl]
end
abbrev Sp:=Zb->Hp->VK->XK->Prop
abbrev lg:=Zq->Hp->Zu->XK->Zt->Zu->Prop
structure lQ (P:Program) (w:World) (K:Za1) (mg:Str->Zl) (base:Heap) (A:Around) (outer:Zq) (s:Zu) (H:Hp):Prop where
 frames:A.frames\outer
 mod:Mod K mg base
 bs:∀b o,base.get? b\o->s.heap.get? b\o/\H b=none
 qG:base.objs.size<=↥s
 i5:s.heap.FunFrames base outer
 tG:∀b∈cJ outer,H b=none
 aL:dz P w H s.heap
 bare:AllBare s.gens
def CE (a:Zq)(P:Program)(w:World)(H:Hp)(s:Zu)(Q:VK)(u:Zt)(b:Zu):Prop:=
 ∃v c,b.os=s.os/\AllBare b.gens/\Un (cJ a) [] H c s.heap b.heap/\dz P w c b.heap/\RelV v u/\Q v c
def CR (c:lg)(a:Zq)(P:Program)(w:World)(H:Hp)(s:Zu)(Q:VK)(E:XK)(r:Result)(b:Zu):Prop:=
 match r with
 |.ok (.ret u)=>CE a P w H s Q u b
 |.ok _=>False
 |.error e=>c a H s E e b
structure di (P:Program) (w:World) (K:Za1) (mg:Str->Zl) (base:Heap) (CX:lg) (k:Nat) (f:Zs) (fd:FuncData) (ps:Zp) (sp:Sp):Prop where
 len:∀vs H Q E,sp vs H Q E->⇑vs=⇑ps
 run:∀(A:Around) (outer:Zq) (s:Zu) (H:Hp) (args:Args) (us:Zk) (vs:Zb) (Q:VK) (E:XK),cy k A->lQ P w K mg base A outer s H->BindsTo s fd args (ps.zip us)->Vals vs us->sp vs H Q E->
  codeAny (model P w) A (.call ↑f args) (CR CX outer P w H s Q E) s
theorem lQ.make {mg:Str->Zl}{base:Heap}{outer:Zq}(e:lQ P w K mg base A outer s H)(C:Zs)(a:Zk)(b:List (Str×Zt)):
 lQ P w K mg base (A.under (.builtin "type.__call__" ⟨↑C::a,b⟩)) outer s H:=⟨by first|rwa[e.frames]|(simpa [Around.under,Code.envs,Code.isFrame,pushEnvs] using e.frames),e.mod,e.bs,e.qG,e.i5,e.tG,e.aL,e.bare⟩
theorem lQ.in1 {mg:Str->Zl}{base:Heap}{outer:Zq}(e:lQ P w K mg base A outer s H):
 lQ P w K mg base A.in1 outer s H:=⟨e.frames,e.mod,e.bs,e.qG,e.i5,e.tG,e.aL,e.bare⟩
section
variable {X:Cx}{pins:List (Zs×Obj)}{σ:St}{H:Hp}{s s':Zu}
def Inv.zM (I:Inv X pins σ H s):lQ X.prog X.w X.K X.mg X.base X.A X.stack s H:=
 ⟨I.ok.frames,I.ok.mod,I.bs,agz I.ok.qG I.sz,I.stack,I.nS,I.aL,I.bare⟩
def Inv.after {Q:VK}(I:Inv X pins σ H s)(h:CE X.stack X.prog X.w H s Q u s'):EP X pins σ Q u s':=by
 let⟨v,e,os,bare,un,aL,r,q⟩:=h;let⟨c,g,d,t,a⟩:=s';obtain rfl:a=s.os:=os;rwa[v,e,I.call (h':=c) (g':=g) (d':=d) (t':=t) (ch:=[]) un aL bare (λb z=>absurd z (by simp)),r,q]
end
def K8 (b:Sp)(a:Zb)(E:XK)(t:TA):TE:=λ e H Q=>t e H λc d=>b (c++a) d Q E
inductive Pz (C:Zs) (m:Str) (sp:Sp) (dvs:Zb) (E:XK) (t:TA) (σ:St) (x:V) (H:Hp) (Q:VK):Prop
 |mk (a dx:Zs) (fs:List (Str×V)):x=↑a->H a\.ins C dx fs->fs.lookup m=none->t σ H (λvs H2=>sp (x::(vs++dvs)) H2 Q E)->Pz C m sp dvs E t σ x H Q
def kc (C:Zs)(m:Str)(c:Sp)(a:Zb)(E:XK)(e:TE)(t:TA):TE:=λ b H Q=>e b H λx d=>Pz C m c a E t b x d Q
def Ut (C:Zs)(e:Sp)(c:Zb)(E:XK)(t:TA):TE:=λ g H Q=>t g H λf b=>∀x a,b x=none->b a=none->a≠x->
 e (↑x::(f++c)) (upd (upd b a (.own x)) x (.ins C a [])) (λv d=>v=.non/\Q ↑x d) E
def Binds (K:Za1)(fd:FuncData)(c:Zp)(b:Zk):Prop:=
 ∀(s:Zu) (a:Zk),K.In s.heap->⇑(a++b)=⇑c->BindsTo s fd ⟨a,[]⟩ (c.zip (a++b))
def Binds.all {fd:FuncData}(h:∀us:Zk,⇑us=⇑Z->bindArgs fd ⟨us,[]⟩=pure (Z.zip us)):Binds K fd Z []:=λs us _ a=>by
 rw[agQ]at a ⊢;rwa[.of_eq (h us a)]
def Passes (c:lg)(X:Cx)(E:XK):Prop:=∀(a:List (Zs×Obj)) (d:St) (H:Hp) (s:Zu) (e:Zt) (b:Zu),Inv X a d H s->c X.stack H s E e b->X.xe e b
section
variable {X:Cx}{CX:lg}{k:Nat}{f C:Zs}{fd:FuncData}{ps:Zp}{sp:Sp}{dvs:Zb}{ds:Zk}{E:XK}{x m:Str}{p pos apos:Pos}{e o:Expr}{es:Zr}{ta:TE}{t:TA}
theorem zN {a:List (Zs×Obj)}{Q:VK}{us:Zk}{vs:Zb}(F:di X.prog X.w X.K X.mg X.base CX k f fd ps sp)(l:cy k X.A)(i:Binds X.K fd ps ds)(d:Vals dvs ds)(q:Passes CX X E)
 (I:Inv X a D H s) (r:Vals vs us) (h:sp (vs++dvs) H Q E):X⁻¹ X.A (call ↑f us) (EP X a D Q) X.xe s:=by
 let c:Vals (vs++dvs) (us++ds):=r.append d;let j:⇑(us++ds)=⇑ps:=by rw[<-⇑c];rwa[F.len _ _ _ _ h]
 rwa[aiW (aiO (F.run X.A X.stack s H ⟨us,[]⟩ (us++ds) (vs++dvs) Q E l I.zM (i s us I.dk j) c h) λr g b=>?_)]
 cases r with
 |error e=>exact q a D H s e g I b
 |ok n=>
  cases n with
  |ret u=>exact I.after b
  |next=>exact False.elim b
  |brk=>exact False.elim b
  |cont=>exact False.elim b
theorem wV (F:di X.prog X.w X.K X.mg X.base CX k f fd ps sp)(u:cy k X.A)(l:Gl X x)(y:X.mg x\↑f)(n:PySem.W.keepIn X.K ↑f=true)(j:Binds X.K fd ps ds)(i:Vals dvs ds)(w:Passes CX X E)
 (A:PA X (e::es) t) (c:(x==("__debug__":Str))=false:=by decide) (z:starEach (e::es) X.env=(false,eval e X.env)::starEach es X.env:=by rfl) (b:(backTo pos (starEach es X.env)).any (·.1)=false:=by rfl):
 PE X (.Call (.Name x p) (e::es) [] pos) (K8 sp dvs E t):=by
 intro a s v H Q I h;rwa[aht (jU I l y ?_ c)];rwa[ai2 (h₀:=X.base) I.ok.mod.uX n (a9 (A pos a s v H _ I h) λJ G ζ=>?_) z b];let⟨B,D,d,r,q⟩:=ζ;rwa[⟨d.dk,5⟩];rwa[zN F u j i w d r q]
theorem jW {pl:Sem Bool}(O:PE X o ta)(c:jS X.K C)(hm:Meth X.K C m f)(F:di X.prog X.w X.K X.mg X.base CX k f fd ps sp)(J:cy k X.A)(D:Binds X.K fd ps ds)(A:Vals dvs ds)(N:Passes CX X E)(P:PA X (e::es) t)
 (g:starEach (e::es) X.env=(false,eval e X.env)::starEach es X.env:=by rfl) (d:(backTo pos (starEach es X.env)).any (·.1)=false:=by rfl)
 (B:eval (.Call (.Attribute o m apos) (e::es) [] pos) X.env=(do
  let v <-eval o X.env
  standAt apos.atName
  let (f,first) <-holding [v] (getMethod v m pl)
  callWith pos f first (backTo pos (starEach (e::es) X.env)) (backToKw pos (keywordEach [] X.env))):=by rfl):
 PE X (.Call (.Attribute o m apos) (e::es) [] pos) (kc C m sp dvs E ta t):=by
 intro b s w H Q I h;rwa[PySem.W.methodCall_KW (pl:=pl) (a9 (O b s w H _ I h) λu L ζ=>?_) B];let⟨x,G,i,M,a,W,fs,ex,R,l,q⟩:=ζ;subst ex;obtain rfl:u=Value.ref a:=M;rwa[ve i R c hm l ?_];rwa[ai2 (first:=[↑a]) (h₀:=X.base) I.ok.mod.uX hm.kp (a9 (P pos b L w G _ i q) λy T ζ=>?_) g d];let⟨j,U,n,r,S⟩:=ζ;rwa[⟨n.dk,5⟩];rwa[zN (us:=↑a::y) (vs:=↑a::j) F J D A N n (.cons rfl r) S]
theorem Jb {pl:Sem Bool}(z:PE X o ta)(c:jS X.K C)(hm:Meth X.K C m f)(F:di X.prog X.w X.K X.mg X.base CX k f fd ps sp)(r:cy k X.A)(n:Binds X.K fd ps ds)(i:Vals dvs ds)(y:Passes CX X E)
 (j:eval (.Call (.Attribute o m apos) [] [] pos) X.env=(do
  let g <-eval o X.env
  standAt apos.atName
  let (f,first) <-holding [g] (getMethod g m pl)
  callWith pos f first (backTo pos (starEach [] X.env)) (backToKw pos (keywordEach [] X.env))):=by rfl):
 PE X (.Call (.Attribute o m apos) [] [] pos) (kc C m sp dvs E ta jV):=by
 intro b s w H Q I h;rwa[PySem.W.methodCall_KW (pl:=pl) (a9 (z b s w H _ I h) λu G ζ=>?_) j];let⟨x,D,d,v,a,L,fs,ex,A,l,q⟩:=ζ;subst ex;obtain rfl:u=Value.ref a:=v;rwa[ve d A c hm l ?_];rwa[PySem.W.callWith_K0 (first:=[↑a]) d.dk hm.kp (zN (us:=[↑a]) (vs:=[↑a]) F r n i y d (.cons rfl .nil) q)]
structure Mk (K:Za1) (C f:Zs):Prop where
 makes:PySem.W.makesIn K C=true
 init:PySem.W.findIn K ↑C "__init__"=some (some ↑f)
 fn:PySem.W.isFn K ↑f=true
 kp:PySem.W.keepIn K ↑C=true
theorem Jc {a:List (Zs×Obj)}{Q:VK}(M:Mk X.K C f)(F:di X.prog X.w X.K X.mg X.base CX k f fd ps sp)(B:cy (k+ 1) X.A)(n:Binds X.K fd ps ds)(j:Vals dvs ds)
 (J:Passes CX X E) (I:Inv X a D H s) (r:Vals L N)
 (h:∀x d,H x=none->H d=none->d≠x->sp (↑x::(L++dvs)) (upd (upd H d (.own x)) x (.ins C d [])) (λv O=>v=.non/\Q ↑x O) E):
 X⁻¹ X.A (call ↑C N) (EP X a D Q) X.xe s:=by
 let g:=h (↥s+ 1) ↥s (I.aL.fresh (aiv _)) (I.aL.fresh (agp _)) (agO (ahE _));let c:=Inv.made (C:=C) I;let i:Vals (V.ref (↥s+ 1)::(L++dvs)) (Value.ref (↥s+ 1)::(N++ds)):=.cons rfl (r.append j)
 let A:⇑(Value.ref (↥s+ 1)::N++ds)=⇑ps:=by
  let e:=⇑i;rw[F.len _ _ _ _ g]at e;rwa[e.symm]
 refine aiW (Ja (f:=f) I.dk M.makes M.init (ajq.mp M.fn) (aiO (F.run _ X.stack _ _ ⟨Value.ref (↥s+ 1)::N,[]⟩ (Value.ref (↥s+ 1)::(N++ds)) _ _ E (B.make C N [])
  (c.zM.make C N []) (n _ (Value.ref (↥s+ 1)::N) c.dk A) i g) λr l b=>?_))
 cases r with
 |error e=>exact J a D _ _ e l c b
 |ok G=>
  cases G with
  |ret u=>
   let⟨v,P,w,z,q,y⟩:=c.after b;subst q;rwa[z,⟨V.ref (↥s+ 1),P,w,2,y⟩]
  |next=>exact False.elim b
  |brk=>exact False.elim b
  |cont=>exact False.elim b
theorem wW (M:Mk X.K C f)(F:di X.prog X.w X.K X.mg X.base CX k f fd ps sp)(n:cy (k+ 1) X.A)(l:Gl X x)(w:X.mg x\↑C)(j:Binds X.K fd ps ds)(i:Vals dvs ds)(v:Passes CX X E)
 (z:PA X (e::es) t) (c:(x==("__debug__":Str))=false:=by decide) (y:starEach (e::es) X.env=(false,eval e X.env)::starEach es X.env:=by rfl) (b:(backTo pos (starEach es X.env)).any (·.1)=false:=by rfl):
 PE X (.Call (.Name x p) (e::es) [] pos) (Ut C sp dvs E t):=by
 intro a s u H Q I h;rwa[aht (jU I l w ?_ c)];rwa[ai2 (h₀:=X.base) I.ok.mod.uX M.kp (a9 (z pos a s u H _ I h) λG D ζ=>?_) y b];let⟨A,B,d,r,q⟩:=ζ;rwa[⟨d.dk,5⟩];rwa[Jc M F n j i v d r q]
end
def PK (X:Cx)(kws:List Keyword)(t:TA):Prop:=
 ∀(b:Pos) (a:List (Zs×Obj)) (s:Zu) (c:St) (H:Hp) (Q:Zb->Hp->Prop),Inv X a c H s->t c H Q->X⁻¹ X.A (evalAll ((backToKw b (keywordEach kws X.env)).map (·.2))) (AP X a c Q) X.xe s
section
variable {X:Cx}{fd:FuncData}{ps ks:Zp}{x:Str}{pos Yh:Pos}{e:Expr}{kws:List Keyword}{te:TE}{t:TA}{nm:Option Str}
def Gf:PK X [] jV:=λ_ _ _ _ H Q I h=>wpAny_evalAll_nil ⟨[],H,I,.nil,h⟩
def C9 (w:PE X e te)(l:PK X kws t):PK X (⟨nm,e,Yh⟩::kws) (jD te t):=by
 intro pos a s b H Q I h;rwa[wpAny_evalAll_cons (agg (a9 (w a s b H _ I h) λu q ζ=>?_))];let⟨x,j,d,c,g⟩:=ζ;rwa[agg (aje (agn ?_))];rwa[a9 (l pos a q b j _ d g) λA z ζ=>?_];let⟨n,v,i,r,y⟩:=ζ;rwa[⟨x::n,v,i,.cons c r,y⟩]
structure aap (K:Za1) (fd:FuncData) (ps ks:Zp) (g:Zk->Zk->Zk) (gV:Zb->Zb->Zb):Prop where
 to:∀(s:Zu) (us ws:Zk),K.In s.heap->⇑(g us ws)=⇑ps->BindsTo s fd ⟨us,ks.zip ws⟩ (ps.zip (g us ws))
 rel:∀{vs:Zb} {us:Zk} {zs:Zb} {ws:Zk},Vals vs us->Vals zs ws->Vals (gV vs zs) (g us ws)
end
structure aT (N P:Zp) (sc:Scope):Prop where
 kind:sc.kind=.function
 co:sc.isCoroutine=false
 gen:sc.isGenerator=false
 nd:N.Nodup
 pre:N.take ⇑P=P
 par:∀x∈P,sc.names.lookup x=some .local\/sc.names.lookup x=some .cell
 PB:∀y∈sc.names,y.2≠.free
theorem yc {kindOf:Str->Option NameKind}:∀{binds:List (Str×Zt)} {m:Str->Zl},(∀v,(x,v)∉binds)->bindL kindOf binds m x=m x
 |[],_,_=>rfl
 |(n,v)::r,m,h=>by
  unfold bindL;rw[yc λw a=>h w (agS _ a)];split
  ·cbv
  ·rfl
theorem yd {kindOf:Str->Option NameKind}:∀{binds:List (Str×Zt)} {m:Str->Zl},(∀v,(x,v)∉binds)->bindC kindOf binds m x=m x
 |[],_,_=>rfl
 |(n,v)::r,m,h=>by
  unfold bindC;rw[yd λw a=>h w (agS _ a)];split
  ·rfl
  cbv
theorem ye {kindOf:Str->Option NameKind}{x:Str}{v:Zt}:∀{P:Zp} {a:Zk} {i:Nat} {m:Str->Zl},P.Nodup->P[i]?\x->a[i]?\v->kindOf x=some .local->
 bindL kindOf (P.zip a) m x=some v
 |[],_,_,_,_,h,_,_=>by simp at h
 |_::_,[],_,_,_,_,h,_=>by simp at h
 |p::P,w::a,0,m,d,c,b,e=>by
  simp at c b;subst c;subst b;show bindL kindOf ((p,w)::P.zip a) m p=_;unfold bindL;rw[yc λv f=>(agX.mp d).1 (List.of_mem_zip f).1,agI e];simp
 |p::P,w::a,i+ 1,m,d,c,b,e=>by
  unfold bindL;rwa[ye (i:=i) (agX.mp d).2 (by simpa using c) (by simpa using b) e]
theorem yf {kindOf:Str->Option NameKind}{x:Str}{v:Zt}:∀{P:Zp} {a:Zk} {i:Nat} {m:Str->Zl},P.Nodup->P[i]?\x->a[i]?\v->kindOf x≠some .local->
 bindC kindOf (P.zip a) m x=some v
 |[],_,_,_,_,h,_,_=>by simp at h
 |_::_,[],_,_,_,_,h,_=>by simp at h
 |p::P,w::a,0,m,d,c,b,e=>by
  simp at c b;subst c;subst b;show bindC kindOf ((p,w)::P.zip a) m p=_;unfold bindC;rw[yd λv f=>(agX.mp d).1 (List.of_mem_zip f).1,agF e];simp
 |p::P,w::a,i+ 1,m,d,c,b,e=>by
  unfold bindC;rwa[yf (i:=i) (agX.mp d).2 (by simpa using c) (by simpa using b) e]
noncomputable def start (N:Zp)(a:Zb):St:=a.map some++List.replicate (⇑N - ⇑a) none
def cz (c:lg)(P:Program)(w:World)(K:Za1)(mg:Str->Zl)(base:Heap)(N:Zp)(qual:Str)(scope:Scope)(f:Zs)(b:Zt)(A:Around)(outer:Zq)(s:Zu)(H:Hp)(E:XK):Cx where
 prog:=P
 w:=w
 K:=K
 mg:=mg
 base:=base
 A:=A.deeper (envOfC qual scope ↥s f b)
 N:=N
 dY:=s
 ua:=H
 env:=envOfC qual scope ↥s f b
 outer:=outer
 stack:=envOfC qual scope ↥s f b::outer
 ex:=[]
 calm:=true
 fn:=λ_=>true
 pn:=[]
 xe:=λe d=>(P<|>w) (A.deeper (envOfC qual scope ↥s f b)) (leaving (envOfC qual scope ↥s f b) e) (λ_ a=>c outer H s E e a) (λg a=>c outer H s E g a) d
def zO {sc:Scope}(h:sc.names.lookup x=some .cell):∃c,(cellsFrom n sc.names []).lookup x\c:=by
 let q:=ajG sc.names n [] (.inl h);rwa[ajs.mp q]
theorem yg {O:lg}{base:Heap}{N:Zp}{qual:Str}{scope:Scope}{f:Zq}{E:XK}{G:Zk}
 (S:aT N Z scope) (Q:A.handled=none) (j:lQ P w K M base A f s H) (X:⇑L=⇑Z) (r:Vals L G)
 (x:InCallC s ↥s (bindL (envOfC qual scope ↥s a v).kindOf (Z.zip G) λ_=>none) (cellsFrom (↥s+ 1) scope.names []) (bindC (envOfC qual scope ↥s a v).kindOf (Z.zip G) λ_=>none) t):
 Inv (cz O P w K M base N qual scope a v A f s H E) [] (start N L) H t:=by
 let R:⇑Z<=⇑N:=by have:=ahF List.length S.pre;rw[agV]at this;ext
 let⟨D,W,rfl,I⟩:=x.done;let m:∀b:Zs,b∉(cz O P w K M base N qual scope a v A f s H E).ex:=λb z=>absurd (show b∈([]:Zn) from z) (by simp)
 erw[⟨j.mod,S.kind,22,agp _,λy z c D l=>?_,λy B=>?_,λy c _ h=>?_,λ_=>Q,Around.frames_deeper j.frames,.inr ⟨22⟩,λb z=>absurd z (m b),j.bs,j.qG,λb _ _=>m b,λb z=>absurd z (m b),j.i5,j.tG⟩,2,j.bare,Un.kept I,⟨_,x.toInCall.ns,λi y g D l Y=>?_⟩,λy c h=>⟨_,x.cell y c h⟩,j.aL.fresh (agp _),λy c h=>?_,λp o=>absurd (show p∈([]:List (Zs×Obj)) from o) (by simp),j.aL.kept I]
 ·rwa[name_of_addr x.apart (ahO D) (ahO l)]
 ·rcases B with B|B
  ·rwa[zO B]
  ·rwa[absurd rfl (S.PB _ (ahO B))]
 ·rwa[ajp (x.above y c (ahO h))]
 ·let F:i<⇑L:=by
   unfold start at l;by_cases F:i<⇑L
   ·rwa[F]
   ·cbv
  let U:L[i]?\g:=by
   unfold start at l;rw[ags (by simpa using F),agx]at l
   cases e:L[i]? with
   |none=>rw[e]at l;ext l
   |some d=>cbv
  let⟨u,J,T⟩:=r.get U
  let o:Z[i]?\y:=by
   rw[<-S.pre,ajt ∅];rwa[D]
  let C:Z.Nodup:=by rw[<-S.pre];rwa[S.nd.sublist (List.take_sublist _ _)]
  erw[u,T];rcases S.par y (agh o) with k|k
  ·rwa[.inl ⟨k,ye C o J k⟩]
  ·let⟨c,e⟩:=zO (n:=↥s+ 1) k;rwa[.inr ⟨.inl k,c,e,5⟩];let q:=x.cell y c e;rw[yf C o J (by show scope.names.lookup y≠_;cbv)]at q;rwa[q]
 ·rwa[j.aL.fresh (ajp (x.above y c (ahO h)))]
 ·unfold start;show _=⇑N;rw[agk,agm,List.length_replicate];ext
theorem zv {B:lg}{base:Heap}{k:Nat}{name qual:Str}{params:Arguments}{body:List Stmt}{scope:Scope}{X kV doc pm d Y Z:Zt}{W od:Zo}
 {O:Array Zl} {N z:Zp} {D:Sp} (lk:K.lookup a\⟨Z,od,.func (PySem.W.fnOf name qual params body scope X kV doc pm W d Y),O⟩) (L:PySem.W.codeIn K d qual=true) (S:aT N z scope)
 (len:∀f H Q E,D f H Q E->⇑f=⇑z)
 (j:∀(A:Around) (c:Zq) (s:Zu) (H:Hp) (f:Zb) (Q:VK) (E:XK),cy k (A.deeper (envOfC qual scope ↥s a d))->D f H Q E->
  ∃t,iI (cz B P w K M base N qual scope a d A c s H E) body t/\t { nx:=λ_ h=>Q .non h,rt:=Q } (start N f) H):
 di P w K M base B (k+ 1) a (PySem.W.fnOf name qual params body scope X kV doc pm W d Y) z D:=by
 rwa[⟨len,λA c s H R us f Q E G m hb r p=>?_⟩];let hl:=len _ _ _ _ p;let T:K.In s.heap:=m.mod.uX.keeps λb o e=>(m.bs b o e).1
 let lim:s.heap.NoLimit:=m.mod.nolimit.keeps λb o e=>(m.bs b o e).1
 let i:∀y∈z.zip us,scope.names.lookup y.1=some .local\/(scope.names.lookup y.1=some .cell/\((cellsFrom (↥s+ 1) scope.names []).lookup y.1).isSome=true):=λζ hy=>by
  let⟨n,v⟩:=ζ
  rcases S.par n (List.of_mem_zip hy).1 with q|q
  ·rwa[.inl q]
  ·rwa[.inr ⟨q,ajG _ _ _ (.inl q)⟩]
 rwa[codeAny_call_function G.depth (T^lk) rfl S.co S.gen rfl (PySem.W.codeRec_of T L) (hb _ _ _ _ ?_)];rwa[wpAny_newFunctionEnv_cells S.kind i λenv he U x=>?_]
 subst he;rwa[⟨lim.keeps x.toInCall.keep,codeAny_func ?_⟩];let⟨t,ht,hq⟩:=j A c s H f Q E (G.deeper _) p;let I:Inv (cz B P w K M base N qual scope a d A c s H E) [] (start N f) H U:=yg S G.hd m hl r x;rwa[ahk (ht [] U (start N f) H _ I hq) (λfl C l=>?_) λe C l=>l]
 let fin:∀{g:St} {h:Hp} {v:V} {u:Zt},Inv (cz B P w K M base N qual scope a d A c s H E) [] g h C->RelV v u->Q v h->CE c P w H s Q u C:=
  λ{g h v u} J F q=>⟨v,h,J.os,J.bare,J.base,J.aL,F,q⟩
 cases fl with
 |ret u=>
  let⟨v,g,h,J,F,q⟩:=l;rwa[fin J F q]
 |next=>
  let⟨g,h,J,q⟩:=l;rwa[fin (v:=V.non) (u:=Value.none) J rfl q]
 |brk=>
  let⟨_,_,_,q⟩:=l;rwa[False.elim q]
 |cont=>
  let⟨_,_,_,q⟩:=l;rwa[False.elim q]
section
variable {X:Cx}{x:Str}{p pos:Pos}{e:Expr}{es:Zr}{t:TA}{id T:String}{r:Zb->Hp->VK->Prop}
def VB (r:Zb->Hp->VK->Prop)(t:TA):TE:=λ c H Q=>t c H λa b=>r a b Q
def bF (l:iz X (.builtin id) r)(g:Gl X x)(q:X.mg x=none)(v:bootBuiltins x\.builtin id)(w:PA X (e::es) t)(o:x≠"__name__":=by decide)(c:(x==("__debug__":Str))=false:=by decide)
 (y:starEach (e::es) X.env=(false,eval e X.env)::starEach es X.env:=by rfl) (b:(backTo pos (starEach es X.env)).any (·.1)=false:=by rfl):PE X (.Call (.Name x p) (e::es) [] pos) (VB r t):=by
 intro a s d H Q I h;rwa[aht (gT I g q v ?_ o c)];rwa[PyProof.Rows.callWith_builtin1 (a9 (w pos a s d H _ I h) λu n ζ=>?_) y b];let⟨j,m,i,f,k⟩:=ζ;rwa[l a n d m j u Q i f k]
def eJ (l:iz X (.type T) r)(g:Gl X x)(q:X.mg x=none)(v:bootBuiltins x\.type T)(w:PA X (e::es) t)(o:x≠"__name__":=by decide)(c:(x==("__debug__":Str))=false:=by decide)
 (y:starEach (e::es) X.env=(false,eval e X.env)::starEach es X.env:=by rfl) (b:(backTo pos (starEach es X.env)).any (·.1)=false:=by rfl):PE X (.Call (.Name x p) (e::es) [] pos) (VB r t):=by
 intro a s d H Q I h;rwa[aht (gT I g q v ?_ o c)];rwa[ahj (a9 (w pos a s d H _ I h) λu n ζ=>?_) y b];let⟨j,m,i,f,k⟩:=ζ;rwa[l a n d m j u Q i f k]
end
end L2
namespace HT
open PySem PyProof.Rows
noncomputable def lexLt:Zg->Zg->Bool
 |[],[]=>false
 |[],_::_=>true
 |_::_,[]=>false
 |x::a,y::ys=>if x=y then lexLt a ys else decide (x<y)
def vf (x y:Int)(a ys:Zg):lexLt (x::a) (y::ys)=if x=y then lexLt a ys else decide (x<y):=rfl
def yW:lexLt [] []=false:=rfl
section
variable {prog:Program}{w:World}{A:Around}{E:Zt->Zu->Prop}{s:Zu}
theorem M7 {ws:Zk}(t:IsTup s.heap a N.toArray)(u:IsTup s.heap b ws.toArray)(o:N≠[])
 (v:ws=[]->Q ↑a s) (r:ws≠[]->Q ↑↥s { s with heap:=s.heap.push ("tuple">>>.seq (N++ws).toArray) })
 (x:⇑N+ ⇑ws<=sizeLine):(prog<|>w) A (binaryOp .Add ↑a ↑b) Q E s:=by
 let⟨⟨cls,m,data,k⟩,h,y,n,q⟩:=id t;let⟨⟨l,d,data2,f⟩,c,j,p,i⟩:=id u;subst y q j i;let e:N.toArray++ws.toArray=(N++ws).toArray:=by simp
 by_cases g:ws=[]
 ·exact concat_meets ⟨_,h,2⟩ ⟨_,c,2⟩ noFill_tuple_add seq_tuple_add ajH ajy (aju _ _)
   (tuple_addW1 a b N.toArray ws.toArray n p m d k f (by simpa using o) (by simp[g])) ⟨h,c,v g⟩
 ·refine concat_meets ⟨_,h,2⟩ ⟨_,c,2⟩ noFill_tuple_add seq_tuple_add ajH ajy (aju _ _)
   (tuple_addW2 a b N.toArray ws.toArray n p m d k f (by simpa using o) (by simpa using g) ∅) ⟨h,c,5⟩
  rw[e];rwa[r g]
noncomputable def b6 (n d:Nat):Zj->Nat
 |none=>d
 |some v=>if v<0 then (v+ (n:Int)).toNat else min v.toNat n
def wX (n d k:Nat):b6 n d (some (k:Int))=min k n:=by
 show (if (k:Int)<0 then ((k:Int)+ (n:Int)).toNat else min (k:Int).toNat n)=min k n;rw[agF ∅,agT]
def Dc (v:Int)(n d:Nat):(if v<0 then max (v+ (n:Int)) 0 else min v (n:Int))=((b6 n d (some v):Nat):Int):=by
 show (if v<0 then max (v+ (n:Int)) 0 else min v (n:Int))=(((if v<0 then (v+ (n:Int)).toNat else min v.toNat n):Nat):Int);by_cases a:v<0
 ·cbv
 ·simp only[agF a];ext
def EH (lo a:Zj)(n:Nat):Builtin.Slice.sliceAdjust lo a 1 (n:Int)=(((b6 n 0 lo:Nat):Int),((b6 n n a:Nat):Int)):=by
 let b:¬((1:Int)<0):=∅
 unfold Builtin.Slice.sliceAdjust;rwa[Prod.ext ?_ ?_]
 ·cases lo with
  |none=>rfl
  |some v=>exact Dc v n 0
 ·cases a with
  |none=>rfl
  |some v=>exact Dc v n n
def EI (i j:Nat):Builtin.Slice.slicePlaces (i:Int) (j:Int) 1=j - i:=by
 unfold Builtin.Slice.slicePlaces;let a:(1:Int) > 0:=∅
 split <;> ext
def vg {o:Zj}{Q:Zj->Zu->Prop}(p:IsPart v o)(h:Q o s):(prog<|>w) A (Builtin.Slice.slicePartIndex v) Q E s:=by
 cases p with
 |none=>exact slicePart_none h
 |int i t=>exact slicePart_int h
theorem lS {lo d:Zj}{Q:Int×Int×Nat->Zu->Prop}(g:s.heap.IsSliceOf a v u .none)(pl:IsPart v lo)(e:IsPart u d)
 (h:Q (((b6 n 0 lo:Nat):Int),1,b6 n n d - b6 n 0 lo) s):(prog<|>w) A (Builtin.Slice.sliceApplied ↑a (pure (n:Int))) Q E s:=by
 let⟨os,b,f,c⟩:=id g;rwa[agg (agg (ahp b c (x:=v) rfl (agg (ahp b c (x:=u) rfl (agg (ahp b c (x:=.none) rfl (agn ?_)))))))];rwa[agg (slicePart_none ?_)];rwa[agg (vg pl (agg (vg e (agg (agn ?_)))))];show wpAny _ _ (match Builtin.Slice.sliceAdjust lo d 1 (n:Int) with|(lo,d)=>pure (lo,(1:Int),Builtin.Slice.slicePlaces lo d 1)) _ _ s;rw[EH lo d n];show wpAny _ _ (pure (((b6 n 0 lo:Nat):Int),(1:Int),Builtin.Slice.slicePlaces ((b6 n 0 lo:Nat):Int) ((b6 n n d:Nat):Int) 1)) _ _ s;rw[EI];rwa[agn h]
def Jd (xs:Zm)(i k:Nat):((List.range k).filterMap λ(m:Nat)=>xs[((i:Int)+ (m:Int)* 1).toNat]?).toArray=((xs.toList.drop i).take k).toArray:=by
 let e:(λ(m:Nat)=>xs[((i:Int)+ (m:Int)* 1).toNat]?)=λm=>xs[i+ m]?:=by
  funext m
  have:((i:Int)+ (m:Int)* 1).toNat=i+ m:=∅
  rw[this]
 rw[e];have:=pick_run xs i k;rw[List.filterMap_map]at this;let a:((λx=>xs[x]?) ∘ λx=>i+ x)=λm=>xs[i+ m]?:=rfl
 cbv
theorem sZ {items:Zm}{lo d:Zj}(e:IsTup s.heap a items)(k:s.heap.IsSliceOf b v u .none)(pl:IsPart v lo)(p:IsPart u d)
 (o:¬(b6 items.size 0 lo=0/\b6 items.size items.size d=items.size))
 (h:Q ↑↥s { s with heap:=s.heap.push ("tuple">>>.seq ((items.toList.drop (b6 items.size 0 lo)).take (b6 items.size items.size d - b6 items.size 0 lo)).toArray) })
 (n:items.size<=sizeLine):(prog<|>w) A (getItem ↑a ↑b) Q E s:=by
 let c:sizeOk (.seq ((items.toList.drop (b6 items.size 0 lo)).take (b6 items.size items.size d - b6 items.size 0 lo)).toArray):=by
  show ((items.toList.drop (b6 items.size 0 lo)).take (b6 items.size items.size d - b6 items.size 0 lo)).toArray.size<=sizeLine;rw[agD,agV,ahh,ah2];ext
 let⟨os,i,g,l⟩:=id k;let j:s.TypeIs ↑b "slice":=⟨os,i,g⟩;unfold getItem
 try with_reducible rwa[ahn ?_]
 rwa[agg (wpAny_sequenceKey e.typeIs ⋯ ?_)]
 refine agg (aho (name:=Str.ofString "__getitem__") e.typeIs ahs
  (ahr ahs e.typeIs entry_tuple_getitem ?_ (args_tuple_getitem _ _)))
 show wpAny _ _ (Builtin.Tuple.tupleItemsOf ↑a >>=_) _ _ s;rwa[agg (tupleItemsOf_ e ?_)];rwa[agg (aiP j ?_)];rwa[agg (lS k pl p ?_)]
 let f:¬((((b6 items.size 0 lo:Nat):Int)==0 && (1:Int)==1 && (b6 items.size items.size d - b6 items.size 0 lo)==items.size)=true):=by
  intro q;rw[aib,aib]at q;let r:((b6 items.size 0 lo:Nat):Int)=0:=eq_of_beq q.1.1;let t:b6 items.size items.size d - b6 items.size 0 lo=items.size:=eq_of_beq q.2;rwa[o ⟨33⟩]
 show wpAny _ _ (if (((b6 items.size 0 lo:Nat):Int)==0 && (1:Int)==1 && (b6 items.size items.size d - b6 items.size 0 lo)==items.size)=true then _ else _) _ _ s;rw[agF f,Jd]
 first
  |rwa[agg (m:=Builtin.Tuple.tupleExact _) (ahd (agn ⟨_,rfl,agn h⟩) c)]
  |rwa[agg (m:=Builtin.Tuple.tupleExact _) (ahd (agg (agn (agn ⟨_,rfl,agn h⟩))) c)]
  |rwa[agg (agg (m:=Builtin.Tuple.tupleExact _) (ahd (agn (agn ⟨_,rfl,agn h⟩)) c))]
  |rwa[agg (agg (m:=Builtin.Tuple.tupleExact _) (ahd (agn ⟨_,rfl,agn h⟩) c))]
end
end HT
namespace L2
open PySem PySem.Spec PyProof.Rows
abbrev TO:=St->Hp->(Zj->Hp->Prop)->Prop
def PO (X:Cx)(e:Option Expr)(t:TO):Prop:=
 ∀(a:List (Zs×Obj)) (s:Zu) (b:St) (H:Hp) (Q:Zj->Hp->Prop),Inv X a b H s->t b H Q->
  X⁻¹ X.A (evalPart e X.env) (λu d=>∃o c,Inv X a b c d/\IsPart u o/\Q o c) X.xe s
def M8:TO:=λ_ H Q=>Q none H
def Uu (t:TE):TO:=λ b H Q=>t b H λx a=>∃i,x=.int i/\Q (some i) a
section
variable {X:Cx}{e:Expr}{te:TE}{lo hi:Option Expr}{tl th:TO}{pos p2:Pos}
def sG:PO X none M8:=by
 intro a s b H Q I h;rwa[agn ⟨none,H,I,.none,h⟩]
def lM (h:PE X e te):PO X (some e) (Uu te):=by
 intro a s j H Q I b;rwa[a9 (h a s j H _ I b) λu k ζ=>?_];let⟨x,c,g,d,f⟩:=ζ
 let⟨i,rfl,q⟩:=f;let⟨t,rfl⟩:=d;rwa[some i,c,g,.int i t,q]
def K9 (X:Cx)(r:V->Zj->Zj->Hp->VK->Prop):Prop:=
 ∀(a:List (Zs×Obj)) (s:Zu) (f:St) (H:Hp) (x:V) (v d c:Zt) (lo hi:Zj) (b:Zs) (Q:VK),Inv X a f H s->RelV x v->s.heap.IsSliceOf b d c .none->IsPart d lo->IsPart c hi->r x lo hi H Q->
  ∃T id,typeLookup (.type T) "__getitem__"=pure (some (.builtin id))/\s.TypeIs v T/\X⁻¹ X.A (getItem v ↑b) (EP X a f Q) X.xe s
def tSl (r:V->Zj->Zj->Hp->VK->Prop)(te:TE)(tl th:TO):TE:=λ a H Q=>te a H λx c=>tl a c λl b=>th a b λu d=>r x l u d Q
def lT {r:V->Zj->Zj->Hp->VK->Prop}(C:K9 X r)(J:PE X e te)(B:PO X lo tl)(E:PO X hi th):PE X (.Subscript e (.Slice lo hi none p2) pos) (tSl r te tl th):=by
 intro a s c H Q I h;rwa[Subscript_ (a9 (J a s c H _ I h) λv F ζ=>?_)];let⟨x,A,m,i,w⟩:=ζ;rwa[wpAny_Slice (a9 (B a F c A _ m w) λf p ζ=>?_)];let⟨l,G,z,pl,L⟩:=ζ;rwa[a9 (E a p c G _ z L) λd s3 ζ=>?_];let⟨u,g,o,D,y⟩:=ζ;rwa[agn ?_];let j:Inv X a c g { s3 with heap:=s3.heap.push ("slice">>>.fields #[f,d,.none]) }:=o.kept (t':=s3.toks) λb N q=>agi _ q
 let⟨T,id,t,k,n⟩:=C a { s3 with heap:=s3.heap.push ("slice">>>.fields #[f,d,.none]) } c g x v f d l u ↥s3 Q j i (Heap.IsSliceOf.new ..) pl D y;rwa[tail_any (ops:=[↑↥s3,v]) k t n (by with_unfolding_all rfl)]
def fJ (xs:Zb)(lo hi:Zj):Zb:=(xs.drop (HT.b6 ⇑xs 0 lo)).take (HT.b6 ⇑xs ⇑xs hi - HT.b6 ⇑xs 0 lo)
def tJ (xs:Zb)(lo hi:Zj):⇑(fJ xs lo hi)<=⇑xs:=by
 unfold fJ;rw[agV,ahh];ext
inductive PD (K:Za1) (x:V) (lo:Zj) (hi:Zj) (H:Hp) (Q:VK):Prop
 |mk (a:Zs) (xs:Zb):x=↑a->bA K H a xs->¬(HT.b6 ⇑xs 0 lo=0/\HT.b6 ⇑xs ⇑xs hi=⇑xs)->(∀p,H p=none->Q ↑p (upd H p (.tup (fJ xs lo hi))))->PD K x lo hi H Q
def PF:K9 X (PD X.K):=by
 intro g s y H x v w n lo hi t Q I k l pl j h;let⟨a,xs,rfl,m,i,q⟩:=h;ext k;let⟨c,r,d,f⟩:=I.tuple m;let hlen:c.toArray.size=⇑xs:=by rwa[r.length.symm]
 erw["tuple",_,ahs.lookup,d.typeIs];rwa[HT.sZ d l pl j ([hlen]▸i) ?_ ([hlen]▸f)];rw[hlen];rwa[⟨↑↥s,_,I.laid (t':=s.toks) (o:=.tup (fJ xs lo hi)) (λb u q=>agi _ q) (agp _) ?_,2,q _ (I.aL.fresh (agp _))⟩];rwa[agz (tJ xs lo hi) f,_,(r.drop (HT.b6 ⇑xs 0 lo)).take (HT.b6 ⇑xs ⇑xs hi - HT.b6 ⇑xs 0 lo),IsTup.new _ _]
inductive Yi (K:Za1) (x:V) (y:V) (H:Hp) (Q:VK):Prop
 |mk (a b:Zs) (ns ms:Zg):x=↑a->y=↑b->bA K H a (ns.map V.int)->bA K H b (ms.map V.int)->Q (.bl (HT.lexLt ns ms)) H->Yi K x y H Q
inductive La (K:Za1) (x:V) (y:V) (H:Hp) (Q:VK):Prop
 |mk (a b:Zs) (xs ys:Zb):x=↑a->y=↑b->bA K H a xs->bA K H b ys->xs≠[]->⇑xs+ ⇑ys<=sizeLine->(ys=[]->Q ↑a H)->(ys≠[]->∀p,H p=none->Q ↑p (upd H p (.tup (xs++ys))))->La K x y H Q
def Vals.sH (r:Vals L N):N=[]↔L=[]:=by
 cases r with
 |nil=>simp
 |cons _ _=>simp
def M9:gF X (binaryOp .Add) (La X.K):=by
 intro g s E H x y v u Q I p r h;let⟨a,b,n,ys,rfl,rfl,A,j,t,f,l,B⟩:=h;ext p;ext r;let⟨k,d,m,_⟩:=I.tuple A;let⟨i,c,p2,_⟩:=I.tuple j;rwa[HT.M7 m p2 (λz=>t (d.sH.mp z)) (λz=>⟨↑a,H,I,2,l (c.sH.mp z)⟩) (λz=>?_) (by rw[<-⇑d,<-⇑c];rwa[f])];rwa[⟨↑↥s,_,I.laid (t':=s.toks) (o:=.tup (n++ys)) (λb D q=>agi _ q) (agp _) ?_,2,B (λw=>z (c.sH.mpr w)) _ (I.aL.fresh (agp _))⟩];rwa[[agk]▸f,_,d.append c,IsTup.new _ _]
end
noncomputable def qI (n:Nat)(i:Int):Zi:=if 0<=i then (if i<n then some i.toNat else none) else if -(n:Int)<=i then some (i+ n).toNat else none
def jE {a:Type}(xs:List a)(i:Int):Option a:=(qI ⇑xs i).bind λj=>xs[j]?
def wY (h:qI n z\j):seqIndex? z n\j/\j<n/\-(n:Int)<=z/\z<n:=by
 unfold qI at h;by_cases b:0<=z
 ·rw[agI b]at h;by_cases a:z<n
  ·rw[agI a]at h;let e:z.toNat=j:=Za0 h;rwa[by rw[seqIndex_of b a,e],33,a]
  ·rw[agF a]at h;ext h
 ·rw[agF b]at h;by_cases a: -(n:Int)<=z
  ·rw[agI a]at h;let e:(z+ n).toNat=j:=Za0 h;rwa[by rw[seqIndex_neg ∅ a,e],3,a,3]
  ·rw[agF a]at h;ext h
def Dd {a:Type}{xs:List a}{v:a}(h:jE xs z\v):∃j,seqIndex? z ⇑xs\j/\xs[j]?\v/\j<⇑xs/\-(⇑xs:Int)<=z/\z<⇑xs:=by
 unfold jE at h
 cases e:qI ⇑xs z with
 |none=>rw[e]at h;ext h
 |some j=>
  rw[e]at h;let⟨d,b,f,c⟩:=wY e;rwa[j,d,h,b,f,c]
def bO {a:Type}{xs:List a}{v:a}(h:xs[j]?\v):jE xs (j:Int)\v:=by
 let b:j<⇑xs:=(agj.mp h).1
 let e:qI ⇑xs (j:Int)\j:=by
  unfold qI;rw[agI ∅,agI ∅];simp
 unfold jE;rw[e];rwa[h]
def Nb (b:Expr):Prop:=∀o i,subscripted b false o i=operate [o,i] (getItem o i)
def Gh (X:Cx)(r:R2):Prop:=
 ∀(value slice:Expr) (a:List (Zs×Obj)) (s:Zu) (b:St) (H:Hp) (x y:V) (v u:Zt) (Q:VK),Inv X a b H s->RelV x v->RelV y u->r x y H Q->
  subscripted slice false v u=operate [v,u] (getItem v u)->X⁻¹ X.A (subscriptTail value slice v u) (EP X a b Q) X.xe s
def PH (X:Cx)(id:String)(r:V->Zb->Hp->VK->Prop):Prop:=
 ∀(a:List (Zs×Obj)) (s:Zu) (d:St) (H:Hp) (x:V) (c:Zb) (v:Zt) (b:Zk) (Q:VK),Inv X a d H s->RelV x v->Vals c b->r x c H Q->
  X⁻¹ X.A (call (.builtin id) (v::b)) (EP X a d Q) X.xe s
section
variable {X:Cx}{a b:Expr}{ta tb:TE}{pos:Pos}
def aY {r:R2}(g:Gh X r)(n:PE X a ta)(d:PE X b tb)(j:Nb b):PE X (.Subscript a b pos) (K7 r ta tb):=by
 intro c s l H Q I h;rwa[Subscript_ (IZ n d I h λv u e x y m f i k q=>g a b c e l m x y v u Q f i k q (j _ _))]
inductive Je (K:Za1) (x:V) (y:V) (H:Hp) (Q:VK):Prop
 |mk (p:Zs) (xs:Zb) (i:Int) (v:V):x=↑p->y=.int i->aF K H p xs->jE xs i\v->Q v H->Je K x y H Q
inductive Jf (K:Za1) (x:V) (y:V) (H:Hp) (Q:VK):Prop
 |mk (p:Zs) (xs:Zb) (i:Int) (v:V):x=↑p->y=.int i->bA K H p xs->jE xs i\v->Q v H->Jf K x y H Q
inductive Yj (x:V) (y:V) (H:Hp) (Q:VK):Prop
 |mk (z:Str) (i:Int) (c:Nat):x=.str z->y=.int i->⇑z<=sizeLine->jE z.cps.toList i\c->Q (.str ⟨#[c]⟩) H->Yj x y H Q
def bu:Gh X (Je X.K):=by
 intro value slice c s n H x y v u Q I F G h m;let⟨p,M,i,z,rfl,rfl,B,J,q⟩:=h;ext F;let⟨t,rfl⟩:=G;let⟨f,r,pl,L⟩:=I.list B;let⟨j,d,A,N,C,D⟩:=Dd J;let⟨w,l,e⟩:=r.get A;let E:=⇑r;let O:=qH;let fin:EP X c n Q w s:=⟨z,H,I,e,q⟩;by_cases k:0<=i
 ·let g:i.toNat=j:=by
   rw[seqIndex_of k D]at d;rwa[Za0 d]
  rwa[item_listR pl.isList k ∅ (by rw[g];simpa using l) fin m]
 ·let g:(i+ (f.toArray.size:Int)).toNat=j:=by
   rw[seqIndex_neg ∅ C]at d;rw[agD,<-E];rwa[Za0 d]
  exact subscriptTail_builtinR (x:=w) pl.isList.typeIs slot_list_getitem.lookup
   (wpAny_getItem_list_neg (Q:=λr o=>r=w/\EP X c n Q r o) pl.isList ∅ (by rw[agD] <;> omega) ∅ (by rw[g];simpa using l) ⟨2,fin⟩) m
def bU:Gh X (Jf X.K):=by
 intro value slice c s e H x y v u Q I n A h o;let⟨p,J,i,z,rfl,rfl,k,B,q⟩:=h;ext n;let⟨t,rfl⟩:=A;let⟨l,r,pl,F⟩:=I.tuple k;let⟨j,D,g,L,C,E⟩:=Dd B;let⟨w,m,d⟩:=r.get g;let G:=⇑r;let M:=qH;let fin:EP X c e Q w s:=⟨z,H,I,d,q⟩
 exact subscriptTail_builtinR (x:=w) pl.typeIs slot_tuple_getitem.lookup
  (getItem_tuple (j:=j) (Q:=λr f=>r=w/\EP X c e Q r f) pl ∅ ∅ (by cbv) (by simpa using m) ⟨2,fin⟩) o
def EJ (c:Zk)(n j:Nat)(u:Zt):Obj.mapSeq (·.setIfInBounds j u) ("list">>>.seq c.toArray n)=("list">>>.seq (c.set j u).toArray n):=by
 simp[Obj.mapSeq]
theorem Inv.lst {xs:Zb}(I:Inv X o D H s)(h:H c\.lst xs):
 ∃(d:Zk) (n:Nat),Vals xs d/\s.heap.get? c\("list">>>.seq d.toArray n)/\⇑xs<=sizeLine:=by
 let⟨z,d,n,r,e⟩:=I.aL c _ h;rwa[d,n,r,e,z]
theorem Inv.PL {ys:Zb}{d:Zk}{f:Obj->Obj}(I:Inv X o D H s)(h:H c\.lst L)
 (j:s.heap.get? c\("list">>>.seq N.toArray n)) (g:f ("list">>>.seq N.toArray n)=("list">>>.seq d.toArray m)) (r:Vals ys d) (hz:⇑ys<=sizeLine) (t:Nat):
 Inv X o D (upd H c (.lst ys)) { s with heap:=s.heap.update c f,toks:=t }:=by
 let e:(s.heap.update c f).get? c\("list">>>.seq d.toArray m):=by
  rw[ag2 f j (by rw[g] <;> rfl),g]
 rwa[I.write (x:=c) (e:=c) (by rw[h];trivial) (.inl rfl) (λb u i q=>(ag3^ahC i).trans q) ⟨_,e⟩ ?_];rwa[hz,d,m,r,e]
inductive Lb (o:V) (i:V) (v:V) (H:Hp) (Q:(Hp->Prop)):Prop
 |mk (p:Zs) (xs:Zb) (k:Int) (j:Nat):o=↑p->i=.int k->H p\.lst xs->qI ⇑xs k\j->Q (upd H p (.lst (xs.set j v)))->Lb o i v H Q
def set_list:O9 X Lb:=by
 intro d s D H o i v J M u Q I A E B h;let⟨p,xs,k,j,rfl,rfl,y,F,q⟩:=h;ext A;let⟨t,rfl⟩:=E;let⟨c,n,r,g,C⟩:=I.lst y;let⟨e,G,z,w⟩:=wY F;let l:=⇑r;let L:=qH
 let x:Inv X d D (upd H p (.lst (xs.set j v))) { s with heap:=s.heap.update p (Obj.mapSeq (·.setIfInBounds j u)) }:=
  I.PL y g (EJ c n j u) (r.set B j) ([agK]▸C) s.toks
 by_cases m:0<=k
 ·let f:k.toNat=j:=by
   rw[seqIndex_of m w]at e;rwa[Za0 e]
  rwa[PySem.W.ki_setAt g m ∅ (by rw[agD,<-l];rwa[w]) ([f]▸⟨_,x,q⟩)]
 ·let f:(k+ (c.toArray.size:Int)).toNat=j:=by
   rw[seqIndex_neg ∅ z]at e;rw[agD,<-l];rwa[Za0 e]
  rwa[PySem.W.ki_setBack g ∅ (by rw[agD,<-l];rwa[z]) ∅ ([f]▸⟨_,x,q⟩)]
def zP (lo c:Zj)(n:Nat):(sliceBounds lo c none n).1=((HT.b6 n 0 lo:Nat):Int)/\(sliceBounds lo c none n).2.1=((HT.b6 n n c:Nat):Int)/\(sliceBounds lo c none n).2.2=1:=by
 rwa[⟨552⟩]
 ·cases lo with
  |none=>simp[sliceBounds,HT.b6]
  |some i=>
   simp only[sliceBounds,HT.b6,Option.getD_none,show (1:Int) > 0 by decide,ajM];by_cases h:i<0
   ·simp only[h,ajM] <;> ext
   ·simp only[h,ajf] <;> ext
 ·cases c with
  |none=>simp[sliceBounds,HT.b6]
  |some i=>
   simp only[sliceBounds,HT.b6,Option.getD_none,show (1:Int) > 0 by decide,ajM];by_cases h:i<0
   ·simp only[h,ajM] <;> ext
   ·simp only[h,ajf] <;> ext
def yX (c:Zk)(lo d:Zj):slicePick c.toArray lo d none=((c.drop (HT.b6 ⇑c 0 lo)).take (HT.b6 ⇑c ⇑c d - HT.b6 ⇑c 0 lo)).toArray:=by
 let⟨f,e,g⟩:=zP lo d c.toArray.size;unfold slicePick;rw[f,e,g];simp only[sliceRange_one,pick_run,agD] <;> rfl
inductive PN (K:Za1) (x:V) (lo:Zj) (hi:Zj) (H:Hp) (Q:VK):Prop
 |mk (a:Zs) (xs:Zb):x=↑a->aF K H a xs->(∀p,H p=none->Q ↑p (upd H p (.lst (fJ xs lo hi))))->PN K x lo hi H Q
def wZ:K9 X (PN X.K):=by
 intro e s w H x v u m lo c p Q I j k pl i h;let⟨a,xs,rfl,l,q⟩:=h;ext j;let⟨f,r,d,g⟩:=I.list l;let hlen:=⇑r;erw["list",_,slot_list_getitem.lookup,d.isList.typeIs];rwa[wpAny_getItem_list_slice d.isList k pl i .none (by simp) ?_ (by rw[agD] <;> omega)];rw[yX,<-hlen];rwa[⟨↑↥s,_,I.laid (t':=s.toks) (o:=.lst (fJ xs lo c)) (λb t q=>agi _ q) (agp _) ?_,2,q _ (I.aL.fresh (agp _))⟩];rwa[agz (tJ xs lo c) g,_,(0),(r.drop (HT.b6 ⇑xs 0 lo)).take (HT.b6 ⇑xs ⇑xs c - HT.b6 ⇑xs 0 lo),agy _ rfl]
noncomputable def Lc:V->Bool
 |.non=>true
 |.bl _=>true
 |.int _=>true
 |.str _=>true
 |_=>false
noncomputable def eqV:V->V->Bool
 |.non,.non=>true
 |.bl a,.bl b=>a==b
 |.bl a,.int b=>(if a then 1 else 0)==b
 |.int a,.bl b=>a==(if b then 1 else 0)
 |.int a,.int b=>a==b
 |.str a,.str b=>a==b
 |_,_=>false
def VC (x:V)(xs:Zb):Bool:=xs.any λy=>eqV y x
inductive rIn (K:Za1) (neg:Bool) (x:V) (y:V) (H:Hp) (Q:VK):Prop
 |mk (p:Zs) (xs:Zb):y=↑p->(aF K H p xs\/bA K H p xs)->Lc x=true->xs.all Lc=true->Q (.bl (if neg then !VC x xs else VC x xs)) H->rIn K neg x y H Q
inductive EK (K:Za1) (xs:Zb) (H:Hp) (Q:VK):Prop
 |mk (p:Zs) (ys:Zb):xs=[↑p]->(aF K H p ys\/bA K H p ys)->Q (.int ⇑ys) H->EK K xs H Q
def bH:iz X (.builtin "len") (EK X.K):=by
 intro f s k H j m Q I r h;let⟨p,ys,rfl,c,q⟩:=h;let⟨u,rfl,i⟩:=vals1 r;ext i;let l:=qH;rcases c with c|c
 ·let⟨e,d,pl,g⟩:=I.list c;let hlen:=⇑d;rwa[Calls.call_len_list pl.isList (by simp only[agD] <;> omega) ⟨.int ⇑ys,H,I.tok _,⟨s.toks+ 1,by cbv⟩,q⟩]
 ·let⟨e,d,pl,g⟩:=I.tuple c;let hlen:=⇑d;rwa[len_tuple pl (by simp only[agD] <;> omega) ⟨.int ⇑ys,H,I.tok _,⟨s.toks+ 1,by cbv⟩,q⟩]
def zQ:iz X (.type "list") (λw H Q=>∃p ys,w=[↑p]/\(aF X.K H p ys\/bA X.K H p ys)/\∀l,H l=none->Q ↑l (upd H l (.lst ys))):=by
 intro k s z H w B Q I r h;let⟨p,ys,rfl,i,q⟩:=h;let⟨u,rfl,y⟩:=vals1 r;ext y
 let fin:∀(c:Zk),Vals ys c->⇑ys<=sizeLine->∀(d:Heap) (g:Nat),(∀b x,s.heap.get? b\x->d.get? b\x)->
  d.get? ↥s=some { cls:=.type "list",dict:=none,data:=.seq c.toArray g,slots:=#[] }->EP X k z Q ↑↥s (s<*d):=λc f j d g kp e=>
  ⟨↑↥s,_,I.laid (t':=s.toks) kp (agp _) (show bY X.prog X.w _ d _ (.lst ys) from ⟨j,c,g,f,e⟩),2,q _ (I.aL.fresh (agp _))⟩
 rcases i with i|i
 ·let⟨c,f,pl,j⟩:=I.list i;let hlen:=⇑f;let⟨o,t,v,n,m⟩:=pl.isList;rwa[call_list_seq p (.inl rfl) t v m (λd g kp e=>fin c f j d g kp e) (by simp only[agD] <;> omega)]
 ·let⟨c,f,pl,j⟩:=I.tuple i;let hlen:=⇑f;let⟨o,t,v,n,m⟩:=pl;rwa[call_list_seq p (.inr rfl) t v m (λd g kp e=>fin c f j d g kp e) (by simp only[agD] <;> omega)]
def qc:iz X (.type "tuple") (λm H Q=>∃p ys,m=[↑p]/\((aF X.K H p ys/\∀l,H l=none->Q ↑l (upd H l (.tup ys)))\/(bA X.K H p ys/\Q ↑p H))):=by
 intro c s n H m x Q I r h;let⟨p,ys,rfl,h⟩:=h;let⟨u,rfl,w⟩:=vals1 r;ext w;rcases h with ⟨i,q⟩|⟨i,q⟩
 ·let⟨d,g,pl,k⟩:=I.list i;let hlen:=⇑g;rwa[call_tuple_list pl.isList (λf kp=>?_) (by simp only[agD] <;> omega)];let j:Inv X c n H (s<*f):=I.kept (t':=s.toks) kp
  let v:Inv X c n (upd H f.objs.size (.tup ys)) { s with heap:=f.push ("tuple">>>.seq d.toArray) }:=
   j.laid (t':=s.toks) (λb o e=>agi _ e) (agp _) (show bY X.prog X.w _ _ _ (.tup ys) from ⟨k,d,g,IsTup.new _ _⟩)
  rwa[↑f.objs.size,_,v,2,q _ (j.aL.fresh (agp _))]
 ·let⟨d,g,pl,k⟩:=I.tuple i;rwa[call_tuple_same pl ⟨↑p,H,I,2,q⟩]
def Ld (K:Za1)(T:String)(x:V)(H:Hp):Prop:=match x with
 |.str _=>T="str"
 |.int _=>T="int"
 |.ref p=>(T="list"/\∃d,aF K H p d)\/(T="tuple"/\∃o,K.lookup p\o/\o.cls=.type "tuple"/\o.dict=none)\/
  (T="dict"/\((∃c,H p\.dK c)\/∃c,H p\.dT c))\/(T="set"/\∃S n,H p\.set S n)
 |_=>False
theorem Gi {T:String}{x:V}(I:Inv X o D H s)(r:RelV x v)(g:Ld X.K T x H):
 s.TypeIs v T/\∀a,v=↑a->∃l,s.heap.get? a\l/\l.dict=none:=by
 cases x with
 |str z=>
  let⟨t,rfl⟩:=r;cases (show T="str" from g);rwa[typeIs_str s z t,λ_ e=>nomatch e]
 |int i=>
  let⟨t,rfl⟩:=r;cases (show T="int" from g);rwa[typeIs_int s i t,λ_ e=>nomatch e]
 |ref p=>
  ext r;rcases g with ⟨rfl,w,m⟩|⟨rfl,d,f,u,h⟩|⟨rfl,f⟩|⟨rfl,S,n,f⟩
  ·let⟨q,_,pl,_⟩:=I.list m;rwa[⟨pl.isList.typeIs,λa e=>?_⟩];ext e;let⟨d,n,e,c,h,_⟩:=pl;rwa[d,e,h]
  ·rwa[⟨⟨d,I.dk p d f,u⟩,λa e=>?_⟩];ext e;rwa[d,I.dk _ d f,h]
  ·let z:∃d,s.heap.get? p\d/\d.ExactDict:=by
    rcases f with ⟨j,f⟩|⟨j,f⟩
    ·let⟨_,_,_,_,d,_,_,e,ex,_⟩:=I.aL p _ f;rwa[d,e,ex]
    ·let⟨_,_,_,_,d,_,_,e,ex,_⟩:=I.aL p _ f;rwa[d,e,ex]
   let⟨d,e,ex⟩:=z;rwa[⟨⟨d,e,ex.1⟩,λa k=>?_⟩];ext k;rwa[d,e,ex.2.1]
  ·let⟨d,_,_,_,e,ex,_⟩:=I.aL p _ f;rwa[⟨⟨d,e,ex.1⟩,λa k=>?_⟩];ext k;rwa[d,e,ex.2.1]
 |_=>exact False.elim g
def Yk (K:Za1)(T:String)(r:V->Zb->Hp->VK->Prop)(to:TE):TE:=λ d H Q=>to d H λx c=>Ld K T x c/\r x [] c Q
def tBM (K:Za1)(T:String)(r:V->Zb->Hp->VK->Prop)(to:TE)(t:TA):TE:=λ d H Q=>to d H λx c=>Ld K T x c/\t d c λf e=>r x f e Q
variable {o e:Expr}{es:Zr}{to:TE}{t:TA}{name:Str}{apos cH:Pos}{T id:String}{r:V->Zb->Hp->VK->Prop}
theorem Gj (y:PlainAttrs T)(slot:Slot T name id)(f:typeOf (.builtin id)=pure (.type "method_descriptor"))(w:PH X id r)(n:PE X o to)
 (d:attributeBase o name X.env (eval o X.env)=eval o X.env:=by rfl) (hline:(apos.endLine==cH.line)=true:=by rfl):PE X (.Call (.Attribute o name apos) [] [] cH) (Yk X.K T r to):=by
 intro c s j H Q I h;rwa[wpAny_Call_method0_late d hline (a9 (n c s j H _ I h) λv q ζ=>?_)];let⟨x,p,i,g,u,l⟩:=ζ;let⟨m,k⟩:=Gi i g u;rwa[T,id,y,slot,f,m,k,ahq rfl (PySem.evalArgs_none (w c q j p x [] v [] Q i g .nil l))]
theorem cQ (M:PlainAttrs T)(slot:Slot T name id)(i:typeOf (.builtin id)=pure (.type "method_descriptor"))(F:PH X id r)(z:PE X o to)(L:PA X (e::es) t)
 (f:attributeBase o name X.env (eval o X.env)=eval o X.env:=by rfl)
 (g:((backTo cH (starEach (e::es) X.env)).all (λx=>!x.1) && (backToKw cH (keywordEach [] X.env)).all (λx=>x.1.isSome)
  && decide (⇑(e::es)+ ⇑([]:List Keyword)+ (if ([]:List Keyword).isEmpty then 0 else 1)<30))=true:=by rfl)
 (hline:(apos.endLine==cH.line)=true:=by rfl) (C:starEach (e::es) X.env=(false,eval e X.env)::starEach es X.env:=by rfl) (d:(backTo cH (starEach es X.env)).any (·.1)=false:=by rfl):
 PE X (.Call (.Attribute o name apos) (e::es) [] cH) (tBM X.K T r to t):=by
 intro c s j H Q I h;rwa[wpAny_Call_method_late f g hline rfl (a9 (z c s j H _ I h) λv B ζ=>?_)];let⟨x,A,l,k,D,u⟩:=ζ;let⟨w,n⟩:=Gi l k D;erw[T,id,M,slot,i,w,n];let m:=L cH c B j A _ l u;rw[C]at m ⊢;rwa[ahq (by show (false || (backTo cH (starEach es X.env)).any (·.1))=false;rw[d] <;> rfl) (ahW ?_)];rwa[a9 m λJ q ζ=>?_];let⟨p,G,y,E,N⟩:=ζ;rwa[F c q j G x p v J Q y k E N]
/- xs.append(e),list.index on a module's tuple .. are PH facts of 06m -/
end
def De (X:Cx)(id:String)(r:V->Zb->Hp->VK->Prop):Prop:=
 ∀(a:List (Zs×Obj)) (s:Zu) (d:St) (H:Hp) (x:V) (c:Zb) (v:Zt) (b:Zk) (Q:VK),Inv X a d H s->RelV x v->Vals c b->r x c H Q->
  X⁻¹ X.A (call (.builtin id) (v::b)) (EP X a d Q) X.xe s
theorem Vals.one:∀{x:V} {a:Zk},Vals [x] a->∃u,a=[u]/\RelV x u
 |_,_,.cons r .nil=>⟨12,r⟩
theorem Vals.zero:∀{a:Zk},Vals [] a->a=[]
 |_,.nil=>rfl
def Vals.dropLast {xs:Zb}{us:Zk}(h:Vals xs us):Vals xs.dropLast us.dropLast:=by
 induction h with
 |nil=>exact .nil
 |cons r t a=>
  cases t with
  |nil=>exact .nil
  |cons q b=>exact .cons r a
theorem Vals.eraseIdx:∀{xs:Zb} {us:Zk} (i:Nat),Vals xs us->Vals (xs.eraseIdx i) (us.eraseIdx i)
 |_,_,_,.nil=>.nil
 |_,_,0,.cons _ t=>t
 |_,_,i+ 1,.cons r t=>.cons r (Vals.eraseIdx i t)
theorem Vals.rep (h:Vals L N):∀k:Nat,Vals (List.replicate k L).flatten (List.replicate k N).flatten
 |0=>.nil
 |k+ 1=>by
  rwa[Vals.append h (Vals.rep h k)]
theorem yh {a:Type}:∀(l:List a) (i:Nat),⇑(l.eraseIdx i)<=⇑l
 |[],_=>agp _
 |_::_,0=>aiv _
 |_::r,i+ 1=>Nat.succ_le_succ (yh r i)
theorem foldl_rep (a:Zk):∀(k:Nat) (acc:Zk),
 List.foldl (λc d=>c++d) acc.toArray (List.replicate k a.toArray)=(acc++(List.replicate k a).flatten).toArray
 |0,acc=>by simp
 |k+ 1,acc=>by
  let e:acc.toArray++a.toArray=(acc++a).toArray:=by simp
  let b:(acc++a)++(List.replicate k a).flatten=acc++(List.replicate (k+ 1) a).flatten:=by
   rw[ail,aiF,ahe]
  rw[<-b,<-foldl_rep a k (acc++a),<-e,ail,List.foldl_cons]
section
variable {X:Cx}{pins:List (Zs×Obj)}{σ:St}{H:Hp}{s:Zu}{l:Zs}{xs ys:Zb}
theorem Inv.zR {Jg:Zk}{f:Zm->Zm}{t':Nat}(I:Inv X pins σ H s)(d:H l\.lst xs)
 (e:s.heap.get? l\("list">>>.seq N.toArray n)) (a:f N.toArray=Jg.toArray) (c:Vals ys Jg) (hz:⇑ys<=sizeLine):
 Inv X pins σ (upd H l (.lst ys)) { s with heap:=s.heap.update l (Obj.mapSeq f),toks:=t' }:=by
 let q:=PySem.IsL.update e f;rw[a]at q;rwa[I.write (x:=l) (e:=l) ([d]▸trivial) (.inl rfl) (λi u h g=>(ag3 s.heap (Obj.mapSeq f) (ahC h)).trans g) ⟨_,q⟩ ?_];rwa[hz,Jg,_,c,q]
theorem Inv.PQ {t':Nat}(I:Inv X pins σ H s)(a:Vals ys N)(hz:⇑ys<=sizeLine):
 Inv X pins σ (upd H ↥s (.lst ys)) { s with heap:=s.heap.push ("list">>>.seq N.toArray),toks:=t' }:=
 I.laid (λ_ _ q=>agi _ q) (agp _) ⟨hz,N,(0),a,agy _ rfl⟩
def Inv.fresh (I:Inv X pins σ H s):H ↥s=none:=I.aL.fresh (agp _)
def Inv.nF (I:Inv X pins σ H s)(c:H l\.lst xs):⇑xs<=sizeLine/\∃(a:Zk) (n:Nat),Vals xs a/\⇑xs=⇑a/\s.heap.get? l\("list">>>.seq a.toArray n):=by
 let⟨z,a,n,r,e⟩:=I.aL l _ c;rwa[z,a,n,r,⇑r,e]
def zS (h:n<=sizeLine):Builtin.List.listTooLong n=false:=by
 rwa[ahm ∅]
end
section
variable {X:Cx}
inductive Df (x:V) (vs:Zb) (H:Hp) (Q:VK):Prop
 |mk (l:Zs) (xs:Zb) (y:V):x=↑l->vs=[y]->H l\.lst xs->⇑xs<sizeLine->Q .non (upd H l (.lst (xs++[y])))->Df x vs H Q
theorem bP:De X "list.append" Df:=by
 intro d s p H x j v t Q I g f h;let⟨l,o,y,rfl,rfl,c,k,q⟩:=h;ext g;let⟨u,rfl,i⟩:=f.one;let⟨z,a,n,r,m,e⟩:=I.nF c;rwa[aiX F.slot_list_append ⟨_,e,2⟩ F.entry_list_append (F.args_list_append_2 _ _) (PySem.list_append l a.toArray n u (by rw[agD];omega)) ⟨e,5⟩];rwa[⟨.non,_,I.zR (Jg:=a++[u]) c e (by simp) (r.append (.cons i .nil)) ?_,2,q⟩];rw[agk,ahu];ext
inductive w9 (x:V) (vs:Zb) (H:Hp) (Q:VK):Prop
 |mk (l b:Zs) (xs zs:Zb):x=↑l->vs=[↑b]->H l\.lst xs->H b\.lst zs->⇑xs+ ⇑zs<=sizeLine->Q .non (upd H l (.lst (xs++zs)))->w9 x vs H Q
theorem yi:De X "list.extend" w9:=by
 intro j s J H x C v L Q I p m h;let⟨l,b,G,B,rfl,rfl,i,y,D,q⟩:=h;ext p;let⟨u,rfl,w⟩:=m.one;ext w;let⟨z,c,n,r,E,e⟩:=I.nF i;let⟨z2,a,A,t,k,o⟩:=I.nF y;let f:c.toArray.size+ a.toArray.size<=sizeLine:=by rw[agD,agD];ext
 let d:¬(!c.toArray.isEmpty && Builtin.List.listTooLong (c.toArray.size+ a.toArray.size))=true:=by
  rw[zS f,Bool.and_false];rwa[ag0]
 refine aiX F.slot_list_extend ⟨_,e,2⟩ F.entry_list_extend (F.args_list_extend_2 _ _)
  (AutoSeq1.list_extend_list_list_0 l c.toArray n b a.toArray A d ∅ ∅) ⟨e,o,5⟩
 rwa[⟨.non,_,I.zR (Jg:=c++a) i e (by simp) (r.append t) ?_,2,q⟩];rw[agk];ext
inductive PR (x:V) (vs:Zb) (H:Hp) (Q:VK):Prop
 |mk (l:Zs) (xs:Zb) (y:V):x=↑l->vs=[]->H l\.lst xs->xs[⇑xs - 1]?\y->Q y (upd H l (.lst xs.dropLast))->PR x vs H Q
theorem Gk:De X "list.pop" PR:=by
 intro g s A H x t v B Q I o i h;let⟨l,w,y,rfl,rfl,f,k,q⟩:=h;ext o;let b:=i.zero;subst b;let⟨z,a,n,r,j,e⟩:=I.nF f;let⟨u,m,p⟩:=r.get k
 let c:a.toArray[a.toArray.size - 1]?\u:=by
  show a.toArray[⇑a - 1]?\u
  rw[<-ai4,<-j];rwa[m]
 rwa[aiX F.slot_list_pop ⟨_,e,2⟩ F.entry_list_pop (F.args_list_pop_1 _) (MeetsSeq.list_pop_last l a.toArray n u c (by rw[agD];omega)) ⟨e,5⟩];rwa[⟨y,_,I.zR (Jg:=a.dropLast) f e ?_ r.dropLast ?_,p,q⟩]
 ·cbv
 ·rw[List.length_dropLast];ext
inductive Gm (x:V) (vs:Zb) (H:Hp) (Q:VK):Prop
 |mk (l:Zs) (xs:Zb) (i:Int) (k:Nat) (y:V):x=↑l->vs=[.int i]->H l\.lst xs-> -(2 ^ 63)<=i->i<2 ^ 63->seqIndex? i ⇑xs\k->xs[k]?\y->Q y (upd H l (.lst (xs.eraseIdx k)))->Gm x vs H Q
theorem Jh:De X "list.pop" Gm:=by
 intro f s J H x D v L Q I A m h;let⟨l,p,i,k,y,rfl,rfl,d,j,g,C,o,q⟩:=h;ext A;let⟨u,rfl,B⟩:=m.one;let⟨t,rfl⟩:=B;let⟨z,a,n,r,G,e⟩:=I.nF d;let⟨w,E,b⟩:=r.get o
 refine aiX F.slot_list_pop ⟨_,e,2⟩ F.entry_list_pop (F.args_list_pop_2 _ _)
  (MeetsSeq.list_pop_at l a.toArray n i t k w (fitsIndex_both j g) (by cbv) (by cbv) (by rw[agD];omega)) ⟨e,5⟩
 rwa[⟨y,_,I.zR (Jg:=a.eraseIdx k) d e ?_ (r.eraseIdx k) ?_,b,q⟩]
 ·cbv
 ·have:=yh p k;ext
inductive PV (x:V) (vs:Zb) (H:Hp) (Q:VK):Prop
 |mk (l:Zs) (xs:Zb):x=↑l->vs=[]->H l\.lst xs->Q .non (upd H l (.lst []))->PV x vs H Q
inductive PX (x:V) (y:V) (H:Hp) (Q:VK):Prop
 |mk (l b:Zs) (xs zs:Zb):x=↑l->y=↑b->H l\.lst xs->H b\.lst zs->⇑xs+ ⇑zs<=sizeLine->(∀p,H p=none->Q ↑p (upd H p (.lst (xs++zs))))->PX x y H Q
def qJ:gF X (binaryOp .Add) PX:=by
 intro d s D H x y v u Q I j k h;let⟨l,b,C,w,rfl,rfl,i,p,A,q⟩:=h;ext j;ext k;let⟨z,c,n,r,B,e⟩:=I.nF i;let⟨z2,a,E,m,f,g⟩:=I.nF p;rwa[PySem.P.add_list e g ?_ (by rw[agD,agD];omega)];let o:c.toArray++a.toArray=(c++a).toArray:=by simp
 rw[o];rwa[↑_,_,I.PQ (t':=s.toks) (r.append m) (by rw[agk];omega),2,q _ I.fresh]
inductive PY (x:V) (y:V) (H:Hp) (Q:VK):Prop
 |mk (l:Zs) (k:Int) (xs:Zb):x=↑l->y=.int k->H l\.lst xs-> -(2 ^ 63)<=k->k<2 ^ 63->⇑xs* k.toNat<=sizeLine->(∀p,H p=none->Q ↑p (upd H p (.lst (List.replicate k.toNat xs).flatten)))->PY x y H Q
def len_rep {a:Type}(xs:List a)(k:Nat):(List.replicate k xs).flatten.length=k* ⇑xs:=by
 induction k with
 |zero=>simp
 |succ k b=>cbv
theorem PZ:gF X (binaryOp .Mult) PY:=by
 intro p s O H x y v u Q I G J h;let⟨l,k,N,rfl,rfl,E,C,A,o,q⟩:=h;ext G;let⟨t,rfl⟩:=J;let⟨z,b,n,r,D,e⟩:=I.nF E;let hlen:b.toArray.size* k.toNat<=sizeLine:=by rw[agD,<-D];rwa[o]
 let d:¬b.toArray.size* k.toNat > (2 ^ 63 - 1) / 8:=by
  have:(sizeLine:Nat)<=(2 ^ 63 - 1) / 8:=⋯
  ext
 let g:¬(!Builtin.List.listFitsIndex k)=true:=by
  rw[fitsIndex_both C A];rwa[ag0]
 let c:¬Builtin.List.listTooLong (b.toArray.size* k.toNat)=true:=by
  rw[zS hlen];rwa[ag0]
 let f:List.foldl (λj i=>j++i) #[] (List.replicate (if b.toArray.isEmpty=true then 0 else k.toNat) b.toArray)=(List.replicate k.toNat b).flatten.toArray:=by
  let B:∀m:Nat,List.foldl (λj i=>j++i) #[] (List.replicate m b.toArray)=(List.replicate m b).flatten.toArray:=λm=>by
   have:=foldl_rep b m []
   cbv
  rw[B]
  cases b with
  |nil=>simp
  |cons a L=>rw[agF (by simp)]
 refine wpAny_binaryOp_repeat_ref (T:="list") (U:="int") ⋯ ⟨_,e,2⟩ (λw=>typeIs_int w k t) noFill_list_mul F.fills_int_mul F.slot_int_rmul repeat_list F.slot_int_index.lookup
  (aiX F.slot_int_rmul (typeIs_int s k t) F.entry_int_rmul (F.args_int_rmul_2 _ _) (int___rmul___int_list k t l b.toArray n)
   ⟨e,2,⟨_,e,2⟩,aiX F.slot_list_mul ⟨_,e,2⟩ F.entry_list_mul (F.args_list_mul_2 _ _) (AutoListH.list___mul___list_int_3 l b.toArray n k t g d c) ⟨e,5⟩⟩)
 rw[f];rwa[↑_,_,I.PQ (t':=s.toks) (r.rep k.toNat) ([len_rep,Nat.mul_comm]▸o),2,q _ I.fresh]
end
end L2
namespace Att
open PySem PySem.W PySem.Calls PyProof.Rows
def vh {P:Params}:∀(ns:Zg) (c:Zk),WellAll P h c (ns.map WData.int)->IntsAre c ns:=by
 intro ns
 induction ns with
 |nil=>
  intro c w;ext w;rwa[.nil]
 |cons n ns d=>
  intro c w
  cases w with
  |cons a b=>
   ext a;rwa[.cons _ _ (d _ b)]
theorem Gn {l:OpenLaw}(v:l.most\n){P:Params}{h:Heap}{b:List WData}{c:Zk}
 (e:l.row.toRowW.claim.pre b=true) (i:WellAll P h c b):
 ∃a m ns,c=[Value.ref a]/\b=[WData.list (ns.map WData.int)]/\h.get? a\("list">>>.seq m.toArray)/\IntsAre m ns/\⇑ns<=n:=by
 let k:WShape.hasAll [] b [.list .int]=true:=(pre_splitW e).1;let x:l.pre.holds [] { args:=b }=true:=(pre_splitW e).2;let⟨d,r,rfl,s,p⟩:=hasAllW_cons k;obtain rfl:=hasAllW_nil p;let⟨y,rfl,u⟩:=hasW_list s;let⟨ns,rfl⟩:=items_int u
 let hlen:⇑ns<=n:=by
  let g:(WTm.not (.lt (.lit (.int (n:Int))) (.len (.arg 0)))).holds [] { args:=[.list (ns.map .int)] }=true:=by
   let g:=(holds_andW x).1;rw[v]at g;rwa[g]
  let j:=condW_of g (w_not (w_lt w_lit (w_len_list (w_arg rfl))));rwa[Nat.le_of_not_lt λq=>?_]
  first
   |(rw[agW z]at j;rwa[absurd j (by decide)])
   |(simp at j;omega)
 cases i with
 |cons o w=>
  ext w
  cases o with
  |list t f=>rwa[11,ns,22,t,vh ns _ f,hlen]
def Gp (l:OpenLaw)(a:List WData):l.row.toRowW.claim.post a (.bool true) a=true:=
 postW_of (r:=l.row.toRowW) (X:=(true==true))
  (show WShape.has [] (.bool true) .bool=true by first|rfl|decide|simp[WShape.has,WShape.arms,WShape.armsAll])
  (show (WTm.eq .res (.lit (.bool true))).value [] { args:=a,res:=some (.bool true),after:=a }=some (.bool (true==true)) from w_eq_bool (w_res rfl) w_lit) rfl
theorem Cm {l:OpenLaw}{loose:Zp}{XP:(Str->Zl)->Heap->Prop}{z:World->Heap->Prop}{d:DefRec}
 (I:l.most\n) (q:d.params.defaults=[])
 (call:∀(w:World) (c b:Zu) (m s:Str->Zl) (h:Zs) (o:Obj) (pm k doc:Zt) (a:Zs) (e:Zk) (ns:Zg),
  Ground P loose [] XP w c m s b.heap->z w b.heap->
  b.heap.get? h=some o->o.data=.func (docDef d.name d.params d.body d.scope pm k doc)->b.heap.CodeRec k d.name->m d.name\↑h->
  b.heap.get? a=some ("list">>>.seq e.toArray)->IntsAre e ns->⇑ns<=n->b.gens=#[]->
  codeAny (model l.prog w) callerA (.call ↑h ⟨[↑a],[]⟩) (λr j=>r=.ok (.ret (.bool true))/\OldK b.heap j.heap/\j.os=b.os/\AllBare j.gens) b):
 WalkO P loose XP z l.row.toRowW d [] (λf e=>PySem.call f e):=by
 intro w c b m s G Y h o pm k doc M kV F A u y t C v x as i hlay N p L;obtain rfl:M=.none:=Dflts.none y q;obtain rfl:kV=.none:=Dflts.noKw y;let⟨a,e,ns,rfl,rfl,g,hints,hlen⟩:=Gn I i p;rwa[enter_call (aiO (call w c b m s h o pm k doc a e ns G Y F (fd_plain A) u t g hints hlen C) λr j D=>?_)];let⟨rfl,B,H,E⟩:=D;rwa[.inl ⟨.bool true,.bool true,[],2,λ_=>rfl,.bool true,Gp l _,λ_=>⟨List.Pairwise.nil,λ_ J=>(nomatch J)⟩⟩,B,H,E]
end Att
namespace L2
open PySem PySem.Spec PyProof.Rows
theorem yj:∀{a:Zk} {ns:Zg},IntsAre a ns->Vals (ns.map V.int) a
 |_,_,.nil=>.nil
 |_,_,.cons n t h=>.cons ⟨t,2⟩ (yj h)
noncomputable def inClass (s:Stmt)(j:Nat):Stmt:=match s with
 |.ClassDef _ _ _ body _ _ _ _ _ _ _=>body.getD j (.Pass ⟨(0),(0),(0),(0)⟩)
 |_=>.Pass ⟨(0),(0),(0),(0)⟩
noncomputable def dy (s:Stmt):Arguments:=match s with
 |.FunctionDef _ a _ _ _ _ _ _ _ _=>a
 |_=>{ posonlyargs:=[],args:=[],vararg:=none,kwonlyargs:=[],kw_defaults:=[],kwarg:=none,defaults:=[] }
noncomputable def cF (s:Stmt):List Stmt:=match s with
 |.FunctionDef _ _ b _ _ _ _ _ _ _=>b
 |_=>[]
noncomputable def aB (s:Stmt):Scope:=match s with
 |.FunctionDef _ _ _ _ _ _ a _ _ _=>a
 |_=>{ kind:=.function,names:=[],isGenerator:=false,isCoroutine:=false }
abbrev VD:lg:=λ_ _ _ _ _ _=>False
abbrev E0:XK:=λ_ _ _=>False
structure qK (K:Za1) (x qual:Str) (st:Stmt) (f:Zs) (fd:FuncData):Prop where
 ex:∃(oc:Zt) (od:Zo) (kV doc pm:Zt) (an:Zo) (cC ct:Zt) (zT:Array Zl),
  fd=PySem.W.fnOf x qual (dy st) (cF st) (aB st) .none kV doc pm an cC ct/\K.lookup f\⟨oc,od,.func fd,zT⟩/\PySem.W.codeIn K cC qual=true
 kp:PySem.W.keepIn K ↑f=true
section
variable {K:Za1}
theorem qK.binds {qual:Str}{st:Stmt}{fd:FuncData}{ps:Zp}(F:qK K x qual st a fd)
 (h:∀(kV doc pm:Zt) (c:Zo) (b ct:Zt) (us:Zk),⇑us=⇑ps->bindArgs (PySem.W.fnOf x qual (dy st) (cF st) (aB st) .none kV doc pm c b ct) ⟨us,[]⟩=pure (ps.zip us)):Binds K fd ps []:=by
 let⟨g,f,kV,doc,pm,c,b,ct,e,rfl,lk,d⟩:=F.ex;rwa[.all (h kV doc pm c b ct)]
theorem Gq {qual:Str}{st:Stmt}{f d:Zo}{b:Array Zl}{kV doc pm e:Zt}(l:K.lookup a\⟨v,f,.func (PySem.W.fnOf x qual (dy st) (cF st) (aB st) .none kV doc pm d u e),b⟩)
 (c:PySem.W.codeIn K u qual=true) (k:PySem.W.keepIn K ↑a=true):qK K x qual st a (PySem.W.fnOf x qual (dy st) (cF st) (aB st) .none kV doc pm d u e):=⟨⟨v,f,kV,doc,pm,d,u,e,b,2,l,c⟩,k⟩
end
def iU {k:Nat}(a:cy k A):A.units+ 1<cLine:=agu (Nat.add_le_add_left (by decide:1<=64) _) a.units
section
variable {X:Cx}
def pv (i:Nat){x:Str}{a:Pos}(e:X.N[i]?\x:=by rfl)(d:OV X.env.scope x:=by trivial)(c:(x==("__debug__":Str))=false:=by decide)
 (b:(x==("__classdict__":Str))=false:=by decide):PE X (.Name x a) (i6 i):=OW e d c b
end
def dP {A B:Prop}(h:B):if false=true then A else B:=by
 cbv
def jF {A B:Prop}(h:A):if true=true then A else B:=by
 cbv
def bS {c A B:Prop} [Decidable c](b:c->A)(a:¬c->B):if c then A else B:=by
 cbv
def iV {c A B:Prop} [Decidable c](a:c)(h:B):if (!decide c)=true then A else B:=by
 cbv
def aq (H a:Hp):Prop:=∀b o,H b\o->a b\o
def aq.refl (H:Hp):aq H H:=λ_ _ h=>h
def aq.trans (a:aq H I)(b:aq I J):aq H J:=λc o h=>b c o (a c o h)
def aq.free (e:aq H I){l:Zs}(h:I l=Option.none):H l=Option.none:=by
 cases q:H l with
 |none=>rfl
 |some o=>
  rw[e l o q]at h;ext h
def aq.seq (e:aq H I)(h:aF K H a L):aF K I a L:=by
 rcases h with (h|⟨o,h⟩)|h
 ·rwa[.inl (.inl (e^h))]
 ·rwa[.inl (.inr ⟨o,e^h⟩)]
 ·rwa[.inr h]
end L2
namespace L2
open PySem PySem.Spec PyProof.Rows
section
variable {prog:Program}{w:World}{A:Around}{R:Result->Zu->Prop}{s:Zu}
theorem Cp {elt target iter:Expr}{scope:Scope}{it acc:Zt}{env:Env}(I:Nat->Zu->Prop)
 (turn:∀n s,I n s->(prog<|>w) A (pyNext it) (λr a=>match r with
  |none=>R (.ok .next) a
  |some v=>(prog<|>w) A (letOwnedTupleGo target it v) (λ_ e=>(prog<|>w) A (assign target env v) (λ_ g=>(prog<|>w) A (eval elt env) (λx f=>
   (prog<|>w) A (call (.builtin "list.append") [acc,x]) (λ_ d=>∃m,m<n/\I m d) (λ_ _=>False) f) (λ_ _=>False) g) (λ_ _=>False) e) (λ_ _=>False) a) (λ_ _=>False) s)
 (n:Nat) (h:I n s):codeAny (model prog w) A (.compLoop (.ListComp elt [⟨target,iter,[],(0)⟩] scope p) 0 it acc env) R s:=by
 rwa[codeAny_loop rfl I (λn s o=>?_) n h];rwa[wpAny_noted ?_];rw[compTurn_list1];rwa[agg (aje (agg (ahk (turn n s o) (λr a c=>?_) λ_ _ b=>b.elim)))]
 cases r with
 |none=>exact agn c
 |some v=>
  rwa[agg (ahk c (λ_ e l=>?_) λ_ _ b=>b.elim)]
  exact agg (ahk l (λ_ g j=>agg (agg (ahk j (λx f k=>agg (ahk k
   (λ_ d i=>agn (agn ⟨2,i⟩)) λ_ _ b=>b.elim)) λ_ _ b=>b.elim))) λ_ _ b=>b.elim)
end
noncomputable def dm (X:Cx)(a:Zp)(scope:Scope)(cl:List (Str×Zs))(C:Zs)(s:Zu)(H:Hp)(ex:Zn):Cx where
 prog:=X.prog
 w:=X.w
 K:=X.K
 mg:=X.mg
 base:=X.base
 A:=X.A
 N:=a
 dY:=s
 ua:=H
 env:=compEnvC scope cl C X.env
 outer:=X.stack
 stack:=X.stack
 ex:=ex
 fn:=λ_=>false
 calm:=X.calm
 pn:=[]
 xe:=λ_ _=>False
def qL (d:TE)(g:St)(Q:VK)(J:It)(f:Hp):Prop:=∃W:Nat->Nat->Zb->Hp->Prop,(∃m,W 0 m [] f)/\∀i m ys a,W i m ys a->
 (J.stop i a/\⇑ys<=sizeLine/\∀D,a D=none->Q ↑D (upd a D (.lst ys)))\/
 (J.go i a/\⇑ys<sizeLine/\∀x c,J.lP i a x c->d (some x::g) c λy e=>∃b,b<m/\W (i+ 1) b (ys++[y]) e)
def Le (b:TI)(d:St->St)(c:TE):TE:=λ a H Q=>b a H (qL c (d a) Q)
structure dQ (X:Cx) (x:Str) (fns:Zp) (ixs:Zh) (scope:Scope) (cl:List (Str×Zs)):Prop where
 zU:closureFor scope X.env=pure cl
 sub:∀y c,cl.lookup y\c->X.env.cells.lookup y\c
 cell:∀y∈scope.names,y.2≠.cell
 kind:scope.kind=.function
 names:∀y∈scope.names,y.2=.local->scope.names.lookup y.1=some .local
 own:scope.names.lookup x=some .local
 has:∀y,((relabel scope X.env).names.lookup y=some .cell\/(relabel scope X.env).names.lookup y=some .free)->∃c,cl.lookup y\c
 nd:(x::fns).Nodup
 len:⇑ixs=⇑fns
 at_:∀(j:Nat) (y:Str),fns[j]?\y->∃i:Nat,ixs[j]?\i/\X.N[i]?\y/\(X.env.kindOf y=some .cell\/X.env.kindOf y=some .free)/\∃c,cl.lookup y\c/\((relabel scope X.env).names.lookup y=some .cell\/(relabel scope X.env).names.lookup y=some .free)
noncomputable def iN (ixs:Zh):St->St:=λ a=>ixs.map λi=>(a[i]?).join
section
variable {X:Cx}{x:Str}{scope:Scope}
def tK (a:scope.names.lookup x=some .local):(relabel scope X.env).names.lookup x=some .local:=lookup_relabel_local a
end
theorem lC {scope:Scope}(a:∀y∈scope.names,y.2≠.free)(b:∀y∈scope.names,y.2≠.cell)(d:scope.kind=.function)
 (g:∀y∈scope.names,y.2=.local->scope.names.lookup y.1=some .local) (f:scope.names.lookup x=some .local):dQ X x [] [] scope [] where
 zU:=closureFor_none a
 sub:=λy c h=>nomatch h
 cell:=b
 kind:=d
 names:=g
 own:=f
 has:=λy h=>by
  let e:(relabel scope X.env).names=scope.names:=by
   rwa[map_eq_self λz i=>?_]
   let⟨n,k⟩:=z;have:(k==NameKind.free)=false:=by simpa using a _ i
   simp[this]
  rw[e]at h;rcases h with h|h
  ·rwa[absurd rfl (b _ (ahO h))]
  ·rwa[absurd rfl (a _ (ahO h))]
 nd:=by simp
 len:=rfl
 at_:=λj y h=>by simp at h
theorem kA {J:It}{Q:VK}(xs:Zb)(g:V->V)(h:∀i:Nat,i<⇑xs->J.go i H)(p:∀(i:Nat) (x:V) (c:Hp),i<⇑xs->J.lP i H x c->c=H/\xs[i]?\x)
 (d:J.stop ⇑xs H) (j:⇑xs<=sizeLine) (s:∀(i:Nat) (x:V),xs[i]?\x->∀R:VK,R (g x) H->r (some x::D) H R) (n:∀a,H a=none->Q ↑a (upd H a (.lst (xs.map g)))):
 qL r D Q J H:=by
 erw[λi m ys l=>m=⇑xs - i/\i<=⇑xs/\ys=(xs.take i).map g/\l=H,⟨⇑xs,by simp,agP _,by simp,2⟩];rintro i m ys l ⟨rfl,t,rfl,rfl⟩;by_cases b:i<⇑xs
 ·rwa[.inr ⟨h i b,by rw[agm,agV];ext,λx c f=>?_⟩];let⟨q,k⟩:=p i x c b f;subst q;rwa[s i x k _ ⟨⇑xs - (i+ 1),32,b,52⟩];rw[aij,k];simp
 ·let e:i=⇑xs:=∅
  subst e;rwa[.inl ⟨d,by rw[agm,agV];ext,λa o=>?_⟩];rw[ahZ];rwa[n a o]
def P1 {xs:Zb}(h:bA K H a xs):∀i,i<⇑xs->(x8 K a).go i H:=λi b=>⟨xs,xs[i],h,agl b⟩
def Nc {xs:Zb}(h:bA K H a xs):∀i x b,i<⇑xs->(x8 K a).lP i H x b->b=H/\xs[i]?\x:=λi x b _ y=>⟨y.1,y.2 xs h⟩
def Ji {xs:Zb}(h:bA K H a xs):(x8 K a).stop ⇑xs H:=⟨xs,h,agp _⟩
def kB {xs:Zb}(h:aF K H a xs):∀i,i<⇑xs->(x6 K a).go i H:=λi b=>⟨xs,xs[i],h,agl b⟩
def ji {xs:Zb}(h:aF K H a xs):∀i x b,i<⇑xs->(x6 K a).lP i H x b->b=H/\xs[i]?\x:=λi x b _ y=>⟨y.1,y.2 xs h⟩
def ib {xs:Zb}(h:aF K H a xs):(x6 K a).stop ⇑xs H:=⟨xs,h,agp _⟩
inductive P8 (t:TS) (D:Ends) (σ:St) (H:Hp):Prop
 |mk (G:St->Hp->Prop):t { D with nx:=G } σ H->(∀ fx H',G fx H'->D.nx fx H')->P8 t D σ H
def bM {st:Stmt}{t:TS}(h:PS X st t):PS X st (P8 t):=by
 intro a s j H D I ⟨G,e,d⟩;rwa[a9 (h a s j H { D with nx:=G } I e) λf k q=>?_]
 cases f with
 |next=>let⟨b,c,i,g⟩:=q;rwa[b,c,i,d b c g]
 |_=>exact q
def gZ {scope:Scope}{env:Env}{k:NameKind}(h:(relabel scope env).names.lookup x\k)(g:k=.cell\/k=.free)(i:∀z∈scope.names,z.2≠.cell):(x,NameKind.free)∈scope.names:=by
 let f:=ahO h;unfold relabel at f;let⟨⟨n,c⟩,d,e⟩:=ahc.mp f;dsimp only at e;by_cases hf:(c==NameKind.free && env.scope.kind==.function && env.kindOf n==some .cell)=true
 ·rw[agI hf]at e;let a:n=x:=ahF Prod.fst e;rw[aib,aib]at hf;let b:c=.free:=eq_of_beq hf.1.1;rw[<-a,<-b];rwa[d]
 ·rw[agF hf]at e;let a:n=x:=ahF Prod.fst e;let b:c=k:=ahF Prod.snd e;subst a b;rcases g with rfl|rfl
  ·rwa[absurd rfl (i _ d)]
  ·rwa[d]
theorem cL {env:Env}(a:env.scope.kind=.function){y:Str}(b:env.kindOf y=some .cell):∀{names:List (Str×NameKind)},names.lookup y=some .free->
 (names.map λ(n,k)=>if (k==NameKind.free && env.scope.kind==.function && env.kindOf n==some .cell) then (n,NameKind.cell) else (n,k)).lookup y=some .cell
 |[],h=>by simp at h
 |(n,k)::r,h=>by
  let c:=@cL env a y b r
  cbv
theorem pz {scope:Scope}(b:closureFor scope X.env=pure [(f,c)])(s:X.env.cells.lookup f\c)(m:∀z∈scope.names,z.2≠.cell)(o:scope.kind=.function)
 (r:∀z∈scope.names,z.2=.local->scope.names.lookup z.1=some .local) (q:scope.names.lookup x=some .local) (a:∀z∈scope.names,z.2=.free->z.1=f) (l:x≠f) (p:X.N[i]?\f)
 (g:X.env.kindOf f=some .cell) (n:X.env.scope.kind=.function) (k:scope.names.lookup f=some .free):dQ X x [f] [i] scope [(f,c)] where
 zU:=b
 sub:=λz d h=>by
  cbv
 cell:=m
 kind:=o
 names:=r
 own:=q
 has:=λz h=>by
  let e:z=f:=by
   rcases h with h|h
   ·rwa[a _ (gZ h (.inl rfl) m) rfl]
   ·rwa[a _ (gZ h (.inr rfl) m) rfl]
  subst e;rwa[c,by simp[aip]]
 nd:=by simp[l]
 len:=rfl
 at_:=λj z h=>by
  cases j with
  |zero=>
   let e:f=z:=by simpa using h
   subst e;rwa[i,2,p,.inl g,c,by simp[aip],.inl (cL n g k)]
  |succ j=>simp at h
namespace Rv
def Gr:Slot "reversed" "__init__" "object.__init__":=
 .of (owner:="object") (n:="__init__") (by rw[typeLookup_type,builtinLookup_eq_fast];kernel_rfl) ⋯ ⋯ ⋯
  (by first|rwa[.inl (by decide)]|rwa[.inr (by decide)]) (by rw[isSubtype_type];kernel_rfl)
def called:TypeCalled "reversed" "reversed.__new__" "object.__init__":=
 ⟨44,⟨11,PySem.F.mro_reversed⟩,PySem.F.made_reversed,4,by rw[isSubtype_type];kernel_rfl,Gr⟩
def aeZ (h:Heap)(it t:Zs)(i:Int):Prop:=∃o,h.get? it\o/\o.cls=.type "reversed"/\o.data=.fields #[↑t,rawInt i]
end Rv
def ao (ns:Zg):Zb:=ns.map V.int
def bW (h:l[i]?\z):(ao l)[i]?\(V.int z):=by
 unfold ao;rw[agx,h];rfl
def aM (ns:Zg):⇑(ao ns)=⇑ns:=agm ..
def cI (h:(ao l)[i]?\q):∃z,q=V.int z/\l[i]?\z:=by
 unfold ao at h
 cbv
def ints_app (a b:Zg):ao (a++b)=ao a++ao b:=agR ..
def all_eq (ns ms:Zg):((List.range (min ⇑ns ⇑ms)).all (λj=>decide (ns[j]?=ms[j]?)) && ⇑ns==⇑ms)=decide (ns=ms):=by
 rw[ahK,aib,List.all_eq_true,ahi,ajq];constructor
 ·rintro ⟨b,a⟩;rwa[ah3 λi=>?_]
  cbv
 cbv
section
variable {X:Cx}
inductive Uv (K:Za1) (x:V) (y:V) (H:Hp) (Q:VK):Prop
 |mk (a b:Zs) (ns ms:Zg):x=↑a->y=↑b->bA K H a (ao ns)->bA K H b (ao ms)->Q (.bl (decide (ns=ms))) H->Uv K x y H Q
inductive Lf (K:Za1) (x:V) (y:V) (H:Hp) (Q:VK):Prop
 |mk (a b:Zs) (ns ms:Zg):x=↑a->y=↑b->bA K H a (ao ns)->bA K H b (ao ms)->Q (.bl (!decide (ns=ms))) H->Lf K x y H Q
theorem Dg {b:Zg}{a:Zk}(c:Vals (ao l) N)(g:Vals (ao b) a)(j:Nat)(n:j<N.toArray.size)(i:j<a.toArray.size):
 SeqAt.EqAt A s N.toArray[j] a.toArray[j] (decide (l[j]?=b[j]?)):=by
 let w:=⇑c;let x:=⇑g;rw[aM]at w x;let o:j<⇑N:=by simpa using n
 let k:j<⇑a:=by simpa using i
 let h:l[j]?=some l[j]:=agl ∅
 let f:b[j]?=some b[j]:=agl ∅
 let⟨u,p,t,rfl⟩:=c.get (bW h);let⟨v,r,d,rfl⟩:=g.get (bW f)
 let m:N.toArray[j]=Value.int l[j] t:=by
  rw[List.getElem_toArray];rwa[Za0 ((agl o).symm.trans p)]
 let q:a.toArray[j]=Value.int b[j] d:=by
  rw[List.getElem_toArray];rwa[Za0 ((agl k).symm.trans r)]
 rw[m,q,h,f];have:=SeqAt.EqAt.int_int (A:=A) (s:=s) l[j] t b[j] d
 let e:decide (some l[j]=some b[j])=(l[j]==b[j]):=by
  rw[ahK,ahi,ajq];rwa[Za0,ahF some]
 rw[e];rwa[this]
def Nf (z:X.A.units<cLine):gF X (compareOp .NotEq) (Lf X.K):=by
 intro k s D H x y v u Q I A B h;let⟨a,b,f,d,rfl,rfl,C,r,q⟩:=h;ext A;ext B;let⟨g,i,w,_⟩:=I.tuple C;let⟨c,l,p,_⟩:=I.tuple r;rwa[SeqAt.RcNeAt.tuples (e:=λj=>decide (f[j]?=d[j]?)) (show s.heap.IsTuple a g.toArray from w) (show s.heap.IsTuple b c.toArray from p) z (λj t o=>Dg i l j t o) X.prog X.w X.xe _ ⟨.bl (!decide (f=d)),H,I,5,q⟩];let m:=⇑i;let n:=⇑l;rw[aM]at m n;show _=Value.bool (!decide (f=d));rw[<-all_eq,agD,agD,<-m,<-n]
inductive P9 (K:Za1) (xs:Zb) (H:Hp) (Q:VK):Prop
 |mk (x:V) (T:String) (t:Zt) (b:Bool):xs=[x,.ty T]->jC K H x t->PySem.W.kitOne K t (.type T)\b->Q (.bl b) H->P9 K xs H Q
def ic:iz X (.builtin "isinstance") (P9 X.K):=by
 intro a s k H j l Q I r h;let⟨x,T,t,b,rfl,d,e,q⟩:=h;let⟨u,i,rfl,f,g⟩:=vals2 r;ext g;rwa[Ge I f d e λc=>⟨.bl b,H,I.tok c,2,q⟩]
def ui (K:Za1)(T:String):PySem.W.kitOne K (.type T) (.type T)\true:=by
 unfold PySem.W.kitOne
 cbv
end
def aq.upd {o:HO}(h:H a=Option.none):aq H (upd H a o):=λb u e=>by
 rw[ak (aw e h)];rwa[e]
section
variable {X:Cx}
inductive Gs (x:V) (y:V) (H:Hp) (Q:VK):Prop
 |mk (a b:Zs) (xs ys:Zb):x=↑a->y=↑b->H a\.tup xs->H b\.tup ys->⇑xs+ ⇑ys<=sizeLine->(∀p H',aq H H'->H' p\.tup (xs++ys)->Q ↑p H')->Gs x y H Q
theorem Jj {ws:Zk}(m:IsTup s.heap a ([]:Zk).toArray)(o:IsTup s.heap b ws.toArray)
 (h:Q ↑b s):(P<|>w) A (binaryOp .Add ↑a ↑b) Q E s:=by
 let⟨⟨cls,q,data,p⟩,k,l,n,i⟩:=id m;let⟨⟨j,f,data2,g⟩,e,d,r,c⟩:=id o;simp only at l i d c;subst l i d c
 exact concat_meets ⟨_,k,2⟩ ⟨_,e,2⟩ noFill_tuple_add seq_tuple_add ajH ajy (aju _ _)
  (tuple_addW0 a b ([]:Zk).toArray ws.toArray n r q f p g rfl) ⟨k,e,h⟩
def Jk:gF X (binaryOp .Add) Gs:=by
 intro c s z H x y v u Q I j k h;let⟨a,b,i,ys,rfl,rfl,g,d,r,q⟩:=h;by_cases l:i=[]
 ·subst l;ext j;ext k;let⟨f,o,w,_⟩:=I.tuple (bA.of g);let⟨m,A,n,_⟩:=I.tuple (bA.of d);let e:f=[]:=o.sH.mpr rfl;subst e;rwa[Jj w n ⟨↑b,H,I,2,q b H (aq.refl H) d⟩]
 ·rwa[M9 c s z H ↑a ↑b v u Q I j k ⟨a,b,i,ys,22,bA.of g,bA.of d,l,r,λe=>?_,λ_ p t=>q p _ (aq.upd t) ah⟩];subst e;rwa[q a H (aq.refl H) ([agQ]▸g)]
inductive Lg (x:V) (lo:Zj) (hi:Zj) (H:Hp) (Q:VK):Prop
 |mk (a:Zs) (xs:Zb):x=↑a->H a\.tup xs->(∀p H',aq H H'->H' p\.tup (fJ xs lo hi)->Q ↑p H')->Lg x lo hi H Q
end
end L2
namespace HT
open PySem PyProof.Rows
section
variable {prog:Program}{w:World}{A:Around}{E:Zt->Zu->Prop}{s:Zu}
theorem qB {items:Zm}{lo j:Zj}(c:IsTup s.heap a items)(i:s.heap.IsSliceOf b v u .none)(pl:IsPart v lo)(o:IsPart u j)
 (hw:b6 items.size 0 lo=0/\b6 items.size items.size j=items.size) (h:Q ↑a s):(prog<|>w) A (getItem ↑a ↑b) Q E s:=by
 let⟨os,f,e,k⟩:=id i;let g:s.TypeIs ↑b "slice":=⟨os,f,e⟩;unfold getItem
 try with_reducible rwa[ahn ?_]
 first|rwa[agg (agn ?_)]|skip
 rwa[agg (wpAny_sequenceKey c.typeIs (by decide) ?_)]
 refine agg (aho (name:=Str.ofString "__getitem__") c.typeIs ahs
  (ahr ahs c.typeIs entry_tuple_getitem ?_ (args_tuple_getitem _ _)))
 show wpAny _ _ (Builtin.Tuple.tupleItemsOf ↑a >>=_) _ _ s;rwa[agg (tupleItemsOf_ c ?_)];rwa[agg (aiP g ?_)];rw[agI ⋯];rwa[agg (lS i pl o ?_)];rw[hw.1,hw.2];let d:((((0:Nat):Int)==0 && (1:Int)==1 && (items.size - 0)==items.size)=true):=by simp
 show wpAny _ _ (if (((0:Nat):Int)==0 && (1:Int)==1 && (items.size - 0)==items.size)=true then _ else _) _ _ s;rw[agI d];let⟨p,l,n,_⟩:=id c;rwa[agg (m:=Builtin.Tuple.tupleIsExact _) ?_];unfold Builtin.Tuple.tupleIsExact;rwa[agg (aiP c.typeIs (agn ?_))];show wpAny _ _ (if (Value.type "tuple"==Value.type "tuple")=true then _ else _) _ _ s;rw[agI ⋯];rwa[agg (ajN (agn ⟨12,agn h⟩))]
end
def uj:fillsNumberSlot (.type "tuple") "mul"=pure false:=
 PySem.fillsNumberSlot_seq (id:="tuple.__mul__") (r:=some (.builtin "tuple.__rmul__")) PySem.F.slot_tuple_mul.lookup ⋯ PySem.F.slot_tuple_rmul.lookup ⋯
def zV:seqRepeat? (.type "tuple")=pure (some (.builtin "tuple.__mul__")):=by
 unfold seqRepeat?;rw[PySem.seqSlot_of (T:="tuple") (name:="__mul__") (id:="tuple.__mul__") PySem.F.slot_tuple_mul.lookup ⋯,PySem.seqSlot_of (T:="tuple") (name:="__rmul__") (id:="tuple.__rmul__") PySem.F.slot_tuple_rmul.lookup ⋯];rfl
theorem xc (a:Int)(t:Tok)(l:Zs)(items:Zm)(n:Nat)(e:Zo)(c:Array Zl):
 Meets (Builtin.«int.__rmul__» ⟨[.int a t,↑l],[]⟩) (λ_ R s=>s.heap.get? l\{ cls:=.type "tuple",dict:=e,data:=.seq items n,slots:=c }/\R (.ok (.ret Value.notImplemented)) s):=
 .of_wp λb w A R s h=>by let⟨f,g,d,i,os⟩:=s;let⟨j,h⟩:=h;wp_walk;rwa[12,h]
theorem xg (l:Zs)(items:Zm)(n:Nat)(j:Zo)(c:Array Zl)(x:Int)(u:Tok)(b:¬(decide (x < -(2 ^ 63)) || decide (x>=2 ^ 63))=true)(m:(items.isEmpty || x==1)=true):
 Meets (Builtin.«tuple.__mul__» ⟨[↑l,.int x u],[]⟩) (λ_ R s=>s.heap.get? l\{ cls:=.type "tuple",dict:=j,data:=.seq items n,slots:=c }/\R (.ok (.ret ↑l)) s):=
 .of_wp λa w A R s h=>by
  let⟨f,g,d,e,os⟩:=s;let⟨i,h⟩:=h;let k:(⟨f,g,d,e,os⟩:Zu).TypeIs ↑l "tuple":=⟨_,i,2⟩
  wp_walk
  rwa[wpAny_ite_false (ahm b) ?_]
  wp_walk
  rwa[12,h]
theorem xh (l:Zs)(items:Zm)(n:Nat)(j:Zo)(c:Array Zl)(x:Int)(u:Tok)(b:¬(decide (x < -(2 ^ 63)) || decide (x>=2 ^ 63))=true)(o:¬(items.isEmpty || x==1)=true)(m:(decide (x<=0) || items.isEmpty)=true):
 Meets (Builtin.«tuple.__mul__» ⟨[↑l,.int x u],[]⟩) (λ_ R s=>s.heap.get? l\{ cls:=.type "tuple",dict:=j,data:=.seq items n,slots:=c }/\R (.ok (.ret ↑↥s)) { s with heap:=s.heap.push ("tuple">>>.seq #[]) }):=
 .of_wp λa w A R s h=>by
  let⟨f,g,d,e,os⟩:=s;let⟨i,h⟩:=h;let k:(⟨f,g,d,e,os⟩:Zu).TypeIs ↑l "tuple":=⟨_,i,2⟩
  wp_walk
  rwa[wpAny_ite_false (ahm b) ?_]
  wp_walk
  rwa[12,h]
theorem xi (l:Zs)(items:Zm)(n:Nat)(o:Zo)(f:Array Zl)(x:Int)(u:Tok)(e:¬(decide (x < -(2 ^ 63)) || decide (x>=2 ^ 63))=true)(v:¬(items.isEmpty || x==1)=true)(t:¬(decide (x<=0) || items.isEmpty)=true)
 (j:¬((items.size:Int)* x > (2 ^ 63 - 1) / 8)) (p:¬(Builtin.Tuple.tupleTooMany ((items.size:Int)* x))=true) (r:(List.foldl (λb a=>b++a) #[] (List.replicate x.toNat items)).size<=sizeLine):
 Meets (Builtin.«tuple.__mul__» ⟨[↑l,.int x u],[]⟩) (λ_ R s=>s.heap.get? l\{ cls:=.type "tuple",dict:=o,data:=.seq items n,slots:=f }/\R (.ok (.ret ↑↥s)) { s with heap:=s.heap.push ("tuple">>>.seq (List.foldl (λb a=>b++a) #[] (List.replicate x.toNat items))) }):=
 .of_wp λc w A R s h=>by
  let⟨k,g,d,i,os⟩:=s;let⟨m,h⟩:=h;let q:(⟨k,g,d,i,os⟩:Zu).TypeIs ↑l "tuple":=⟨_,m,2⟩
  wp_walk
  rwa[wpAny_ite_false (ahm e) ?_]
  wp_walk
  rwa[wpAny_ite_false (ahm j) ?_]
  wp_walk
  rwa[12,h]
end HT
namespace L2
open PySem PySem.Spec PyProof.Rows
section
variable {X:Cx}{e:Expr}{lo hi:Option Expr}
def zW:K9 X Lg:=by
 intro b s o H x v n k lo hi l Q I i j pl g h;let⟨a,xs,rfl,d,q⟩:=h;by_cases hw:HT.b6 ⇑xs 0 lo=0/\HT.b6 ⇑xs ⇑xs hi=⇑xs
 ·ext i;let⟨c,r,f,t⟩:=I.tuple (bA.of d);let hlen:c.toArray.size=⇑xs:=by rw[agD];rwa[r.length.symm]
  erw["tuple",_,ahs.lookup,f.typeIs];rwa[HT.qB f j pl g ([hlen]▸hw) ⟨↑a,H,I,2,q a H (aq.refl H) ?_⟩];unfold fJ;rw[hw.1,hw.2,List.drop_zero,Nat.sub_zero,ahZ];rwa[d]
 ·rwa[PF b s o H ↑a v n k lo hi l Q I i j pl g ⟨a,xs,2,bA.of d,hw,λp m=>q p _ (aq.upd m) ah⟩]
inductive Lh (x:V) (y:V) (H:Hp) (Q:VK):Prop
 |mk (a:Zs) (k:Int) (xs:Zb):x=↑a->y=.int k->H a\.tup xs-> -(2 ^ 63)<=k->k<2 ^ 63->⇑xs* k.toNat<=sizeLine->(∀p H',aq H H'->H' p\.tup (List.replicate k.toNat xs).flatten->Q ↑p H')->Lh x y H Q
theorem Dh:gF X (binaryOp .Mult) Lh:=by
 intro d s M H x y v u Q I W Z h;let⟨l,k,xs,rfl,rfl,L,h1,h2,J,q⟩:=h;ext W;let⟨t,rfl⟩:=Z;let⟨a,r,V,Y⟩:=I.tuple (bA.of L);let B:=⇑r;let⟨⟨cls,z,data,g⟩,j,hc,n,G⟩:=id V;simp only at hc G;subst hc G
 let A:¬(decide (k < -(2 ^ 63)) || decide (k>=2 ^ 63))=true:=by
  rw[ajz,ahi,ahi];ext
 let D:∀{S:PySem.Spec},Meets (Builtin.«tuple.__mul__» ⟨[↑l,.int k t],[]⟩) (λP R c=>c.heap.get? l\{ cls:=.type "tuple",dict:=z,data:=.seq a.toArray n,slots:=g }/\S P R c)->
  S X.A (wants (EP X d M Q) X.xe) s->X⁻¹ X.A (binaryOp .Mult ↑l (.int k t)) (EP X d M Q) X.xe s:=λ{S} m hS=>
  wpAny_binaryOp_repeat_ref (T:="tuple") (U:="int") ⋯ ⟨_,j,2⟩ (λc=>typeIs_int c k t) HT.uj F.fills_int_mul F.slot_int_rmul HT.zV F.slot_int_index.lookup
   (aiX F.slot_int_rmul (typeIs_int s k t) F.entry_int_rmul (F.args_int_rmul_2 _ _) (HT.xc k t l a.toArray n z g)
    ⟨j,2,⟨_,j,2⟩,aiX F.slot_tuple_mul ⟨_,j,2⟩ F.entry_tuple_mul (F.args_tuple_mul_2 _ _) m ⟨j,hS⟩⟩)
 by_cases hc:(a.toArray.isEmpty || k==1)=true
 ·rwa[D (S:=λ_ R c=>R (.ok (.ret ↑l)) c) (HT.xg l a.toArray n z g k t A hc) ⟨↑l,H,I,2,q l H (aq.refl H) ?_⟩]
  let e:(List.replicate k.toNat xs).flatten=xs:=by
   rw[ajz]at hc;rcases hc with hc|hc
   ·have:a=[]:=by simpa using hc
    have:xs=[]:=by
     let w:=B;rw[this]at w;rwa[ahM w]
    subst this;simp
   ·have:k=1:=by simpa using hc
    subst this;simp
  rw[e];rwa[L]
 ·by_cases f:(decide (k<=0) || a.toArray.isEmpty)=true
  ·rwa[D (S:=λ_ R c=>R (.ok (.ret ↑↥c)) { c with heap:=c.heap.push ("tuple">>>.seq #[]) }) (HT.xh l a.toArray n z g k t A hc f) ?_];rwa[⟨↑↥s,_,I.laid (t':=s.toks) (o:=.tup []) (λb O q=>agi _ q) (agp _) ?_,2,q _ _ (aq.upd (I.aL.fresh (agp _))) ?_⟩]
   ·rwa[agP _,[],.nil,IsTup.new _ _]
   ·let e:k.toNat=0:=by
     rw[ajz,ahi]at f;rcases f with f|f
     ·ext
     ·rwa[absurd (by rw[ajz];rwa[.inl f]) hc]
    rw[e,ah];rfl
  ·let hk:0<k:=by
    rw[ajz,ahi]at f;ext
   let p:List.foldl (λE C=>E++C) #[] (List.replicate k.toNat a.toArray)=(List.replicate k.toNat a).flatten.toArray:=by
    have:=foldl_rep a k.toNat [];rw[ai5]at this;rwa[this]
   let hlen:(List.replicate k.toNat a).flatten.length<=sizeLine:=by rw[len_rep,Nat.mul_comm,<-B];rwa[J]
   let i:((a.toArray.size:Int)* k)=((⇑xs* k.toNat:Nat):Int):=by
    rw[agD,<-B,Int.natCast_mul,Int.toNat_of_nonneg ∅]
   let hline:(sizeLine:Nat)<=(2 ^ 63 - 1) / 8:=⋯
   refine D (S:=λ_ R c=>R (.ok (.ret ↑↥c)) { c with heap:=c.heap.push ("tuple">>>.seq (List.foldl (λE C=>E++C) #[] (List.replicate k.toNat a.toArray))) })
    (HT.xi l a.toArray n z g k t A hc f (by rw[i];omega) (by unfold Builtin.Tuple.tupleTooMany;rw[ahi,i];omega) ([p,agD]▸hlen)) ?_
   rw[p];rwa[⟨↑↥s,_,I.laid (t':=s.toks) (o:=.tup (List.replicate k.toNat xs).flatten) (λb O q=>agi _ q) (agp _) ?_,2,q _ _ (aq.upd (I.aL.fresh (agp _))) ah⟩];rwa[[len_rep,Nat.mul_comm]▸J,_,r.rep k.toNat,IsTup.new _ _]
end
noncomputable def tx (l:Zh):Str:=⟨l.toArray⟩
def Gu (l:Zh):⇑(tx l)=⇑l:=by
 show l.toArray.size=⇑l;simp
def Qa {b:Zh}(h:tx B=tx b):B=b:=by
 have:=ahF (λs:Str=>s.cps.toList) h;rwa[this]
def Dj (h:x.cps.toList=f.cps.toList):x=f:=by
 let⟨a⟩:=x;let⟨b⟩:=f;have:a=b:=Array.toList_inj.mp h;rw[this]
def Uw (x:Str):x=tx x.cps.toList:=Dj rfl
def Gv (a b:Zh):tx a++tx b=tx (a++b):=by
 rwa[Dj ?_];show ((tx a).cps++(tx b).cps).toList=(a++b);rw[Array.toList_append];rfl
section
variable {X:Cx}{pos:Pos}
def dD {l:Zh}{j}(h:x=tx l):PE X (.Constant (.str x) j pos) (tC (.str (tx l))):=by
 rw[<-h];rwa[OX]
noncomputable def zX (n:Int):Zh:=(toString n:Str).cps.toList
def Gw (h:n<10000000000):n.log2<1920:=by
 rcases Nat.eq_zero_or_pos n with e|e
 ·subst e;decide
 ·let a:HPow.hPow 2 n.log2<=n:=Nat.log2_self_le ∅;let b:(10000000000:Nat)<2 ^ 1920:=⋯
  rwa[(Nat.pow_lt_pow_iff_right (by decide:1<2)).mp (agu a (ajv h b))]
def Jl {n:Int}(a:0<=n)(h:n<10000000000):⇑(zX n)<=10:=by
 have:=toString_length_le (v:=n) a (k:=10) ⋯ h;rwa[this]
end
structure Def (K:Za1) (mg:Str->Zl) (x:Str) (st:Stmt) (ps:Zp) (f:Zs) (fd:FuncData):Prop where
 F:qK K x x st f fd
 m:mg x\↑f
 b:Binds K fd ps []
inductive Ux (t:TE) (σ:St) (H:Hp) (Q:VK):Prop
 |mk (G:V->Hp->Prop):t σ H G->(∀v H',G v H'->Q v H')->Ux t σ H Q
def pA (ns:Zg)(lo a:Zj):fJ (ao ns) lo a=ao ((ns.drop (HT.b6 ⇑ns 0 lo)).take (HT.b6 ⇑ns ⇑ns a - HT.b6 ⇑ns 0 lo)):=by
 unfold fJ ao;rw[agm,ajV,ajW]
def jX (r:Int){n:Nat}(h:0<n):∃j:Nat,r % (n:Int)=(j:Int)/\j<n:=by
 let b:=ahT r (show (n:Int)≠0 by omega);let a:=ahJ r (show (0:Int)<(n:Int) by omega);rwa[(r % (n:Int)).toNat,33]
section
variable {κ:Type} [DecidableEq κ]
noncomputable def bB (a:List (κ×V))(k:κ):Zc:=(a.find? λb=>decide (b.1=k)).map (·.2)
noncomputable def putK (a:List (κ×V))(k:κ)(v:V):List (κ×V):=
 if (a.any λb=>decide (b.1=k))=true then a.map (λb=>if b.1=k then (b.1,v) else b) else a++[(k,v)]
noncomputable def eX (a:List (κ×V))(k:κ):List (κ×V):=a.filter λb=>decide (b.1≠k)
def cU {p:κ×V}{r:List (κ×V)}{k:κ}(e:p.1=k):bB (p::r) k\p.2:=by simp[bB,ai6,e]
def cM {p:κ×V}{r:List (κ×V)}{k:κ}(e:¬p.1=k):bB (p::r) k=bB r k:=by simp[bB,ai6,e]
theorem lU (k:κ):∀a:List (κ×V),(a.any λb=>decide (b.1=k))=(bB a k).isSome
 |[]=>rfl
 |p::r=>by
  rw[List.any_cons];by_cases e:p.1=k
  ·simp only[cU e,agW e,Bool.true_or,Option.isSome_some]
  ·rw[cM e,ahm e,Bool.false_or];rwa[lU k r]
theorem zY (k j:κ)(y:V):∀a:List (κ×V),bB (a.map λb=>if b.1=k then (b.1,y) else b) j=(bB a j).map λx=>if j=k then y else x
 |[]=>rfl
 |p::r=>by
  let c:=zY k j y r;rw[ahA];by_cases h:p.1=k
  ·rw[agI h];by_cases e:p.1=j
   ·rw[cU (p:=(p.1,y)) e,cU e,Option.map_some,agI (e.symm.trans h)]
   ·rw[cM (p:=(p.1,y)) e,cM e,c]
  ·rw[agF h];by_cases e:p.1=j
   ·rw[cU (p:=p) e,cU e,Option.map_some,agF (λz=>h (e.trans z))]
   ·rw[cM (p:=p) e,cM e,c]
theorem yk (k j:κ)(y:V):∀a:List (κ×V),bB a k=none->bB (a++[(k,y)]) j=if j=k then some y else bB a j
 |[],_=>by
  by_cases e:k=j
  ·rw[agI e.symm];rwa[cU (p:=(k,y)) e]
  ·rw[agF (λz=>e z.symm)];rwa[cM (p:=(k,y)) e]
 |p::r,b=>by
  rw[aiU];let c:¬p.1=k:=λz=>by rw[cU z]at b;ext b
  rw[cM c]at b;let d:=yk k j y r b;by_cases e:p.1=j
  ·rw[cU e,cU e,agF (λz=>c (e.trans z))]
  ·rw[cM e,cM e,d]
def pB (b:List (κ×V))(k j:κ)(y:V):bB (putK b k y) j=if j=k then some y else bB b j:=by
 unfold putK;by_cases a:(b.any λc=>decide (c.1=k))=true
 ·rw[agI a,zY];rw[lU]at a;by_cases e:j=k
  ·let⟨x,d⟩:=ajs.mp a
   cbv
  ·rw[agF e]
   cases bB b j with
   |none=>rfl
   |some x=>cbv
 ·rw[agF a];rwa[yk k j y b ?_];rw[lU]at a
  cases q:bB b k with
  |none=>rfl
  |some x=>rw[q]at a;rwa[(a rfl).elim]
def g6 (a:List (κ×V))(k:κ)(v:V):⇑(putK a k v)<=⇑a+ 1:=by
 unfold putK;split
 ·rw[agm];ext
 ·rw[agk,agL,ahU];ext
def zZ {a:List (κ×V)}{k:κ}(v:V)(h:bB a k=none):putK a k v=a++[(k,v)]:=by
 unfold putK;rw[lU,h];rwa[agF ⋯]
def eA.qM {o:Zc}{u:Zl}(r:eA o u):o.isSome=u.isSome:=by
 cases o with
 |none=>cases u with
  |none=>rfl
  |some _=>exact(show False from r).elim
 |some _=>cases u with
  |none=>exact(show False from r).elim
  |some _=>rfl
def eA.getD {o:Zc}{u:Zl}(r:eA o u)(rd:RelV q v):RelV (o.getD q) (u.getD v):=by
 cases o with
 |none=>cases u with
  |none=>exact rd
  |some _=>exact(show False from r).elim
 |some _=>cases u with
  |none=>exact(show False from r).elim
  |some _=>exact r
def KV.val {a:List (κ×V)}{f:List (κ×Zt)}(r:KV a f)(k:κ):eA (bB a k) (valueAt f k):=by
 induction r with
 |nil=>exact True.intro
 | @cons p q l c h t i=>
   let⟨g,j⟩:=h;by_cases e:p.1=k
   ·let d:q.1=k:=g.symm.trans e;let b:valueAt (q::c) k\q.2:=by simp[valueAt,ai6,d]
    rw[cU e,b];rwa[j]
   ·let d:¬q.1=k:=λz=>e (g.trans z)
    let b:valueAt (q::c) k=valueAt c k:=by simp[valueAt,ai6,d]
    rw[cM e,b];rwa[i]
def KV.any {a:List (κ×V)}{c:List (κ×Zt)}(r:KV a c)(k:κ):(a.any λb=>decide (b.1=k))=c.any λb=>decide (b.1=k):=by
 induction r with
 |nil=>rfl
 |cons h t d=>rw[List.any_cons,List.any_cons,d,h.1]
theorem KV.repl {b:List (κ×V)}{c:List (κ×Zt)}(r:KV b c)(k:κ){y:V}{u:Zt}(g:RelV y u):
 KV (b.map λa=>if a.1=k then (a.1,y) else a) (c.map λa=>if a.1=k then (a.1,u) else a):=by
 induction r with
 |nil=>exact .nil
 | @cons p q e f h t d=>
   rw[ahA,ahA];rwa[.cons ?_ d]
   cbv
def KV.put {a:List (κ×V)}{b:List (κ×Zt)}(r:KV a b)(k:κ){y:V}{u:Zt}(c:RelV y u):KV (putK a k y) (stored b k u):=by
 unfold putK stored;rw[r.any k];by_cases e:(b.any λd=>decide (d.1=k))=true
 ·rw[agI e,agI e];rwa[r.repl k c]
 ·rw[agF e,agF e];rwa[Paired.snoc r ⟨2,c⟩]
def KV.drop {c:List (κ×V)}{d:List (κ×Zt)}(r:KV c d)(k:κ):KV (eX c k) (without d k):=by
 unfold eX without
 induction r with
 |nil=>exact .nil
 | @cons p q l m h t g=>
   let⟨f,i⟩:=h;rw[List.filter_cons,List.filter_cons];by_cases e:p.1=k
   ·cbv
   ·let j:¬q.1=k:=λz=>e (f.trans z)
    let a:decide (p.1≠k)=true:=by simp[e]
    let b:decide (q.1≠k)=true:=by simp[j]
    rw[agI a,agI b];rwa[.cons ⟨f,i⟩ g]
def KV.length {a:List (κ×V)}{b:List (κ×Zt)}(r:KV a b):⇑a=⇑b:=Paired.length r
def Jm (a:List (κ×V))(k:κ):⇑(eX a k)<=⇑a:=aiq _ _
end
def jG {k:Key}(r:RelV (kV k) u):(bQ P w).is k u=true:=by
 cases k with
 |inl i=>let⟨t,e⟩:=(show ∃t,u=Value.int i t from r);subst e;rwa[Cj P w i t]
 |inr x=>let⟨t,e⟩:=(show ∃t,u=Value.str x t from r);subst e;rwa[Ck P w x t]
theorem yl:∀{a:Zd} {b:Zk},Vals (a.map kV) b->ItemsAre (bQ P w) a b
 |[],_,r=>by ext r;rwa[.nil]
 |k::a,_,r=>by
  cases r with
  |cons h t=>exact .cons (jG h) (yl t)
abbrev KT (H:Hp):List (Zd×V)->List (Zd×Zs×Zt)->Prop:=Paired λp q=>p.1=q.1/\H q.2.1\.tup (p.1.map kV)/\RelV p.2 q.2.2
def KT.val {a:List (Zd×V)}{g:List (Zd×Zs×Zt)}(r:KT H a g)(k:Zd):eA (bB a k) ((atKey g k).map (·.2)):=by
 induction r with
 |nil=>exact True.intro
 | @cons p q l c h t i=>
   let⟨f,_,j⟩:=h;by_cases e:p.1=k
   ·let d:q.1=k:=f.symm.trans e;let b:atKey (q::c) k\q.2:=by simp[atKey,ai6,d]
    rw[cU e,b];rwa[j]
   ·let d:¬q.1=k:=λz=>e (f.trans z)
    let b:atKey (q::c) k=atKey c k:=by simp[atKey,ai6,d]
    rw[cM e,b];rwa[i]
theorem KT.repl {a:List (Zd×V)}{xs:List (Zd×Zs×Zt)}(r:KT H a xs)(k:Zd){y:V}{u:Zt}(j:RelV y u):
 KT H (a.map λb=>if b.1=k then (b.1,y) else b) (xs.map (putAt k u)):=by
 induction r with
 |nil=>exact .nil
 | @cons p q d e h t c=>
   rw[ahA,ahA];rwa[.cons ?_ c];let⟨g,f,i⟩:=h;unfold putAt
   cbv
theorem KT.put {a:List (Zd×V)}{c:List (Zd×Zs×Zt)}(r:KT H a c)(k:Zd){b:Zs}{y:V}{u:Zt}(g:H b\.tup (k.map kV))(d:RelV y u):
 KT H (putK a k y) (storedH c k b u):=by
 let e:(a.any λf=>decide (f.1=k))=(atKey c k).isSome:=by
  rw[lU,(r.val k).qM,Option.isSome_map]
 unfold putK storedH;rw[e];by_cases q:(atKey c k).isSome=true
 ·rw[agI q,agI q];rwa[r.repl k d]
 ·rw[agF q,agF q];rwa[Paired.snoc r ⟨2,g,d⟩]
def KT.keeps {a:List (Zd×V)}{c:List (Zd×Zs×Zt)}(r:KT H a c)(d:∀b ys,H b\.tup ys->I b\.tup ys):KT I a c:=
 Paired.IV r λ_ _ z=>⟨z.1,d^z.2.1,z.2.2⟩
section
variable {P:Program}{w:World}{H:Hp}{h:Heap}{a:Zs}
def Li {u:HO}(ok:dz P w H h)(e:Rd H a u):bY P w H h a u:=e.ok ok
def pC {b:List (Key×V)}(ok:dz P w H h)(e:Rd H a (.dK b)):⇑b<=sizeLine/\(a==sysModules)=false/\∃c,KV b c/\h.DictOf (bQ P w) a c:=
 show bY P w H h a (.dK b) from Li ok e
def sI {b:List (Key×V)}(ok:dz P w H h)(e:H a\.dK b):⇑b<=sizeLine/\(a==sysModules)=false/\∃c,KV b c/\h.DictOf (bQ P w) a c:=pC ok (.inl e)
def lV {c:Zd}(ok:dz P w H h)(e:H a\.tup (c.map kV)):(tupleKind (bQ P w)).is h c a:=by
 let⟨_,b,r,o,f,d,n,g⟩:=(show bY P w H h a (.tup (c.map kV)) from ok a _ e);rwa[o,b.toArray,n,f,d,g,by simpa using yl r]
theorem pD {b:List (Zd×V)}(ok:dz P w H h)(e:Rd H a (.dT b)):⇑b<=sizeLine/\(a==sysModules)=false/\
 ∃d,KT H b d/\h.DictOfH (tupleKind (bQ P w)) a d:=by
 let⟨z,y,d,r,o,n,u,j,g,s,i,k⟩:=(show bY P w H h a (.dT b) from Li ok e);rwa[⟨z,y,d,r,o,n,u,j,g,s,i,λx c=>?_,k⟩]
 let all:∀{l:List (Zd×V)} {m:List (Zd×Zs×Zt)},KT H l m->∀x∈m,(tupleKind (bQ P w)).is h x.1 x.2.1:=by
  intro l m q
  induction q with
  |nil=>intro x c;rwa[nomatch c]
  | @cons p q A B f t v=>
    intro x c;rcases agB.mp c with e|c
    ·subst e;rwa[lV ok (by rw[<-f.1];rwa[f.2.1])]
    ·rwa[v x c]
 rwa[all r x c]
theorem Lj {b:List (Zd×V)}(ok:dz P w H h)(e:H a\.dT b):⇑b<=sizeLine/\(a==sysModules)=false/\
 ∃c,KT H b c/\h.DictOfH (tupleKind (bQ P w)) a c:=pD ok (.inl e)
end
def fY (H:Hp)(a:Zs)(y:V)(r:Zc):Prop:=
 (∃c k,Rd H a (.dK c)/\y=kV k/\r=bB c k)\/∃c k b,Rd H a (.dT c)/\y=↑b/\H b\.tup (k.map kV)/\r=bB c k
def qN (H:Hp)(a:Zs)(y v:V)(d:Hp):Prop:=
 (∃c k,H a\.dK c/\y=kV k/\⇑c<sizeLine/\d=upd H a (.dK (putK c k v)))\/
 ∃c k b,H a\.dT c/\y=↑b/\H b\.tup (k.map kV)/\⇑c<sizeLine/\d=upd H a (.dT (putK c k v))
def fY.k {b:List (Key×V)}{k:Key}(e:H a\.dK b):fY H a (kV k) (bB b k):=.inl ⟨b,k,.inl e,22⟩
def qN.k {b:List (Key×V)}{k:Key}(e:H a\.dK b)(c:⇑b<sizeLine):qN H a (kV k) q (upd H a (.dK (putK b k q))):=.inl ⟨b,k,e,2,c,2⟩
section
variable {X:Cx}{pins:List (Zs×Obj)}{σ:St}{H:Hp}{s:Zu}{a:Zs}{y v:V}{u r:Zt}{o:Zc}{A:Around}{E:Zt->Zu->Prop}
def Inv.big (I:Inv X pins σ H s):sysModules<↥s:=by
 let h:mainGlobals<↥s:=(I.mod.glob.keeps I.bk).lt;rwa[ajv ⋯ h]
theorem Gx (F:A.units+ 1<cLine)(I:Inv X pins σ H s)(g:fY H a y (some v))(t:RelV y u)(h:∀d q,Inv X pins σ H q->RelV v d->Q d q):
 X⁻¹ A (getItem ↑a u) Q E s:=by
 rcases g with ⟨f,k,e,n,l⟩|⟨f,k,b,e,n,B,l⟩
 ·subst n;let⟨z,w,x,rel,m⟩:=pC I.aL e;let⟨d,j,c⟩:=eA.some_of (v:=v) (o:=valueAt x k) ([l]▸rel.val k);rwa[wpAny_getItem_of (jG t) m.mapOf j (h d _ (I.tok _) c)]
 ·subst n;cases (show u=Value.ref b from t);let⟨z,w,D,rel,m⟩:=pD I.aL e;let⟨d,j,c⟩:=eA.some_of (v:=v) (o:=(atKey D k).map (·.2)) ([l]▸rel.val k);let⟨p,C,i⟩:=ahx.mp j;rwa[wpAny_getItem_heap (air F) (lV I.aL B) m C ?_];rw[i];rwa[h d _ (I.tok _) c]
theorem Ng (p:A.units+ 1<cLine)(I:Inv X pins σ H s)(g:fY H a y o)(m:RelV y u)(h:∀j,Inv X pins σ H j->Q (.bool (!o.isSome)) j):
 X⁻¹ A (compareOp .NotIn u ↑a) Q E s:=by
 rcases g with ⟨d,k,e,i,l⟩|⟨d,k,b,e,i,n,l⟩
 ·subst i;let⟨z,c,t,rel,f⟩:=pC I.aL e;rwa[wpAny_notIn_of (jG m) c f.mapOf ?_];rw[<-(rel.val k).qM,<-l];rwa[h _ (I.tok _)]
 ·subst i;cases (show u=Value.ref b from m);let⟨z,c,w,rel,f⟩:=pD I.aL e;rwa[wpAny_notIn_heap (air p) (lV I.aL n) c f ?_];let q:=(rel.val k).qM;rw[Option.isSome_map]at q;rw[<-q,<-l];rwa[h _ (I.tok _)]
theorem jY {t':Nat}{c:HO}(I:Inv X pins σ H s)(mu:tF (H a))(g:Heap.SameBut a s.heap h)(d:∃q,h.get? a\q)(new:bY X.prog X.w (upd H a c) h a c):
 Inv X pins σ (upd H a c) { s with heap:=h,toks:=t' }:=
 I.write (x:=a) (e:=a) mu (.inl rfl) (λb q f z=>(g.2 b f).trans z) d new
theorem qO {b:List (Key×V)}{c:List (Key×Zt)}(z:⇑b<=sizeLine)(d:(a==sysModules)=false)(rel:KV b c)(e:h.DictOf (bQ P w) a c):
 bY P w I h a (.dK b):=⟨z,d,c,rel,e⟩
theorem Gy (S:A.units+ 1<cLine)(d:Inv X pins σ H s)(g:qN H a y v I)(M:RelV y u)(L:RelV v r)(h:∀D,Inv X pins σ I D->U () D):
 X⁻¹ A (setItem ↑a u r) U E s:=by
 rcases g with ⟨f,k,e,C,l,n⟩|⟨f,k,b,e,C,J,l,n⟩
 ·subst C n;let⟨z,m,O,rel,B⟩:=sI d.aL e;let p:⇑O<=sizeLine:=by rw[<-⇑rel];rwa[z]
  let w:⇑(putK f k v)<=sizeLine:=by have:=g6 f k v;ext
  rwa[wpAny_setItem_pairs (hsz:=p) (jG M) B λG i x=>h _ ?_]
  let Y:∃q,G.get? a\q:=let ⟨q,_,_,j,_⟩:=i;⟨q,j⟩
  rwa[jY d ([e]▸True.intro) x Y (qO w m (rel.put k L) i)]
 ·subst C n;cases (show u=Value.ref b from M);let⟨z,m,xs,rel,B⟩:=Lj d.aL e;let p:⇑xs<=sizeLine:=by rw[<-Paired.length rel];rwa[z]
  let w:⇑(putK f k v)<=sizeLine:=by have:=g6 f k v;ext
  rwa[wpAny_setItem_heap (hsz:=p) (air S) (lV d.aL J) B λG i x=>h _ ?_]
  let⟨q,R,W,j,N,T,P,_,Q⟩:=i;rwa[jY d ([e]▸True.intro) x ⟨q,j⟩ ⟨w,m,_,(rel.put k J L).keeps λc ys F=>?_,q,R,W,j,N,T,P,Q⟩];rw[ak (bZ F e (λz=>nomatch z))];rwa[F]
end
section
variable {X:Cx}{pins:List (Zs×Obj)}{σ:St}{H:Hp}{s:Zu}{a:Zs}{kvs:List (Key×V)}{k:Key}{u:Zt}{A:Around}{E:Zt->Zu->Prop}
theorem Lk {more:Zk}(I:Inv X pins σ H s)(e:H a\.dK kvs)(g:RelV (kV k) u)(l:bB kvs k\q)(p:more=[]\/∃x,more=[x])
 (h:∀c j,Inv X pins σ (upd H a (.dK (eX kvs k))) j->RelV q c->Q c j):X⁻¹ A (call (.builtin "dict.pop") (↑a::u::more)) Q E s:=by
 let⟨z,r,m,rel,n⟩:=sI I.aL e;let⟨c,y,f⟩:=eA.some_of (v:=q) (o:=valueAt m k) (by rw[<-l];rwa[rel.val k])
 let B:(keyPart u).isSome=true:=by
  cases k with
  |inl i=>let⟨t,b⟩:=(show ∃t,u=Value.int i t from g);subst b;rfl
  |inr x=>let⟨t,b⟩:=(show ∃t,u=Value.str x t from g);subst b;rfl
 let D:argsOk "dict.pop" ⟨↑a::u::more,[]⟩:=by
  rcases p with b|⟨x,b⟩
  ·subst b;rwa[PySem.F.args_dict_pop_2 _ _]
  ·subst b;rwa[PySem.F.args_dict_pop_3^_]
 refine aiQ ai7 n.typeIs PySem.F.entry_dict_pop D (meets_dict_pop_there (bQ X.prog X.w) a (jG g) more p B)
  ⟨m,c,n,by rw[<-⇑rel];rwa[z],y,λv d C=>h c _ ?_ f⟩
 let F:∃b,v.get? a\b:=let ⟨b,_,_,w,_⟩:=d;⟨b,w⟩
 rwa[jY I ([e]▸True.intro) C F (qO (agz (Jm kvs k) z) r (rel.drop k) d)]
theorem Qb (I:Inv X pins σ H s)(e:H a\.dK kvs)(b:RelV (kV k) u)(l:bB kvs k=none)(h:∀c,Inv X pins σ H c->Q v c):
 X⁻¹ A (call (.builtin "dict.pop") [↑a,u,v]) Q E s:=by
 let⟨z,g,d,rel,f⟩:=sI I.aL e;let m:valueAt d k=none:=eA.none_of (by rw[<-l];rwa[rel.val k])
 let j:(keyPart u).isSome=true:=by
  cases k with
  |inl i=>let⟨t,q⟩:=(show ∃t,u=Value.int i t from b);subst q;rfl
  |inr x=>let⟨t,q⟩:=(show ∃t,u=Value.str x t from b);subst q;rfl
 rwa[aiQ ai7 f.typeIs PySem.F.entry_dict_pop (PySem.F.args_dict_pop_3^_) (meets_dict_pop_default (bQ X.prog X.w) a (jG b) g j v) ⟨d,f,m,h _ (I.tok _)⟩]
end
def Qc (i:Expr):Prop:=∀b a,subscripted i false b a=operate [b,a] (getItem b a)
theorem Nh {env:Env}{value slice:Expr}{T id:String}
 (j:typeLookup (.type T) "__getitem__"=pure (some (.builtin id))) (k:Qc slice)
 (h:(P<|>w) A (eval value env) (λo d=>(P<|>w) A (eval slice env) (λi a=>a.TypeIs o T/\(P<|>w) A (getItem o i) Q E a) E d) E s):
 (P<|>w) A (eval (.Subscript value slice p) env) Q E s:=by
 rwa[Subscript_ (ahk h (λo d e=>ahk e (λi a b=>?_) λ_ _ x=>x) λ_ _ x=>x)];let⟨g,b⟩:=b;rwa[agg ?_];rwa[agg (wpAny_specialOf g j ?_)]
 let fin:(P<|>w) A (subscripted slice false o i) (λr c=>(P<|>w) A (letTemporaryGo value o r >>=λ_=>pure r) Q E c) E a:=by
  rw[k o i];rwa[wpAny_operating (ahk b (λr c f=>agg (wpAny_letTemporaryGo (agn f))) λ_ _ x=>x)]
 first
  |rwa[agn (agg fin)]
  |rwa[agg (agn (agg fin))]
  |rwa[agg fin]
def Cq {c:Zc}(I:Inv X o D H s)(g:fY H a q c):s.TypeIs ↑a "dict":=by
 rcases g with ⟨d,k,e,_,_⟩|⟨d,k,b,e,_,_,_⟩
 ·let⟨_,_,h,_,f⟩:=pC I.aL e;rwa[f.typeIs]
 ·let⟨_,_,i,_,f⟩:=pD I.aL e;rwa[f.typeIs]
inductive Qd (x y:V) (H:Hp) (Q:VK):Prop
 |mk (a:Zs) (v:V):x=↑a->fY H a y (some v)->Q v H->Qd x y H Q
def Uy (td d:TE):TE:=λ a H Q=>td a H λx c=>d a c λy b=>Qd x y b Q
def Ni (e td:TE):TE:=λ c H Q=>e c H λy d=>td c d λx b=>∃a o,x=↑a/\fY b a y o/\Q (.bl (!o.isSome)) b
inductive Qe (x y v:V) (H:Hp) (N:Hp->Prop):Prop
 |mk (a:Zs) (H4:Hp):x=↑a->qN H a y v H4->N H4->Qe x y v H N
def Uz (td e b:TE):TS:=λD a H=>b a H λv d=>td a d λx c=>e a c λy f=>Qe x y v f (D.nx a)
section
variable {X:Cx}{o i value:Expr}{pos pos':Pos}{td ty tv:TE}
def Dl (p:X.A.units+ 1<cLine)(m:PE X o td)(z:PE X i ty)(t:Qc i):PE X (.Subscript o i pos) (Uy td ty):=by
 intro b s f H Q I h;rwa[Nh PySem.F.slot_dict_getitem.lookup t (a9 (m b s f H _ I h) λu q ζ=>?_)];let⟨x,n,j,r,l⟩:=ζ;rwa[a9 (z b q f n _ j l) λF D ζ=>?_];let⟨y,A,d,w,a,v,ex,g,B⟩:=ζ;subst ex;obtain rfl:u=Value.ref a:=r;rwa[Cq d g,Gx p d g w λC E k c=>⟨v,A,k,c,B⟩]
def Gz (n:X.A.units+ 1<cLine)(v:PE X i ty)(l:PE X o td):PC X .NotIn i o (Ni ty td):=by
 intro b s c H Q I h;rwa[a9 (v b s c H _ I h) λC p ζ=>?_];let⟨y,m,d,t,j⟩:=ζ;rwa[a9 (l b p c m _ d j) λu A ζ=>?_];let⟨x,w,k,q,a,r,ex,g,z⟩:=ζ
 subst ex;obtain rfl:u=Value.ref a:=q;rwa[Ng n k g t λB f=>⟨.bl (!r.isSome),w,f,2,z⟩]
theorem sJ (z:X.A.units+ 1<cLine)(t:PE X o td)(F:PE X i ty)(J:PE X value tv)(C:swapsWith value (some (.Subscript o i pos')) pos.line X.env=pure false):
 PS X (.Assign [.Subscript o i pos'] value pos) (Uz td ty tv):=by
 intro b s c H D I h;rwa[wpAny_Assign_Subscript (a9 (J b s c H _ I h) λr A ζ=>?_) C];let⟨v,w,f,q,m⟩:=ζ;rwa[a9 (t b A c w _ f m) λu l ζ=>?_];let⟨x,G,p,B,L⟩:=ζ;rwa[a9 (F b l c G _ p L) λP O ζ=>?_];let⟨y,N,j,E,a,k,ex,g,n⟩:=ζ;subst ex;obtain rfl:u=Value.ref a:=B;rwa[Gy z j g E q λM d=>⟨c,k,d,n⟩]
end
def Aa (h:Heap)(a:sysModules<h.objs.size):bY P w H (h.push ("dict">>>.dict #[])) h.objs.size (.dK []):=
 ⟨agP _,agE.mpr (ahC (agO a)),[],.nil,Heap.DictOf.new h⟩
def Jn (h:Heap)(a:sysModules<h.objs.size):bY P w H (h.push ("dict">>>.dict #[])) h.objs.size (.dT []):=
 ⟨agP _,agE.mpr (ahC (agO a)),[],.nil,_,#[],(0),agy _ rfl,⟨222⟩,22,ah6⟩
def Qf:TE:=λ_ H Q=>∀p,H p=none->Q ↑p (upd H p (.dK []))
def Qg:TE:=λ_ H Q=>∀p,H p=none->Q ↑p (upd H p (.dT []))
section
variable {X:Cx}{pos:Pos}
def fK:PE X (.Dict [] [] pos) Qf:=λb s d H Q I h=>
 wpAny_Dict_empty ⟨↑↥s,_,I.laid (a:=↥s) (o:=.dK []) (t':=s.toks) (λ_ _ q=>agi _ q) (agp _) (Aa s.heap I.big),2,h _ (I.aL.fresh (agp _))⟩
def Jo:PE X (.Dict [] [] pos) Qg:=λb s d H Q I h=>
 wpAny_Dict_empty ⟨↑↥s,_,I.laid (a:=↥s) (o:=.dT []) (t':=s.toks) (λ_ _ q=>agi _ q) (agp _) (Jn s.heap I.big),2,h _ (I.aL.fresh (agp _))⟩
end
def Ab:List (TE×TE)->St->Hp->(List (V×V)->Hp->Prop)->Prop
 |[],_,H,Q=>Q [] H
 |(e,b)::r,a,H,Q=>e a H λx f=>b a f λy c=>Ab r a c λd g=>Q ((x,y)::d) g
abbrev VV:List (V×V)->List (Zt×Zt)->Prop:=Paired λp q=>RelV p.1 q.1/\RelV p.2 q.2
def Ln (X:Cx)(c:Pos)(keys:List (Option Expr))(values:Zr)(b:List (TE×TE)):Prop:=
 ∀(a:List (Zs×Obj)) (s:Zu) (d:St) (H:Hp) (Q:List (V×V)->Hp->Prop),Inv X a d H s->Ab b d H Q->
  X⁻¹ X.A (evalPairs (pairTrees keys values X.env c)) (λg h=>∃e f,Inv X a d f h/\VV e g/\Q e f) X.xe s
def Nj:Ln X p [] [] []:=λa s b H Q I h=>pairTrees_nil_walk ⟨[],H,I,.nil,h⟩
theorem Jp {k:Expr}{d:List (Option Expr)}{f:TE}{b:List (TE×TE)}(j:PE X k r)(E:PE X e f)(w:Ln X p d C b):
 Ln X p (some k::d) (e::C) ((r,f)::b):=λa s c H Q I h=>
 pairTrees_cons_walk (a9 (j a s c H _ I h) λu z ⟨x,v,g,A,o⟩=>a9 (E a z c v _ g o) λL m ⟨y,D,t,B,F⟩=>
  a9 (w a m c D _ t F) λG J ζ=>by let⟨l,i,n,rel,q⟩:=ζ;rwa[⟨(x,y)::l,i,n,.cons ⟨A,B⟩ rel,q⟩])
def iP (a more:List (Key×V)):List (Key×V):=more.foldl (λacc b=>putK acc b.1 b.2) a
def KV.merge:∀{more:List (Key×V)} {rs:List (Key×Zt)} {a:List (Key×V)} {b:List (Key×Zt)},KV more rs->KV a b->KV (iP a more) (merged b rs):=by
 intro more rs a b r
 induction r generalizing a b with
 |nil=>intro q;rwa[q]
 | @cons p q f g h t c=>
   intro d
   let e:KV (putK a p.1 p.2) (stored b q.1 q.2):=by
    have:=d.put p.1 h.2;rw[<-h.1];rwa[this]
   rwa[c e]
theorem kT:∀(more a:List (Key×V)),⇑(iP a more)<=⇑a+ ⇑more
 |[],a=>by show ⇑a<=⇑a+ 0;ext
 |p::r,a=>by
  let b:=kT r (putK a p.1 p.2);let c:=g6 a p.1 p.2;show ⇑(iP (putK a p.1 p.2) r)<=_;rw[agL];ext
theorem vi {P:Program}{w:World}:∀{d:List (Key×V)} {g:List (Zt×Zt)},VV (d.map λf=>(kV f.1,f.2)) g->∃e,Carries (bQ P w) g e/\KV d e
 |[],_,r=>by ext r;rwa[[],True.intro,.nil]
 |p::d,_,r=>by
  cases r with
  | @cons a b as bs h t=>
    let⟨e,c,q⟩:=vi (P:=P) (w:=w) t;let⟨j,i⟩:=b;rwa[(p.1,i)::e,⟨jG h.1,2,c⟩,.cons ⟨2,h.2⟩ q]
def UA (b:List (TE×TE)):TE:=λ f H Q=>∀p,H p=none->Ab b f (upd H p (.dK [])) λe c=>c p\.dK []/\∃a:List (Key×V),e=a.map (λd=>(kV d.1,d.2))/\⇑a<=15/\Q ↑p (upd c p (.dK (iP [] a)))
theorem Nk {keys:List (Option Expr)}{values:Zr}{d:List (TE×TE)}(h:Ln X p keys values d)(g:keys.all (·.isSome)=true)(B:⇑keys=⇑values)(n:keys≠[])
 (j:⇑keys<=15):PE X (.Dict keys values p) (UA d):=by
 intro f s D H Q I q;let E:=I.aL.fresh (agp ↥s);let r:=I.laid (a:=↥s) (o:=.dK []) (h':=s.heap.push ("dict">>>.dict #[])) (t':=s.toks) (λ_ _ q=>agi _ q) (agp _) (Aa s.heap I.big);rwa[wpAny_Dict_walk (knd:=bQ X.prog X.w) g B n j (a9 (h f _ D _ _ r (q _ E)) λS R ζ=>?_)];let⟨O,T,l,rel,e,b,G,lk,M⟩:=ζ;subst G;let⟨A,c,rk⟩:=vi (P:=X.prog) (w:=X.w) rel;let⟨z,m,J,v,F⟩:=sI l.aL e;ext v;rwa[⟨A,c,F,λk i C=>⟨↑↥s,152,M⟩⟩]
 let y:⇑(iP [] b)<=sizeLine:=by
  let x:=kT b [];rw[ahU]at x;rw[sizeLine_eq];ext
 let L:∃q,k.get? ↥s\q:=let ⟨q,_,_,u,_⟩:=i;⟨q,u⟩
 rwa[jY l ([e]▸True.intro) C L (qO y m (rk.merge .nil) i)]
structure M1 (X:Cx) (o:Expr) (m:Str) (apos:Pos) (e:Expr) (cH:Pos):Prop where
 base:attributeBase o m X.env (eval o X.env)=eval o X.env
 few:((backTo cH (starEach [e] X.env)).all (λx=>!x.1) && (backToKw cH (keywordEach [] X.env)).all (λx=>x.1.isSome)
  && decide (⇑([e]:Zr)+ ⇑([]:List Keyword)+ (if ([]:List Keyword).isEmpty then 0 else 1)<30))=true
 line:(apos.endLine==cH.line)=true
 trees:backTo cH (starEach [e] X.env)=[(false,eval e X.env)]
structure M2 (X:Cx) (o:Expr) (m:Str) (apos:Pos) (e f:Expr) (cH:Pos):Prop where
 base:attributeBase o m X.env (eval o X.env)=eval o X.env
 few:((backTo cH (starEach [e,f] X.env)).all (λx=>!x.1) && (backToKw cH (keywordEach [] X.env)).all (λx=>x.1.isSome)
  && decide (⇑([e,f]:Zr)+ ⇑([]:List Keyword)+ (if ([]:List Keyword).isEmpty then 0 else 1)<30))=true
 line:(apos.endLine==cH.line)=true
 trees:backTo cH (starEach [e,f] X.env)=[(false,eval e X.env),(false,eval f X.env)]
def Dm (H:Hp)(a:Zs):Prop:=(∃b,Rd H a (.dK b))\/∃b,Rd H a (.dT b)
theorem lW (I:Inv X o D H s)(d:Dm H a):
 s.TypeIs ↑a "dict"/\(∀b,Value.ref a=↑b->∃c,s.heap.get? b\c/\c.dict=none)/\(a==sysModules)=false:=by
 rcases d with ⟨h,e⟩|⟨h,e⟩
 ·let⟨_,g,k,_,f⟩:=pC I.aL e;rwa[⟨f.typeIs,λb q=>?_,g⟩];ext q;let⟨c,_,_,j,i,_⟩:=f;rwa[c,j,i.2.1]
 ·let⟨_,g,l,_,f⟩:=pD I.aL e;rwa[⟨f.typeIs,λb q=>?_,g⟩];ext q;let⟨c,_,_,j,i,_⟩:=f;rwa[c,j,i.2.1]
section
variable {X:Cx}{pins:List (Zs×Obj)}{σ:St}{H:Hp}{s:Zu}{a:Zs}{y d:V}{u r:Zt}{o:Zc}{A:Around}{E:Zt->Zu->Prop}
theorem Qh (v:A.units+ 1<cLine)(I:Inv X pins σ H s)(g:fY H a y o)(p:RelV y u)(h:∀n m,Inv X pins σ H m->RelV (o.getD .non) n->Q n m):
 X⁻¹ A (call (.builtin "dict.get") [↑a,u]) Q E s:=by
 rcases g with ⟨i,k,e,j,l⟩|⟨i,k,b,e,j,q,l⟩
 ·subst j;let⟨z,f,w,rel,c⟩:=pC I.aL e;rwa[aiQ ah8 c.typeIs aiZ (PySem.F.args_dict_get_2 _ _) (meets_dict_get (bQ X.prog X.w) a (jG p) f) ⟨_,c.mapOf,h _ _ (I.tok _) ?_⟩];rw[l];rwa[(rel.val k).getD rfl]
 ·subst j;cases (show u=Value.ref b from p);let⟨z,f,t,rel,c⟩:=pD I.aL e;rwa[aiQ ah8 c.typeIs aiZ (PySem.F.args_dict_get_2 _ _) (meetsH_dict_get (tupleKind (bQ X.prog X.w)) a b f) ⟨air v,k,t,lV I.aL q,c,h _ _ (I.tok _) ?_⟩];rw[l];rwa[(rel.val k).getD rfl]
theorem Qi (v:A.units+ 1<cLine)(I:Inv X pins σ H s)(g:fY H a y o)(p:RelV y u)(rd:RelV d r)(h:∀n m,Inv X pins σ H m->RelV (o.getD d) n->Q n m):
 X⁻¹ A (call (.builtin "dict.get") [↑a,u,r]) Q E s:=by
 rcases g with ⟨i,k,e,j,l⟩|⟨i,k,b,e,j,q,l⟩
 ·subst j;let⟨z,f,w,rel,c⟩:=pC I.aL e;rwa[aiQ ah8 c.typeIs aiZ (PySem.F.args_dict_get_3^_) (meets_dict_get_default (bQ X.prog X.w) a (jG p) f r) ⟨_,c.mapOf,h _ _ (I.tok _) ?_⟩];rw[l];rwa[(rel.val k).getD rd]
 ·subst j;cases (show u=Value.ref b from p);let⟨z,f,t,rel,c⟩:=pD I.aL e;rwa[aiQ ah8 c.typeIs aiZ (PySem.F.args_dict_get_3^_) (meetsH_dict_get_default (tupleKind (bQ X.prog X.w)) a b f r) ⟨air v,k,t,lV I.aL q,c,h _ _ (I.tok _) ?_⟩];rw[l];rwa[(rel.val k).getD rd]
end
inductive Dq (x:V) (H:Hp) (G:Zs->Prop):Prop
 |mk (a:Zs):x=↑a->Dm H a->G a->Dq x H G
def Qj (td e:TE):TE:=λ d H Q=>td d H λx c=>Dq x c λa=>e d c λy b=>∃o,fY b a y o/\Q (o.getD .non) b
inductive Qk (ty tx:TE) (σ:St) (x:V) (H1:Hp) (Q:VK):Prop
 |mk (a:Zs):x=↑a->Dm H1 a->(ty σ H1 λy H2=>tx σ H2 λz H3=>∃o,fY H3 a y o/\Q (o.getD z) H3)->Qk ty tx σ x H1 Q
def Ql (td c tx:TE):TE:=λ a H Q=>td a H λx b=>Qk c tx a x b Q
inductive Qm (a:Zs) (y:V) (H:Hp) (Q:VK):Prop
 |mk (kvs:List (Key×V)) (k:Key) (v:V):H a\.dK kvs->y=kV k->bB kvs k\v->Q v (upd H a (.dK (eX kvs k)))->Qm a y H Q
def Qn (td e:TE):TE:=λ c H Q=>td c H λx b=>Dq x b λa=>e c b λy d=>Qm a y d Q
inductive Jq (a:Zs) (y z:V) (H:Hp) (Q:VK):Prop
 |mk (kvs:List (Key×V)) (k:Key):H a\.dK kvs->y=kV k->(∀v,bB kvs k\v->Q v (upd H a (.dK (eX kvs k))))->(bB kvs k=none->Q z H)->Jq a y z H Q
def Qo (td e tx:TE):TE:=λ b H Q=>td b H λx c=>Dq x c λa=>e b c λy d=>tx b d λz f=>Jq a y z f Q
section
variable {X:Cx}{o e f:Expr}{apos cH:Pos}{td ty tx:TE}
def Jr (v:X.A.units+ 1<cLine)(q:PE X o td)(C:PE X e ty)(m:M1 X o "get" apos e cH):PE X (.Call (.Attribute o "get" apos) [e] [] cH) (Qj td ty):=by
 intro b s j H Q I h;rwa[aiG m.base m.few m.line ahG ah8 PySem.F.type_dict_get (a9 (q b s j H _ I h) λu w ζ=>?_)];let⟨x,t,i,z,a,ex,d,n⟩:=ζ;subst ex;obtain rfl:u=Value.ref a:=z;let⟨r,k,_⟩:=lW i d;erw[r,k];rw[m.trees];rwa[ahq rfl (ahW (ahg (a9 (C b w j t _ i n) λL F ζ=>?_)))];let⟨y,B,p,A,G,g,D⟩:=ζ;rwa[ahR ?_];rwa[Qh v p g A λE J l c=>⟨_,B,l,c,D⟩]
def lX (D:X.A.units+ 1<cLine)(A:PE X o td)(M:PE X e ty)(w:PE X f tx)(m:M2 X o "get" apos e f cH):PE X (.Call (.Attribute o "get" apos) [e,f] [] cH) (Ql td ty tx):=by
 intro b s i H Q I h;rwa[aiG m.base m.few m.line ahG ah8 PySem.F.type_dict_get (a9 (A b s i H _ I h) λu E ζ=>?_)];let⟨x,C,j,F,a,ex,d,r⟩:=ζ;subst ex;obtain rfl:u=Value.ref a:=F;let⟨B,k,_⟩:=lW j d;erw[B,k];rw[m.trees]
 rwa[ahq rfl (ahW (ahg (a9 (M b E i C _ j r) λT q ζ=>?_)))];let⟨y,L,v,G,N⟩:=ζ;rwa[ ahg (a9 (w b q i L _ v N) λU S ζ=>?_)];let⟨z,n,p,J,R,g,t⟩:=ζ;rwa[ahR ?_]
 rwa[Qi D p g G J λP O l c=>⟨_,n,l,c,t⟩]
def Js (t:PE X o td)(D:PE X e ty)(m:M1 X o "pop" apos e cH):PE X (.Call (.Attribute o "pop" apos) [e] [] cH) (Qn td ty):=by
 intro b s i H Q I h;rwa[aiG m.base m.few m.line ahG ai7 PySem.F.type_dict_pop (a9 (t b s i H _ I h) λu A ζ=>?_)];let⟨x,z,g,B,a,ex,d,q⟩:=ζ;subst ex;obtain rfl:u=Value.ref a:=B;let⟨w,j,_⟩:=lW g d;erw[w,j];rw[m.trees];rwa[ahq rfl (ahW (ahg (a9 (D b A i z _ g q) λO L ζ=>?_)))];let⟨y,M,r,C,n,k,v,F,E,l,G⟩:=ζ;rwa[ahR ?_];subst E;rwa[Lk r F C l (.inl rfl) λJ N p c=>⟨v,_,p,c,G⟩]
def uk (G:PE X o td)(S:PE X e ty)(F:PE X f tx)(m:M2 X o "pop" apos e f cH):PE X (.Call (.Attribute o "pop" apos) [e,f] [] cH) (Qo td ty tx):=by
 intro b s j H Q I h;rwa[aiG m.base m.few m.line ahG ai7 PySem.F.type_dict_pop (a9 (G b s j H _ I h) λu N ζ=>?_)];let⟨x,L,n,O,a,ex,d,C⟩:=ζ;subst ex;obtain rfl:u=Value.ref a:=O;let⟨J,t,_⟩:=lW n d;erw[J,t];rw[m.trees]
 rwa[ahq rfl (ahW (ahg (a9 (S b N j L _ n C) λZ B ζ=>?_)))];let⟨y,R,E,q,V⟩:=ζ;rwa[ ahg (a9 (F b B j R _ E V) λU Y ζ=>?_)];let⟨z,A,p,P,c,k,r,T,D,M⟩:=ζ;rwa[ahR ?_]
 subst T
 cases l:bB c k with
 |some v=>exact Lk p r q l (.inr ⟨U,2⟩) λW w g i=>⟨v,_,g,i,D v l⟩
 |none=>exact Qb p r q l λw g=>⟨z,A,g,P,M l⟩
end
section
variable {X:Cx}{pins:List (Zs×Obj)}{σ:St}{H:Hp}{s:Zu}{h':Heap}
theorem Inv.um {fp:Zn}{o:HO}{t':Nat}(I:Inv X pins σ H s)(k:∀b u,b∉fp->s.heap.get? b\u->h'.get? b\u)(f:∀b∈fp,pj X pins H b)
 (h:↥s<=a) (new:bY X.prog X.w (upd H a o) h' a o):Inv X pins σ (upd H a o) { s with heap:=h',toks:=t' }:=by
 let g:=I.aL.fresh h;let i:∀b u,H b\u->b∉fp:=λb u e z=>by rw[(f b z).1]at e;ext e
 refine I.step (g':=s.gens) (d':=s.drawn) (ch:=fp) (λb d=>⟨(f b d).2.2.2.1,(f b d).2.1,(f b d).2.2.2.2.1,(f b d).2.2.2.2.2⟩) (λb o _ _ hc e _=>k b o hc e) (λb o _ _ hc e _=>⟨o.slots,k b o hc e⟩)
  (λb o _ e n=>[ak (agO (agM (agC e) h))]▸n) (λb o hc e=>⟨o,k b o hc e⟩) (λb l e=>[ak (aw e g)]▸e)
  (λb o u e=>[ak (aw e g)]▸e) (λb x e=>⟨#[],by rw[ak (aw e g),e];simp⟩) (λm t=>?_) (λb u e=>?_) I.bare
 ·let⟨o,p,w,j,r⟩:=t;rwa[o,p,w,k _ o (λz=>(f _ z).2.1 rfl) j,r]
 ·by_cases d:b=a
  ·subst d;rw[ah]at e;ext e;rwa[new]
  ·rw[ak d]at e;refine(I.aL b u e).fi (λc v hc q=>k c v ?_ q) (λc q=>[ak (aw q g)]▸q) λc l q=>by rw[ak (aw q g)];rwa[q]
   rcases hc with z|z
   ·rw[z];rwa[i b u e]
   ·rwa[i c _ z]
def Inv.xj {fp:Zn}{t':Nat}(I:Inv X pins σ H s)(k:∀b u,b∉fp->s.heap.get? b\u->h'.get? b\u)(a:∀b∈fp,pj X pins H b):Inv X pins σ H { s with heap:=h',toks:=t' }:=by
 let f:∀b u,H b\u->b∉fp:=λb u e z=>by rw[(a b z).1]at e;ext e
 refine I.step (g':=s.gens) (d':=s.drawn) (ch:=fp) (λb d=>⟨(a b d).2.2.2.1,(a b d).2.1,(a b d).2.2.2.2.1,(a b d).2.2.2.2.2⟩) (λb o _ _ hc e _=>k b o hc e) (λb o _ _ hc e _=>⟨o.slots,k b o hc e⟩)
  (λb o _ e n=>n) (λb o hc e=>⟨o,k b o hc e⟩) (λb h e=>e) (λb o u e=>e) (λb p e=>⟨#[],by rw[e];simp⟩) (λm j=>?_) (λb u e=>?_) I.bare
 ·let⟨o,i,l,g,r⟩:=j;rwa[o,i,l,k _ o (λz=>(a _ z).2.1 rfl) g,r]
 ·rwa[(I.aL b u e).fi (λc v hc q=>k c v ?_ q) (λc q=>q) λc h q=>q]
  rcases hc with z|z
  ·rw[z];rwa[f b u e]
  ·rwa[f c _ z]
end
namespace En
section
variable {prog:Program}{w:World}{A:Around}{E:Zt->Zu->Prop}{s:Zu}
theorem ym {it:Zs}{fp:Zn}{P:Nat->Zt->Prop}{St:Nat->Heap->Prop}{old:Zt}{Q:Zl->Zu->Prop}(D:Draws prog w A.in1 it fp n P St)
 (he:IsEnum s.heap a it z old) (Qp:St i s.heap) (nV:i<n) (tL:a≠it) (VF:a∉fp)
 (hQ:∀x h' H,P i x->IsEnumOut h' a it (z+ 1) x ↥s->St (i+ 1) h'->h'.get? ↥s\("tuple">>>.seq #[.int z H,x])->
  (∀b o,b≠a->b≠it->s.heap.get? b\o->h'.get? b\o)->Q (some ↑↥s) { s with heap:=h',toks:=H+ 1 }):
 (prog<|>w) A (pyNext ↑a) Q E s:=by
 let hT:s.TypeIs ↑a "enumerate":=⟨_,he,2⟩;unfold pyNext;rwa[agg (ajA (aho (name:=Str.ofString "__next__") hT ai8 (ahr ai8 hT F.entry_enumerate_next ?_ (F.args_enumerate_next_1 _))))];let⟨T,g,d,aeP,os⟩:=s;show wpAny _ _ (field ↑a 2 >>=_) _ _ _;rwa[agg (ahp he rfl (x:=↑it) rfl (agg (D.item i _ _ _ nV Qp λx j H hPx M h=>?_)))];replace h:Heap.SameBut it T j:=h;let r:IsEnum j a it z old:=(h.2 a tL).trans he;show wpAny _ _ (field ↑a 3 >>=_) _ _ ⟨j,g,d,H,os⟩;rwa[agg (ahp r rfl (x:=rawInt z) rfl ?_)];show wpAny _ _ (field ↑a 4 >>=_) _ _ ⟨j,g,d,H,os⟩;rwa[agg (ahp r rfl (x:=.none) rfl ?_)];show wpAny _ _ (mkInt z >>=_) _ _ ⟨j,g,d,H,os⟩;rwa[agg (wpAny_mkInt ?_)];show wpAny _ _ (setField ↑a 3 (rawInt (z+ 1)) >>=_) _ _ ⟨j,g,d,H+ 1,os⟩;rwa[agg (ahB r (by simp) λG t f=>?_)];replace f:Heap.SameBut a j G:=f;replace t:IsEnum G a it (z+ 1) old:=t;show wpAny _ _ (setField ↑a 4 .none >>=_) _ _ ⟨G,g,d,H+ 1,os⟩;rwa[agg (ahB t (by simp) λl u e=>?_)];replace e:Heap.SameBut a G l:=e;replace u:IsEnum l a it (z+ 1) old:=u;show wpAny _ _ (newTuple [.int z H,x] >>=_) _ _ ⟨l,g,d,H+ 1,os⟩;rwa[agg (wpAny_newTuple ?_)];let v:IsEnum (l.push ("tuple">>>.seq #[.int z H,x])) a it (z+ 1) old:=agi _ u;generalize B:l.push ("tuple">>>.seq #[.int z H,x])=C at v;let Y:l.objs.size=T.objs.size:=by rw[e.1,f.1,h.1]
 let W:a<T.objs.size:=agC he;let Z:C.get? T.objs.size\("tuple">>>.seq #[.int z H,x]):=by rw[<-B,<-Y];rwa[agy _ rfl]
 let U:∀b o,b≠a->b≠it->T.get? b\o->C.get? b\o:=λb o c X V=>by
  rw[<-B];rwa[agi _ (e.extBut b o c (f.extBut b o c (h.extBut b o X V)))]
 let S:St (i+ 1) C:=D.frame _ _ _ M λb V o y=>by
  let c:b≠a:=λq=>VF (q ▸ V)
  rw[<-B];rwa[agi _ (e.extBut b o c (f.extBut b o c y))]
 show wpAny _ _ (Builtin.SmallTypes.ownedTupleIsFree ↑a >>=_) _ _ ⟨C,g,d,H+ 1,os⟩;rw[Y];clear B u e t f r h M Y l G j;rwa[agg ?_];unfold Builtin.SmallTypes.ownedTupleIsFree;rwa[agg (ahp v rfl (x:=.none) rfl (agn ?_))];simp only[ajM];rwa[agg (ajN (agg (ahp v rfl (x:=old) rfl (agg (ahB v (by simp) λN L m=>?_)))))];replace m:Heap.SameBut a C N:=m;replace L:IsEnum N a it (z+ 1) x:=L;show wpAny _ _ (Builtin.SmallTypes.ownedTupleHandOut ↑a ↑T.objs.size >>=_) _ _ ⟨N,g,d,H+ 1,os⟩;rwa[agg ?_];unfold Builtin.SmallTypes.ownedTupleHandOut;rwa[agg (ahB L (by simp) λO J p=>?_)];replace p:Heap.SameBut a N O:=p;replace J:IsEnumOut O a it (z+ 1) x T.objs.size:=J;rwa[ahB J (by simp) λR I k=>?_]
 replace k:Heap.SameBut a O R:=k;replace I:IsEnumOut R a it (z+ 1) x T.objs.size:=I;rwa[agg (ajO (agn ⟨12,agn (hQ x R H hPx I ?_ ?_ ?_)⟩))]
 ·exact D.frame _ _ _ S λb V o y=>by
   let c:b≠a:=λq=>VF (q ▸ V)
   rwa[k.extBut b o c (p.extBut b o c (m.extBut b o c y))]
 ·rwa[k.extBut _ _ (ahw W) (p.extBut _ _ (ahw W) (m.extBut _ _ (ahw W) Z))]
 ·rwa[λb o c X V=>k.extBut b o c (p.extBut b o c (m.extBut b o c (U b o c X V)))]
theorem Nm {T newId:String}{self a:Zt}{kw:List (Str×Zt)}(f:typeLookup (.type T) "__init__"=pure (some (.builtin "object.__init__")))(e:Bind.madeBy (.type T)=pure (some newId))(c:(some newId !=some "object.__new__")=true):
 Meets (Builtin.«object.__init__» ⟨[self,a],kw⟩) (λ_ R s=>s.TypeIs self T/\R (.ok (.ret .none)) s):=by
 rwa[Meets.of_wp λprog w A R s d=>?_]
 let⟨g,b⟩:=d
 repeat (any_goals (first|assumption|wp_step))
 rwa[12,b]
def UB (a b:Zt):checkTypeCall "enumerate" ⟨[a],[("start",b)]⟩=pure ():=by kernel_rfl
def UC (a b:Zt):checkBuiltinCall "enumerate.__new__" ⟨[.type "enumerate",a],[("start",b)]⟩=pure ():=by kernel_rfl
theorem UD (a b c:Zt):argsOk "object.__init__" ⟨[a,b],[("start",c)]⟩:=by
 unfold argsOk;rw[signature?_of (id:="object.__init__") (n:=['_','_','t','i','n','i','_','_']) (o:=['t','c','e','j','b','o']) (by kernel_rfl) F.owner_object]
 kernel_rfl
end
end En
inductive UE (t:TT) (σ:St) (H:Hp) (Q:(Bool->Hp->Prop)):Prop
 |mk (G:Bool->Hp->Prop):t σ H G->(∀c H',G c H'->Q c H')->UE t σ H Q
def CXw (P:Program)(w:World):lg:=λa H s E e c=>∃(x C:Zs) (B:Heap) (d:Hp) (f:Zt),e=↑x/\c.os=s.os/\AllBare c.gens/\Heap.FlyingW B a x ↑C f c.heap/\
 Un (cJ a) [] H d s.heap c.heap/\dz P w d B/\(∀b o,s.heap.get? b\o->H b=none->b∉cJ a->B.get? b\o)/\(∀b o,s.heap.get? b\o->b∉cJ a->∃g,B.get? b\g)/\E ↑C none d
section
variable {X:Cx}{pos:Pos}
abbrev TJ:=St->Hp->Zh->VK->Prop
def PJ (X:Cx)(c:Zr)(t:TJ):Prop:=
 ∀(a:List (Zs×Obj)) (s:Zu) (b:St) (H:Hp) (acc:Zh) (Q:VK),Inv X a b H s->t b H acc Q->X⁻¹ X.A (joinParts (tx acc) (evalEach c X.env)) (EP X a b Q) X.xe s
def Qq:PJ X [] (λ b H acc Q=>⇑acc<=1000000/\Q (.str (tx acc)) H):=λa s b H acc Q I h=>
 joinParts_nil ⟨.str (tx acc),H,I.tok _,⟨12⟩,h.2⟩ ([Gu]▸agz h.1 ⋯)
def Dr {t:TJ}(n:PE X e r)(i:PJ X C t)(k:evalEach (e::C) X.env=eval e X.env::evalEach C X.env:=by rfl):
 PJ X (e::C) (λ c H acc Q=>r c H λv d=>∃l,v=.str (tx l)/\⇑acc+ ⇑l<=1000000/\t c d (acc++l) Q):=by
 intro b s c H acc Q I h;rw[k];rwa[joinParts_cons (a9 (n b s c H _ I h) λv j ζ=>?_)];let⟨x,d,f,a,l,m,g,q⟩:=ζ;subst m;let⟨o,rfl⟩:=a;erw[5]
 ·rw[Gv,Gu,agk];rwa[agz g ⋯]
 ·rw[Gv];rwa[i b j c d (acc++l) Q f q]
def GA {b:Expr}{t:TJ}(h:PJ X (e::b::C) t)(d:evalEach (e::b::C) X.env=eval e X.env::eval b X.env::evalEach C X.env:=by rfl):PE X (.JoinedStr (e::b::C) pos) (λ c H Q=>t c H [] Q):=by
 intro a s c H Q I q;rwa[JoinedStr_many ?_];have:=h a s c H [] Q I q;rw[d]at this;rwa[this]
def Nn (j:PE X e r):PE X (.FormattedValue e (-1) none pos) (λ d H Q=>r d H λv c=>∃n:Int,v=.int n/\n.natAbs<10000000000/\Q (.str (tx (zX n))) c):=by
 intro b s d H Q I h;rwa[FormattedValue_plain (a9 (j b s d H _ I h) λv l ζ=>?_)];let⟨x,c,f,a,n,i,g,q⟩:=ζ;subst i;let⟨k,rfl⟩:=a;rwa[formatField_int_small (Gw g) ?_];rwa[.str (tx (zX n)),c,f.tok _,⟨_,by rw[Uw (toString n:Str)];rfl⟩,q]
abbrev Ac:Zk:=[.type "ValueError",.type "Exception",.type "BaseException",.type "object"]
end
def bY.get {o:HO}(x:bY P w H h a o):∃u,h.get? a\u:=by
 cases o with
 |lst d=>let⟨_,_,_,_,e⟩:=x;rwa[_,e]
 |tup d=>let⟨_,_,_,c,e,_⟩:=x;rwa[_,e]
 |dK b=>let⟨_,_,_,_,o,_,_,e,_⟩:=x;rwa[_,e]
 |dT b=>let⟨_,_,_,_,o,_,_,e,_⟩:=x;rwa[_,e]
 |set S n=>let⟨o,_,_,_,e,_⟩:=x;rwa[_,e]
 |ins C dx fs=>let⟨_,_,_,e,_⟩:=x;rwa[_,e]
 |own y=>exact x
 |xd fs=>let⟨_,⟨_,_,_,e,_⟩,_⟩:=x;rwa[_,e]
 |eM lo j=>let⟨_,_,_,e⟩:=x;rwa[_,e]
 |cR c u=>let⟨e,_⟩:=x;rwa[_,e]
 |fw i=>rwa[_,show h.get? a=some _ from x]
 |met f y=>rwa[_,show h.get? a=some _ from x]
 |ext g=>let⟨_,e,_⟩:=x;rwa[e]
def EL (x C:Zs)(h:Heap):Prop:=∃a b,h.get? x\a/\a.cls=↑C/\a.data=.fields b
noncomputable def ExO (x C:Zs):HO:=.ext (EL x C)
def Thr (X:Cx)(a:List (Zs×Obj))(g:St)(d:Hp)(x C:Zs)(s:Zu):Prop:=
 ∃(B:Heap) (c:Hp) (s1:Zu) (e:Zt),Inv X a g c s1/\s.os=s1.os/\AllBare s.gens/\Heap.FlyingW B X.stack x ↑C e s.heap/\Un (cJ X.stack) [] c d s1.heap s.heap/\dz X.prog X.w d B/\
  (∀b o,s1.heap.get? b\o->c b=none->b∉cJ X.stack->B.get? b\o)/\(∀b o,s1.heap.get? b\o->b∉cJ X.stack->∃f,B.get? b\f)
section
variable {X:Cx}{pins:List (Zs×Obj)}{σ:St}{x:Zs}{s:Zu}
def Inv.Lp {s1:Zu}(I:Inv X pins σ H s1){b:Zs}(c:b∈cJ X.stack):∃o,s1.heap.get? b\o/\∀a,o.data≠.fields a:=by
 let⟨_,o,e,n⟩:=I.stack.mem c;rwa[o,e,n]
abbrev Cx.yn (X:Cx) (x:Zs):Cx:={ X with A:=X.A.mark (some ↑x),calm:=false,xe:=λ_ _=>False }
def Inv.yn (I:Inv X pins σ H s)(x:Zs):Inv (X.yn x) pins σ H s:=
 ⟨⟨I.ok.mod,I.ok.kind,I.ok.glob,I.ok.blt,I.ok.above,I.ok.inj,I.ok.has,I.ok.zG,(λz=>by ext z),I.ok.frames,I.ok.C1,I.ok.K2,I.ok.bs,I.ok.qG,I.ok.ub,I.ok.wO,I.ok.i5,I.ok.tG⟩,I.os,I.bare,I.base,I.loc,I.cell,I.free,I.gI,I.pin,I.aL,I.len⟩
def Inv.zx (ok:X.Ok)(I:Inv (X.yn x) pins σ H s):Inv X pins σ H s:=⟨ok,I.os,I.bare,I.base,I.loc,I.cell,I.free,I.gI,I.pin,I.aL,I.len⟩
theorem sL {M:Model}(I:Inv X pins σ H s)(Z:X.N.Nodup)(L:X.N[i]?\f)(n:X.env.scope.names.lookup f=some .local)
 (h:∀G,Inv X pins (σ.set i none) H G->U () G):wpAny M A (do bindName X.env f .none;unbindBehindTheSuite X.env f p) U E s:=by
 let⟨m,V,T⟩:=id I.loc;let u:(X.env.scope.kind==.class || (X.env.scope.kind==.module && X.env.locals !=X.env.globals))=false:=by rw[I.ok.kind];rfl
 let t:i < ⇑σ:=by rw[I.len];rwa[(agj.mp L).1]
 rwa[wpAny_nameGoes_keeps n V u λh' v D l=>?_]
 let g:∀b o,X.dY.heap.get? b\o->b≠X.env.locals:=λb o e=>agO (agM (agC e) I.ok.above)
 rwa[h _ ⟨I.ok,I.os,I.bare,⟨λb o e k B n=>(l.2 b (g b o e)).trans (I.base.keep b o e k B n),λb o e k B n=>?_,I.base.free,λb o e n=>?_,I.base.hX,I.base.gH,I.base.hY⟩,⟨_,D,λj y O r w Y=>?_⟩,λy c e=>?_,I.free,I.gI,λa S=>?_,λb Q e=>?_,by simpa using I.len⟩]
 ·let⟨P,r⟩:=I.base.slot b o e k B n;rwa[P,(l.2 b (g b o e)).trans r]
 ·let⟨W,r⟩:=I.base.there b o e n;rwa[W,(l.2 b (g b o e)).trans r]
 ·by_cases F:j=i
  ·subst F;rw[ag9 t]at w;ext w
  ·rw[ahI (ahC F)]at w;let⟨R,N,q⟩:=T j y O r w Y;erw[R,N];rcases q with ⟨k,e⟩|⟨k,c,e,z⟩
   ·rwa[.inl ⟨k,?_⟩];have:y≠f:=λe=>F (uc Z r (e ▸ L))
    simp[this,e]
   ·rwa[.inr ⟨k,c,e,z.sameBut l (I.lb y c e)⟩]
 ·let⟨J,z⟩:=I.cell y c e;rwa[J,z.sameBut l (I.lb y c e)]
 ·let⟨e,k,ne,nf,d⟩:=I.pin a S;rwa[(l.2 a.1 ne).trans e,k,ne,nf,d]
 ·rwa[(I.aL b Q e).fi (λc J hc q=>(l.2 c ?_).trans q) (λ_ q=>q) λ_ _ q=>q]
  rintro rfl;rcases hc with rfl|hc
  ·rw[I.free]at e;ext e
  ·rw[I.free]at hc;ext hc
end
abbrev XR:=Zs->St->Hp->Prop
def XP (X:Cx)(a:List (Zs×Obj))(R:XR)(e:Zt)(s:Zu):Prop:=∃x C b H,e=↑x/\Thr X a b H x C s/\R C b H
abbrev TH:=Ends->Zs->St->Hp->Prop
def EL.UG {M:Model}{x:Zs}(p:EL x a h):PySem.W.Looks M h (typeOf ↑x) ↑a:=by
 let⟨o,_,c,b,_⟩:=p;rwa[b ▸ (PySem.W.Looks.ld c).andThen .now]
end L2
namespace L2
open PySem PySem.Spec PyProof.Rows PySem.Calls PySem.W Builtin Builtin.ObjectAttr Builtin.Getset_descriptor
structure ae0 (K:Za1) (C:Zs):Prop where
 ga:findIn K ↑C "__getattribute__"=some (some (.builtin "BaseException.__getattribute__"))
 gt:findIn K ↑C "__getattr__"=some none
 cl:isClsIn K C=true
 at_:findIn K ↑C "__class__"=some (some (.builtin "object.__class__"))
 gs:specialIn K (.builtin "object.__class__") "__get__"=some (some (.builtin "getset_descriptor.__get__"))
 tk:takesIn K (.builtin "object.__class__")\true
 mo:mroIn K C (.type "object")\true
 be:subIn K ↑C (.type "BaseException")\true
section
variable {A:Around}{E:Zt->Zu->Prop}{x C:Zs}
theorem GB {M:Model}{g:Array GenState}{d:Drawn}{os:OsState}(e:Looks M h (typeOf ↑x) ↑C)(b:Looks M h (isSubtype ↑C (.type "BaseException")) true)(f:U () ⟨h,g,d,n,os⟩):
 wpAny M A (checkBuiltinCall "BaseException.__getattribute__" ⟨[↑x,v],[]⟩) U E ⟨h,g,d,n,os⟩:=by
 let a:builtinKind "BaseException.__getattribute__"=some .slot:=⋯
 let hsplit:splitId "BaseException.__getattribute__"=some ("BaseException","__getattribute__"):=⋯
 let i:=F.args_bexc_ga ↑x v;let c:Looks M h (isInstance ↑x (.type "BaseException")) true:=e.andThen b;simp only[checkBuiltinCall,a,hsplit];rwa[agg (c.at ?_)]
 repeat (any_goals (first|assumption|wp_step))
end
end L2
namespace L2
open PySem PySem.Spec PyProof.Rows
section
variable {P:Program}{w:World}{K:Za1}{mg:Str->Zl}{base:Heap}
theorem qK.okN {h:lg}{qual:Str}{st:Stmt}{fd:FuncData}{e:Zp}{k:Nat}{sp:Sp}(F:qK K x qual st a fd)(S:aT Z e (aB st))(len:∀c H Q E,sp c H Q E->⇑c=⇑e)
 (d:∀(b:Zt) (A:Around) (outer:Zq) (s:Zu) (H:Hp) (c:Zb) (Q:VK) (E:XK),cy k (A.deeper (envOfC qual (aB st) ↥s a b))->sp c H Q E->
  ∃t,iI (cz h P w K mg base Z qual (aB st) a b A outer s H E).tH (cF st) t/\t { nx:=λ_ m=>Q .non m,rt:=Q } (start Z c) H):di P w K mg base h (k+ 1) a fd e sp:=by
 let⟨o,q,kV,doc,pm,p,b,ct,n,rfl,lk,g⟩:=F.ex;rwa[zv lk g S len λA outer s H c Q E l f=>?_]
 let⟨t,j,i⟩:=d b A outer s H c Q E l f;rwa[t,j.tH,i]
end
section
variable {prog:Program}{w:World}{A:Around}{R:Result->Zu->Prop}{s:Zu}
theorem yZ {elt target iter:Expr}{scope:Scope}{it acc:Zt}{env:Env}(I:Nat->Zu->Prop)
 (turn:∀n s,I n s->(prog<|>w) A (pyNext it) (λr d=>match r with
  |none=>R (.ok .next) d
  |some v=>(prog<|>w) A (letOwnedTupleGo target it v) (λ_ i=>(prog<|>w) A (assign target env v) (λ_ l=>(prog<|>w) A (isTrue e env (eval e env)) (λb c=>
   match b with
   |true=>(prog<|>w) A (eval elt env) (λx j=>(prog<|>w) A (call (.builtin "list.append") [acc,x]) (λ_ g=>∃m,m<n/\I m g) (λ_ _=>False) j) (λ_ _=>False) c
   |false=>∃m,m<n/\I m c) (λ_ _=>False) l) (λ_ _=>False) i) (λ_ _=>False) d) (λ_ _=>False) s)
 (n:Nat) (h:I n s):codeAny (model prog w) A (.compLoop (.ListComp elt [⟨target,iter,[e],(0)⟩] scope p) 0 it acc env) R s:=by
 rwa[codeAny_loop rfl I (λn s y=>?_) n h];rwa[wpAny_noted ?_];rwa[agg (aje (agg (ahk (turn n s y) (λr d f=>?_) λ_ _ a=>a.elim)))]
 cases r with
 |none=>exact agn f
 |some v=>
  rwa[agg (ahk f (λ_ i u=>?_) λ_ _ a=>a.elim)];rwa[agg (ahk u (λ_ l q=>agg (wpAny_tests_one (ahk q (λok j k=>?_) λ_ _ a=>a.elim))) λ_ _ a=>a.elim)]
  cases ok with
  |false=>exact agn ⟨2,k⟩
  |true=>
   rwa[agg (agg (ahk k (λx g o=>agg (ahk o (λ_ c t=>agn (agn ⟨2,t⟩)) λ_ _ a=>a.elim)) λ_ _ a=>a.elim))]
end
def Jt (k:TT)(g:TE)(e:St)(Q:VK)(J:It)(h:Hp):Prop:=∃W:Nat->Nat->Zb->Hp->Prop,(∃m,W 0 m [] h)/\∀i m ys a,W i m ys a->
 (J.stop i a/\⇑ys<=sizeLine/\∀D,a D=none->Q ↑D (upd a D (.lst ys)))\/
 (J.go i a/\⇑ys<sizeLine/\∀x f,J.lP i a x f->k (some x::e) f λb d=>match b with
  |true=>g (some x::e) d λy j=>∃c,c<m/\W (i+ 1) c (ys++[y]) j
  |false=>∃c,c<m/\W (i+ 1) c ys d)
def nX (b:TI)(e:St->St)(d:TT)(c:TE):TE:=λ a H Q=>b a H (Jt d c (e a) Q)
end L2
namespace L2
open PySem PySem.Spec PyProof.Rows
def Ju {x:Int}(b:0<=x)(a:x<=100000):¬(!Builtin.List.listFitsIndex x)=true:=by
 have:Builtin.List.listFitsIndex x=true:=by
  unfold Builtin.List.listFitsIndex;simp;ext
 cbv
noncomputable def Qr (x:Int)(a:Zt):Zm->Zm:=λxs=>have k:=if x<0 then (x+ ((xs.size:Nat):Int)).toNat else min x.toNat xs.size;(xs.extract 0 k).push a++xs.extract k
theorem GC (l:Zs)(a:Zk)(n:Nat)(x:Int)(t:Tok)(b:Zt)(e:0<=x)(d:x<=100000)(c:a.toArray.size<=sizeLine):
 Meets (Builtin.«list.insert» ⟨[↑l,.int x t,b],[]⟩) (λ_ R s=>s.heap.get? l\{ cls:=.type "list",dict:=none,data:=.seq a.toArray n,slots:=#[] }/\R (.ok (.ret Value.none)) { s with heap:=s.heap.update l (Obj.mapSeq (Qr x b)),toks:=s.toks }):=
 PySem.AutoListH.list_insert_list_int_val_1 l a.toArray n x t b (Ju e d) c
def Np {w':Zt}(b:i<=⇑N):Qr (i:Int) w' N.toArray=(N.take i++[w']++N.drop i).toArray:=by
 let a:(if (i:Int)<0 then ((i:Int)+ ((N.toArray.size:Nat):Int)).toNat else min (i:Int).toNat N.toArray.size)=i:=by
  rw[agF ∅,agD,agT];ext
 show (N.toArray.extract 0 (if (i:Int)<0 then ((i:Int)+ ((N.toArray.size:Nat):Int)).toNat else min (i:Int).toNat N.toArray.size)).push w'++N.toArray.extract (if (i:Int)<0 then ((i:Int)+ ((N.toArray.size:Nat):Int)).toNat else min (i:Int).toNat N.toArray.size)=_
 cbv
section
variable {X:Cx}
inductive Ds (x:V) (vs:Zb) (H:Hp) (Q:VK):Prop
 |mk (l:Zs) (xs:Zb) (i:Nat) (y:V):x=↑l->vs=[.int i,y]->H l\.lst xs->⇑xs<sizeLine->i<=⇑xs->i<=100000->Q .non (upd H l (.lst (xs.take i++[y]++xs.drop i)))->Ds x vs H Q
theorem xk:De X "list.insert" Ds:=by
 intro j s L H x D v N Q I w o h;let⟨l,xs,i,y,rfl,rfl,g,p,G,m,q⟩:=h;ext w;let⟨u,b,rfl,⟨t,rfl⟩,A⟩:=vals2 o;let⟨z,a,n,r,E,e⟩:=I.nF g;let rl:=⇑r
 let c:a.toArray.size<=sizeLine:=by
  rw[agD,<-rl];rwa[ajp p]
 let B:Vals (xs.take i++[y]++xs.drop i) (a.take i++[b]++a.drop i):=((r.take i).append (.cons A .nil)).append (r.drop i)
 let hlen:⇑(xs.take i++[y]++xs.drop i)<=sizeLine:=by
  simp only[agk,agV,ahh,agL,ahU];ext
 let J:=I.zR (t':=s.toks) g e (Np (w':=b) (show i<=⇑a by omega)) B hlen;let d:(0:Int)<=(i:Int):=Int.natCast_nonneg i;let f:(i:Int)<=100000:=∅
 generalize (i:Int)=k at d f J ⊢;let M:=GC l a n k t b d f c;rwa[aiX F.slot_list_insert ⟨_,e,2⟩ F.entry_list_insert (F.args_list_insert_3^_) M ⟨e,5⟩];rwa[.non,_,J,2,q]
end
end L2
namespace L2
open PySem PySem.Spec PyProof.Rows
def lY (h:n∈B):∃i:Nat,B[i]?\n/\∀j,j<i->B[j]?≠some n:=by
 induction B with
 |nil=>ext h
 |cons a B b=>
  by_cases e:a=n
  ·rwa[(0),by rw[e];rfl,λj c=>∅]
  ·let⟨i,f,d⟩:=b ((agB.mp h).resolve_left (ahC e));rwa[⟨i+ 1,f,λj c=>?_⟩]
   cases j with
   |zero=>exact λz=>e (Za0 z)
   |succ j=>exact d j ∅
inductive UH (x:V) (y:V) (H:Hp) (Q:VK):Prop
 |mk (a b:Zs) (ns ms:Zg):x=↑a->y=↑b->H a\.lst (ao ns)->H b\.lst (ao ms)->Q (.bl (decide (ns=ms))) H->UH x y H Q
noncomputable def eM (lo:Int)(n:Nat):Zg:=(List.range n).map λi:Nat=>lo+ (i:Int)
def nY (lo:Int)(n:Nat):⇑(eM lo n)=n:=by unfold eM;cbv
def Qs {lo:Int}(h:i<n):(eM lo n)[i]?\(lo+ (i:Int)):=by
 unfold eM;rw[agx,ahP h];rfl
theorem Ad:∀(zs:Zg) (us:Zk),⇑us=⇑zs->(∀(i:Nat) (z:Int) (u:Zt),zs[i]?\z->us[i]?\u->∃t,u=.int z t)->Vals (ao zs) us
 |[],[],_,_=>.nil
 |z::zs,u::us,a,h=>.cons (h 0 z u rfl rfl) (Ad zs us (by simpa using a) λi z u c b=>h (i+ 1) z u c b)
 |[],_::_,a,_=>by simp at a
 |_::_,[],a,_=>by simp at a
def EV {lo:Int}{acc:Zm}(h:ItemsOf (λi v=>∃t,v=Value.int (lo + (i:Int)* 1) t) acc n):Vals (ao (eM lo n)) acc.toList:=by
 rwa[Ad _ _ ?_ λi z u a c=>?_]
 ·rw[nY,ah2];rwa[h.1]
 ·let b:i<n:=by
   have:=(agj.mp a).1;rw[nY]at this;rwa[this]
  rw[Qs b]at a;let⟨t,e⟩:=h.2 i u (by cbv)
  cbv
section
variable {X:Cx}{a:Expr}{ta:TA}{p p2 pos Ae:Pos}
def Yl (ta:TA):TE:=λ e H Q=>ta e H λd c=>∃j:Nat,d=[.int j]/\j<=10000/\∀l,c l=none->Q ↑l (upd c l (.lst (ao (eM 0 j))))
theorem list_range {Q:VK}{lo:Int}{t u v:Tok}(k:X.calm=true)(I:Inv X o D H s)(A:0<=lo)(m:lo<=10000)(B:0<=z)(y:z<=10000)
 (q:∀l,H l=none->Q ↑l (upd H l (.lst (ao (eM lo (z - lo).toNat))))):X⁻¹ X.A (call (.type "list") [↑↥s]) (EP X o D Q) X.xe { s with heap:=s.heap.push ("range">>>.fields #[.int lo t,.int z u,.int 1 v]),toks:=n }:=by
 let i:Inv X o D H { s with heap:=s.heap.push ("range">>>.fields #[.int lo t,.int z u,.int 1 v]),toks:=n }:=I.kept λb c e=>agi _ e
 let g:Builtin.Range.rangeSize lo z 1=(((z - lo).toNat:Nat):Int):=by rw[rangeSize_one];split <;> ext
 rwa[call_list_range (n:=(z - lo).toNat) (I.ok.hd k) (IsRange.new ..) (small_one ∅ ∅ ∅ ∅) g ∅ λx h f j kp w hit=>?_]
 rwa[⟨↑_,_,i.laid (t':=h) (o:=.lst (ao (eM lo (z - lo).toNat))) kp (agp _) ⟨5,f.toList,j,EV hit,5⟩,2,q _ (i.aL.fresh (agp _))⟩]
 ·rw[aM,nY];rwa[agz (show (z - lo).toNat<=10000 by omega) ⋯]
 ext
theorem qd (x:X.calm=true)(g:Gl X "list")(f:X.mg "list"=none)(k:Gl X "range")(v:X.mg "range"=none)(w:PA X [a] ta)(o:starEach [a] X.env=[(false,eval a X.env)]:=by rfl)
 (d:starEach [.Call (.Name "range" p) [a] [] pos] X.env=[(false,eval (.Call (.Name "range" p) [a] [] pos) X.env)]:=by rfl):PE X (.Call (.Name "list" p2) [.Call (.Name "range" p) [a] [] pos] [] Ae) (Yl ta):=by
 intro c s u H Q I h;rwa[aht (gT I g f boot_list ?_)];rwa[ahj ?_ d rfl];rw[d];show wpAny _ _ (spliced ((false,eval (.Call (.Name "range" p) [a] [] pos) X.env)::backTo Ae [])) _ _ s;rwa[ahg ?_];rwa[Call_ (gT I k v boot_range (ahj (a9 (w pos c s u H _ I h) λB A ζ=>?_) o rfl))];let⟨y,z,l,i,m⟩:=ζ;let⟨j,e,C,q⟩:=m;subst e
 cases i with
 |cons r n=>
  ext n;let⟨t,rfl⟩:=r;rwa[call_range_1 (ahR ?_)];rwa[list_range x l ∅ ∅ ∅ ∅ (by simpa using q)]
end
def eh (H:Hp)(rs:Zn)(rows:Za3):Prop:=⇑rs=⇑rows/\∀(i:Nat) (r:Zs) (a:Zg),rs[i]?\r->rows[i]?\a->H r\(.lst (ao a))
def TabAt (H:Hp)(a:Zs)(rows:Za3):Prop:=∃rs:Zn,H a\.lst (rs.map V.ref)/\eh H rs rows
def eh.same {rs:Zn}{rows:Za3}(h:eh H rs rows)(s:aq H I):eh I rs rows:=⟨h.1,λi r ns b a=>s^h.2 i r ns b a⟩
def TabAt.same {rows:Za3}(h:TabAt H a rows)(s:aq H I):TabAt I a rows:=by
 let⟨rs,c,b⟩:=h;rwa[rs,s^c,b.same s]
def GD {rs:Zn}:∀{a:Zk},Vals (rs.map V.ref) a->a=rs.map Value.ref:=by
 induction rs with
 |nil=>intro a r;ext r;rfl
 |cons c rs b=>
  intro a r
  cases r with
  |cons e d=>ext e;rw[b d];rfl
def Nq {a:Type} [DecidableEq a]{ns ms:List a}(h:⇑ns=⇑ms):(List.range ⇑ns).all (λj=>decide (ns[j]?=ms[j]?))=decide (ns=ms):=by
 rw[ahK,List.all_eq_true,ahi];constructor
 ·intro b;rwa[ah3 λi=>?_]
  cbv
 cbv
section
variable {X:Cx}
inductive UI (x:V) (y:V) (H:Hp) (Q:VK):Prop
 |mk (a b:Zs) (ns ms:Za3):x=↑a->y=↑b->TabAt H a ns->TabAt H b ms->Q (.bl (decide (ns=ms))) H->UI x y H Q
inductive UJ (x:V) (y:V) (H:Hp) (Q:VK):Prop
 |mk (a b:Zs) (ns ms:Za3):x=↑a->y=↑b->TabAt H a ns->TabAt H b ms->Q (.bl (!decide (ns=ms))) H->UJ x y H Q
inductive Lq (x:V) (y:V) (H:Hp) (Q:VK):Prop
 |mk (a b:Zs) (ns ms:Zg):x=↑a->y=↑b->H a\.lst (ao ns)->H b\.lst (ao ms)->Q (.bl (!decide (ns=ms))) H->Lq x y H Q
def Du (i:X.A.units<cLine):gF X (compareOp .NotEq) Lq:=by
 intro k s D H x y v u Q I w A h;let⟨a,b,ns,ms,rfl,rfl,B,p,q⟩:=h;ext w;ext A;let⟨r,d,f,_⟩:=I.list (aF.of B);let⟨m,l,c,_⟩:=I.list (aF.of p);let n:=⇑d;let C:=⇑l;rw[aM]at n C;by_cases g:⇑ns=⇑ms
 ·rwa[SeqAt.RcNeAt.lists (e:=λj=>decide (ns[j]?=ms[j]?)) f.isList c.isList (by cbv) i (λj t o=>Dg d l j t o) X.prog X.w X.xe _ ⟨.bl (!decide (ns=ms)),H,I,5,q⟩];show _=Value.bool (!decide (ns=ms));rw[agD,<-n,Nq g]
 ·let e:decide (ns=ms)=false:=ahm (λz=>g (by rw[z]));rw[e]at q;rwa[SeqAt.RcNeAt.lists_lengths f.isList c.isList ?_ i X.prog X.w X.xe _ ⟨.bl true,H,I,2,q⟩]
  cbv
inductive Ls (xs:Zb) (H:Hp) (Q:VK):Prop
 |mk (b:Bool):xs=[.bl b]->Q (.int (if b=true then 1 else 0)) H->Ls xs H Q
def yo:iz X (.type "int") Ls:=by
 intro a s f H e d Q I r h;let⟨b,rfl,q⟩:=h;let⟨u,rfl,c⟩:=vals1 r;ext c;rwa[call_int_bool ⟨.int _,H,I.tok _,⟨12⟩,q⟩]
def Af (h:X.K=K):Gh X (Je K):=by subst h;rwa[bu]
def Nr (h:X.K=K):Gh X (Jf K):=by subst h;rwa[bU]
def y1 (h:X.K=K):iz X (.builtin "len") (EK K):=by subst h;rwa[bH]
theorem jH {z:Str}{scope:Scope}(g:closureFor scope X.env=pure [(f,c),(z,d)])(C:X.env.cells.lookup f\c)(B:X.env.cells.lookup z\d)(r:∀q∈scope.names,q.2≠.cell)(t:scope.kind=.function)
 (y:∀q∈scope.names,q.2=.local->scope.names.lookup q.1=some .local) (v:scope.names.lookup x=some .local) (a:∀q∈scope.names,q.2=.free->q.1=f\/q.1=z) (b:x≠f/\x≠z/\f≠z) (u:X.N[i]?\f) (A:X.N[j]?\z)
 (l:X.env.kindOf f=some .cell) (m:X.env.kindOf z=some .cell) (n:X.env.scope.kind=.function) (o:scope.names.lookup f=some .free) (p:scope.names.lookup z=some .free):dQ X x [f,z] [i,j] scope [(f,c),(z,d)] where
 zU:=g
 sub:=λw e h=>by
  cbv
 cell:=r
 kind:=t
 names:=y
 own:=v
 has:=λw h=>by
  let e:w=f\/w=z:=by
   rcases h with h|h
   ·rwa[a _ (gZ h (.inl rfl) r) rfl]
   ·rwa[a _ (gZ h (.inr rfl) r) rfl]
  cbv
 nd:=by simp[b.1,b.2.1,b.2.2]
 len:=rfl
 at_:=λk w h=>by
  match k,h with
  |0,h=>
   let e:f=w:=by simpa using h
   subst e;rwa[i,2,u,.inl l,c,by simp[aip],.inl (cL n l o)]
  |1,h=>
   let e:z=w:=by simpa using h
   subst e;let s:(z==f)=false:=agE.mpr (λq=>b.2.2 q.symm);rwa[j,2,A,.inl m,d,by simp[aip,s],.inl (cL n m p)]
  |k+ 2,h=>simp at h
end
def cf (H:Hp)(a:Zn)(ws:Za3):Prop:=⇑a=⇑ws/\∀(i:Nat) (p:Zs) (w:Zg),a[i]?\p->ws[i]?\w->H p\(.tup (ao w))
def bR (H:Hp)(a:Zs)(c:Za3):Prop:=∃b:Zn,H a\.lst (b.map V.ref)/\cf H b c
def cf.keep {ws:Za3}(h:cf H F ws)(s:∀p a,H p\.tup a->I p\.tup a):cf I F ws:=⟨h.1,λi p w c b=>s^h.2 i p w c b⟩
def cf.same {ws:Za3}(h:cf H F ws)(s:aq H I):cf I F ws:=h.keep λp a e=>s^e
def bR.same {ws:Za3}(h:bR H a ws)(s:aq H I):bR I a ws:=by
 let⟨b,d,c⟩:=h;rwa[b,s^d,c.same s]
def cf.snoc {ps:Zn}{ws:Za3}(h:cf H ps ws)(e:H a\.tup (ao l)):cf H (ps++[a]) (ws++[l]):=by
 rwa[⟨by rw[agk,agk,h.1];rfl,λi q u c b=>?_⟩];by_cases d:i<⇑ps
 ·rw[ags d]at c;rw[ags (by rw[<-h.1];rwa[d])]at b;rwa[h.2 i q u c b]
 ·rw[agt ∅]at c;rw[agt (by rw[<-h.1];omega)]at b;rw[ago.mp (agh c),ago.mp (agh b)];rwa[e]
inductive UK (x:V) (y:V) (H:Hp) (Q:VK):Prop
 |mk (a b:Zs) (ns ms:Za3):x=↑a->y=↑b->bR H a ns->bR H b ms->Q (.bl (decide (ns=ms))) H->UK x y H Q
section
variable {X:Cx}
inductive UL (x:V) (y:V) (H:Hp) (Q:VK):Prop
 |mk (k:Int) (a:Zs) (ns:Zg):x=.int k->y=↑a->H a\.lst (ao ns)->Q (.bl (decide (k∈ns))) H->UL x y H Q
inductive Jv (x:V) (y:V) (H:Hp) (Q:VK):Prop
 |mk (k:Int) (a:Zs) (ns:Zg):x=.int k->y=↑a->H a\.lst (ao ns)->Q (.bl (!decide (k∈ns))) H->Jv x y H Q
noncomputable def isInt (k:Int):Zt->Bool
 |.int z _=>z==k
 |_=>false
inductive Dv (x:V) (vs:Zb) (H:Hp) (Q:VK):Prop
 |mk (a:Zs) (ns:Zg) (k:Int):x=↑a->vs=[.int k]->H a\.lst (ao ns)->k∈ns->(∀i:Nat,ns[i]?\k->(∀j,j<i->ns[j]?≠some k)->Q (.int i) H)->Dv x vs H Q
def GF (h:z∈l):∃i:Nat,l[i]?\z/\∀j,j<i->l[j]?≠some z:=by
 induction l with
 |nil=>ext h
 |cons a l c=>
  by_cases e:a=z
  ·rwa[(0),by rw[e];rfl,λj d=>∅]
  ·let⟨i,g,f⟩:=c ((agB.mp h).resolve_left (ahC e));rwa[⟨i+ 1,g,λj d=>?_⟩]
   cases j with
   |zero=>exact λb=>e (Za0 b)
   |succ j=>exact f j ∅
theorem y3:De X "list.index" Dv:=by
 intro B s R H x O v S Q I L C h;let⟨a,ns,k,rfl,rfl,J,d,q⟩:=h;ext L;let⟨u,rfl,M⟩:=C.one;let⟨t,rfl⟩:=M;let⟨z,b,n,r,E,e⟩:=I.nF J;rw[aM]at z E;let⟨i,o,A⟩:=GF d;let P:i<⇑ns:=(agj.mp o).1
 let at_:∀(m:Nat) (d:m<b.toArray.size),isInt k b.toArray[m]=decide (ns[m]?\k):=λm d=>by
  let c:m<⇑b:=by simpa using d
  let g:ns[m]?\(ns[m]'∅):=agl ∅
  let⟨w,p,f,rfl⟩:=r.get (bW g)
  let l:b.toArray[m]=Value.int (ns[m]'∅) f:=by
   rw[List.getElem_toArray];rwa[Za0 ((agl c).symm.trans p)]
  rw[l,g];show (ns[m]'∅==k)=_;rw[ahK,ajq,ahi];rwa[λz=>by rw[z],λz=>Za0 z]
 let D:(sizeLine:Nat)<2 ^ 62:=⋯
 refine aiX F.slot_list_index ⟨_,e,2⟩ F.entry_list_index (F.args_list_index_2 _ _)
  (SeqAt.list_indexAt a b.toArray n none #[] (.int k t) (isInt k) i (by rw[agD];omega) ∅ ([at_]▸agW o) (λm d j=>[at_]▸ahm (A m j))) ⟨e,λy G=>?_,5⟩
 ·let⟨m,d,N⟩:=aie.mp (Array.mem_toList_iff.mpr G);let c:m<⇑b:=by simpa using d
  let g:ns[m]?\(ns[m]'∅):=agl ∅
  let⟨w,p,f,rfl⟩:=r.get (bW g)
  let l:y=Value.int (ns[m]'∅) f:=by
   rw[<-N];rwa[Za0 ((agl c).symm.trans p)]
  rw[l];rwa[SeqAt.EqAt.int_int _ f k t]
 ·rwa[.int i,H,I.tok _,⟨12⟩,q i o A]
end
def Ag (K:Za1)(a:Zs):It:=
 ⟨λi H=>∃xs x,aF K H a xs/\xs[i]?\x,λi H x b=>∃p v,H p=none/\(∀ys,aF K H a ys->ys[i]?\v)/\x=↑p/\b=upd H p (.tup [.int (i:Int),v]),λi H=>∃xs,aF K H a xs/\⇑xs=i⟩
def nZ {o u:Obj}(c:h.get? a\o)(d:h.get? b\u)(e:o.cls≠u.cls):a≠b:=λz=>by
 cbv
theorem EW {elts:Zr}{x1:Nat}{tp:Pos}(e it a:Zs)(Y:e≠it):
 Turn P w K (.Tuple elts x1 tp) (Ag K a) [e,it] e (λi h=>(∃old,IsEnum h e it (i:Int) old)/\h.IsListIter it a i) where
 mem:=by simp
 obj:=λi h st b d=>by
  let⟨⟨old,j⟩,o,ho,J,hd⟩:=st
  cbv
 keep:=λi h h' st k=>by
  let⟨⟨old,j⟩,hl⟩:=st;rwa[⟨old,k e (by simp) _ j⟩,hl.at λo e=>k it (by simp) o e]
 item:=by
  intro X hP hw hK J i B s σ H E I L st T;subst hP hw hK;let⟨⟨old,j⟩,f⟩:=st;let⟨xs,x,M,G⟩:=T;let⟨c,U,p,hz⟩:=I.list M;let⟨u,hu,ru⟩:=U.get G;let hit:=p.isList;let⟨o1,m,qP,GH⟩:=id hit;let⟨o2,l,W,Z⟩:=id f;let n:a≠it:=nZ m l (by cbv);let hea:e≠a:=nZ j m (by cbv);let D:=Draws.list (prog:=X.prog) (w:=X.w) (A:=X.A.in1) (I.ok.hd J) it a n c.toArray;let Dw:e<↥s:=agC j;let GJ:i<⇑c:=(agj.mp hu).1;rwa[En.ym D j ⟨f,hit⟩ ∅ Y (by cbv) λy h' R V ho Qt t hk=>?_]
  let ey:u=y:=by
   let h2:c[i]?\y:=by simpa using V
   rwa[Za0 (hu.symm.trans h2)]
  subst ey;erw[12];rwa[wpAny_letOwnedTupleGo_enum ho λr he' g=>?_]
  let N:r.get? ↥s\("tuple">>>.seq #[.int (i:Int) R,u]):=(g.2 _ (ahw Dw)).trans t
  let O:∀b C,b∉[e,it]->s.heap.get? b\C->r.get? b\C:=λb C d q=>by
   let h1:b≠e:=λz=>d (by simp[z])
   let h2:b≠it:=λz=>d (by simp[z])
   rwa[(g.2 b h1).trans (hk b C h1 h2 q)]
  let Qu:=I.aL.fresh (agp ↥s);rwa[⟨↑↥s,_,I.um (fp:=[e,it]) (a:=↥s) (o:=.tup [.int (i:Int),x]) (h':=r) (t':=R+ 1) O L (agp _) ?_,2,⟨_,x,Qu,λys hy=>[I.ud hy M]▸G,22⟩,⟨⟨u,5⟩,5⟩,λb d=>?_⟩]
  ·rwa[by show 2<=sizeLine;decide,[.int (i:Int) R,u],.cons ⟨12⟩ (.cons ru .nil),_,N,212]
  ·cbv
  ·exact(D.frame _ _ _ Qt λb d o q=>(g.2 b (by
    cbv)).trans q).1
  ·rw[ak]
   ·rwa[(L b d).1]
   ·intro z;subst z;rcases agB.mp d with z|d
    ·cbv
    ·rwa[absurd (agC l) (by rw[<-ago.mp d];rwa[ahz _])]
 done:=by
  intro X hP hw hK J i B s σ H E I L st T;subst hP hw hK;let⟨⟨old,j⟩,f⟩:=st;let⟨xs,M,G⟩:=T;let⟨c,U,p,hz⟩:=I.list M;let hit:=p.isList;let⟨o1,m,qP,GH⟩:=id hit;let⟨o2,l,W,Z⟩:=id f;let n:a≠it:=nZ m l (by cbv);let D:=Draws.list (prog:=X.prog) (w:=X.w) (A:=X.A.in1) (I.ok.hd J) it a n c.toArray;let S:c.toArray.size=i:=by rw[agD,<-⇑U];rwa[G]
  rwa[wpAny_pyNext_enum_endD D j ([S]▸⟨f,hit⟩) λh' eb=>⟨2,I.xj (fp:=[e,it]) (t':=s.toks) (λb o d q=>eb b o (λz=>d (by simp[z])) q) L⟩]
 self:=λA i s Q E st h=>by
  let⟨⟨old,j⟩,_⟩:=st;let t:s.TypeIs ↑e "enumerate":=⟨_,j,2⟩;rwa[wpAny_pyIter_slot t ai9 (ahr ai9 t F.entry_enumerate_iter ?_ (F.args_enumerate_iter_1 _))];show wpAny _ _ (ret ↑e) _ _ s;rwa[agn ⟨12,"enumerate",_,t,ai8.lookup,h⟩]
section
variable {X:Cx}
def Qw (K:Za1)(e:TA):TI:=λ f H R=>e f H λc b=>∃a,c=[↑a]/\(∃d,aF K b a d)/\R (Ag K a) b
def uo {elts:Zr}{c i:Pos}(x:Gl X "enumerate")(E:X.mg "enumerate"=none)(F:PE X e r)(o:starEach [e] X.env=[(false,eval e X.env)]:=by rfl):
 PI X (.Tuple elts n p) (.Call (.Name "enumerate" c) [e] [] i) (Qw X.K (jD r jV)):=by
 intro a s t H R I h;rwa[Call_ (gT I x E boot_enumerate (ahj (a9 ((ae F aj o) i a s t H _ I h) λQ s1 ζ=>?_) o rfl))];let⟨L,m,f,v,C⟩:=ζ;let⟨l,rfl,⟨O,A⟩,q⟩:=C;let⟨u,rfl,G⟩:=vals1 v;ext G;let⟨B,M,pl,N⟩:=f.list A;rwa[call_enumerate_list pl.isList λk g hit D y=>?_]
 let z:Inv X a t m (s1<*k):=f.kept (t':=s1.toks) y;let T:=EW (P:=X.prog) (w:=X.w) (K:=X.K) (elts:=elts) (x1:=n) (tp:=p) (↥s1+ 1) ↥s1 l (Nat.succ_ne_self _);rwa[T.self _ 0 (s1<*k) _ _ ⟨⟨_,g⟩,hit⟩ ⟨1111,m,2,z,T,⟨⟨_,g⟩,hit⟩,λb j=>?_,q⟩];rcases agB.mp j with d|j
 ·subst d;rwa[f.pk (aiv _) (f.aL.fresh (aiv _))]
 ·rw[ago.mp j];rwa[f.pk (agp _) (f.aL.fresh (agp _))]
end
theorem qQ {xs:Zb}{g:TG}{k:TS}(b:Nat->St->Hp->Prop)(o:b 0 D H)(s:∀i D H,i<=⇑xs->b i D H->aF K H a xs)
 (u:∀i v D H p,xs[i]?\v->H p=none->b i D H->g ↑p D (upd H p (.tup [.int (i:Int),v])) λ d j=>k { G with nx:=b (i+ 1),ct:=b (i+ 1),bk:=G.nx } d j) (n:∀ D H,b ⇑xs D H->G.nx D H):
 ∃W:Nat->Nat->St->Hp->Prop,(∃m,W 0 m D H)/\∀i m D H,W i m D H->
  ((Ag K a).stop i H/\G.nx D H)\/((Ag K a).go i H/\∃N:St->Hp->Prop,(∀ c f,N c f->∃l,l<m/\W (i+ 1) l c f)/\∀x f,(Ag K a).lP i H x f->g x D f λ d j=>k { G with nx:=N,ct:=N,bk:=G.nx } d j):=by
 erw[λi m D H=>m=⇑xs - i/\i<=⇑xs/\b i D H,⟨⇑xs,by simp,agP _,o⟩];rintro i m D H ⟨rfl,w,p⟩;let q:=s i D H w p;by_cases h:i<⇑xs
 ·rwa[.inr ⟨⟨xs,_,q,agl h⟩,b (i+ 1),λ c f A=>⟨⇑xs - (i+ 1),32,h,A⟩,λx f y=>?_⟩];let⟨r,v,t,z,rfl,rfl⟩:=y;rwa[u i v D H r (z xs q) t p]
 ·let e:i=⇑xs:=∅
  subst e;rwa[.inl ⟨⟨xs,q,2⟩,n D H p⟩]
namespace En
open AutoSeq1 (wpAny_loadPart')
theorem EX (l:Zs)(items:Zm)(n:Nat)(dct:Zo)(m:Array Zl)(k:Int)(u:Tok)(q:0<=k)(j:k<1000):
 Meets (Builtin.«enumerate.__new__» ⟨[.type "enumerate",↑l],[("start",.int k u)]⟩) (λ_ R s=>s.heap.get? l\{ cls:=.type "list",dict:=dct,data:=.seq items n,slots:=m }/\
  R (.ok (.ret (↑(s.heap.push ("list_iterator">>>.fields #[↑l,.int 0 0])).objs.size)))
    { s with heap:=(s.heap.push ("list_iterator">>>.fields #[↑l,.int 0 0])).push ("enumerate">>>.fields #[.none,.bool false,↑↥s,rawInt k,.none,.none]) }):=
 .of_wp λf w A R s h=>by
  let⟨p,g,d,o,os⟩:=s;let⟨a,h⟩:=h;let i:=sub_enumerate;let r:=AutoSeq1.idx_int;let b:Heap.IsList (Shared.heap ⟨p,g,d,o,os⟩) l items:=⟨_,a,2,n,2⟩
  let e:(!Builtin.SmallTypes.fitsIndex k)=false:=by
   unfold Builtin.SmallTypes.fitsIndex;simp;ext
  wp_walk using aiH a
  rwa[wpAny_stack_any λst=>agn ?_]
  split
  ·rename_i c _ _ _ _ _;cases (c==Value.type "enumerate")
   ·wp_walk using aiH a,aiE b
    rwa[12,h]
   ·wp_walk using aiH a,aiE b
    rwa[12,h]
  ·wp_walk using aiH a,aiE b
   rwa[12,h]
section
variable {prog:Program}{w:World}{A:Around}{E:Zt->Zu->Prop}{s:Zu}
theorem Cr {items:Zm}{k:Int}{u:Tok}(U:s.heap.IsList a items)(N:0<=k)(v:k<1000)
 (h:∀p,IsEnum p (↥s+ 1) ↥s k .none->p.IsListIter ↥s a 0->(∀b o,s.heap.get? b\o->p.get? b\o)->Q ↑(↥s+ 1) (s<*p)):
 (prog<|>w) A (call (.type "enumerate") [↑a] [("start",.int k u)]) Q E s:=by
 let⟨⟨Z,dct,V,O⟩,W,j,n,t⟩:=U;replace j:Z=.type "list":=j;replace t:V=.seq items n:=t;subst j t;let ft:=F.called_enumerate;let⟨c,tl,M⟩:=ft.mro;let z:=ft.made;let J:=ft.sub;let S:=UB ↑a (.int k u);let x:=UC ↑a (.int k u);rwa[aiW (codeAny_of_tree ?_)];show wpAny _ _ (callAny (.type "enumerate") _) _ _ _;rwa[agn ⟨Code.quiet_builtin _ ⋯,ajB F.entry_type_call ?_⟩];rw[Around.under_plain (weight_type_call_type "enumerate" [↑a] [("start",.int k u)]) (units_type_call_type "enumerate" [↑a] [("start",.int k u)])];let h1:=ft.notType;let h2:=ft.canCreate
 repeat (any_goals (first|assumption|wp_step))
 rwa[aiO (ahX ft.plain F.entry_enumerate_new (wpAny_of_eq x (EX a items n dct O k u N v prog w A.in1 (wants (λobj f=>f.TypeIs obj "enumerate"/\Q obj f) E) s ⟨W,5⟩))) λr f C=>?_]
 ·let I:(s.heap.push ("list_iterator">>>.fields #[↑a,.int 0 0])).objs.size=↥s+ 1:=ah5 ..;show _/\_;rw[I]
  let L:IsEnum ((s.heap.push ("list_iterator">>>.fields #[↑a,.int 0 0])).push ("enumerate">>>.fields #[.none,.bool false,↑↥s,rawInt k,.none,.none])) (↥s+ 1) ↥s k .none:=by
   let q:=agy (s.heap.push ("list_iterator">>>.fields #[↑a,.int 0 0])) (o:=("enumerate">>>.fields #[.none,.bool false,↑↥s,rawInt k,.none,.none])) rfl;rw[I]at q;rwa[q]
  rwa[⟨_,L,2⟩,h _ L ⟨_,agi _ (agy _ rfl),22⟩ λb o y=>agi _ (agi _ y)]
 cases r with
 |error e=>exact C
 |ok X=>
  cases X with
  |ret obj=>
   let⟨H,G⟩:=C;let Y:=ft.init.lookup;let P:=ft.init.bind obj;let D:=UD obj ↑a (.int k u);let B:(λ(_:Around) (R:Result->Zu->Prop) (s:Zu)=>s.TypeIs obj "enumerate"/\R (.ok (.ret .none)) s) A.in1 (wants (λr i=>r=.none/\Q obj i) E) f:=⟨H,2,G⟩;let gi:=Nm (T:="enumerate") (self:=obj) (a:=↑a) (kw:=[("start",.int k u)]) ft.init.lookup ft.made ⋯
   repeat (any_goals (first|assumption|wp_step))
   rwa[aiO (ahX ft.init.plain F.entry_object_init (ft.init.check _ _ _ _ _ _ _ _ H D (gi prog w A.in1 _ f B))) λm i g=>?_]
   cases m with
   |error e=>exact g
   |ok l=>
    cases l with
    |ret r=>
     let⟨rfl,G⟩:=g
     repeat (any_goals (first|assumption|wp_step))
    |_=>exact g.elim
  |_=>exact C.elim
end
end En
def sM (K:Za1)(a:Zs)(n:Int):It:=
 ⟨λi H=>∃xs x,aF K H a xs/\xs[i]?\x,λi H x b=>∃p v,H p=none/\(∀ys,aF K H a ys->ys[i]?\v)/\x=↑p/\b=upd H p (.tup [.int (n+ (i:Int)),v]),λi H=>∃xs,aF K H a xs/\⇑xs=i⟩
theorem Ct {elts:Zr}{x1:Nat}{tp:Pos}(e it a:Zs)(n:Int)(Z:e≠it):
 Turn P w K (.Tuple elts x1 tp) (sM K a n) [e,it] e (λi h=>(∃old,IsEnum h e it (n+ (i:Int)) old)/\h.IsListIter it a i) where
 mem:=by simp
 obj:=λi h st b d=>by
  let⟨⟨old,j⟩,o,ho,L,hd⟩:=st
  cbv
 keep:=λi h h' st k=>by
  let⟨⟨old,j⟩,hl⟩:=st;rwa[⟨old,k e (by simp) _ j⟩,hl.at λo e=>k it (by simp) o e]
 item:=by
  intro X hP hw hK L i C s σ H E I M st U;subst hP hw hK;let⟨⟨old,j⟩,f⟩:=st;let⟨xs,x,N,J⟩:=U;let⟨c,V,p,hz⟩:=I.list N;let⟨u,hu,ru⟩:=V.get J;let hit:=p.isList;let⟨o1,m,qP,GH⟩:=id hit;let⟨o2,l,Y,hd2⟩:=id f;let r:a≠it:=nZ m l (by cbv);let hea:e≠a:=nZ j m (by cbv);let D:=Draws.list (prog:=X.prog) (w:=X.w) (A:=X.A.in1) (I.ok.hd L) it a r c.toArray;let Dw:e<↥s:=agC j;let GJ:i<⇑c:=(agj.mp hu).1;rwa[En.ym D j ⟨f,hit⟩ ∅ Z (by cbv) λy h' S W ho Qt v hk=>?_]
  let ey:u=y:=by
   let h2:c[i]?\y:=by simpa using W
   rwa[Za0 (hu.symm.trans h2)]
  subst ey;erw[12];rwa[wpAny_letOwnedTupleGo_enum ho λt he' g=>?_]
  let O:t.get? ↥s\("tuple">>>.seq #[.int (n+ (i:Int)) S,u]):=(g.2 _ (ahw Dw)).trans v
  let R:∀b G,b∉[e,it]->s.heap.get? b\G->t.get? b\G:=λb G d q=>by
   let h1:b≠e:=λz=>d (by simp[z])
   let h2:b≠it:=λz=>d (by simp[z])
   rwa[(g.2 b h1).trans (hk b G h1 h2 q)]
  let Qu:=I.aL.fresh (agp ↥s);rwa[⟨↑↥s,_,I.um (fp:=[e,it]) (a:=↥s) (o:=.tup [.int (n+ (i:Int)),x]) (h':=t) (t':=S+ 1) R M (agp _) ?_,2,⟨_,x,Qu,λys hy=>[I.ud hy N]▸J,22⟩,⟨⟨u,5⟩,5⟩,λb d=>?_⟩]
  ·rwa[by show 2<=sizeLine;decide,[.int (n+ (i:Int)) S,u],.cons ⟨12⟩ (.cons ru .nil),_,O,212]
  ·cbv
  ·exact(D.frame _ _ _ Qt λb d o q=>(g.2 b (by
    cbv)).trans q).1
  ·rw[ak]
   ·rwa[(M b d).1]
   ·intro z;subst z;rcases agB.mp d with z|d
    ·cbv
    ·rwa[absurd (agC l) (by rw[<-ago.mp d];rwa[ahz _])]
 done:=by
  intro X hP hw hK L i C s σ H E I M st U;subst hP hw hK;let⟨⟨old,j⟩,f⟩:=st;let⟨xs,N,J⟩:=U;let⟨c,V,p,hz⟩:=I.list N;let hit:=p.isList;let⟨o1,m,qP,GH⟩:=id hit;let⟨o2,l,Y,hd2⟩:=id f;let r:a≠it:=nZ m l (by cbv);let D:=Draws.list (prog:=X.prog) (w:=X.w) (A:=X.A.in1) (I.ok.hd L) it a r c.toArray;let T:c.toArray.size=i:=by rw[agD,<-⇑V];rwa[J]
  rwa[wpAny_pyNext_enum_endD D j ([T]▸⟨f,hit⟩) λh' eb=>⟨2,I.xj (fp:=[e,it]) (t':=s.toks) (λb o d q=>eb b o (λz=>d (by simp[z])) q) M⟩]
 self:=λA i s Q E st h=>by
  let⟨⟨old,j⟩,_⟩:=st;let v:s.TypeIs ↑e "enumerate":=⟨_,j,2⟩;rwa[wpAny_pyIter_slot v ai9 (ahr ai9 v F.entry_enumerate_iter ?_ (F.args_enumerate_iter_1 _))];show wpAny _ _ (ret ↑e) _ _ s;rwa[agn ⟨12,"enumerate",_,v,ai8.lookup,h⟩]
theorem EY {xs:Zb}{g:TG}{k:TS}(b:Nat->St->Hp->Prop)(o:b 0 D H)(s:∀i D H,i<=⇑xs->b i D H->aF K H a xs)
 (u:∀i v D H p,xs[i]?\v->H p=none->b i D H->g ↑p D (upd H p (.tup [.int (z+ (i:Int)),v])) λ d j=>k { G with nx:=b (i+ 1),ct:=b (i+ 1),bk:=G.nx } d j) (n:∀ D H,b ⇑xs D H->G.nx D H):
 ∃W:Nat->Nat->St->Hp->Prop,(∃m,W 0 m D H)/\∀i m D H,W i m D H->
  ((sM K a z).stop i H/\G.nx D H)\/((sM K a z).go i H/\∃N:St->Hp->Prop,(∀ c f,N c f->∃l,l<m/\W (i+ 1) l c f)/\∀x f,(sM K a z).lP i H x f->g x D f λ d j=>k { G with nx:=N,ct:=N,bk:=G.nx } d j):=by
 erw[λi m D H=>m=⇑xs - i/\i<=⇑xs/\b i D H,⟨⇑xs,by simp,agP _,o⟩];rintro i m D H ⟨rfl,w,p⟩;let q:=s i D H w p;by_cases h:i<⇑xs
 ·rwa[.inr ⟨⟨xs,_,q,agl h⟩,b (i+ 1),λ c f B=>⟨⇑xs - (i+ 1),32,h,B⟩,λx f y=>?_⟩];let⟨r,v,t,A,rfl,rfl⟩:=y;rwa[u i v D H r (A xs q) t p]
 ·let e:i=⇑xs:=∅
  subst e;rwa[.inl ⟨⟨xs,q,2⟩,n D H p⟩]
def dZ (h:Heap)(d:Zs)(b:Array DictEntry)(a:Nat):Prop:=∃o,h.get? d\o/\o.ExactDict/\o.data=.dict b a
namespace Dk
section
variable {prog:Program}{w:World}{A:Around}{E:Zt->Zu->Prop}{s:Zu}{d:Zs}{es:Array DictEntry}{ep:Nat}
def typ (b:dZ s.heap d es ep):s.TypeIs ↑d "dict":=let ⟨o,a,c,_⟩:=b;⟨o,a,c.1⟩
theorem iter (g:(d==sysModules)=false)(c:dZ s.heap d es ep)
 (f:Q ↑↥s { s with heap:=s.heap.push ("dict_keyiterator">>>.fields #[↑d,.int 0 0,.int es.size 0,.int ep 0]) }):(prog<|>w) A (pyIter ↑d) Q E s:=by
 let b:=typ c;let⟨o,e,h,a⟩:=c;rwa[wpAny_pyIter_slot b F.slot_dict_iter (ahr F.slot_dict_iter b F.entry_dict_iter ?_ (F.args_dict_iter_1 _))];unfold Builtin.«dict.__iter__»;rwa[agg ?_];unfold Builtin.Dict.dictSlotNone;rwa[agg (aja b ?_)];show wpAny _ _ (pure (Value.ref d)) _ _ s;rwa[agn ?_];show wpAny _ _ (Builtin.Dict.showsAll d >>=_) _ _ s;unfold Builtin.Dict.showsAll;rw[agF (by cbv)];rwa[agg (agn (agg (aik e a (agg (ajb e a ?_)))))];rwa[agg (ahd (agn ⟨12,"dict_keyiterator",_,⟨_,agy _ rfl,2⟩,ahS.lookup,by simpa [rawInt] using f⟩))]
theorem item {it:Zs}{en:DictEntry}{Q:Zl->Zu->Prop}(hit:s.heap.IsKeyIter it d i es.size ep)(g:dZ s.heap d es ep)(l:es[i]?\en)
 (j:∀g1,g1.IsKeyIter it d (i+ 1) es.size ep->Heap.SameBut it s.heap g1->Q (some en.key) (s<*g1)):(prog<|>w) A (pyNext ↑it) Q E s:=by
 let⟨o,e,k,c⟩:=id hit;let⟨m,b,h,a⟩:=id g;unfold pyNext;rwa[agg (ajA (aho (name:=Str.ofString "__next__") hit.typeIs ahS (ahr ahS hit.typeIs F.entry_dict_keyiterator_next ?_ (F.args_dict_keyiterator_next_1 _))))];rwa[agg (agn (agg (agg ?_)))]
 first|rwa[agg (aic hit.typeIs (agn ?_))]|rwa[agg (aiI hit.typeIs (agn ?_))]
 rwa[agg (wpAny_fieldsOf e c ?_)];let own:Builtin.Dict_items.ownsTuple "dict_keyiterator"=false:=⋯
 simp only[own,ai3,ajf];show wpAny _ _ (if (Value.ref d==Value.none)=true then _ else _) _ _ s;rw[agF (show ¬((Value.ref d==Value.none)=true) from ag0)];rwa[agg (agn (agg (aik b a ?_)))];rw[agF (by simp)];rwa[agg (agn (agg (ajb b a ?_)))];rw[agF (by simp)];rwa[agn ?_];simp only[show ¬((i:Int)<0) from by ext,ajf,agT,l];rwa[agg ?_]
 first|rwa[agg (aic hit.typeIs (agn ?_))]|rwa[agg (aiI hit.typeIs (agn ?_))]
 rwa[agg (wpAny_isOneOf_keyiter hit.typeIs ?_)];show wpAny _ _ (setField ↑it 1 (rawInt ((i:Int)+ 1)) >>=_) _ _ s;rwa[agg (aiw e c (by simp) ?_)]
 let f:(s.heap.update it (Obj.mapFields (·.setIfInBounds 1 (rawInt ((i:Int)+ 1))))).IsKeyIter it d (i+ 1) es.size ep:=
  ⟨_,ag2 _ e (ais (ahV c _)),(Obj.cls_mapFields ..).trans k,by rw[ahV c];simp[rawInt]⟩
 rwa[agg (ahn ?_)];rwa[agg (wpAny_isOneOf_keyiter (s:={ s with heap:=s.heap.update it (Obj.mapFields (·.setIfInBounds 1 (rawInt ((i:Int)+ 1)))) }) f.typeIs ?_)];show wpAny _ _ (pure en.key) _ _ _;rwa[agn (agn ⟨12,agn (j _ f (ahQ ..))⟩)]
theorem fin {it:Zs}{Q:Zl->Zu->Prop}(k:A.handled=none)(hit:s.heap.IsKeyIter it d i es.size ep)(n:dZ s.heap d es ep)(l:es[i]?=none)
 (j:∀h,Heap.ExtBut it s.heap h->Q none (s<*h)):(prog<|>w) A (pyNext ↑it) Q E s:=by
 let⟨o,g,r,f⟩:=id hit;let⟨q,e,p,c⟩:=id n;unfold pyNext;rwa[agg (ajA (aho (name:=Str.ofString "__next__") hit.typeIs ahS (ahr ahS hit.typeIs F.entry_dict_keyiterator_next ?_ (F.args_dict_keyiterator_next_1 _))))];rwa[agg (agn (agg (agg ?_)))]
 first|rwa[agg (aic hit.typeIs (agn ?_))]|rwa[agg (aiI hit.typeIs (agn ?_))]
 rwa[agg (wpAny_fieldsOf g f ?_)];let own:Builtin.Dict_items.ownsTuple "dict_keyiterator"=false:=⋯
 simp only[own,ai3,ajf];show wpAny _ _ (if (Value.ref d==Value.none)=true then _ else _) _ _ s;rw[agF (show ¬((Value.ref d==Value.none)=true) from ag0)];rwa[agg (agn (agg (aik e c ?_)))];rw[agF (by simp)];rwa[agg (agn (agg (ajb e c ?_)))];rw[agF (by simp)];rwa[agn ?_];simp only[show ¬((i:Int)<0) from by ext,ajf,agT,l];rwa[agg ?_]
 first|rwa[agg (aic hit.typeIs (agn ?_))]|rwa[agg (aiI hit.typeIs (agn ?_))]
 show wpAny _ _ (setField ↑it 0 .none >>=_) _ _ s;rwa[agg (aiw g f (by simp) ?_)];show wpAny _ _ (newExc (.type "StopIteration") [] >>=_) _ _ _;rwa[agg ?_];simp only[newExc,newTuple];rwa[agg (ahd ?_ (by size_fits))];rwa[agg (m:=firstArgMember _ _) (wpAny_of_eq (a:=Value.none) (by first|rfl|(simp only[firstArgMember];rfl)) ?_)];rwa[ahd ?_ (by size_fits)];simp only[raiseNew];rwa[agg (wpAny_handled ?_)];rw[show A.in1.handled=none from k];rwa[agg (agn (wpAny_throw ?_))];rwa[agg (wpAny_isInstance (T:="StopIteration") (b:=true) ⟨_,agy _ rfl,2⟩ isSubtype_stop ?_)];rwa[agn (j _ (((ahQ ..).extBut.push _).push _))]
def dZ.at (x:dZ h d es ep)(e:∀o,h.get? d\o->g.get? d\o):dZ g d es ep:=let ⟨o,a,r⟩:=x;⟨o,e _ a,r⟩
theorem walks (n:A.handled=none)(I:Zs)(j:d≠I):Walks prog w A I [I,d] [I] es.size (λi v=>∃k,es[i]?\k/\v=k.key) (λi h=>h.IsKeyIter I d i es.size ep/\dZ h d es ep) where
 sub:=λb f=>by cbv
 frame:=λ_ _ _ st l=>⟨st.1.at λo e=>l I (by simp) o e,dZ.at st.2 λo e=>l d (by simp) o e⟩
 item:=λi s Q E m st a=>by
  rwa[item (en:=es[i]) st.1 st.2 (by simp[m]) λg p c=>?_]
  rwa[a _ g s.toks ⟨_,by simp[m],2⟩ ⟨p,dZ.at st.2 λo e=>c.extBut _ _ j e⟩ λb o f e=>c.extBut b o (λh=>f (by simp[h])) e]
 done:=λs Q E st a=>fin n st.1 st.2 (by simp) λg c=>a g s.toks λb o f e=>c b o (λh=>f (by simp[h])) e
 self:=λ_ _ _ _ st a=>wpAny_pyIter_keyiter st.1 a
theorem hint {Q:Bool->Zu->Prop}(e:dZ s.heap d es ep)(h:Q false s):(prog<|>w) A (Builtin.List.listLengthHint ↑d) Q E s:=by
 unfold Builtin.List.listLengthHint;rwa[agg (wpAny_specialOf (typ e) F.slot_dict_len.lookup ?_)];generalize c:("dict.__len__":String)=f
 wp_delta
 rw[show splitId f=some ("dict","__len__") from by subst c;decide];subst c;rwa[agg (wpAny_isInstance (T:="dict") (b:=true) (typ e) (by rw[isSubtype_type];kernel_rfl) ?_)];rwa[ajC (λa=>absurd a ⋯) (λ_=>?_)];rwa[ajC (λ_=>?_) (λa=>absurd ⋯ a)];rwa[agg (aiP (T:="dict") (typ e) (agn h))]
theorem extend {R:Result->Zu->Prop}(X:A.handled=none)(O:(d==sysModules)=false)(y:dZ s.heap d es ep)(hlen:es.size<=sizeLine)(S:Zs)(res:Zt)(n:Nat)(N:s.heap.get? S\("list">>>.seq #[] n))
 (Z:∀g1 Q c m,(∀b o,b≠S->s.heap.get? b\o->g1.get? b\o)->g1.get? S\{ cls:=.type "list",dict:=none,data:=.seq c m,slots:=#[] }->
  ItemsOf (λi v=>∃M,es[i]?\M/\v=M.key) c es.size->R (.ok (.ret res)) { s with heap:=g1,toks:=Q }):
 (prog<|>w) A.in1 (Builtin.List.listExtendWith ↑S ↑d res)
  (λfin g=>match fin with|.done f=>R (.ok f) g|.again m=>m.quiet=true/\codeAny (model prog w) A m R g) (λe g=>R (.error e) g) s:=by
 let l:S≠d:=λe=>by
  let⟨o,L,hc,J⟩:=y
  cbv
 let H:d<↥s:=by let⟨o,L,_⟩:=y;rwa[agC L]
 let z:S≠↥s:=agO (agC N);let I:d≠↥s:=agO H;unfold Builtin.List.listExtendWith;rwa[agg (aiP (T:="dict") (typ y) ?_)];let U:Builtin.List.listSameRef ↑S ↑d=false:=by simp[Builtin.List.listSameRef,l]
 let P:(Value.type "dict"==Value.type "list")=false:=⋯
 let Y:(Value.type "dict"==Value.type "tuple")=false:=⋯
 simp only[U,P,Y,Bool.or_false,ai3,ajf];rwa[agg (iter O y ?_)];let j:dZ (s.heap.push ("dict_keyiterator">>>.fields #[↑d,.int 0 0,.int es.size 0,.int ep 0])) d es ep:=dZ.at y λo e=>agi _ e
 rwa[agg (ahn (hint (s:={ s with heap:=s.heap.push ("dict_keyiterator">>>.fields #[↑d,.int 0 0,.int es.size 0,.int ep 0]) }) j ?_))];let k:=agi ("dict_keyiterator">>>.fields #[↑d,.int 0 0,.int es.size 0,.int ep 0]) N;let r:(s.heap.push ("dict_keyiterator">>>.fields #[↑d,.int 0 0,.int es.size 0,.int ep 0])).IsKeyIter ↥s d 0 es.size ep:=⟨_,agy _ rfl,22⟩;let kp:∀b o,s.heap.get? b\o->(s.heap.push ("dict_keyiterator">>>.fields #[↑d,.int 0 0,.int es.size 0,.int ep 0])).get? b\o:=λb o e=>agi _ e
 generalize s.heap.push ("dict_keyiterator">>>.fields #[↑d,.int 0 0,.int es.size 0,.int ep 0])=x at k r kp j ⊢;rwa[ajC (λ_=>?_) (λB=>absurd ⋯ B)];rwa[agg (ajN ?_)];rwa[agg ?_];show wpAny _ _ (updateSeq S (·.push .none) >>=λ_=>updateSeq S (·.pop)) _ _ _;rwa[agg (aiJ k rfl ?_)];let t:=ag2 (Obj.mapSeq (·.push Value.none)) k rfl;rwa[aiJ (hz:=by seq_fits) t rfl ?_];let G:=ag2 (Obj.mapSeq (·.pop)) t rfl;let h:∀b o,b≠S->x.get? b\o->((x.update S (Obj.mapSeq (·.push Value.none))).update S (Obj.mapSeq (·.pop))).get? b\o:=λb o p e=>(ag3^ahC p).trans ((ag3^ahC p).trans e)
 let W:=(walks (prog:=prog) (w:=w) (A:=A.in1) (d:=d) (es:=es) (ep:=ep) X ↥s I).toS
 let C:S∉[↥s,d]:=λa=>by
  rcases agB.mp a with e|a
  ·rwa[z e]
  ·rwa[l (ago.mp a)]
 rwa[agn ⟨aiR F.plain_extend_loop _,?_⟩];rwa[codeAny_extend_loopS W hlen S C res es.size 0 _ #[] _ rfl (agP _) ⟨r.at λo e=>h _ o (ahC z) e,dZ.at j λo e=>h _ o (ahC l) e⟩ G (ItemsOf.nil _) λg c m q D u=>?_]
 rw[Moved.eq_with q];rwa[Z g.heap g.toks c m (λb o p e=>q.heap b o (λa=>?_) (h b o p (kp b o e))) D u];rcases agB.mp a with V|a
 ·rwa[p V]
 ·rwa[absurd (agC e) (by rw[ago.mp a];rwa[ahz _])]
def init {R:Result->Zu->Prop}(z:A.handled=none)(x:(d==sysModules)=false)(u:dZ s.heap d es ep)(hlen:es.size<=sizeLine)(S:Zs)(q:s.heap.get? S\("list">>>.seq #[]))
 (B:∀g1 l a c,(∀b o,b≠S->s.heap.get? b\o->g1.get? b\o)->g1.get? S\{ cls:=.type "list",dict:=none,data:=.seq a c,slots:=#[] }->
  ItemsOf (λi v=>∃t,es[i]?\t/\v=t.key) a es.size->R (.ok (.ret .none)) { s with heap:=g1,toks:=l }):
 (prog<|>w) A.in1 (Builtin.«list.__init__» ⟨[↑S,↑d],[]⟩)
  (λfin j=>match fin with|.done f=>R (.ok f) j|.again c=>c.quiet=true/\codeAny (model prog w) A c R j) (λe j=>R (.error e) j) s:=by
 let p:d≠S:=λe=>by
  let⟨o,C,D,r⟩:=u
  cbv
 show wpAny _ _ (do let old <-Builtin.List.listItems ↑S;Builtin.List.listUpdate ↑S (λ_=>#[]);letGo old.toList.reverse;Builtin.List.listExtendWith ↑S ↑d .none) _ _ s;rwa[agg ?_];unfold Builtin.List.listItems;rwa[agg (aiY q rfl (agn ?_))];show wpAny _ _ (updateSeq S (λ_=>#[]) >>=λ_=>letGo (#[]:Zm).toList.reverse >>=λ_=>Builtin.List.listExtendWith ↑S ↑d .none) _ _ s;rwa[agg (aiJ q rfl ?_)];let m:=ag2 (Obj.mapSeq (λ_=>(#[]:Zm))) q rfl;let g:∀b o,b≠S->s.heap.get? b\o->(s.heap.update S (Obj.mapSeq (λ_=>(#[]:Zm)))).get? b\o:=λb o k e=>(ag3^ahC k).trans e
 rwa[agg (ajO ?_)];rwa[extend (s:={ s with heap:=s.heap.update S (Obj.mapSeq (λ_=>(#[]:Zm))) }) z x (dZ.at u λo e=>g _ o p e) hlen S .none _ m λg1 l a c y n h=>?_]
 rwa[B g1 l a c (λb o k e=>y b o k (g b o k e)) n h]
theorem GK (t:A.handled=none)(p:(d==sysModules)=false)(u:dZ s.heap d es ep)(hlen:es.size<=sizeLine)
 (q:∀g1 j a h,(∀b o,s.heap.get? b\o->g1.get? b\o)->g1.get? ↥s\{ cls:=.type "list",dict:=none,data:=.seq a h,slots:=#[] }->ItemsOf (λi v=>∃l,es[i]?\l/\v=l.key) a es.size->Q ↑↥s { s with heap:=g1,toks:=j }):
 (prog<|>w) A (call (.type "list") [↑d]) Q E s:=by
 rwa[callType_codes (Q₁:=λobj c=>obj=↑↥s/\c={ s with heap:=s.heap.push ("list">>>.seq #[]) }) F.called_list (F.typeCall_list_1 _) F.entry_list_init (code_list_new _ ⟨22⟩) λobj c f=>?_]
 let⟨rfl,rfl⟩:=f;let n:(s.heap.push ("list">>>.seq #[])).get? ↥s\("list">>>.seq #[]):=agy _ rfl;rwa[⟨⟨_,n,2⟩,F.args_list_init_2 _ _,init (A:=A.in1) (s:={ s with heap:=s.heap.push ("list">>>.seq #[]) }) t p (dZ.at u λo e=>agi _ e) hlen _ n λg1 j a h r k g=>?_⟩];rwa[2,q g1 j a h (λb o e=>r b o (agO (agC e)) (agi _ e)) k g]
end
end Dk
structure MDef (K:Za1) (C:Zs) (x q:Str) (st:Stmt) (ps:Zp) (f:Zs) (fd:FuncData):Prop where
 F:qK K x q st f fd
 m:Meth K C x f
 b:Binds K fd ps []
open PySem.W (KasT kas_rev kas_asc kas_desc kas_tail3 kas_descPart kas_count kas_place kas_bin kas_sort kas_ask kas_ask_eq kas_runs kas_st kas_range kas_item kas_item_eq)
namespace Srt
def Gd {b:Type}(P:Nat->Nat->Prop)(f:Nat->Nat->Bool):KasT b->(b->Prop)->Prop
 |.ret a,Q=>Q a
 |.ask i j k,Q=>P i j/\Gd P f (k (f i j)) Q
section
variable {n:Nat}{key:Nat->Int}
structure Pr (n:Nat) (p:Array Nat):Prop where
 sz:p.size=n
 lt:∀i,i<n->p.getD i 0<n
 inj:∀i j,i<n->j<n->p.getD i 0=p.getD j 0->i=j
def Up (key:Nat->Int)(p:Array Nat)(m:Nat):Prop:=∀i j,i<j->j<m->key (p.getD i 0)<key (p.getD j 0)
def Dn (key:Nat->Int)(p:Array Nat)(m:Nat):Prop:=∀i j,i<j->j<m->key (p.getD j 0)<key (p.getD i 0)
def Ok (n:Nat)(key:Nat->Int)(i j:Nat):Prop:=i<n/\j<n/\key i≠key j
def Inj (n:Nat)(key:Nat->Int):Prop:=∀i j,i<n->j<n->key i=key j->i=j
abbrev ask (key:Nat->Int) (i j:Nat):Bool:=decide (key i<key j)
end
end Srt
end L2
namespace L2
open PySem PySem.Spec PyProof.Rows
def GN:typeLookup (.type "list") "keys"=pure none:=by rw[typeLookup_type,builtinLookup_eq_fast];kernel_rfl
theorem Jw {m:Zm}{k:Nat}{Q:Zl->Zu->Prop}
 (n:s.heap.get? a\("list">>>.seq m k)) (p:A.handled=none)
 (h:∀i j,(∀b o,s.heap.get? b\o->i.get? b\o)->Q none { s with heap:=i,toks:=j }):
 (P<|>w) A (getAttr? ↑a "keys") Q E s:=by
 let⟨q,g,d,j,os⟩:=s;let l:∀f,(⟨q,g,d,f,os⟩:Zu).TypeIs ↑a "list":=λ_=>⟨_,n,2⟩
 let t:=sub_AttributeError;let z:=F.slot_list_getattribute.lookup;let x:=F.slot_list_getattribute.bind ↑a;let v:=am_list_getattr_none;unfold getAttr? getAttrBy? getAttrBy
 repeat (any_goals (first|assumption|rwa[l _]|((with_reducible show wpAny _ _ (call (Value.builtin "list.__getattribute__") _ _) _ _ _);rwa[aiX F.slot_list_getattribute (l _) am_entry_list_getattribute (F.args_list_getattribute_2 _ _) (meets_getattribute_miss_list a m k #[] "keys" _ GN (by decide) (by decide)) ⟨n,p,λi f e c=>?_⟩])|wp_step))
 let⟨r,u,y⟩:=c.there;show wpAny _ _ (getattributeRaised _ _ _ _ _ _ _) _ _ _;unfold getattributeRaised
 repeat (any_goals (first|assumption|wp_step))
 rwa[h^c.keeps]
def oh:entryFor table "dict.update.loop"=some Builtin.«dict.update.loop»:=entryFor_of_fast (by kernel_rfl)
def iA:plainId "dict.update.loop"=true:=⋯
section
variable {prog:Program} {w:World} {K:Type} [DecidableEq K] {knd:KeyKind prog w K} {A:Around} {E:Zt->Zu->Prop}
theorem EZ {R:Result->Zu->Prop}{it l:Zs}{its:Zk}{rs:List (K×Zt)}(hh:A.in1.handled=none)(N:l≠it)(t:d≠it)(O:d≠l)(hlen:⇑its=⇑rs)(hsz:⇑rs<=sizeLine):
 ∀(k i:Nat) (s:Zu),⇑its - i=k->i<=⇑its->s.heap.IsListIter it l i->s.heap.IsList l its.toArray->s.heap.DictOf knd d (merged [] (rs.take i))->
 (∀(j:Nat) (u:Zt) (m:K×Zt),its[j]?\u->rs[j]?\m->∃p a,u=↑p/\p≠d/\p≠it/\knd.is m.1 a=true/\IsTup s.heap p #[a,m.2])->
 (∀h J,h.DictOf knd d (merged [] rs)->(∀b o,b≠d->b≠it->s.heap.get? b\o->h.get? b\o)->R (.ok (.ret .none)) { s with heap:=h,toks:=J })->
 codeAny (model prog w) A (.builtin "dict.update.loop" ⟨[↑d,↑it,rawInt (i:Int),.none],[]⟩) R s:=by
 let W:=Walks.list (prog:=prog) (w:=w) (A:=A.in1) hh it l N its.toArray;let c:∀b:Zs,b≠it->b∉[it]:=λb f z=>f (ago.mp z)
 intro k
 induction k with
 |zero=>
  intro i s hk L hit hl H Y hR;let ei:i=⇑its:=∅
  rwa[ajB oh ?_];rw[ajj iA _];show wpAny _ A.in1 (pyNext ↑it >>=_) _ _ s;rwa[agg (W.done s _ _ ⟨by cbv,hl⟩ λh J kp=>?_)];show wpAny _ A.in1 (Builtin.Dict.addKeywords d [] >>=_) _ _ _;rwa[agg (agn (agn ?_))];rw[ai0 ∅]at H;let⟨od,x1,x2,D,q⟩:=id H;rwa[hR h J ⟨od,x1,x2,kp _ _ (c _ t) D,q⟩ λb o _ f e=>kp b o (c _ f) e]
 |succ k ih=>
  intro i s hk L hit hl H Y hR;let nV:i<⇑its:=∅
  rwa[ajB oh ?_];rw[ajj iA _];show wpAny _ A.in1 (pyNext ↑it >>=_) _ _ s;rwa[agg (W.item i s _ _ ∅ ⟨hit,hl⟩ λv h J hP P kp=>?_)];let⟨B,Q⟩:=P;let Z:its[i]?\v:=by simpa using hP
  let x:rs[i]?\(rs[i]'∅):=agl ∅
  generalize rs[i]'∅=m at x;let⟨p,a,rfl,pd,pi,C,o,ho,hc,n,y⟩:=Y i v m Z x;let F:=kp _ _ (c _ pi) ho;let V:rs.take (i+ 1)=rs.take i++[m]:=by rw[aij,x];rfl
  let M:h.DictOf knd d (merged [] (rs.take i)):=by
   let⟨od,x1,x2,D,q⟩:=id H;rwa[od,x1,x2,kp _ _ (c _ t) D,q]
  let hml:=merged_length_le ([]:List (K×Zt)) (rs.take i)
  let G:⇑(merged [] (rs.take i))<=sizeLine:=by
   rw[agV,ahU]at hml;ext
  show wpAny _ A.in1 (holding [Value.ref p] _ >>=_) _ _ _;rwa[agg (ahn ?_)];rwa[agg (ajQ ?_)];show wpAny _ A.in1 (typeOf (Value.ref p) >>=_) _ _ _;rwa[agg (aiP (T:="tuple") ⟨o,F,hc⟩ ?_)];rw[agI ⋯];rwa[agg (aiY F y ?_)];rwa[agn ?_];show wpAny _ A.in1 (holding [a,m.2] (dictSet d a m.2)) _ _ _;rwa[ahn (wpAny_dictSet_pairs C M (λg S sb=>?_) G)];let I:∀b o,b≠d->h.get? b\o->g.get? b\o:=λb o f e=>(sb.2 b f).trans e
  rwa[agn ⟨aiR iA _,5⟩];let r:rawInt ((i:Int)+ 1)=rawInt (((i+ 1:Nat)):Int):=rfl;rw[r];rwa[ih (i+ 1) _ ∅ ∅ (B.at λo e=>I _ _ (ahC t) e) (Q.at λo e=>I _ _ (ahC O) e) ?_ ?_ ?_]
  ·rw[V,merged,aiK];rwa[S]
  ·intro j u kv2 D q;let⟨p,a,rfl,a1,a2,a3,o,b1,b2⟩:=Y j u kv2 D q;rwa[p,a,2,a1,a2,a3,o,I _ _ a1 (kp _ _ (c _ a2) b1),b2]
  ·intro q U hd4 X;rwa[hR q U hd4 λb o f L e=>X b o f L (I _ _ f (kp _ _ (c _ L) e))]
theorem xl {rs:List (K×Zt)}(J:A.handled=none)(hlen:⇑N=⇑rs)(B:⇑rs<=sizeLine)
 (I:s.heap.get? a\("list">>>.seq N.toArray n))
 (S:∀(j:Nat) (u:Zt) (r:K×Zt),N[j]?\u->rs[j]?\r->∃p d,u=↑p/\knd.is r.1 d=true/\IsTup s.heap p #[d,r.2])
 (P:∀m H,m.DictOf knd ↥s (merged [] rs)->(∀b o,s.heap.get? b\o->m.get? b\o)->Q ↑↥s { s with heap:=m,toks:=H }):
 (prog<|>w) A (call (.type "dict") [↑a]) Q E s:=by
 rwa[callType_codes (Q₁:=λobj f=>obj=↑↥s/\f={ s with heap:=s.heap.push ("dict">>>.dict #[]) }) F.kt_called_dict (F.kt_typeCall_dict_1 _) F.entry_dict_init (kt_code_dict_new _ ⟨22⟩) ?_];rintro obj f ⟨rfl,rfl⟩;let c:(s.heap.push ("dict">>>.dict #[])).DictOf knd ↥s []:=Heap.DictOf.new s.heap;let h:(s.heap.push ("dict">>>.dict #[])).get? a\("list">>>.seq N.toArray n):=agi _ I;let t:=agC I;erw[c.typeIs,F.args_dict_init_2 _ _];unfold Builtin.«dict.__init__»;rwa[agg ?_];unfold Builtin.Dict.selfAndRest;rwa[agg (aja c.typeIs ?_)];show wpAny _ _ (pure (↥s,[Value.ref a])) _ _ _;rwa[agn ?_];show wpAny _ _ (Builtin.Dict.updateFrom "dict.__init__" ↥s ↑a [] .none) _ _ _;unfold Builtin.Dict.updateFrom;rwa[agg (aiP (T:="list") ⟨_,h,2⟩ ?_)];rw[agI ⋯];rwa[agg (Jw h J λg H kp=>?_)];rw[agI ⋯];rwa[agg (ajN ?_)];let i:=kp^h;rwa[agg (aiE (items:=N.toArray) ⟨_,i,2,n,2⟩ ?_)]
 let k:↥s<g.objs.size:=by
  let⟨O,_,_,q,_⟩:=id c;rwa[agC (kp^q)]
 let z:=agC i;let M:∀b o,s.heap.get? b\o->(g.push ("list_iterator">>>.fields #[↑a,.int 0 0])).get? b\o:=λb o e=>agi _ (kp^agi _ e)
 rwa[agn ⟨aiR iA _,EZ (knd:=knd) (A:=A.in1) (rs:=rs) (its:=N) (l:=a) (it:=g.objs.size) J (agO z) (agO k) (ahw t) hlen B ⇑N 0 _ rfl (agP _) ?_ ⟨_,agi _ i,2,n,2⟩ ?_ ?_ ?_⟩]
 ·rwa[_,agy _ rfl,22]
 ·let⟨O,W,V,q,v⟩:=id c;rwa[O,W,V,agi _ (kp^q),v]
 ·intro j u r q v;let⟨p,d,rfl,R,o,D,U⟩:=S j u r q v;let l:=agC D;rwa[p,d,2,agO l,agO (ajv l k),R,o,M^D,U]
 ·intro m x C y;rwa[⟨2,P m x C λb o e=>?_⟩];let G:=agC e;rwa[y b o (agO G) (agO (ajv G k)) (M^e)]
end
section
variable {X:Cx}
inductive GO (xs:Zb) (H:Hp) (Q:VK):Prop
 |mk (l:Zs) (ps:Zn) (kvs:List (Key×V)):xs=[↑l]->H l\.lst (ps.map V.ref)->⇑ps=⇑kvs->(∀(i:Nat) (p:Zs) (kv:Key×V),ps[i]?\p->kvs[i]?\kv->H p\.tup [kV kv.1,kv.2])->(∀d,H d=none->Q ↑d (upd H d (.dK (iP [] kvs))))->GO xs H Q
theorem Jx (ok:dz P w H h):∀(c:Zn) (a:List (Key×V)),⇑c=⇑a->(∀(i:Nat) (p:Zs) (b:Key×V),c[i]?\p->a[i]?\b->H p\.tup [kV b.1,b.2])->
 ∃k:List (Key×Zt),KV a k/\∀(j:Nat) (p:Zs) (b:Key×Zt),c[j]?\p->k[j]?\b->∃e,(bQ P w).is b.1 e=true/\IsTup h p #[e,b.2]:=by
 intro c
 induction c with
 |nil=>exact λa l _=>by cases a with|nil=>exact⟨[],.nil,λj p b d=>by simp at d⟩|cons=>ext l
 |cons p c y=>
  intro a l n
  cases a with
  |nil=>ext l
  |cons b a=>
   let⟨k,o,x⟩:=y a (by simpa using l) λi q b d g=>n (i+ 1) q b (by simpa using d) (by simpa using g)
   obtain⟨-,s,t,r⟩:=ok p _ (n 0 p b rfl rfl);let⟨u,v,rfl,z,m⟩:=vals2 t;rwa[⟨(b.1,v)::k,.cons ⟨2,m⟩ o,λj q f d g=>?_⟩]
   cases j with
   |zero=>
    obtain rfl:p=q:=by simpa using d
    obtain rfl:(b.1,v)=f:=by simpa using g
    rwa[u,jG z,r]
   |succ j=>exact x j q f (by simpa using d) (by simpa using g)
def vk (M:X.calm=true):iz X (.type "dict") GO:=by
 intro m s P H O R Q I r h;let⟨l,k,a,rfl,C,hlen,B,q⟩:=h;let⟨u,rfl,D⟩:=vals1 r;ext D;let⟨A,y,c,z,v⟩:=I.aL l _ C;obtain rfl:=GD z;let⟨rs,i,G⟩:=Jx I.aL k a hlen B;let t:⇑a=⇑rs:=⇑i;rw[agm]at A;rwa[xl (knd:=bQ X.prog X.w) (rs:=rs) (I.ok.hd M) (by cbv) ∅ v (λj u E b o=>?_) λg w F kp=>?_]
 ·rw[agx]at b
  cases e:k[j]? with
  |none=>rw[e]at b;ext b
  |some p=>
   rw[e]at b;let⟨d,n,J⟩:=G j p E e o;rwa[p,d,(Za0 b).symm,n,J]
 ·let L:KV (iP [] a) (merged [] rs):=KV.merge i .nil;let f:=kT a [];rw[ahU]at f;rwa[↑↥s,_,I.laid (t':=w) kp (agp _) (qO ∅ (agE.mpr (ahC (agO I.big))) L F),2,q _ (I.aL.fresh (agp _))]
end
section
variable {X:Cx}{pins:List (Zs×Obj)}{σ:St}{H:Hp}{s:Zu}{d:Zs}{u:HO}{o:Obj}
def Inv.freeze (I:Inv X pins σ H s)(e:H d\u)(mu:tF (some u))(g:s.heap.get? d\o):Inv X pins σ (upd H d (.cR o u)) s:=by
 let a:tF (H d):=by rw[e];rwa[mu]
 let b:∀c y,H c\.own y->c≠d:=λc y r z=>by subst z;rw[r]at a;rwa[a]
 let i3:∀c f,H c\.tup f->c≠d:=λc f r z=>by subst z;rw[r]at a;rwa[a]
 let new:bY X.prog X.w (upd H d (.cR o u)) s.heap d u:=(I.aL d u e).fi (λc v _ r=>r) (λc r=>[ak (b^r)]▸r) λc f r=>by rw[ak (i3^r)];rwa[r]
 rwa[jY (t':=s.toks) I a (Heap.SameBut.refl _ _) ⟨o,g⟩ ⟨g,new⟩]
def Inv.E3 (I:Inv X pins σ H s)(e:H d\.cR o u)(mu:tF (some u))(l:∀o u,X.ua d≠some (.cR o u)):Inv X pins σ (upd H d u) s:=by
 let j:∀b,H b=none->b≠d:=λb n z=>by cbv
 let g:∀c y,H c\.own y->c≠d:=λc y r z=>by cbv
 let i3:∀c h,H c\.tup h->c≠d:=λc h r z=>by cbv
 rwa[⟨I.ok,I.os,I.bare,⟨I.base.keep,I.base.slot,λb i q n A=>?_,I.base.there,λb h q=>?_,λb i v q=>?_,λb t q=>?_⟩,I.loc,I.cell,5,λx c q=>?_,λp w=>?_,λb v q=>?_,I.len⟩]
 ·let f:=I.base.free b i q n A;rw[ak (j b f)];rwa[f]
 ·let f:=I.base.hX b h q;rw[ak (i3^f)];rwa[f]
 ·let f:=I.base.gH b i v q;rw[ak (λz=>l i v (by rw[<-z];rwa[q]))];rwa[f]
 ·let⟨m,f⟩:=I.base.hY b t q;erw[m];rw[ak (λz=>by cbv)];rwa[f]
 ·rw[ak (j _ I.free)];rwa[I.free]
 ·let f:=I.gI x c q;rw[ak (j _ f)];rwa[f]
 ·let⟨a,b,c⟩:=I.pin p w;rwa[⟨a,5,c⟩];rw[ak (j _ b)];rwa[b]
 ·let st:∀b v,bY X.prog X.w H s.heap b v->bY X.prog X.w (upd H d u) s.heap b v:=λb v q=>q.fi (λc v _ r=>r) (λc r=>[ak (g^r)]▸r) λc h r=>by rw[ak (i3^r)];rwa[r]
  by_cases k:b=d
  ·subst k;rw[ah]at q;obtain rfl:=Za0 q;rwa[st^(I.aL^e).2]
  ·rw[ak k]at q;rwa[st^I.aL b v q]
def Inv.Jy (I:Inv X pins σ H s)(e:H d\u)(mu:tF (some u)):∀o u,X.ua d≠some (.cR o u):=λo v q=>by
 rw[I.base.gH d o v q]at e;ext e;rwa[mu]
def UM (t:TS):TS:=λD σ H=>∃(d:Zs) (u:HO),H d\u/\tF (some u)/\
 t { nx:=λ b a=>∃o,a d\.cR o u/\D.nx b (upd a d u),rt:=λv a=>∃o,a d\.cR o u/\D.rt v (upd a d u),
     bk:=λ b a=>∃o,a d\.cR o u/\D.bk b (upd a d u),ct:=λ b a=>∃o,a d\.cR o u/\D.ct b (upd a d u) } σ H
def Dx {st:Stmt}{t:TS}(h:PS X st t):PS X st (UM t):=by
 intro pins s σ H D I q;let⟨d,u,e,mu,q⟩:=q;let i:=I.Jy e mu;rwa[a9 (h pins s σ H _ I q) λf l p=>?_]
 cases f with
 |next=>let⟨a,j,b,o,c,g⟩:=p;rwa[a,_,b.E3 c mu i,g]
 |brk=>let⟨a,j,b,o,c,g⟩:=p;rwa[a,_,b.E3 c mu i,g]
 |cont=>let⟨a,j,b,o,c,g⟩:=p;rwa[a,_,b.E3 c mu i,g]
 |ret v=>let⟨k,a,j,b,r,o,c,g⟩:=p;rwa[k,a,_,b.E3 c mu i,r,g]
end
def Ah (d:Zs)(o:Obj)(a:List (Key×V)):It:=
 ⟨λi H=>i<⇑a/\H d\.cR o (.dK a),λi H x c=>c=H/\∃b,a[i]?\b/\x=kV b.1,λi H=>⇑a<=i/\H d\.cR o (.dK a)⟩
def Nt {k:Key}(h:(bQ P w).is k v=true):RelV (kV k) v:=by
 cases k with
 |inl i=>
  let a:Value.isInt i v=true:=h
  cases v with
  |int j t=>simp[Value.isInt]at a;subst a;rwa[12]
  |_=>simp[Value.isInt]at a
 |inr x=>
  let a:Value.isStrOf x v=true:=h
  cases v with
  |str j t=>simp[Value.isStrOf]at a;subst a;rwa[12]
  |_=>simp[Value.isStrOf]at a
inductive Dt where
 |i (n:Int)|s (l:Zh)|n|b (k:Bool)|t (xs:List Dt)|l (xs:List Dt)
inductive bN (H:Hp):Nat->V->Dt->Prop where
 |i {k:Nat} {n:Int}:bN H k (.int n) (.i n)
 |s {k:Nat} {l:Zh}:bN H k (.str (tx l)) (.s l)
 |n {k:Nat}:bN H k .non .n
 |b {k:Nat} {c:Bool}:bN H k (.bl c) (.b c)
 |t {k:Nat} {a:Zs} {vs:Zb} {ds:List Dt}:H a\.tup vs->⇑vs=⇑ds->(∀(j:Nat) (v:V) (d:Dt),vs[j]?\v->ds[j]?\d->bN H k v d)->bN H (k+ 1) ↑a (.t ds)
 |l {k:Nat} {a:Zs} {vs:Zb} {ds:List Dt}:H a\.lst vs->⇑vs=⇑ds->(∀(j:Nat) (v:V) (d:Dt),vs[j]?\v->ds[j]?\d->bN H k v d)->bN H (k+ 1) ↑a (.l ds)
def bN.keep (j:∀a e,H a\.tup e->I a\.tup e)(g:∀a e,H a\.lst e->I a\.lst e){k:Nat}{v:V}{d:Dt}(h:bN H k v d):bN I k v d:=by
 induction h with
 |i=>exact .i
 |s=>exact .s
 |n=>exact .n
 |b=>exact .b
 |t a b c f=>exact .t (j^a) b f
 |l a b c f=>exact .l (g^a) b f
def bN.same (s:aq H I){k:Nat}{v:V}{d:Dt}(h:bN H k v d):bN I k v d:=h.keep (λ_ _ e=>s^e) (λ_ _ e=>s^e)
def bN.up {k:Nat}{d:Dt}(h:bN H k q d):bN H (k+ 1) q d:=by
 induction h with
 |i=>exact .i
 |s=>exact .s
 |n=>exact .n
 |b=>exact .b
 |t a b c e=>exact .t a b e
 |l a b c e=>exact .l a b e
def bN.le {k:Nat}{d:Dt}(h:bN H k q d)(a:k<=m):bN H m q d:=by
 let⟨j,rfl⟩:=Nat.exists_eq_add_of_le a;clear a
 induction j with
 |zero=>exact h
 |succ j b=>exact b.up
inductive UN (x:V) (y:V) (H:Hp) (Q:VK):Prop
 |mk (d:Dt) (a b:Zs):x=↑a->y=↑b->bN H 8 x d->bN H 8 y d->Q (.bl true) H->UN x y H Q
inductive UO (x:V) (y:V) (H:Hp) (Q:VK):Prop
 |mk (d:Dt) (a b:Zs):x=↑a->y=↑b->bN H 8 x d->bN H 8 y d->Q (.bl false) H->UO x y H Q
noncomputable def nI (l:Zh):Zg:=l.map λn:Nat=>(n:Int)
def bV (l:Zh):⇑(nI l)=⇑l:=agm ..
def fZ (h:B[i]?\n):(nI B)[i]?\(n:Int):=by unfold nI;rw[agx,h];rfl
def ie (a b:Zh):nI (a++b)=nI a++nI b:=agR ..
def Qx (l:Zh)(i n:Nat):(nI l).set i (n:Int)=nI (l.set i n):=by unfold nI;rw[List.map_set]
structure RS where
 L:Nat
 made:Nat
 rows:List Dt
 ways:List (List (Int×Nat))
 gaps:Za3
 aS:Zh
 called:List Zh
 aZ:Zh
def wK (l:List (Int×Nat)):List (Key×V):=l.map λp=>(Sum.inl p.1,V.int p.2)
noncomputable def gK (l:Zg):List (Key×V):=l.map λs=>(Sum.inl s,V.bl true)
noncomputable def fj (l:List (Int×Nat))(s:Int):Zi:=(l.find? λp=>decide (p.1=s)).map (·.2)
noncomputable def iO (l:List (Int×Nat))(s:Int)(r:Nat):List (Int×Nat):=if (l.any λp=>decide (p.1=s))=true then l.map λp=>if p.1=s then (p.1,r) else p else l++[(s,r)]
def Ai (l:List (Int×Nat)):⇑(wK l)=⇑l:=agm ..
def Qy (l:Zg):⇑(gK l)=⇑l:=agm ..
def Qz (a b:Int):decide ((Sum.inl a:Key)=Sum.inl b)=decide (a=b):=by
 cbv
theorem kD (s:Int):∀l:List (Int×Nat),bB (wK l) (Sum.inl s)=(fj l s).map λr:Nat=>V.int (r:Int)
 |[]=>rfl
 |p::l=>by
  let b:=kD s l;by_cases h:p.1=s
  ·let e:bB (wK (p::l)) (Sum.inl s)\(V.int p.2):=cU (p:=(Sum.inl p.1,V.int p.2)) (by rw[h]);let a:fj (p::l) s\p.2:=by unfold fj;rw[List.find?_cons_of_pos (by cbv)];rfl
   rw[e,a];rfl
  ·let e:bB (wK (p::l)) (Sum.inl s)=bB (wK l) (Sum.inl s):=cM (p:=(Sum.inl p.1,V.int p.2)) (λz=>h (Sum.inl.inj z));let a:fj (p::l) s=fj l s:=by unfold fj;rw[ai1 (by simpa using h)]
   rw[e,a,b]
def Aj (l:List (Int×Nat))(s:Int)(r:Nat):putK (wK l) (Sum.inl s) (.int r)=wK (iO l s r):=by
 unfold putK iO
 let a:((wK l).any λb=>decide (b.1=Sum.inl s))=l.any λp=>decide (p.1=s):=by
  unfold wK;rw[List.any_map]
  congr 1
  funext p
  rwa[Qz _ _]
 rw[a];split
 ·unfold wK;rw[ag6,ag6];rwa[ahv λp _=>?_]
  cbv
 ·unfold wK;rw[agR];rfl
def Jz (l:List (Int×Nat))(s t:Int)(r:Nat):fj (iO l s r) t=if t=s then some r else fj l t:=by
 let c:=kD t (iO l s r);rw[<-Aj,pB,kD]at c
 let inj:∀a b:Zi,(a.map λr:Nat=>V.int (r:Int))=(b.map λr:Nat=>V.int (r:Int))->a=b:=λa b h=>by
  cases a <;> cases b <;> simp at h ⊢
  ext
 apply inj;rw[<-c];by_cases e:t=s
 ·rw[agI e,agI (by rw[e])];rfl
 ·rw[agF e,agF (λz=>e (Sum.inl.inj z))]
def JA (l:List (Int×Nat))(s:Int)(r:Nat):⇑(iO l s r)<=⇑l+ 1:=by
 unfold iO;split
 ·rw[agm];ext
 ·rw[agk];rwa[agp _]
def Nu (l:Zg)(s:Int):eX (gK l) (Sum.inl s)=gK (l.filter λx=>decide (x≠s)):=by
 unfold eX gK;rw[List.filter_map]
 congr 1
 rwa[ajP λx _=>?_]
 cbv
theorem GP (s:Int):∀l:Zg,bB (gK l) (Sum.inl s)=if s∈l then some (V.bl true) else none
 |[]=>rfl
 |x::l=>by
  by_cases h:x=s
  ·rw[agI (by cbv)];rwa[cU (p:=(Sum.inl x,V.bl true)) (by rw[h])]
  ·let e:bB (gK (x::l)) (Sum.inl s)=bB (gK l) (Sum.inl s):=cM (p:=(Sum.inl x,V.bl true)) (λz=>h (Sum.inl.inj z));rw[e,GP s l]
   cbv
theorem yp:∀(more acc:List (Key×V)),((acc++more).map (·.1)).Nodup->iP acc more=acc++more
 |[],acc,_=>(agQ _).symm
 |p::more,acc,h=>by
  let b:bB acc p.1=none:=by
   unfold bB;rw[List.find?_eq_none.mpr ?_];rfl;intro q a;rw[ahi];intro e;rw[agR,ahf]at h;rwa[h.2.2 q.1 (aiS a) p.1 (aiS agA) e]
  show iP (putK acc p.1 p.2) more=_;rw[zZ _ b,yp more (acc++[(p.1,p.2)]) ([ahe]▸h),ahe];rfl
structure RA where
 dx:Zs
 aR:Zs
 aW:Zs
 aG:Zs
 aE:Zs
 aC:Zs
 aN:Zs
 rs:Zn
 ws:Zn
 gs:Zn
 cs:Zn
noncomputable def fk (L made:Int)(a:RA):List (Str×V):=[("letters",.int L),("made",.int made),("rows",↑a.aR),("ways",↑a.aW),("gaps",↑a.aG),("elders",↑a.aE),("called",↑a.aC),("went",↑a.aN)]
def GQ (L m n:Int)(a:RA):bJ "made" (.int n) (fk L m a)=fk L n a:=by
 let h:¬(("letters":Str)="made"):=⋯
 unfold fk;simp only[bJ,agF h,ajM]
def vl (L m:Int)(a:RA):(fk L m a).lookup ("letters":Str)\(.int L):=by kernel_rfl
def sN (L m:Int)(a:RA):(fk L m a).lookup ("made":Str)\(.int m):=by kernel_rfl
def sO (L m:Int)(a:RA):(fk L m a).lookup ("rows":Str)\↑a.aR:=by kernel_rfl
def iB (L m:Int)(a:RA):(fk L m a).lookup ("ways":Str)\↑a.aW:=by kernel_rfl
def sP (L m:Int)(a:RA):(fk L m a).lookup ("gaps":Str)\↑a.aG:=by kernel_rfl
def jj (L m:Int)(a:RA):(fk L m a).lookup ("elders":Str)\↑a.aE:=by kernel_rfl
def mX (L m:Int)(a:RA):(fk L m a).lookup ("called":Str)\↑a.aC:=by kernel_rfl
def sQ (L m:Int)(a:RA):(fk L m a).lookup ("went":Str)\↑a.aN:=by kernel_rfl
def cK (L m:Int)(a:RA){x:Str}(h:x∉(["letters","made","rows","ways","gaps","elders","called","went"]:Zp)):(fk L m a).lookup x=none:=by
 simp only[agB,ag4,ait,not_or]at h;let⟨f,d,i,e,g,b,j,c⟩:=h;unfold fk;simp only[List.lookup,agE.mpr f,agE.mpr d,agE.mpr i,agE.mpr e,agE.mpr g,agE.mpr b,agE.mpr j,agE.mpr c]
theorem dE:∀{fs:List (Str×V)},fs.lookup f=none->bJ f q fs=fs++[(f,q)]
 |[],_=>rfl
 |(g,x)::r,h=>by
  by_cases e:g=f
  ·cbv
  ·let a:(f==g)=false:=agE.mpr (ahC e);simp only[List.lookup,a]at h;show (if g=f then _ else _)=_;rw[agF e,dE h];rfl
inductive lZ:Dt->Prop where
 |i {n:Int}:lZ (.i n)
 |s {l:Zh}:lZ (.s l)
 |t {ds:List Dt}:⇑ds<=100000->(∀d∈ds,lZ d)->lZ (.t ds)
def bN.fT (q:∀a g,H a\.tup g->I a\.tup g){k:Nat}{v:V}{d:Dt}(h:bN H k v d)(m:lZ d):bN I k v d:=by
 induction h with
 |i=>exact .i
 |s=>exact .s
 |n=>exact .n
 |b=>exact .b
 |t a b c e=>
  cases m with
  |t _ o=>exact .t (q^a) b λj v d p f=>e j v d p f (o d (agh f))
 |l a b c e=>ext m
def Each {a:Type}(R:Zs->a->Prop)(b:Zn)(xs:List a):Prop:=⇑b=⇑xs/\∀(i:Nat) (p:Zs) (x:a),b[i]?\p->xs[i]?\x->R p x
def Each.imp {e:Type}{R c:Zs->e->Prop}{a:List e}(h:Each R F a)(f:∀p x,p∈F->x∈a->R p x->c p x):Each c F a:=
 ⟨h.1,λi p x d b=>f p x (agh d) (agh b) (h.2 i p x d b)⟩
def Each.snoc {d:Type}{R:Zs->d->Prop}{ps:Zn}{xs:List d}{x:d}(h:Each R ps xs)(f:R a x):Each R (ps++[a]) (xs++[x]):=by
 rwa[⟨by rw[agk,agk,h.1];rfl,λi q y c b=>?_⟩];by_cases e:i<⇑ps
 ·rw[ags e]at c;rw[ags (by rw[<-h.1];rwa[e])]at b;rwa[h.2 i q y c b]
 ·rw[agt ∅]at c;rw[agt (by rw[<-h.1];omega)]at b;rw[ago.mp (agh c),ago.mp (agh b)];rwa[f]
theorem Each.at {a:Type}{R:Zs->a->Prop}{b:List a}(h:Each R F b){i:Nat}{x:a}(d:b[i]?\x):∃p,F[i]?\p/\R p x:=by
 let c:i<⇑F:=by rw[h.1];rwa[(agj.mp d).1]
 rwa[_,agl c,h.2 i _ x (agl c) d]
def Each.mem {b:Type}{R:Zs->b->Prop}{xs:List b}(h:Each R F xs){p:Zs}(d:p∈F):∃x,x∈xs/\R p x:=by
 let⟨i,c⟩:=ag8 d;let a:i<⇑xs:=by rw[<-h.1];rwa[(agj.mp c).1]
 rwa[_,agh (agl a),h.2 i p _ c (agl a)]
theorem Each.set {d:Type}{R b:Zs->d->Prop}{xs:List d}{x:d}(h:Each R F xs)(g:F[i]?\a)(m:b a x)(l:F.Nodup)(f:∀q y,q∈F->q≠a->R q y->b q y):Each b F (xs.set i x):=by
 rwa[⟨[agK]▸h.1,λj q y c k=>?_⟩];by_cases e:i=j
 ·cbv
 ·rw[ahI e]at k;rwa[f q y (agh c) (λz=>?_) (h.2 j q y c k)];subst z;rwa[e ((List.getElem?_inj (agj.mp g).1 l).mp (g.trans c.symm))]
noncomputable def RA.lists (a:RA):Zn:=a.aR::a.aW::a.aG::a.aE::a.aC::a.aN::a.cs
noncomputable def RA.eD (a:RA):Zn:=a.ws++a.gs
def RA.own (a:RA)(r b:Zs):Prop:=b=r\/b∈a.lists\/b∈a.eD
structure ay (C:Zs) (H:Hp) (r:Zs) (S:RS) (a:RA):Prop where
 ins:H r\(.ins C a.dx (fk S.L S.made a))
 hR:H a.aR\(.lst (a.rs.map V.ref))
 hW:H a.aW\(.lst (a.ws.map V.ref))
 hG:H a.aG\(.lst (a.gs.map V.ref))
 hE:H a.aE\(.lst (ao (nI S.aS)))
 hC:H a.aC\(.lst (a.cs.map V.ref))
 hN:H a.aN\(.lst (ao (nI S.aZ)))
 rR:Each (λp d=>bN H 4 ↑p d) a.rs S.rows
 rW:Each (λp l=>H p\.dK (wK l)) a.ws S.ways
 rG:Each (λp l=>H p\.dK (gK l)) a.gs S.gaps
 rC:Each (λp l=>H p\.lst (ao (nI l))) a.cs S.called
 flat:∀d∈S.rows,lZ d
 iJ:a.lists.Nodup
 l0:a.eD.Nodup
section
variable {C:Zs}{H H':Hp}{r:Zs}{S:RS}{a:RA}
def ay.keep (h:ay C H r S a)(k:∀b o,a.own r b->H b\o->H' b\o)(j:∀b g,H b\.tup g->H' b\.tup g):ay C H' r S a:=by
 let c:∀b o,b∈a.lists->H b\o->H' b\o:=λb o f=>k b o (.inr (.inl f))
 let i:∀b o,b∈a.eD->H b\o->H' b\o:=λb o f=>k b o (.inr (.inr f))
 rwa[k _ _ (.inl rfl) h.ins,c _ _ (by simp[RA.lists]) h.hR,c _ _ (by simp[RA.lists]) h.hW,c _ _ (by simp[RA.lists]) h.hG,c _ _ (by simp[RA.lists]) h.hE,c _ _ (by simp[RA.lists]) h.hC,c _ _ (by simp[RA.lists]) h.hN,h.rR.imp λp x _ l e=>e.fT j (h.flat x l),h.rW.imp λp x d _ e=>i _ _ (agJ _ d) e,h.rG.imp λp x d _ e=>i _ _ (agr _ d) e,h.rC.imp λp x d _ e=>c _ _ (by simp[RA.lists,d]) e,h.flat,h.iJ,h.l0]
def ay.same (h:ay C H r S a)(s:aq H H'):ay C H' r S a:=h.keep (λ_ _ _ e=>s^e) (λ_ _ e=>s^e)
def ay.there (h:ay C H r S a){b:Zs}(c:a.own r b):∃o,H b\o:=by
 rcases c with rfl|c|c
 ·rwa[⟨_,h.ins⟩]
 ·unfold RA.lists at c;simp only[agB]at c;rcases c with rfl|rfl|rfl|rfl|rfl|rfl|c
  ·rwa[⟨_,h.hR⟩]
  ·rwa[⟨_,h.hW⟩]
  ·rwa[⟨_,h.hG⟩]
  ·rwa[⟨_,h.hE⟩]
  ·rwa[⟨_,h.hC⟩]
  ·rwa[⟨_,h.hN⟩]
  ·let⟨x,_,e⟩:=h.rC.mem c;rwa[_,e]
 ·rcases agv.mp c with c|c
  ·let⟨x,_,e⟩:=h.rW.mem c;rwa[_,e]
  ·let⟨x,_,e⟩:=h.rG.mem c;rwa[_,e]
def ay.sR (h:ay C H r S a){b:Zs}{f:Zb}(e:H b\.tup f):¬a.own r b:=λc=>by
 rcases c with rfl|c|c
 ·rw[h.ins]at e;ext e
 ·unfold RA.lists at c;simp only[agB]at c;rcases c with rfl|rfl|rfl|rfl|rfl|rfl|c
  ·rw[h.hR]at e;ext e
  ·rw[h.hW]at e;ext e
  ·rw[h.hG]at e;ext e
  ·rw[h.hE]at e;ext e
  ·rw[h.hC]at e;ext e
  ·rw[h.hN]at e;ext e
  ·let⟨x,_,d⟩:=h.rC.mem c;cbv
 ·rcases agv.mp c with c|c
  ·let⟨x,_,d⟩:=h.rW.mem c;cbv
  ·let⟨x,_,d⟩:=h.rG.mem c;cbv
end
end L2
variable {S T:L2.RS}{O:L2.RA}
namespace L2
open PySem PySem.Spec PyProof.Rows
section
variable {C:Zs}{H:Hp}{r:Zs}{S:RS}{a:RA}
def fU:a.aR∈a.lists:=by simp[RA.lists]
def fV:a.aW∈a.lists:=by simp[RA.lists]
def iW:a.aG∈a.lists:=by simp[RA.lists]
def gL:a.aE∈a.lists:=by simp[RA.lists]
def iC:a.aC∈a.lists:=by simp[RA.lists]
def hU:a.aN∈a.lists:=by simp[RA.lists]
def gb (h:b∈a.cs):b∈a.lists:=by simp[RA.lists,h]
def du (h:b∈a.ws):b∈a.eD:=agJ _ h
def gf (h:b∈a.gs):b∈a.eD:=agr _ h
def ay.Lv (h:ay C H r S a){b:Zs}(c:b∈a.lists):∃d,H b\(.lst d):=by
 unfold RA.lists at c;simp only[agB]at c;rcases c with rfl|rfl|rfl|rfl|rfl|rfl|c
 ·rwa[⟨_,h.hR⟩]
 ·rwa[⟨_,h.hW⟩]
 ·rwa[⟨_,h.hG⟩]
 ·rwa[⟨_,h.hE⟩]
 ·rwa[⟨_,h.hC⟩]
 ·rwa[⟨_,h.hN⟩]
 ·let⟨x,_,e⟩:=h.rC.mem c;rwa[_,e]
def ay.qe (h:ay C H r S a){b:Zs}(c:b∈a.eD):∃d,H b\(.dK d):=by
 rcases agv.mp c with c|c
 ·let⟨x,_,e⟩:=h.rW.mem c;rwa[_,e]
 ·let⟨x,_,e⟩:=h.rG.mem c;rwa[_,e]
def ay.rl (h:ay C H r S a){b:Zs}(c:b∈a.lists):r≠b:=by let⟨d,e⟩:=h.Lv c;rwa[bZ h.ins e (by cbv)]
def ay.rd (h:ay C H r S a){b:Zs}(c:b∈a.eD):r≠b:=by let⟨d,e⟩:=h.qe c;rwa[bZ h.ins e (by cbv)]
def ay.ld (h:ay C H r S a){b c:Zs}(d:b∈a.lists)(hc:c∈a.eD):b≠c:=by
 let⟨f,e⟩:=h.Lv d;let⟨ys,g⟩:=h.qe hc
 cbv
def ay.tl (h:ay C H r S a){b c:Zs}{d:Zb}(e:H b\.tup d)(hc:c∈a.lists):b≠c:=λz=>h.sR e (.inr (.inl ([z]▸hc)))
def ay.td (h:ay C H r S a){b c:Zs}{d:Zb}(e:H b\.tup d)(hc:c∈a.eD):b≠c:=λz=>h.sR e (.inr (.inr ([z]▸hc)))
def ay.tr (h:ay C H r S a){b:Zs}{c:Zb}(d:H b\.tup c):b≠r:=λz=>h.sR d (.inl z)
def ay.Nv (h:ay C H r S a)(n:Nat):ay C (upd H r (.ins C a.dx (fk S.L n a))) r { S with made:=n } a:=by
 let c:∀b o,b∈a.lists->H b\o->upd H r (.ins C a.dx (fk S.L n a)) b\o:=λb o f e=>by rw[ak (h.rl f).symm];rwa[e]
 let g:∀b o,b∈a.eD->H b\o->upd H r (.ins C a.dx (fk S.L n a)) b\o:=λb o f e=>by rw[ak (h.rd f).symm];rwa[e]
 rwa[ah,c _ _ fU h.hR,c _ _ fV h.hW,c _ _ iW h.hG,c _ _ gL h.hE,c _ _ iC h.hC,c _ _ hU h.hN,h.rR.imp λp x _ j e=>e.fT (λb k i=>[ak (h.tr i)]▸i) (h.flat x j),h.rW.imp λp x d _ e=>g _ _ (du d) e,h.rG.imp λp x d _ e=>g _ _ (gf d) e,h.rC.imp λp x d _ e=>c _ _ (gb d) e,h.flat,h.iJ,h.l0]
def ay.jk (h:ay C H r S a){q:Zs}{o:HO}(c:q∈a.lists):upd H q o r\.ins C a.dx (fk S.L S.made a)/\(∀b x,b∈a.lists->b≠q->H b\x->upd H q o b\x)/\(∀b x,b∈a.eD->H b\x->upd H q o b\x)/\∀b d,H b\.tup d->upd H q o b\(.tup d):=
 ⟨[ak (h.rl c)]▸h.ins,λb x _ n e=>[ak n]▸e,λb x f e=>[ak (h.ld c f).symm]▸e,λb d e=>[ak (h.tl e c)]▸e⟩
def vm (b:a.lists.Nodup):(a.aR≠a.aW/\a.aR≠a.aG/\a.aR≠a.aE/\a.aR≠a.aC/\a.aR≠a.aN)/\(a.aW≠a.aG/\a.aW≠a.aE/\a.aW≠a.aC/\a.aW≠a.aN)/\(a.aG≠a.aE/\a.aG≠a.aC/\a.aG≠a.aN)/\(a.aE≠a.aC/\a.aE≠a.aN)/\a.aC≠a.aN/\∀p∈a.cs,p≠a.aR/\p≠a.aW/\p≠a.aG/\p≠a.aE/\p≠a.aC/\p≠a.aN:=by
 unfold RA.lists at b
 cbv
def ay.Ak (h:ay C H r S a){p:Zs}{d:Dt}(j:bN H 4 ↑p d)(hd:lZ d):ay C (upd H a.aR (.lst (a.rs.map V.ref++[↑p]))) r { S with rows:=S.rows++[d] } { a with rs:=a.rs++[p] }:=by
 let⟨m,c,i,g⟩:=h.jk (o:=.lst (a.rs.map V.ref++[↑p])) (fU (a:=a));obtain⟨⟨n1,n2,n,s,k⟩,-,-,-,-,l⟩:=vm h.iJ
 rwa[⟨m,5,c _ _ fV n1.symm h.hW,c _ _ iW n2.symm h.hG,c _ _ gL n.symm h.hE,c _ _ iC s.symm h.hC,c _ _ hU k.symm h.hN,(h.rR.imp λq x _ f e=>e.fT g (h.flat x f)).snoc (j.fT g hd),h.rW.imp λq x b _ e=>i _ _ (du b) e,h.rG.imp λq x b _ e=>i _ _ (gf b) e,h.rC.imp λq x b _ e=>c _ _ (gb b) (l q b).1 e,λx f=>?_,h.iJ,h.l0⟩]
 ·rw[ah,agR];rfl
 ·rcases agv.mp f with f|f
  ·rwa[h.flat x f]
  cbv
def ay.QB (h:ay C H r S a){p:Zs}{l:List (Int×Nat)}(g:H p\.dK (wK l))(t:p∉a.eD):ay C (upd H a.aW (.lst (a.ws.map V.ref++[↑p]))) r { S with ways:=S.ways++[l] } { a with ws:=a.ws++[p] }:=by
 let⟨j,c,f,n⟩:=h.jk (o:=.lst (a.ws.map V.ref++[↑p])) (fV (a:=a));obtain⟨⟨n1,-⟩,⟨n2,k,m,i⟩,-,-,-,u⟩:=vm h.iJ;let d:upd H a.aW (.lst (a.ws.map V.ref++[↑p])) p\(.dK (wK l)):=by rw[ak (bZ g h.hW (by cbv))];rwa[g]
 erw[j,c _ _ fU n1 h.hR,5,c _ _ iW n2.symm h.hG,c _ _ gL k.symm h.hE,c _ _ iC m.symm h.hC,c _ _ hU i.symm h.hN,h.rR.imp λq x _ s e=>e.fT n (h.flat x s),(h.rW.imp λq x b _ e=>f _ _ (du b) e).snoc d,h.rG.imp λq x b _ e=>f _ _ (gf b) e,h.rC.imp λq x b _ e=>c _ _ (gb b) (u q b).2.1 e,h.flat,h.iJ]
 ·rw[ah,agR];rfl
 ·show (a.ws++[p]++a.gs).Nodup;rw[ahe];rwa[(List.perm_middle.nodup_iff).mpr (agX.mpr ⟨t,h.l0⟩)]
def ay.QC (h:ay C H r S a){p:Zs}{l:Zg}(i:H p\.dK (gK l))(u:p∉a.eD):ay C (upd H a.aG (.lst (a.gs.map V.ref++[↑p]))) r { S with gaps:=S.gaps++[l] } { a with gs:=a.gs++[p] }:=by
 let⟨k,c,g,s⟩:=h.jk (o:=.lst (a.gs.map V.ref++[↑p])) (iW (a:=a));obtain⟨⟨-,n1,-⟩,⟨n2,-⟩,⟨m,n,j⟩,-,-,v⟩:=vm h.iJ;let d:upd H a.aG (.lst (a.gs.map V.ref++[↑p])) p\(.dK (gK l)):=by rw[ak (bZ i h.hG (by cbv))];rwa[i]
 erw[k,c _ _ fU n1 h.hR,c _ _ fV n2 h.hW,5,c _ _ gL m.symm h.hE,c _ _ iC n.symm h.hC,c _ _ hU j.symm h.hN,h.rR.imp λq x _ f e=>e.fT s (h.flat x f),h.rW.imp λq x b _ e=>g _ _ (du b) e,(h.rG.imp λq x b _ e=>g _ _ (gf b) e).snoc d,h.rC.imp λq x b _ e=>c _ _ (gb b) (v q b).2.2.1 e,h.flat,h.iJ]
 ·rw[ah,agR];rfl
 ·show (a.ws++(a.gs++[p])).Nodup;rw[<-ahe];rwa[ahf.mpr ⟨h.l0,by simp,λx f y t z=>?_⟩];rw[ago.mp t]at z;rwa[u (z ▸ f)]
def ay.yq (h:ay C H r S a)(d:Zh):ay C (upd H a.aE (.lst (ao (nI d)))) r { S with aS:=d } a:=by
 let⟨k,c,f,g⟩:=h.jk (o:=.lst (ao (nI d))) (gL (a:=a));obtain⟨⟨-,-,n1,-⟩,⟨-,n2,-⟩,⟨l,-⟩,⟨n,i⟩,-,j⟩:=vm h.iJ
 rwa[k,c _ _ fU n1 h.hR,c _ _ fV n2 h.hW,c _ _ iW l h.hG,ah,c _ _ iC n.symm h.hC,c _ _ hU i.symm h.hN,h.rR.imp λq x _ m e=>e.fT g (h.flat x m),h.rW.imp λq x b _ e=>f _ _ (du b) e,h.rG.imp λq x b _ e=>f _ _ (gf b) e,h.rC.imp λq x b _ e=>c _ _ (gb b) (j q b).2.2.2.1 e,h.flat,h.iJ,h.l0]
def ay.Nw (h:ay C H r S a)(d:Zh):ay C (upd H a.aN (.lst (ao (nI d)))) r { S with aZ:=d } a:=by
 let⟨k,c,f,g⟩:=h.jk (o:=.lst (ao (nI d))) (hU (a:=a));obtain⟨⟨-,-,-,-,n1⟩,⟨-,-,-,n2⟩,⟨-,-,l⟩,⟨-,n⟩,i,j⟩:=vm h.iJ
 rwa[k,c _ _ fU n1 h.hR,c _ _ fV n2 h.hW,c _ _ iW l h.hG,c _ _ gL n h.hE,c _ _ iC i h.hC,ah,h.rR.imp λq x _ m e=>e.fT g (h.flat x m),h.rW.imp λq x b _ e=>f _ _ (du b) e,h.rG.imp λq x b _ e=>f _ _ (gf b) e,h.rC.imp λq x b _ e=>c _ _ (gb b) (j q b).2.2.2.2.2 e,h.flat,h.iJ,h.l0]
def ay.GR (h:ay C H r S a){p:Zs}{l:Zh}(t:H p\.lst (ao (nI l)))(u:p∉a.lists):ay C (upd H a.aC (.lst (a.cs.map V.ref++[↑p]))) r { S with called:=S.called++[l] } { a with cs:=a.cs++[p] }:=by
 let⟨k,c,g,s⟩:=h.jk (o:=.lst (a.cs.map V.ref++[↑p])) (iC (a:=a));obtain⟨⟨-,-,-,n1,-⟩,⟨-,-,n2,-⟩,⟨-,m,-⟩,⟨n,-⟩,j,v⟩:=vm h.iJ;let f:p≠a.aC:=λz=>u ([z]▸iC)
 let d:upd H a.aC (.lst (a.cs.map V.ref++[↑p])) p\(.lst (ao (nI l))):=by rw[ak f];rwa[t]
 rwa[⟨k,c _ _ fU n1 h.hR,c _ _ fV n2 h.hW,c _ _ iW m h.hG,c _ _ gL n h.hE,5,c _ _ hU j.symm h.hN,h.rR.imp λq x _ i e=>e.fT s (h.flat x i),h.rW.imp λq x b _ e=>g _ _ (du b) e,h.rG.imp λq x b _ e=>g _ _ (gf b) e,(h.rC.imp λq x b _ e=>c _ _ (gb b) (v q b).2.2.2.2.1 e).snoc d,h.flat,5,h.l0⟩]
 ·rw[ah,agR];rfl
 ·rwa[ahf.mpr ⟨h.iJ,by simp,λx i y w z=>?_⟩]
  cbv
def ay.GU (h:ay C H r S a){i:Nat}{p:Zs}(g:a.cs[i]?\p)(l:Zh):ay C (upd H p (.lst (ao (nI l)))) r { S with called:=S.called.set i l } a:=by
 let j:=agh g;let⟨m,b,f,u⟩:=h.jk (o:=.lst (ao (nI l))) (gb j);obtain⟨-,-,-,-,-,z⟩:=vm h.iJ;let⟨n1,n2,s,t,k,v⟩:=z p j
 let d:a.cs.Nodup:=by
  have:=h.iJ;unfold RA.lists at this;simp only[agX]at this;rwa[this.2.2.2.2.2.2]
 rwa[m,b _ _ fU n1.symm h.hR,b _ _ fV n2.symm h.hW,b _ _ iW s.symm h.hG,b _ _ gL t.symm h.hE,b _ _ iC k.symm h.hC,b _ _ hU v.symm h.hN,h.rR.imp λq x _ w e=>e.fT u (h.flat x w),h.rW.imp λq x c _ e=>f _ _ (du c) e,h.rG.imp λq x c _ e=>f _ _ (gf c) e,h.rC.set g ah d λq y c n e=>b _ _ (gb c) n e,h.flat,h.iJ,h.l0]
def ay.Dy (h:ay C H r S a){q:Zs}{o:HO}(c:q∈a.eD):upd H q o r\.ins C a.dx (fk S.L S.made a)/\(∀b x,b∈a.eD->b≠q->H b\x->upd H q o b\x)/\(∀b x,b∈a.lists->H b\x->upd H q o b\x)/\∀b d,H b\.tup d->upd H q o b\(.tup d):=
 ⟨[ak (h.rd c)]▸h.ins,λb x _ n e=>[ak n]▸e,λb x f e=>[ak (h.ld f c)]▸e,λb d e=>[ak (h.td e c)]▸e⟩
def ay.Al (h:ay C H r S a){i:Nat}{p:Zs}(f:a.ws[i]?\p)(l:List (Int×Nat)):ay C (upd H p (.dK (wK l))) r { S with ways:=S.ways.set i l } a:=by
 let g:=agh f;let⟨j,d,b,k⟩:=h.Dy (o:=.dK (wK l)) (du g);let nd:=ahf.mp h.l0
 rwa[j,b _ _ fU h.hR,b _ _ fV h.hW,b _ _ iW h.hG,b _ _ gL h.hE,b _ _ iC h.hC,b _ _ hU h.hN,h.rR.imp λq x _ m e=>e.fT k (h.flat x m),h.rW.set f ah nd.1 λq y c n e=>d _ _ (du c) n e,h.rG.imp λq x c _ e=>d _ _ (gf c) (λz=>nd.2.2 p g q c z.symm) e,h.rC.imp λq x c _ e=>b _ _ (gb c) e,h.flat,h.iJ,h.l0]
def ay.QD (h:ay C H r S a){i:Nat}{p:Zs}(f:a.gs[i]?\p)(l:Zg):ay C (upd H p (.dK (gK l))) r { S with gaps:=S.gaps.set i l } a:=by
 let g:=agh f;let⟨j,d,b,k⟩:=h.Dy (o:=.dK (gK l)) (gf g);let nd:=ahf.mp h.l0
 rwa[j,b _ _ fU h.hR,b _ _ fV h.hW,b _ _ iW h.hG,b _ _ gL h.hE,b _ _ iC h.hC,b _ _ hU h.hN,h.rR.imp λq x _ m e=>e.fT k (h.flat x m),h.rW.imp λq x c _ e=>d _ _ (du c) (λz=>nd.2.2 q c p g z) e,h.rG.set f ah nd.2.1 λq y c n e=>d _ _ (gf c) n e,h.rC.imp λq x c _ e=>b _ _ (gb c) e,h.flat,h.iJ,h.l0]
end
noncomputable def RS.jZ (S:RS)(i:Nat)(l:List (Int×Nat)):RS:={ S with ways:=S.ways.set i l }
noncomputable def RS.setG (S:RS)(i:Nat)(l:Zg):RS:={ S with gaps:=S.gaps.set i l }
noncomputable def RS.way (S:RS)(c:Nat):List (Int×Nat):=S.ways.getD c []
def RS.gap (S:RS)(c:Nat):Zg:=S.gaps.getD c []
def RS.by (S:RS)(c:Nat)(z:Int):Zi:=fj (S.way c) z
def RS.cj (S:RS)(c:Nat)(z:Int)(d:Nat):RS:=S.jZ c (iO (S.way c) z d)
def RS.lD (S:RS)(c:Nat)(z:Int):RS:=S.setG c ((S.gap c).filter λx=>decide (x≠z))
def RS.keep (S:RS)(c:Nat)(z:Int)(d:Nat):RS:=(((S.cj c z d).cj d (-z) c).lD c z).lD d (-z)
noncomputable def kF (c:Nat)(z:Int)(n:Nat):Dt:=.t [.s [110,101,119],.i c,.i z,.i n]
def RS.grown (S:RS)(c:Nat)(z:Int)(gaps:Zg):RS:={ S with made:=S.made+ 1,rows:=S.rows++[kF c z S.made],ways:=S.ways++[[]],gaps:=S.gaps++[gaps],aS:=S.aS++[S.made],called:=S.called++[[S.made]] }
def RS.make (S:RS)(c:Nat)(z:Int)(gaps:Zg):RS:=(S.grown c z gaps).keep c z S.made
noncomputable def RS.new (L:Nat)(gaps:Zg):RS:=⟨L,(1),[],[[]],[gaps],[0],[[0]],[]⟩
structure RS.Wf (S:RS):Prop where
 w:⇑S.ways=S.made
 g:⇑S.gaps=S.made
 e:⇑S.aS=S.made
 c:⇑S.called=S.made
section
variable {X:Cx}{e:Expr}{f:Str}{ta:TE}{pos:Pos}
def Nx (a:X.K=K)(b:PE X e ta)(c:attributeBase e f X.env (eval e X.env)=eval e X.env):PE X (.Attribute e f pos) (Pu K ta f):=by
 subst a;rwa[aH b c]
end
theorem mY {J:It}{Q:VK}(n:Nat)(u:Nat->V)(R:Hp->V->Nat->Prop)(G:∀q b v i,aq q b->R q v i->R b v i)(p:n<=sizeLine)
 (l:∀(i:Nat) b,aq H b->i<n->J.go i b) (C:∀(i:Nat) (x:V) (b d:Hp),aq H b->i<n->J.lP i b x d->d=b/\x=u i) (g:∀b,aq H b->J.stop n b)
 (E:∀(i:Nat) (b:Hp) (y:VK),i<n->aq H b->(∀v d,aq b d->R d v i->y v d)->r (some (u i)::D) b y)
 (z:∀a b ys,aq H b->b a=none->⇑ys=n->(∀(i:Nat) (v:V),ys[i]?\v->R b v i)->Q ↑a (upd b a (.lst ys))):qL r D Q J H:=by
 erw[λi m ys b=>m=n - i/\i<=n/\⇑ys=i/\aq H b/\∀(j:Nat) (v:V),ys[j]?\v->R b v j,⟨n,by simp,agP _,2,λ_ _ e=>e,λj v h=>by simp at h⟩];rintro i m ys b ⟨rfl,M,s,s2,t⟩;by_cases c:i<n
 ·rwa[.inr ⟨l i b s2 c,3,λx d k=>?_⟩];let⟨rfl,rfl⟩:=C i x b d s2 c k;rwa[E i _ _ c s2 λv L o F=>⟨n - (i+ 1),32,c,by rw[agk,s];rfl,s2.trans o,λj w f=>?_⟩]
  by_cases I:j<⇑ys
  ·rw[ags I]at f;rwa[G _ _ _ _ o (t j w f)]
  ·rw[agt ∅]at f
   let B:j - ⇑ys=0:=by
    have:=(agj.mp f).1;rw[ahu]at this;ext
   rw[B]at f;have:j=i:=∅
   subst this;rw[<-Za0 f];rwa[F]
 ·let e:i=n:=∅
  subst e;rwa[.inl ⟨g b s2,3,λa A=>z a b ys s2 A s t⟩]
theorem sS {P:Nat->Zs->Prop}:∀(ys:Zb) (k:Nat),(∀(i:Nat) (v:V),ys[i]?\v->∃p,v=↑p/\P (k+ i) p)->∃a:Zn,ys=a.map V.ref/\∀(i:Nat) (p:Zs),a[i]?\p->P (k+ i) p
 |[],_,_=>⟨[],2,λi p h=>by simp at h⟩
 |v::ys,k,h=>by
  let⟨p,rfl,f⟩:=h 0 v rfl
  let⟨a,rfl,b⟩:=sS (P:=P) ys (k+ 1) λi w c=>by
   let⟨q,e,d⟩:=h (i+ 1) w (by simpa using c)
   cbv
  rwa[⟨p::a,2,λi q d=>?_⟩]
  cases i with
  |zero=>cbv
  |succ i=>
   cbv
theorem jl {f:Str}{v:V}{n:Nat}:∀{fs:List (Str×V)},⇑fs<=n->⇑(bJ f v fs)<=n+ 1
 |[],h=>by show 1<=n+ 1;ext
 |(g,x)::r,h=>by
  show ⇑(if g=f then (g,v)::r else (g,x)::bJ f v r)<=n+ 1;rw[agL]at h;split
  ·rw[agL];ext
  ·have:=jl (f:=f) (v:=v) (n:=n - 1) (fs:=r) ∅;rw[agL];ext
def qf (K:Za1):PySem.W.kitOne K (.type "int") (.type "tuple")\false:=by first|rfl|kernel_rfl
def qR (K:Za1):PySem.W.kitOne K (.type "int") (.type "list")\false:=by first|rfl|kernel_rfl
def qS (K:Za1):PySem.W.kitOne K (.type "int") (.type "dict")\false:=by first|rfl|kernel_rfl
def qg (K:Za1):PySem.W.kitOne K (.type "str") (.type "tuple")\false:=by first|rfl|kernel_rfl
def qT (K:Za1):PySem.W.kitOne K (.type "str") (.type "list")\false:=by first|rfl|kernel_rfl
def qU (K:Za1):PySem.W.kitOne K (.type "str") (.type "dict")\false:=by first|rfl|kernel_rfl
theorem qV:∀{d:List DictEntry} {f:List (Key×Zt)} {c:List (Key×V)},Pairs (bQ P w) d f->KV c f->Vals (c.map λi=>kV i.1) (d.map (·.key))
 |[],_,_,.nil,r=>by ext r;rwa[.nil]
 |e::d,_,_,.cons g j h,r=>by
  cases r with
  |cons a b=>
   rw[ahA,ahA];rwa[.cons ?_ (qV h b)];rw[a.1];rwa[Nt g]
theorem pairs_len:∀{b:List DictEntry} {a:List (Key×Zt)},Pairs (bQ P w) b a->⇑b=⇑a
 |_,_,.nil=>rfl
 |_,_,.cons _ _ h=>by rw[agL,agL,pairs_len h]
section
variable {X:Cx}
inductive GV (xs:Zb) (H:Hp) (Q:VK):Prop
 |mk (d:Zs) (kvs:List (Key×V)):xs=[↑d]->H d\.dK kvs->(∀l,H l=none->Q ↑l (upd H l (.lst (kvs.map λkv=>kV kv.1))))->GV xs H Q
def jI (O:X.calm=true):iz X (.type "list") GV:=by
 intro w s U H S Y Q I r h;let⟨d,c,rfl,x,q⟩:=h;let⟨u,rfl,G⟩:=vals1 r;ext G;let⟨C,n,A,rel,o,g,W,E,k,e,R,t,V⟩:=sI I.aL x;let hlen:⇑c=⇑A:=⇑rel;let m:=pairs_len t;let D:g.size=⇑c:=by rw[<-ah2,m,hlen]
 rwa[Dk.GK (I.ok.hd O) n ⟨o,E,k,e⟩ ∅ λF z a y l f b=>?_]
 let N:a.toList=g.toList.map (·.key):=by
  rwa[ah3 λi=>?_]
  rw[ai4,agx,ai4]
  cases j:a[i]? with
  |none=>
   let L:g.size<=i:=by
    let p:a.size<=i:=Array.getElem?_eq_none_iff.mp j;rw[b.1]at p;rwa[p]
   rw[ajI L];rfl
  |some v=>
   let⟨T,M,rfl⟩:=b.2 i v j;rw[M];rfl
 let B:a=(g.toList.map (·.key)).toArray:=by rw[<-N]
 rw[B]at f;let j:=qV t rel;rwa[↑↥s,_,I.laid (t':=z) l (agp _) (show bY X.prog X.w _ F _ (.lst (c.map λJ=>kV J.1)) from ⟨[agm]▸C,_,y,j,f⟩),2,q _ (I.aL.fresh (agp _))]
end
section
variable {C:Zs}{H:Hp}{r:Zs}{S:RS}{a:RA}
theorem ay.QF (h:ay C H r S a){i:Nat}(v:i<⇑a.ws){q:Zs}{l:List (Int×Nat)}(d:H q\.dK (wK l))(w:q∉a.eD):ay C (upd H a.aW (.lst ((a.ws.map V.ref).set i ↑q))) r { S with ways:=S.ways.set i l } { a with ws:=a.ws.set i q }:=by
 let⟨D,g,n,G⟩:=h.jk (o:=.lst ((a.ws.map V.ref).set i ↑q)) (fV (a:=a));obtain⟨⟨n1,-⟩,⟨n2,E,F,B⟩,-,-,-,Q⟩:=vm h.iJ;let k:upd H a.aW (.lst ((a.ws.map V.ref).set i ↑q)) q\(.dK (wK l)):=by rw[ak (bZ d h.hW f!"")];rwa[d]
 let nd:=ahf.mp h.l0
 erw[D,g _ _ fU n1 h.hR,5,g _ _ iW n2.symm h.hG,g _ _ gL E.symm h.hE,g _ _ iC F.symm h.hC,g _ _ hU B.symm h.hN,h.rR.imp λq x _ f e=>e.fT G (h.flat x f),5,h.rG.imp λq x d _ e=>n _ _ (gf d) e,h.rC.imp λq x d _ e=>g _ _ (gb d) (Q q d).2.1 e,h.flat,h.iJ]
 ·show upd H a.aW _ a.aW\.lst ((a.ws.set i q).map V.ref);rw[ah,List.map_set]
 ·rwa[⟨by show ⇑(a.ws.set i q)=⇑(S.ways.set i l);rw[agK,agK];rwa[h.rW.1],λj p x O L=>?_⟩];let b:(a.ws.set i q)[j]?\p:=O
  let c:(S.ways.set i l)[j]?\x:=L
  by_cases z:i=j
  ·subst z;rw[ag9 v]at b;rw[ag9 (by rw[<-h.rW.1];rwa[v])]at c;obtain rfl:=Za0 b;obtain rfl:=Za0 c;rwa[k]
  ·rw[ahI z]at b c;rwa[n _ _ (du (agh b)) (h.rW.2 j p x b c)]
 ·show (a.ws.set i q++a.gs).Nodup;let M:q∉a.ws:=λz=>w (agJ _ z)
  let s:q∉a.gs:=λz=>w (agr _ z)
  rwa[ahf.mpr ⟨5,nd.2.1,λx f y u z=>?_⟩]
  ·have:∀(l:Zn) (i:Nat),l.Nodup->q∉l->(l.set i q).Nodup:=by
    intro l
    induction l with
    |nil=>intro i _ _;simp
    |cons x l P=>
     intro i I m;let⟨N,t⟩:=agX.mp I;let J:q≠x:=λz=>m ([z]▸agA)
     let A:q∉l:=λz=>m (agS _ z)
     cases i with
     |zero=>exact agX.mpr ⟨A,t⟩
     |succ i=>
      rwa[agX.mpr ⟨λz=>?_,P i t A⟩];rcases aix z with z|z
      ·rwa[N z]
      ·rwa[J z.symm]
   rwa[this a.ws i nd.1 M]
  ·rcases aix f with f|f
   ·rwa[nd.2.2 x f y u z]
   ·rw[<-f,z]at s;rwa[s u]
end
def Ny (l:List (Int×Nat))(s:Int):eX (wK l) (Sum.inl s)=wK (l.filter λp=>decide (p.1≠s)):=by
 unfold eX wK;rw[List.filter_map]
 congr 1
 rwa[ajP λx _=>?_]
 cbv
def GW (l:List (Int×Nat))(s t:Int):fj (l.filter λp=>decide (p.1≠s)) t=if t=s then none else fj l t:=by
 induction l with
 |nil=>split <;> rfl
 |cons p l a=>
  let b:∀(q:Int×Nat) (m:List (Int×Nat)),fj (q::m) t=if q.1=t then some q.2 else fj m t:=λq m=>by
   unfold fj
   cbv
  cbv
abbrev Way:=Nat×Int×Nat
abbrev Ze:=List Way
def RS.ax (S:RS)(c:Nat):Nat:=S.aS.getD c 0
def RS.ck (S:RS)(c:Nat):Zh:=S.called.getD c []
noncomputable def fq (c:Nat)(z:Int)(x y:Nat):Dt:=.t [.s [109,101,101,116],.i c,.i z,.i x,.i y]
def RS.joined (S:RS)(c:Nat)(z:Int)(x y:Nat):RS:=
 { S with rows:=S.rows++[fq c z x y],aZ:=S.aZ++[y],aS:=(S.ck y).foldl (λa n=>a.set n x) S.aS,called:=S.called.set x (S.ck x++S.ck y) }
def RS.oj (S:RS)(c:Nat)(z:Int):RS:=S.jZ c ((S.way c).filter λp=>decide (p.1≠z))
def jm (c:Nat)(st:RS×Ze)(p:Int×Nat):RS×Ze:=(if p.2≠c then st.1.oj p.2 (-p.1) else st.1,st.2++[(c,p.1,p.2)])
def RS.om (S:RS)(c:Nat)(a:Ze):RS×Ze:=(S.way c).foldl (jm c) (S.jZ c [],a)
def RS.meet (S:RS)(c:Nat)(z:Int)(x y:Nat)(a:Ze):RS×Ze:=(S.joined c z (min x y) (max x y)).om (max x y) a
def RS.takeIn (S:RS)(a:Ze)(w:Way):RS×Ze:=
 if (S.by (S.ax w.1) w.2.1).getD (S.ax w.2.2)≠S.ax w.2.2 then S.meet (S.ax w.1) w.2.1 ((S.by (S.ax w.1) w.2.1).getD (S.ax w.2.2)) (S.ax w.2.2) a
 else if (S.by (S.ax w.2.2) (-w.2.1)).getD (S.ax w.1)≠S.ax w.1 then S.meet (S.ax w.2.2) (-w.2.1) ((S.by (S.ax w.2.2) (-w.2.1)).getD (S.ax w.1)) (S.ax w.1) a
 else (S.keep (S.ax w.1) w.2.1 (S.ax w.2.2),a)
structure E4 (S:RS) (c:Nat):Prop where
 nd:((S.way c).map (·.1)).Nodup
 lt:∀q∈S.way c,q.2<S.made
 bk:∀q∈S.way c,q.2≠c->(S.by q.2 (-q.1)).isSome=true
def i7 {l:List (Int×Nat)}(a:n<⇑S.ways):(S.jZ n l).way m=if m=n then l else S.way m:=by
 unfold RS.jZ RS.way
 cbv
def jn (a:n<⇑S.ways):(S.cj n z i).by m y=if m=n/\y=z then some i else S.by m y:=by
 unfold RS.cj RS.by;rw[i7 a];by_cases h:m=n
 ·subst h;rw[agI rfl,Jz]
  cbv
 cbv
def E5 (a:n<⇑S.ways):(S.oj n z).by m y=if m=n/\y=z then none else S.by m y:=by
 unfold RS.oj RS.by;rw[i7 a];by_cases h:m=n
 ·subst h;rw[agI rfl,GW]
  cbv
 ·rw[agF h,agF (λq=>h q.1)]
def Nz {l:List (Int×Nat)}(a:n<⇑S.ways):(S.jZ n l).by m z=if m=n then fj l z else S.by m z:=by
 unfold RS.by;rw[i7 a];split <;> rfl
def cV (c:Nat)(S:RS)(a:Ze)(b:List (Int×Nat)):RS×Ze:=b.foldl (jm c) (S.jZ c [],a)
def ig (c:Nat)(S:RS)(a:Ze)(b:List (Int×Nat))(p:Int×Nat):cV c S a (b++[p])=jm c (cV c S a b) p:=by unfold cV;cbv
theorem snoc_ind {b:Type}{P:List b->Prop}(f:P [])(d:∀l x,P l->P (l++[x])):∀l,P l:=λl=>by
 have:∀n (l:List b),⇑l=n->P l:=by
  intro n
  induction n with
  |zero=>cbv
  |succ n c=>
   intro l e;let a:l≠[]:=λz=>by rw[z]at e;ext e
   rw[<-aif a];rwa[d^(c _ (by rw[List.length_dropLast];omega))]
 rwa[this _ l rfl]
def yr (c:Nat)(S:RS)(a:Ze):∀b:List (Int×Nat),(cV c S a b).2=a++b.map λp=>(c,p.1,p.2):=by
 rwa[snoc_ind (by simp[cV]) λb p d=>?_]
 rw[ig];show (cV c S a b).2++_=_
 cbv
def gG (c:Nat)(S:RS)(a:Ze):∀b:List (Int×Nat),(cV c S a b).1.ways.length=⇑S.ways/\(cV c S a b).1={ S with ways:=(cV c S a b).1.ways }:=by
 rwa[snoc_ind ⟨by simp[cV,RS.jZ],2⟩ λb p d=>?_]
 rw[ig];unfold jm;by_cases h:p.2≠c
 ·simp only[h,ajM,aiL,ne_eq];erw[5]
  ·show ⇑(List.set^_)=_;rw[agK];rwa[d.1]
  ·unfold RS.oj RS.jZ;rw[d.2]
 ·simp only[h,ajf];rwa[d]
def xm {c:Ze}(m:n<⇑S.ways):∀f:List (Int×Nat),(∀q∈f,q.2<⇑S.ways)->∀d z,(cV n S c f).1.by d z=if d=n\/∃q∈f,q.2=d/\z= -q.1 then none else S.by d z:=by
 rwa[snoc_ind (λ_ d z=>?_) λf p l i d z=>?_]
 ·show (S.jZ n []).by d z=_;rw[Nz m];by_cases h:d=n
  ·rw[agI h,agI (.inl h)];rfl
  cbv
 ·let g:=l (λq a=>i q (agJ _ a)) d z;let j:=i p (agr _ agA);rw[ig];unfold jm;by_cases h:p.2≠n
  ·simp only[h,ajM,aiL,ne_eq];rw[E5 ([(gG n S c f).1]▸j),g];by_cases e:d=p.2/\z= -p.1
   ·rw[agI e,agI (.inr ⟨p,agr _ agA,e.1.symm,e.2⟩)]
   ·rw[agF e];by_cases b:d=n\/∃q∈f,q.2=d/\z= -q.1
    ·rw[agI b,agI (b.imp id λζ=>by let⟨q,a,r⟩:=ζ;rwa[⟨q,agJ _ a,r⟩])]
    ·rw[agF b,agF];rintro (q|⟨q,a,r⟩)
     ·rwa[b (.inl q)]
     ·rcases agv.mp a with a|a
      ·rwa[b (.inr ⟨q,a,r⟩)]
      ·rw[ago.mp a]at r;rwa[e ⟨r.1.symm,r.2⟩]
  ·simp only[h,ajf];rw[g];let k:p.2=n:=ajg.mp h;by_cases b:d=n\/∃q∈f,q.2=d/\z= -q.1
   ·rw[agI b,agI (b.imp id λζ=>by let⟨q,a,r⟩:=ζ;rwa[⟨q,agJ _ a,r⟩])]
   ·rw[agF b,agF];rintro (q|⟨q,a,r⟩)
    ·rwa[b (.inl q)]
    ·rcases agv.mp a with a|a
     ·rwa[b (.inr ⟨q,a,r⟩)]
     ·rw[ago.mp a]at r;rwa[b (.inl (r.1.symm.trans k))]
inductive Cg (R:Za2):Nat->Nat->Prop where
 |refl (a:Nat):Cg R a a
 |symm {a b:Nat}:Cg R a b->Cg R b a
 |trans {a b c:Nat}:Cg R a b->Cg R b c->Cg R a c
 |step {a a' b b':Nat} {z:Int}:R a z b->R a' z b'->Cg R a a'->Cg R b b'
def Cg.mono {e:Za2}(h:∀a z b,R a z b->e a z b){a b:Nat}(c:Cg R a b):Cg e a b:=by
 induction c with
 |refl=>exact .refl _
 |symm _ d=>exact .symm d
 |trans _ _ f g=>exact .trans f g
 |step r1 r2 _ d=>exact .step (h _ _ _ r1) (h _ _ _ r2) d
def Im (S:RS)(R:Za2)(c:Nat)(z:Int)(d:Nat):Prop:=∃a b,R a z b/\S.ax a=c/\S.ax b=d
def yt (S:RS)(a:Ze)(c:Nat)(z:Int)(d:Nat):Prop:=S.by c z=some d\/∃w∈a,(S.ax w.1=c/\w.2.1=z/\S.ax w.2.2=d)\/(S.ax w.1=d/\w.2.1= -z/\S.ax w.2.2=c)
structure Good (S:RS) (pend:Ze) (R:Za2):Prop where
 wf:S.Wf
 el:∀c,c<S.made->S.ax c<=c/\S.ax (S.ax c)=S.ax c
 ca:∀e,e<S.made->S.ax e=e->∀c,c∈S.ck e↔c<S.made/\S.ax c=e
 cb:∀e c,c∈S.ck e->c<S.made
 cn:∀e,(S.ck e).Nodup
 kn:∀c,((S.way c).map (·.1)).Nodup
 st:∀c z d,S.by c z=some d->c<S.made/\d<S.made/\S.ax c=c/\S.ax d=d
 sy:∀c z d,S.by c z=some d->S.by d (-z)=some c
 pl:∀w∈pend,w.1<S.made/\w.2.2<S.made
 rl:∀c z d,R c z d->c<S.made/\d<S.made/\R d (-z) c
 cv:∀c z d,R c z d->yt S pend (S.ax c) z (S.ax d)
 so:∀c z d,S.by c z=some d->Im S R c z d
 sp:∀w∈pend,Im S R (S.ax w.1) w.2.1 (S.ax w.2.2)
 cg:∀c,c<S.made->Cg R c (S.ax c)
section
variable {S:RS}{pend:Ze}{R:Za2}
def Good.lt (h:Good S pend R){c:Nat}(hc:c<S.made):S.ax c<S.made:=agu (h.el c hc).1 hc
def Im.back (h:Good S pend R){c d:Nat}{z:Int}(i:Im S R c z d):Im S R d (-z) c:=by
 let⟨b,e,r,a,f⟩:=i;rwa[e,b,(h.rl _ _ _ r).2.2,f,a]
def Good.must (h:Good S pend R){c x y:Nat}{z:Int}(i:Im S R c z x)(j:Im S R c z y):Cg R x y:=by
 let⟨p,n,r1,e,l⟩:=i;let⟨m,o,r2,f1,d⟩:=j;let⟨g,l2,_⟩:=h.rl _ _ _ r1;let⟨k,f,_⟩:=h.rl _ _ _ r2;let a1:=h.cg _ g;let a2:=h.cg _ l2;let a:=h.cg _ k;let b:=h.cg _ f;rw[e]at a1;rw[l]at a2;rw[f1]at a;rw[d]at b;rwa[a2.symm.trans ((Cg.step r1 r2 (a1.trans a.symm)).trans b)]
theorem Good.keep (h:Good S pend R){c d:Nat}{z:Int}(hc:c<S.made)(hd:d<S.made)(B:S.ax c=c)(ed:S.ax d=d)(i:Im S R c z d)(I:S.by c z=none\/S.by c z=some d)(G:S.by d (-z)=none\/S.by d (-z)=some c){f:Ze}(v:∀w∈f,w∈pend)
 (A:∀w∈pend,w∉f->S.ax w.1=c/\w.2.1=z/\S.ax w.2.2=d):Good (S.keep c z d) f R:=by
 let o:c<⇑S.ways:=by rw[h.wf.w];rwa[hc]
 let n:d<⇑S.ways:=by rw[h.wf.w];rwa[hd]
 let k:∀a s,(S.keep c z d).by a s=if a=d/\s= -z then some c else if a=c/\s=z then some d else S.by a s:=λa s=>by
  show ((S.cj c z d).cj d (-z) c).by a s=_;rw[jn (by show d<⇑(S.ways.set c _);rw[agK];rwa[n]),jn o]
 let old:∀a s b,S.by a s=some b->(S.keep c z d).by a s=some b:=λa s b e=>by
  rw[k];by_cases g:a=d/\s= -z
  ·rw[agI g];let⟨rfl,rfl⟩:=g;rcases G with q|q <;> rw[q]at e <;> ext e
   rfl
  ·rw[agF g];by_cases j:a=c/\s=z
   ·rw[agI j];let⟨rfl,rfl⟩:=j;rcases I with q|q <;> rw[q]at e <;> ext e
    rfl
   ·rw[agF j];rwa[e]
 let el:∀a,(S.keep c z d).ax a=S.ax a:=λa=>rfl
 let new:∀a s b,(S.keep c z d).by a s=some b->(a=d/\s= -z/\b=c)\/(a=c/\s=z/\b=d)\/S.by a s=some b:=λa s b e=>by
  rw[k]at e;by_cases g:a=d/\s= -z
  ·rw[agI g]at e;rwa[.inl ⟨g.1,g.2,(Za0 e).symm⟩]
  ·rw[agF g]at e;by_cases j:a=c/\s=z
   ·rw[agI j]at e;rwa[.inr (.inl ⟨j.1,j.2,(Za0 e).symm⟩)]
   ·rw[agF j]at e;rwa[.inr (.inr e)]
 let m:(S.keep c z d).by d (-z)=some c:=by rw[k,agI ⟨22⟩]
 let put2:(S.keep c z d).by c z=some d:=by
  rw[k];by_cases g:c=d/\z= -z
  ·rw[agI g,g.1]
  ·rw[agF g,agI ⟨22⟩]
 let t:∀(l:List (Int×Nat)) (s:Int) (r:Nat),(l.map (·.1)).Nodup->((iO l s r).map (·.1)).Nodup:=λl s r C=>by
  unfold iO;split
  ·rw[ag6]
   have:((λx:Int×Nat=>x.1) ∘ λp:Int×Nat=>if p.1=s then (p.1,r) else p)=λx=>x.1:=by
    funext p
    show (if p.1=s then (p.1,r) else p).1=p.1;split <;> rfl
   rw[this];rwa[C]
  ·rename_i q;rw[agR];rwa[ahf.mpr ⟨C,by simp,λa L b H e=>q ?_⟩];let⟨p,v,rfl⟩:=ahc.mp L;have:b=s:=by simpa using H
   rwa[List.any_eq_true.mpr ⟨p,v,agW (e.trans this)⟩]
 rwa[⟨⟨55,h.wf.e,h.wf.c⟩,h.el,h.ca,h.cb,h.cn,λa=>?_,λa s b e=>?_,λa s b e=>?_,λw u=>h.pl w (v w u),h.rl,λa s b r=>?_,λa s b e=>?_,λw u=>h.sp w (v w u),h.cg⟩]
 ·show ⇑((List.set^_).set _ _)=S.made;rw[agK,agK];rwa[h.wf.w]
 ·show ⇑((List.set^_).set _ _)=S.made;rw[agK,agK];rwa[h.wf.g]
 ·show ((((S.cj c z d).cj d (-z) c).way a).map (·.1)).Nodup;unfold RS.cj;rw[i7 (by show d<⇑(S.ways.set c _);rw[agK];rwa[n])]
  let k1:∀a,(((S.jZ c (iO (S.way c) z d)).way a).map (·.1)).Nodup:=λa=>by
   rw[i7 o];split
   ·rwa[t _ _ _ (h.kn c)]
   ·rwa[h.kn a]
  split
  ·rwa[t _ _ _ (k1 d)]
  ·rwa[k1 a]
 ·rcases new a s b e with ⟨rfl,rfl,rfl⟩|⟨rfl,rfl,rfl⟩|e
  ·rwa[⟨hd,hc,ed,B⟩]
  ·rwa[⟨hc,hd,B,ed⟩]
  ·rwa[h.st a s b e]
 ·rcases new a s b e with ⟨rfl,rfl,rfl⟩|⟨rfl,rfl,rfl⟩|e
  ·rw[aid];rwa[put2]
  ·rwa[m]
  ·rwa[old _ _ _ (h.sy _ _ _ e)]
 ·rcases h.cv a s b r with q|⟨w,u,q⟩
  ·rwa[.inl (old _ _ _ q)]
  ·by_cases E:w∈f
   ·rwa[.inr ⟨w,E,q⟩]
   ·let⟨f1,D,F⟩:=A w u E;rwa[.inl ?_];show (S.keep c z d).by (S.ax a) s=some (S.ax b);rcases q with ⟨g,j,y⟩|⟨g,j,y⟩
    ·rw[<-g,<-j,<-y,f1,D,F];rwa[put2]
    ·let J:s= -z:=by rw[<-D,j,aid]
     rw[<-g,<-y,f1,F,J];rwa[m]
 ·rcases new a s b e with ⟨rfl,rfl,rfl⟩|⟨rfl,rfl,rfl⟩|e
  ·rwa[Im.back h i]
  ·rwa[i]
  ·rwa[h.so a s b e]
end
theorem Am (x:Nat):∀(l b:Zh) (a:Nat),(∀n∈l,n<⇑b)->(l.foldl (λb n=>b.set n x) b).getD a 0=if a∈l then x else b.getD a 0
 |[],b,a,_=>by simp
 |n::l,b,a,h=>by
  rw[List.foldl_cons,Am x l (b.set n x) a (λm c=>[agK]▸h m (agS _ c))]
  cbv
theorem yu (x:Nat):∀(l a:Zh),⇑(l.foldl (λa n=>a.set n x) a)=⇑a
 |[],_=>rfl
 |n::l,a=>by rw[List.foldl_cons,yu x l,agK]
def qW {l:List (Int×Nat)}(h:fj l z\n):(z,n)∈l:=by
 let⟨q,a,rfl⟩:=ahx.mp h
 cbv
def jo {l:List (Int×Nat)}(a:(l.map (·.1)).Nodup){q:Int×Nat}(h:q∈l):fj l q.1\q.2:=by
 induction l with
 |nil=>ext h
 |cons p l b=>
  unfold fj;rw[ahA,agX]at a;by_cases e:p.1=q.1
  ·cbv
  ·rw[ai1 (by simpa using e)];rcases agB.mp h with rfl|h
   ·rwa[absurd rfl e]
   ·rwa[b a.2 h]
theorem lE:∀(n:Nat) (l:Zh),l.Nodup->(∀x∈l,x<n)->⇑l<=n
 |0,[],_,_=>agp _
 |0,a::l,_,h=>absurd (h a (agA ..)) ∅
 |n+ 1,l,b,h=>by
  by_cases c:n∈l
  ·have:=lE n (l.erase n) (b.erase n) (λx d=>by
    cbv)
   rw[aiM c]at this;ext
  ·have:=lE n l b (λx d=>by
    cbv)
   ext
theorem qX:∀(k l:Zg),l.Nodup->(∀x∈l,x∈k)->⇑l<=⇑k
 |[],[],_,_=>agp _
 |[],a::l,_,h=>by have:=h a agA;cbv
 |y::k,l,b,h=>by
  by_cases c:y∈l
  ·have:=qX k (l.erase y) (b.erase y) (λx d=>by
    cbv)
   rw[aiM c]at this;rw[agL];ext
  ·have:=qX k l b (λx d=>by
    cbv)
   rw[agL];ext
def NB {pend:Ze}(i:n<⇑S.ways)(e:∀a,((S.way a).map (·.1)).Nodup):∀c:List (Int×Nat),(∀q∈c,q.2<⇑S.ways)->∀a,(((cV n S pend c).1.way a).map (·.1)).Nodup:=by
 rwa[snoc_ind (λ_ a=>?_) λc p g d a=>?_]
 ·show (((S.jZ n []).way a).map (·.1)).Nodup;rw[i7 i];split
  ·rwa[ah6]
  ·rwa[e a]
 ·let b:=g (λq f=>d q (agJ _ f));rw[ig];unfold jm;by_cases h:p.2≠n
  ·simp only[h,ajM,aiL,ne_eq];unfold RS.oj;rw[i7 ([(gG n S pend c).1]▸d p (agr _ agA))];split
   ·rwa[List.Nodup.sublist (List.Sublist.map _ aim) (b p.2)]
   ·rwa[b a]
  ·simp only[h,ajf];rwa[b a]
section
variable {S:RS}{pend:Ze}{R:Za2}
def yt.back (h:Good S pend R){b:RS}{a:Ze}(sy:∀c z d,b.by c z=some d->b.by d (-z)=some c){c d:Nat}{z:Int}(i:yt b a c z d):yt b a d (-z) c:=by
 rcases i with q|⟨w,j,q⟩
 ·rwa[.inl (sy _ _ _ q)]
 ·rwa[.inr ⟨w,j,?_⟩];rcases q with ⟨e,g,f⟩|⟨e,g,f⟩
  ·rwa[.inr ⟨e,by rw[g,aid],f⟩]
  ·rwa[.inl ⟨e,g,f⟩]
theorem Good.meet (h:Good S pend R){c x y:Nat}{z:Int}(Y:S.by c z=some x)(hy:y<S.made)(ey:S.ax y=y)(hxy:x≠y)(iy:Im S R c z y){d:Ze}(hp:∀w∈d,w∈pend)
 (hcv:∀w∈pend,w∉d->(S.ax w.1=c/\w.2.1=z/\S.ax w.2.2=y)\/(S.ax w.1=y/\w.2.1= -z/\S.ax w.2.2=c)):
 Good (S.meet c z x y d).1 (S.meet c z x y d).2 R/\(∀a,(S.meet c z x y d).1.ax a=if S.ax a=max x y then min x y else S.ax a)/\(S.meet c z x y d).2=d++(S.way (max x y)).map (λp=>(max x y,p.1,p.2)):=by
 let⟨hc,hxm,ec,ex⟩:=h.st _ _ _ Y;let A:Cg R x y:=h.must (h.so _ _ _ Y) iy;let Q:min x y<S.made:=∅
 let F:max x y<S.made:=∅
 let J:min x y<max x y:=∅
 let T:S.ax (min x y)=min x y:=by rcases ajc x y with q|q;rw[aiN ∅];rwa[ex];rw[ajm ∅];rwa[ey]
 let N:S.ax (max x y)=max x y:=by rcases ajc x y with q|q;rw[ajT ∅];rwa[ey];rw[ajD ∅];rwa[ex]
 let L:x=min x y\/x=max x y:=∅
 let H:y=min x y\/y=max x y:=∅
 let j:Cg R (max x y) (min x y):=by
  rcases ajc x y with q|q
  ·rw[ajT (by omega),aiN (by omega)];rwa[A.symm]
  ·rw[ajD ∅,ajm ∅];rwa[A]
 unfold RS.meet;generalize max x y=v at F J N L H j ⊢;generalize min x y=u at Q J T L H j ⊢;let I:v<⇑S.ways:=by rw[h.wf.w];rwa[F]
 let O:∀q∈S.way v,q.2<⇑S.ways:=λq E=>by
  rw[h.wf.w];rwa[(h.st v q.1 q.2 (jo (h.kn v) E)).2.1]
 let hP:((S.joined c z u v).om v d)=cV v (S.joined c z u v) d (S.way v):=rfl;rw[hP];let rest:=gG v (S.joined c z u v) d (S.way v);let byJ:∀a s,(S.joined c z u v).by a s=S.by a s:=λa s=>rfl
 let QG:∀a s,(cV v (S.joined c z u v) d (S.way v)).1.by a s=if a=v\/S.by a s=some v then none else S.by a s:=λa s=>by
  rw[xm (S:=S.joined c z u v) I _ O,byJ]
  have:(a=v\/∃q∈S.way v,q.2=a/\s= -q.1)↔(a=v\/S.by a s=some v):=by
   rwa[or_congr Iff.rfl ⟨5,λe=>?_⟩]
   ·rintro ⟨q,E,rfl,rfl⟩;rwa[h.sy _ _ _ (jo (h.kn v) E)]
   ·have:=qW (h.sy _ _ _ e);rwa[_,this,2,(aid s).symm]
  simp only[this]
 let o:(cV v (S.joined c z u v) d (S.way v)).2=d++(S.way v).map λp=>(v,p.1,p.2):=yr _ _ _ _
 let G:=NB (S:=S.joined c z u v) (pend:=d) I h.kn (S.way v) O
 let heq:∀a,(cV v (S.joined c z u v) d (S.way v)).1.ax a=if S.ax a=v then u else S.ax a:=λa=>by
  rw[rest.2];show ((S.ck v).foldl (λD n=>D.set n u) S.aS).getD a 0=_;rw[Am u _ _ _ (λn hn=>[h.wf.e]▸h.cb v n hn)];by_cases i:a<S.made
  ·have:=h.ca v F N a;by_cases e:S.ax a=v
   ·cbv
   ·rw[agF (λq=>e (this.mp q).2),agF e];rfl
  ·let P:S.ax a=0:=by unfold RS.ax;rw[agq,agY (by rw[h.wf.e];omega)];rfl
   rw[agF (λq=>i (h.cb v a q)),agF ∅];rfl
 let k:∀e,(cV v (S.joined c z u v) d (S.way v)).1.ck e=if e=u then S.ck u++S.ck v else S.ck e:=λe=>by
  rw[rest.2];show (S.called.set u (S.ck u++S.ck v)).getD e []=_;rw[agq];by_cases q:e=u
  ·subst q;rw[ag9 ([h.wf.c]▸Q),agI rfl];rfl
  ·rw[ahI (ahC q),agF q];unfold RS.ck;cbv
 let f:(cV v (S.joined c z u v) d (S.way v)).1.made=S.made:=by rw[rest.2];rfl
 let M:(cV v (S.joined c z u v) d (S.way v)).1.Wf:=by
  erw[[rest.1,f]▸h.wf.w,55]
  ·rw[rest.2];rwa[h.wf.g]
  ·rw[rest.2];show ⇑((S.ck v).foldl (λD n=>D.set n u) S.aS)=S.made;rw[yu];rwa[h.wf.e]
  ·rw[rest.2];show ⇑(S.called.set u (S.ck u++S.ck v))=S.made;rw[agK];rwa[h.wf.c]
 generalize (cV v (S.joined c z u v) d (S.way v)).2=P2 at o ⊢;generalize (cV v (S.joined c z u v) d (S.way v)).1=g at rest QG G heq k f M ⊢;rwa[⟨5,heq,o⟩]
 let bo:∀a s b,g.by a s=some b↔S.by a s=some b/\a≠v/\b≠v:=λa s b=>by
  cbv
 let nv2:∀a,g.ax (S.ax a)=g.ax a:=λa=>by
  rw[heq,heq];by_cases i:a<S.made
  ·rw[(h.el a i).2]
  ·let P:∀a,¬a<S.made->S.ax a=0:=λa i=>by unfold RS.ax;rw[agq,agY (by rw[h.wf.e];omega)];rfl
   rw[P a i];have:S.ax 0=0:=by have:=(h.el 0 ∅).1;ext
   rw[this]
 let l:∀{a b},S.ax a=S.ax b->g.ax a=g.ax b:=λ{a b} e=>by cbv
 let C:∀a s b,g.by a s=some b->g.by b (-s)=some a:=λa s b e=>by
  rw[bo]at e ⊢;rwa[h.sy _ _ _ e.1,e.2.2,e.2.1]
 let std:∀{a},S.ax a=a->g.ax a=if a=v then u else a:=λ{a} e=>by rw[heq,e]
 let kept:∀p s q,S.by p s=some q->yt g P2 (g.ax p) s (g.ax q):=λp s q e=>by
  let⟨lp,lq,ep,eq⟩:=h.st _ _ _ e;by_cases h1:p=v
  ·rwa[.inr ⟨(v,s,q),5,.inl ⟨by rw[h1],22⟩⟩];rw[o];rw[h1]at e;rwa[agr _ (ahc.mpr ⟨(s,q),qW e,2⟩)]
  ·by_cases h2:q=v
   ·rwa[.inr ⟨(v,-s,p),5,.inr ⟨by rw[h2],22⟩⟩];rw[o];let e':=h.sy _ _ _ e;rw[h2]at e';rwa[agr _ (ahc.mpr ⟨(-s,p),qW e',2⟩)]
   ·rwa[.inl ?_]
    cbv
 let eu2:g.ax u=u:=by rw[std T,agF ∅]
 let V:g.ax v=u:=by rw[std N,agI rfl]
 let exy:g.ax x=g.ax y:=by
  let t:g.ax x=u:=by cbv
  let m:g.ax y=u:=by cbv
  rw[t,m]
 let imq:∀{a b s},Im S R (S.ax a) s (S.ax b)->Im g R (g.ax a) s (g.ax b):=λ{a b s} ζ=>by let⟨a',b',r,e1,e2⟩:=ζ;rwa[⟨a',b',r,l e1,l e2⟩]
 rwa[⟨M,λa i=>?_,λe he ee a=>?_,λe a i=>?_,λe=>?_,G,λa s b e=>?_,C,λw hw=>?_,λa s b r=>?_,λa s b r=>?_,λa s b e=>?_,λw hw=>?_,λa i=>?_⟩]
 ·rw[f]at i;let⟨U,l2⟩:=h.el a i;rw[heq]
  cbv
 ·rw[f]at he ⊢;rw[k];let nev:e≠v:=λz=>by rw[z,V]at ee;ext
  by_cases q:e=u
  ·subst q;rw[agI rfl,agv,h.ca _ Q T,h.ca v F N,heq]
   cbv
  ·rw[agF q]
   let P:S.ax e=e:=by
    rw[heq]at ee;by_cases B:S.ax e=v
    ·cbv
    ·cbv
   rw[h.ca e he P,heq]
   cbv
 ·rw[f];rw[k]at i;split at i
  ·rcases agv.mp i with i|i
   ·rwa[h.cb^i]
   ·rwa[h.cb^i]
  ·rwa[h.cb^i]
 ·rw[k];split
  ·rwa[ahf.mpr ⟨h.cn _,h.cn _,λa i b hb e=>?_⟩];let t:=((h.ca _ Q T a).mp i).2;let m:=((h.ca v F N b).mp hb).2;rw[e,m]at t;ext
  ·rwa[h.cn _]
 ·rw[bo]at e;let⟨U,l2,W,X⟩:=h.st _ _ _ e.1;rwa[[f]▸U,[f]▸l2,by rw[std W,agF e.2.1],by rw[std X,agF e.2.2]]
 ·rw[f];rw[o]at hw;rcases agv.mp hw with hw|hw
  ·rwa[h.pl w (hp w hw)]
  ·let⟨q,E,rfl⟩:=ahc.mp hw;rwa[F,(h.st v q.1 q.2 (jo (h.kn v) E)).2.1]
 ·rw[f];rwa[h.rl a s b r]
 ·rcases h.cv a s b r with q|⟨w,hw,q⟩
  ·cbv
  ·by_cases hm:w∈d
   ·rwa[.inr ⟨w,by cbv,?_⟩];rcases q with ⟨t,m,B⟩|⟨t,m,B⟩
    ·rwa[.inl ⟨l t,m,l B⟩]
    ·rwa[.inr ⟨l t,m,l B⟩]
   ·let base:yt g P2 (g.ax c) z (g.ax y):=by rw[<-exy];rwa[kept _ _ _ Y]
    let one:∀{p q:Nat},S.ax p=c->S.ax q=y->g.ax p=g.ax c/\g.ax q=g.ax y:=λ{p q} e1 e2=>⟨by cbv,by cbv⟩
    rcases hcv w hw hm with ⟨f1,Z,f3⟩|⟨f1,Z,f3⟩
    ·rcases q with ⟨t,m,B⟩|⟨t,m,B⟩
     ·cbv
     ·let⟨g1,g2⟩:=one (t.symm.trans f1) (B.symm.trans f3);let D:s= -z:=by rw[<-Z,m,aid]
      rw[g1,g2,D];rwa[yt.back h C base]
    ·rcases q with ⟨t,m,B⟩|⟨t,m,B⟩
     ·let⟨g1,g2⟩:=one (B.symm.trans f3) (t.symm.trans f1);let D:s= -z:=by rw[<-m,Z]
      rw[g1,g2,D];rwa[yt.back h C base]
     cbv
 ·rw[bo]at e;let⟨U,l2,W,X⟩:=h.st _ _ _ e.1;have:=h.so _ _ _ e.1
  cbv
 ·rw[o]at hw;rcases agv.mp hw with hw|hw
  ·rwa[imq (h.sp w (hp w hw))]
  ·let⟨q,E,rfl⟩:=ahc.mp hw;let e:=jo (h.kn v) E;let⟨U,l2,W,X⟩:=h.st v q.1 q.2 e;have:=h.so _ _ _ e
   cbv
 ·rw[f]at i;rw[heq];split
  ·rename_i q;have:=h.cg a i;rw[q]at this;rwa[this.trans j]
  ·rwa[h.cg a i]
end
def RS.stand (S:RS):Nat:=(List.range S.made).countP λc=>decide (S.ax c=c)
theorem lF {p p':Nat->Bool}{v:Nat}(h:∀a,p' a=(p a && decide (a≠v)))(b:p v=true):∀n,(List.range n).countP p'+ (if v<n then 1 else 0)=(List.range n).countP p
 |0=>rfl
 |n+ 1=>by
  let c:=lF h b n;rw[ahD,List.countP_append,List.countP_append,<-c];rw[List.countP_singleton,List.countP_singleton,h n];by_cases e:n=v
  ·subst e;rw[b,agF (ahz n),agI (ahE n)];simp
  ·have:decide (n≠v)=true:=agW e;rw[this,Bool.and_true];let d:(v<n+ 1)=(v<n):=propext ⟨λ_=>∅,λ_=>∅⟩;simp only[d];ext
def mu (k:Nat)(S:RS)(pend:Ze):Nat:=S.stand* (k+ 1)+ ⇑pend
section
variable {S:RS}{pend:Ze}{R:Za2}{w:Way}{ks:Zg}
def Good.GX (h:Good S pend R)(e:∀c z d,R c z d->z∈ks)(c:Nat):⇑(S.way c)<=⇑ks:=by
 have:=qX ks ((S.way c).map (·.1)) (h.kn c) (λx g=>by
  let⟨q,f,rfl⟩:=ahc.mp g;let⟨a,b,r,_⟩:=h.so c q.1 q.2 (jo (h.kn c) f);rwa[e _ _ _ r])
 rw[agm]at this;rwa[this]
def Good.QH (h:Good S pend R)(c:Nat):⇑(S.ck c)<=S.made:=lE _ _ (h.cn c) λx a=>h.cb c x a
theorem Good.take (h:Good S (pend++[w]) R)(L:∀c z d,R c z d->z∈ks):Good (S.takeIn pend w).1 (S.takeIn pend w).2 R/\mu ⇑ks (S.takeIn pend w).1 (S.takeIn pend w).2<mu ⇑ks S (pend++[w])/\(S.takeIn pend w).1.made=S.made/\(S.takeIn pend w).1.L=S.L/\
 ((S.takeIn pend w).1.stand=S.stand/\(S.takeIn pend w).1.rows=S.rows/\(S.takeIn pend w).1.aZ=S.aZ\/(S.takeIn pend w).1.stand+ 1=S.stand/\∃c z x y,S.by c z=some x/\Im S R c z y/\y<S.made/\S.ax y=y/\x≠y/\(S.takeIn pend w).1.rows=S.rows++[fq c z (min x y) (max x y)]/\(S.takeIn pend w).1.aZ=S.aZ++[max x y]/\∀a,(S.takeIn pend w).1.ax a=if S.ax a=max x y then min x y else S.ax a):=by
 let hw:=h.pl w (agr _ agA);let k:=h.sp w (agr _ agA);let hc:=h.lt hw.1;let hd:=h.lt hw.2;let l:=(h.el _ hw.1).2;let ed:=(h.el _ hw.2).2;let F:∀x∈pend,x∈pend++[w]:=λx i=>agJ _ i
 let last:∀x∈pend++[w],x∉pend->x=w:=λx i nx=>by
  cbv
 let met:∀{c x y:Nat} {z:Int},S.by c z=some x->y<S.made->S.ax y=y->x≠y->Im S R c z y->((S.ax w.1=c/\w.2.1=z/\S.ax w.2.2=y)\/(S.ax w.1=y/\w.2.1= -z/\S.ax w.2.2=c))->
  Good (S.meet c z x y pend).1 (S.meet c z x y pend).2 R/\mu ⇑ks (S.meet c z x y pend).1 (S.meet c z x y pend).2<mu ⇑ks S (pend++[w])/\(S.meet c z x y pend).1.made=S.made/\(S.meet c z x y pend).1.L=S.L/\(S.meet c z x y pend).1.stand+ 1=S.stand/\(S.meet c z x y pend).1.rows=S.rows++[fq c z (min x y) (max x y)]/\(S.meet c z x y pend).1.aZ=S.aZ++[max x y]/\∀a,(S.meet c z x y pend).1.ax a=if S.ax a=max x y then min x y else S.ax a:=by
  intro c x y z i O D s P B;let⟨g,G,M⟩:=h.meet i O D s P F (λx i nx=>[last x i nx]▸B);let⟨hc,U,l,ex⟩:=h.st _ _ _ i;let rest:=(gG (max x y) (S.joined c z (min x y) (max x y)) pend ((S.joined c z (min x y) (max x y)).way (max x y))).2
  let J:(S.meet c z x y pend).1.made=S.made:=by
   show (cV (max x y) (S.joined c z (min x y) (max x y)) pend ((S.joined c z (min x y) (max x y)).way (max x y))).1.made=_;rw[rest];rfl
  let N:(S.meet c z x y pend).1.L=S.L:=by
   show (cV (max x y) (S.joined c z (min x y) (max x y)) pend ((S.joined c z (min x y) (max x y)).way (max x y))).1.L=_;rw[rest];rfl
  let Q:(S.meet c z x y pend).1.rows=S.rows++[fq c z (min x y) (max x y)]:=by
   show (cV (max x y) (S.joined c z (min x y) (max x y)) pend ((S.joined c z (min x y) (max x y)).way (max x y))).1.rows=_;rw[rest];rfl
  let T:(S.meet c z x y pend).1.aZ=S.aZ++[max x y]:=by
   show (cV (max x y) (S.joined c z (min x y) (max x y)) pend ((S.joined c z (min x y) (max x y)).way (max x y))).1.aZ=_;rw[rest];rfl
  let E:S.ax (max x y)=max x y:=by rcases ajc x y with q|q;rw[ajT ∅];rwa[D];rw[ajD ∅];rwa[ex]
  let I:(S.meet c z x y pend).1.stand+ 1=S.stand:=by
   unfold RS.stand;rw[J]
   have:=lF (p:=λc=>decide (S.ax c=c)) (p':=λa=>decide ((S.meet c z x y pend).1.ax a=a)) (v:=max x y) (λa=>by
    rw[G,ahK,aib,ahi,ahi,ahi];by_cases q:S.ax a=max x y
    ·rw[agI q];constructor
     ·intro e;let j:S.ax (min x y)=min x y:=by rcases ajc x y with q|q;rw[aiN ∅];rwa[ex];rw[ajm ∅];rwa[D]
      rw[e]at j;ext
     ·rintro ⟨V,j⟩;rwa[absurd (V.symm.trans q) j]
    ·rw[agF q];rwa[λe=>⟨e,λj=>q ([j]▸E)⟩,λe=>e.1]) (agW E) S.made
   rw[agI ∅]at this;rwa[this]
  let W:=h.GX L (max x y);rwa[⟨g,5,J,N,I,Q,T,G⟩];unfold mu;rw[M,<-I,agk,agk,agm,aiT,Nat.one_mul];ext
 unfold RS.takeIn;by_cases f:(S.by (S.ax w.1) w.2.1).getD (S.ax w.2.2)≠S.ax w.2.2
 ·rw[agI f]
  cases e:S.by (S.ax w.1) w.2.1 with
  |none=>rw[e]at f;rwa[absurd rfl f]
  |some x=>
   rw[e]at f;let⟨A,C,o,t,r,u,n,m⟩:=met e hd ed f k (.inl ⟨222⟩);rwa[A,C,o,t,.inr ⟨r,11,x,_,e,k,hd,ed,f,u,n,m⟩]
 ·rw[agF f];by_cases b:(S.by (S.ax w.2.2) (-w.2.1)).getD (S.ax w.1)≠S.ax w.1
  ·rw[agI b]
   cases e:S.by (S.ax w.2.2) (-w.2.1) with
   |none=>rw[e]at b;rwa[absurd rfl b]
   |some x=>
    rw[e]at b;let H:=Im.back h k;let⟨A,C,o,t,r,u,n,m⟩:=met e hc l b H (.inr ⟨2,(aid _).symm,2⟩);rwa[A,C,o,t,.inr ⟨r,11,x,_,e,H,hc,l,b,u,n,m⟩]
  ·rw[agF b]
   let k1:S.by (S.ax w.1) w.2.1=none\/S.by (S.ax w.1) w.2.1=some (S.ax w.2.2):=by
    cases e:S.by (S.ax w.1) w.2.1 with
    |none=>exact .inl rfl
    |some x=>rw[e]at f;rwa[.inr (ahF some (ajg.mp f))]
   let k2:S.by (S.ax w.2.2) (-w.2.1)=none\/S.by (S.ax w.2.2) (-w.2.1)=some (S.ax w.1):=by
    cases e:S.by (S.ax w.2.2) (-w.2.1) with
    |none=>exact .inl rfl
    |some x=>rw[e]at b;rwa[.inr (ahF some (ajg.mp b))]
   rwa[⟨h.keep hc hd l ed k k1 k2 F (λx i nx=>[last x i nx]▸⟨222⟩),522,.inl ⟨222⟩⟩];show S.stand* _+ ⇑pend<S.stand* _+ ⇑(pend++[w]);rw[agk];have:⇑([w]:Ze)=1:=rfl;ext
def Good.fin (h:Good S [] R){a b:Nat}(i:a<S.made)(k:b<S.made):S.ax a=S.ax b↔Cg R a b:=by
 let det:∀{a d b g:Nat} {z:Int},R a z b->R d z g->S.ax a=S.ax d->S.ax b=S.ax g:=λ{a d b g z} r1 r2 e=>by
  rcases h.cv _ _ _ r1 with p|⟨w,m,_⟩
  ·rcases h.cv _ _ _ r2 with q|⟨w,m,_⟩
   ·cbv
   cbv
  cbv
 constructor
 ·intro e;let j:=h.cg a i;let n:=h.cg b k;rw[e]at j;rwa[j.trans n.symm]
 ·intro c;clear i k
  induction c with
  |refl=>rfl
  |symm _ f=>exact f.symm
  |trans _ _ l o=>exact l.trans o
  |step r1 r2 _ f=>exact det r1 r2 f
def Good.qY (h:Good S [] R){c d:Nat}{z:Int}:S.by c z=some d↔Im S R c z d:=by
 constructor
 ·rwa[h.so c z d]
 ·rintro ⟨b,e,r,rfl,rfl⟩;rcases h.cv _ _ _ r with q|⟨w,a,_⟩
  ·rwa[q]
  cbv
end
noncomputable def fL (R:Za2)(c:Nat)(z:Int)(d:Nat):Za2:=λa s b=>R a s b\/(a=c/\s=z/\b=d)\/(a=d/\s= -z/\b=c)
def i9:∀a s b,R a s b->fL R n z m a s b:=λ_ _ _ r=>.inl r
def pE:fL R n z m n z m:=.inr (.inl ⟨222⟩)
theorem uq (L:Nat)(g:Zg):Good (RS.new L g) [] (λ_ _ _=>False) where
 wf:=⟨2222⟩
 el:=λc a=>by
  have:c=0:=by have:c<1:=a;ext
  subst this;rwa[agp _,2]
 ca:=λe f _ c=>by
  have:e=0:=by have:e<1:=f;ext
  subst this;show c∈[0]↔c<1/\(RS.new L g).ax c=0
  cbv
 cb:=λe c a=>by
  have:(RS.new L g).ck e=[0]\/(RS.new L g).ck e=[]:=by
   rcases e with _|e
   ·rwa[.inl rfl]
   ·rwa[.inr rfl]
  show c<1
  cbv
 cn:=λe=>by
  rcases e with _|e
  ·show [0].Nodup;simp
  ·rwa[ah6]
 kn:=λc=>by
  rcases c with _|c <;> rwa[ah6]
 st:=λc z d h=>by
  have:(RS.new L g).by c z=none:=by rcases c with _|c <;> rfl
  cbv
 sy:=λc z d h=>by
  have:(RS.new L g).by c z=none:=by rcases c with _|c <;> rfl
  cbv
 pl:=λw b=>by ext b
 rl:=λ_ _ _ h=>h.elim
 cv:=λ_ _ _ h=>h.elim
 so:=λc z d h=>by
  have:(RS.new L g).by c z=none:=by rcases c with _|c <;> rfl
  cbv
 sp:=λw b=>by ext b
 cg:=λc a=>by
  have:c=0:=by have:c<1:=a;ext
  subst this;rwa[.refl _]
section
variable {S:RS}{R:Za2}
def Good.lay (h:Good S [] R){c d:Nat}(z:Int)(hc:c<S.made)(hd:d<S.made)(rows:List Dt):Good { S with rows:=rows } [(c,z,d)] (fL R c z d) where
 wf:=⟨h.wf.w,h.wf.g,h.wf.e,h.wf.c⟩
 el:=h.el
 ca:=h.ca
 cb:=h.cb
 cn:=h.cn
 kn:=h.kn
 st:=h.st
 sy:=h.sy
 pl:=λw f=>by rw[ago.mp f];rwa[hc,hd]
 rl:=by
  rintro a s b (r|⟨rfl,rfl,rfl⟩|⟨rfl,rfl,rfl⟩)
  ·let⟨i,o,j⟩:=h.rl _ _ _ r;rwa[i,o,.inl j]
  ·rwa[hc,hd,.inr (.inr ⟨222⟩)]
  ·rwa[hd,hc,.inr (.inl ⟨2,aid _,2⟩)]
 cv:=by
  rintro a s b (r|⟨rfl,rfl,rfl⟩|⟨rfl,rfl,rfl⟩)
  ·rcases h.cv _ _ _ r with q|⟨w,f,_⟩
   ·rwa[.inl q]
   ·ext f
  ·rwa[.inr ⟨_,agA,.inl ⟨rfl,rfl,rfl⟩⟩]
  ·rwa[.inr ⟨_,agA,.inr ⟨rfl,(aid _).symm,rfl⟩⟩]
 so:=λa s b e=>by
  let⟨g,l,r,m,k⟩:=h.so a s b e;rwa[g,l,.inl r,m,k]
 sp:=λw f=>by
  rw[ago.mp f];rwa[c,d,pE,22]
 cg:=λa n=>(h.cg a n).mono i9
def fz (hw:S.Wf)(c:Nat)(z:Int)(g:Zg)(a:Nat):(S.grown c z g).ax a=if a=S.made then S.made else S.ax a:=by
 unfold RS.ax;show (S.aS++[S.made]).getD a 0=_;rw[agq];by_cases e:a=S.made
 ·rw[agI e,e,agt ([hw.e]▸agp _),hw.e,ah9];rfl
 ·rw[agF e,agq];by_cases q:a<S.made
  ·rw[ags ([hw.e]▸q)]
  ·rw[agY (by rw[agk,hw.e];show S.made+ 1<=a;omega),agY (by rw[hw.e];omega)]
def qZ (hw:S.Wf)(c:Nat)(z:Int)(g:Zg)(a:Nat):(S.grown c z g).ck a=if a=S.made then [S.made] else S.ck a:=by
 unfold RS.ck;show (S.called++[[S.made]]).getD a []=_;rw[agq];by_cases e:a=S.made
 ·rw[agI e,e,agt ([hw.c]▸agp _),hw.c,ah9];rfl
 ·rw[agF e,agq];by_cases q:a<S.made
  ·rw[ags ([hw.c]▸q)]
  ·rw[agY (by rw[agk,hw.c];show S.made+ 1<=a;omega),agY (by rw[hw.c];omega)]
def mZ (d:S.Wf)(c:Nat)(z:Int)(g:Zg)(a:Nat):(S.grown c z g).way a=S.way a:=by
 unfold RS.way;show (S.ways++[[]]).getD a []=_;rw[agq,agq];by_cases q:a<⇑S.ways
 ·rw[ags q]
 ·rw[agt ∅,agY (l:=S.ways) ∅];by_cases b:a - ⇑S.ways=0
  ·rw[b];rfl
  ·cbv
def Good.make (h:Good S [] R){c:Nat}{z:Int}(hc:c<S.made)(x:S.ax c=c)(C:S.by c z=none)(g:Zg):Good (S.make c z g) [] (fL R c z S.made):=by
 let hw:=h.wf;let d:∀a,a<S.made->(S.grown c z g).ax a=S.ax a:=λa m=>by rw[fz hw,agF ∅]
 let f:(S.grown c z g).ax S.made=S.made:=by rw[fz hw,agI rfl]
 let j:∀a s,(S.grown c z g).by a s=S.by a s:=λa s=>by unfold RS.by;rw[mZ hw]
 let G:Good (S.grown c z g) [(c,z,S.made)] (fL R c z S.made):=by
  rwa[⟨⟨5555⟩,λa m=>?_,λe D ee a=>?_,λe a m=>?_,λe=>?_,λa=>?_,λa s b e=>?_,λa s b e=>?_,λw hw=>?_,55,λa s b e=>?_,λw hw=>?_,λa m=>?_⟩]
  ·show ⇑(S.ways++[[]])=S.made+ 1;rw[agk,hw.w];rfl
  ·show ⇑(S.gaps++[_])=S.made+ 1;rw[agk,hw.g];rfl
  ·show ⇑(S.aS++[_])=S.made+ 1;rw[agk,hw.e];rfl
  ·show ⇑(S.called++[_])=S.made+ 1;rw[agk,hw.c];rfl
  ·let t:a<S.made+ 1:=m;by_cases e:a=S.made
   ·rw[e,f];rwa[agp _,f]
   ·let o:a<S.made:=∅
    rw[d a o];let⟨l,k⟩:=h.el a o;rwa[l,[d _ ∅]▸k]
  ·let A:e<S.made+ 1:=D;show _↔a<S.made+ 1/\_;rw[qZ hw,fz hw];by_cases q:e=S.made
   ·subst q;rw[agI rfl,ago];constructor
    ·rintro rfl;rwa[3,by cbv]
    ·rintro ⟨l,k⟩;by_cases n:a=S.made
     ·rwa[n]
     ·rw[agF n]at k;have:=(h.el a ∅).1;ext
   ·let o:e<S.made:=∅
    rw[d e o]at ee;rw[agF q,h.ca e o ee a]
    cbv
  ·show a<S.made+ 1;rw[qZ hw]at m;split at m
   ·rw[ago.mp m];ext
   ·rwa[ahH (h.cb e a m)]
  ·rw[qZ hw];split
   ·simp
   ·rwa[h.cn e]
  ·rw[mZ hw];rwa[h.kn a]
  ·rw[j]at e;let⟨l,k,n,B⟩:=h.st a s b e;rwa[ahH l,ahH k,[d a l]▸n,[d b k]▸B]
  ·rw[j]at e ⊢;rwa[h.sy a s b e]
  ·rw[ago.mp hw];rwa[ahH hc,ahE _]
  ·rintro a s b (r|⟨rfl,rfl,rfl⟩|⟨rfl,rfl,rfl⟩)
   ·let⟨l,k,n⟩:=h.rl _ _ _ r;rwa[ahH l,ahH k,.inl n]
   ·rwa[ahH hc,ahE _,.inr (.inr ⟨222⟩)]
   ·rwa[ahE _,ahH hc,.inr (.inl ⟨2,aid _,2⟩)]
  ·rintro a s b (r|⟨rfl,rfl,rfl⟩|⟨rfl,rfl,rfl⟩)
   ·let⟨l,k,_⟩:=h.rl _ _ _ r;rcases h.cv _ _ _ r with q|⟨w,hw,_⟩
    ·rwa[.inl (by rw[d a l,d b k,j];rwa[q])]
    ·ext hw
   ·rwa[.inr ⟨_,agA,.inl ⟨rfl,rfl,rfl⟩⟩]
   ·rwa[.inr ⟨_,agA,.inr ⟨rfl,(aid _).symm,rfl⟩⟩]
  ·rw[j]at e;let⟨u,v,r,p,y⟩:=h.so a s b e;let⟨l,k,_⟩:=h.rl _ _ _ r;rwa[u,v,.inl r,[d u l]▸p,[d v k]▸y]
  ·rw[ago.mp hw];rwa[c,S.made,pE,22]
  ·let t:a<S.made+ 1:=m;by_cases e:a=S.made
   ·rw[e,f];rwa[.refl _]
   ·rw[d a ∅];rwa[(h.cg a ∅).mono i9]
 let p:(S.grown c z g).ax c=c:=by rw[d c hc];rwa[x]
 let i:=G.sp _ agA;rw[show (c,z,S.made).1=c from rfl,show (c,z,S.made).2.2=S.made from rfl,p,f]at i;rwa[G.keep (ahH hc) (ahE _) p f i (.inl ([j]▸C)) (.inl ?_) (λw hw=>by ext hw) (λw hw _=>[ago.mp hw]▸⟨p,2,f⟩)];rw[j]
 cases e:S.by S.made (-z) with
 |none=>rfl
 |some b=>have:=(h.st _ _ _ e).1;ext
end
def Ym (n:Nat)(s:Int):Za2:=λa z b=>(z=s/\b=a+ 1/\b<n)\/(z= -s/\a=b+ 1/\a<n)
inductive UQ (x:V) (y:V) (H:Hp) (Q:VK):Prop
 |mk (a b:Zs) (xs:Zb) (t:Str):x=↑a->y=↑b->H a\.tup xs->H b\.tup [.str t]->(xs=[]\/(∃n,xs=[.int n])\/∃t',xs=[.str t'])->Q (.bl (decide (xs=[V.str t]))) H->UQ x y H Q
section
variable {X:Cx}
theorem E6 {z v:Str}{scope:Scope}(g:closureFor scope X.env=pure [(f,c),(z,d),(v,a)])(J:X.env.cells.lookup f\c)(I:X.env.cells.lookup z\d)(L:X.env.cells.lookup v\a)(A:∀q∈scope.names,q.2≠.cell)(C:scope.kind=.function)
 (G:∀q∈scope.names,q.2=.local->scope.names.lookup q.1=some .local) (F:scope.names.lookup x=some .local) (e:∀q∈scope.names,q.2=.free->q.1=f\/q.1=z\/q.1=v) (b:(x≠f/\x≠z/\x≠v)/\f≠z/\f≠v/\z≠v) (E:X.N[i]?\f) (H:X.N[j]?\z) (D:X.N[n]?\v)
 (m:X.env.kindOf f=some .cell) (o:X.env.kindOf z=some .cell) (p:X.env.kindOf v=some .cell) (l:X.env.scope.kind=.function) (s:scope.names.lookup f=some .free) (u:scope.names.lookup z=some .free) (y:scope.names.lookup v=some .free):dQ X x [f,z,v] [i,j,n] scope [(f,c),(z,d),(v,a)] where
 zU:=g
 sub:=λw q h=>by
  cbv
 cell:=A
 kind:=C
 names:=G
 own:=F
 has:=λw h=>by
  let B:w=f\/w=z\/w=v:=by
   rcases h with h|h
   ·rwa[e _ (gZ h (.inl rfl) A) rfl]
   ·rwa[e _ (gZ h (.inr rfl) A) rfl]
  cbv
 nd:=by simp[b.1.1,b.1.2.1,b.1.2.2,b.2.1,b.2.2.1,b.2.2.2]
 len:=rfl
 at_:=λk w h=>by
  match k,h with
  |0,h=>
   let a:f=w:=by simpa using h
   subst a;rwa[i,2,E,.inl m,c,by simp[aip],.inl (cL l m s)]
  |1,h=>
   let a:z=w:=by simpa using h
   subst a;let r:(z==f)=false:=agE.mpr (λq=>b.2.1 q.symm);rwa[j,2,H,.inl o,d,by simp[aip,r],.inl (cL l o u)]
  |2,h=>
   let B:v=w:=by simpa using h
   subst B;let r:(v==f)=false:=agE.mpr (λq=>b.2.2.1 q.symm);let t:(v==z)=false:=agE.mpr (λq=>b.2.2.2 q.symm);rwa[n,2,D,.inl p,a,by simp[aip,r,t],.inl (cL l p y)]
  |k+ 3,h=>simp at h
end
end L2
namespace L2
def j0 {p:Prop}(h:let q:Prop:=p;q):p:=h
def ja {a z:TS}(h:let b:TS:=z;aP a b G D H):(aP a z) G D H:=h
def eQ {a b z:TS}(h:let c:TS:=z;let d:TS:=aP b c;aP a d G D H):(aP a (aP b z)) G D H:=h
def gM {a b c z:TS}(h:let f:TS:=z;let e:TS:=aP c f;let d:TS:=aP b e;aP a d G D H):(aP a (aP b (aP c z))) G D H:=h
def An {b c d a z:TS}(h:let g:TS:=z;let i:TS:=aP a g;let f:TS:=aP d i;let e:TS:=aP c f;aP b e G D H):(aP b (aP c (aP d (aP a z)))) G D H:=h
noncomputable def pF {b c d a e z:TS}(h:let g:TS:=z;let j:TS:=aP e g;let k:TS:=aP a j;let i:TS:=aP d k;let f:TS:=aP c i;aP b f G D H):(aP b (aP c (aP d (aP a (aP e z))))) G D H:=h
def pG {b c d a e f z:TS}(h:let m:TS:=z;let i:TS:=aP f m;let l:TS:=aP e i;let j:TS:=aP a l;let k:TS:=aP d j;let g:TS:=aP c k;aP b g G D H):(aP b (aP c (aP d (aP a (aP e (aP f z)))))) G D H:=h
def Ao {f g b d c e a z:TS}(h:let i:TS:=z;let o:TS:=aP a i;let l:TS:=aP e o;let k:TS:=aP c l;let n:TS:=aP d k;let j:TS:=aP b n;let m:TS:=aP g j;aP f m G D H):(aP f (aP g (aP b (aP d (aP c (aP e (aP a z))))))) G D H:=h
def JB {g i c e d f b a z:TS}(h:let q:TS:=z;let j:TS:=aP a q;let p:TS:=aP b j;let m:TS:=aP f p;let l:TS:=aP d m;let n:TS:=aP e l;let k:TS:=aP c n;let o:TS:=aP i k;aP g o G D H):(aP g (aP i (aP c (aP e (aP d (aP f (aP b (aP a z)))))))) G D H:=h
def GY {k l e g f j d c i a z:TS}(h:let b:TS:=z;let s:TS:=aP a b;let u:TS:=aP i s;let m:TS:=aP c u;let t:TS:=aP d m;let p:TS:=aP j t;let o:TS:=aP f p;let q:TS:=aP g o;let n:TS:=aP e q;let r:TS:=aP l n;aP k r G D H):(aP k (aP l (aP e (aP g (aP f (aP j (aP d (aP c (aP i (aP a z)))))))))) G D H:=h
def GZ {o p j l k n i g m a b c z:TS}(h:let f:TS:=z;let d:TS:=aP c f;let e:TS:=aP b d;let w:TS:=aP a e;let y:TS:=aP m w;let q:TS:=aP g y;let x:TS:=aP i q;let t:TS:=aP n x;let s:TS:=aP k t;let u:TS:=aP l s;let r:TS:=aP j u;let v:TS:=aP p r;aP o v G D H):(aP o (aP p (aP j (aP l (aP k (aP n (aP i (aP g (aP m (aP a (aP b (aP c z)))))))))))) G D H:=h
def Ap {z:TS}(h:let a:Ends:=G;z a D H):z G D H:=h
theorem args_is1 {b:Type}:∀{us:List b},⇑us=1->∃a,us=[a]
 |[a],_=>⟨a,2⟩
theorem args_is2 {c:Type}:∀{us:List c},⇑us=2->∃a b,us=[a,b]
 |[a,b],_=>⟨a,b,2⟩
theorem args_is3 {d:Type}:∀{us:List d},⇑us=3->∃a c b,us=[a,c,b]
 |[a,c,b],_=>⟨a,c,b,2⟩
theorem args_is4 {e:Type}:∀{us:List e},⇑us=4->∃a b d c,us=[a,b,d,c]
 |[a,b,d,c],_=>⟨a,b,d,c,2⟩
theorem args_is5 {f:Type}:∀{us:List f},⇑us=5->∃a c e d b,us=[a,c,e,d,b]
 |[a,c,e,d,b],_=>⟨a,c,e,d,b,2⟩
theorem args_is6 {g:Type}:∀{us:List g},⇑us=6->∃a c e d b f,us=[a,c,e,d,b,f]
 |[a,c,e,d,b,f],_=>⟨a,c,e,d,b,f,2⟩
structure eF (S:RS) (R:Za2) (ks:Zg):Prop where
 sub:∀c,c<S.made->(S.gap c).Sublist ks
 im:∀c,c<S.made->S.ax c=c->∀z∈ks,z∉S.gap c->∃d,Im S R c z d
 by_:∀c z d,S.by c z=some d->z∉S.gap c
section
variable {S:RS}{pend:Ze}{R:Za2}{ks:Zg}
def jq {x:Nat}(a:n<⇑S.gaps):(S.lD n z).gap x=if x=n then (S.gap n).filter (λy=>decide (y≠z)) else S.gap x:=by
 unfold RS.lD RS.setG RS.gap
 cbv
def yw:(S.lD n z).gaps.length=⇑S.gaps:=by
 rwa[agK ..]
def pH {x:Nat}(b:n<⇑S.gaps)(c:m<⇑S.gaps):y∈(S.keep n z m).gap x↔y∈S.gap x/\¬(x=n/\y=z)/\¬(x=m/\y= -z):=by
 unfold RS.keep;let a:∀x,((S.cj n z m).cj m (-z) n).gap x=S.gap x:=λx=>rfl
 rw[jq ([yw]▸c),jq (by rwa[b]),jq (by rwa[b]),a,a,a]
 cbv
def q9 {x:Nat}(d:n<⇑S.gaps)(e:m<⇑S.gaps):((S.keep n z m).gap x).Sublist (S.gap x):=by
 unfold RS.keep;let b:∀x,((S.cj n z m).cj m (-z) n).gap x=S.gap x:=λx=>rfl
 rw[jq ([yw]▸e),jq (by rwa[d]),jq (by rwa[d]),b,b,b];by_cases c:x=m
 ·subst c;rw[agI rfl];by_cases a:x=n
  ·subst a;rw[agI rfl];rwa[List.Sublist.trans aim aim]
  ·rw[agF a];rwa[aim]
 ·rw[agF c];by_cases a:x=n
  ·subst a;rw[agI rfl];rwa[aim]
  cbv
def Dz {x:Nat}(b:n<⇑S.ways)(a:m<⇑S.ways):(S.keep n z m).by x y=if x=m/\y= -z then some n else if x=n/\y=z then some m else S.by x y:=by
 show (((S.cj n z m).cj m (-z) n)).by x y=_;rw[jn (by unfold RS.cj RS.jZ;rw[agK];rwa[a]),jn b]
def eF.keep (h:eF S R ks)(g:Good S pend R){c d:Nat}{z:Int}(hc:c<S.made)(hd:d<S.made)(i:Im S R c z d):eF (S.keep c z d) R ks:=by
 let j:c<⇑S.gaps:=by rw[g.wf.g];rwa[hc]
 let b:d<⇑S.gaps:=by rw[g.wf.g];rwa[hd]
 rwa[⟨λx k=>(q9 j b).trans (h.sub x k),λx k ex y o m=>?_,λx y e l=>?_⟩]
 ·rw[pH j b]at m;by_cases f:x=c/\y=z
  ·rw[f.1,f.2];rwa[d,i]
  ·by_cases a:x=d/\y= -z
   ·rw[a.1,a.2];rwa[c,i.back g]
   ·rwa[h.im x k ex y o λq=>m ⟨q,f,a⟩]
 ·rw[Dz ([g.wf.w]▸hc) ([g.wf.w]▸hd)]at l;rw[pH j b];rintro ⟨q,n,p⟩;rw[agF p,agF n]at l;rwa[h.by_ x y e l q]
def JC {x:Nat}:(S.meet n z x m pend).1.gaps=S.gaps:=by
 have:=(gG (max x m) (S.joined n z (min x m) (max x m)) pend ((S.joined n z (min x m) (max x m)).way (max x m))).2;have:=ahF RS.gaps this;rwa[this]
theorem eF.meet (h:eF S R ks)(g:Good S pend R){c x y:Nat}{z:Int}(w:S.by c z=some x)(G:y<S.made)(H:S.ax y=y)(t:x≠y){d:Ze}
 (made:(S.meet c z x y d).1.made=S.made) (ax:∀a,(S.meet c z x y d).1.ax a=if S.ax a=max x y then min x y else S.ax a):eF (S.meet c z x y d).1 R ks:=by
 let k:∀a,(S.meet c z x y d).1.gap a=S.gap a:=λa=>by unfold RS.gap;rw[JC]
 let⟨_,A,_,ex⟩:=g.st _ _ _ w;let l:max x y<S.made:=by rcases ajR x y with q|q <;> ext
 let fi:∀a,a<S.made->(S.meet c z x y d).1.ax a=a->S.ax a=a/\a≠max x y:=λa i e=>by
  rw[ax]at e;let C:=(g.el a i).1;by_cases q:S.ax a=max x y
  ·rw[agI q]at e;ext
  ·cbv
 rwa[⟨λa i=>[k]▸h.sub a (by rw[<-made];rwa[i]),λa i D s v m=>?_,λa s b o=>?_⟩]
 ·rw[k]at m;let⟨B,F⟩:=fi a (by rw[<-made];rwa[i]) D;let⟨b,n,u,r,E,I⟩:=h.im a (by rw[<-made];rwa[i]) B s v m;rwa[_,n,u,r,by cbv,2]
 ·rw[k]
  let j:∀q∈(S.joined c z (min x y) (max x y)).way (max x y),q.2<(S.joined c z (min x y) (max x y)).ways.length:=λq p=>by
   show q.2<⇑S.ways;rw[g.wf.w];rwa[(g.st _ _ _ (jo (g.kn (max x y)) p)).2.1]
  let f:(cV (max x y) (S.joined c z (min x y) (max x y)) d ((S.joined c z (min x y) (max x y)).way (max x y))).1.by a s=some b:=o;rw[xm (by show max x y<⇑S.ways;rw[g.wf.w];rwa[l]) _ j]at f;split at f
  ·ext f
  ·rwa[h.by_ a s b f]
def yx {x:Nat}:(S.meet n z x m pend).1.made=S.made:=by
 have:=(gG (max x m) (S.joined n z (min x m) (max x m)) pend ((S.joined n z (min x m) (max x m)).way (max x m))).2;have:=ahF RS.made this;rwa[this]
def eF.take {w:Way}(hG:eF S R ks)(h:Good S (pend++[w]) R):eF (S.takeIn pend w).1 R ks:=by
 let hw:=h.pl w (agr _ agA);let d:=h.sp w (agr _ agA);let hc:=h.lt hw.1;let hd:=h.lt hw.2;let i:=(h.el _ hw.1).2;let ed:=(h.el _ hw.2).2;let g:∀x∈pend,x∈pend++[w]:=λx b=>agJ _ b
 let last:∀x∈pend++[w],x∉pend->x=w:=λx b nx=>by
  cbv
 unfold RS.takeIn;by_cases c:(S.by (S.ax w.1) w.2.1).getD (S.ax w.2.2)≠S.ax w.2.2
 ·rw[agI c]
  cases e:S.by (S.ax w.1) w.2.1 with
  |none=>cbv
  |some x=>
   rw[e]at c;let⟨_,f,_⟩:=h.meet e hd ed c d g (λx b nx=>[last x b nx]▸.inl ⟨222⟩);rwa[hG.meet h e hd ed c yx f]
 ·rw[agF c];by_cases a:(S.by (S.ax w.2.2) (-w.2.1)).getD (S.ax w.1)≠S.ax w.1
  ·rw[agI a]
   cases e:S.by (S.ax w.2.2) (-w.2.1) with
   |none=>rw[e]at a;rwa[absurd rfl a]
   |some x=>
    rw[e]at a;let⟨_,f,_⟩:=h.meet e hc i a (d.back h) g (λx b nx=>[last x b nx]▸.inr ⟨2,(aid _).symm,2⟩);rwa[hG.meet h e hc i a yx f]
  ·rw[agF a];rwa[hG.keep h hc hd d]
def eF.more {e:Za2}(h:eF S R ks)(g:∀a z b,R a z b->e a z b):eF S e ks:=⟨h.sub,λc hc i z hz m=>by
 let⟨d,j,k,r,f,l⟩:=h.im c hc i z hz m;rwa[d,j,k,g _ _ _ r,f,l],h.by_⟩
def eF.rows (h:eF S R ks)(rows:List Dt):eF { S with rows:=rows } R ks:=⟨h.sub,h.im,h.by_⟩
def NC (L:Nat)(g:Zg):eF (RS.new L g) (λ_ _ _=>False) g:=by
 rwa[⟨λc a=>?_,λc a _ z f b=>?_,λc z d e=>?_⟩]
 ·let a:c<1:=a;rw[show c=0 by ext];rwa[List.Sublist.refl _]
 ·let a:c<1:=a;rw[show c=0 by ext]at b;rwa[absurd f b]
 ·have:(RS.new L g).by c z=none:=by rcases c with _|c <;> rfl
  cbv
def eF.make (h:eF S R ks)(g:Good S [] R){c:Nat}{z:Int}(hc:c<S.made)(B:S.ax c=c)(L:S.by c z=none):eF (S.make c z ks) (fL R c z S.made) ks:=by
 let u:∀x,(S.grown c z ks).gap x=if x=S.made then ks else S.gap x:=λx=>by
  unfold RS.gap;show (S.gaps++[ks]).getD x []=_;rw[agq,agq];by_cases i:x=S.made
  ·subst i;rw[agI rfl,agt ([g.wf.g]▸agp _),g.wf.g,ah9];rfl
  ·rw[agF i];by_cases F:x<⇑S.gaps
   ·rw[ags F]
   ·have:=g.wf.g;rw[agt ∅,agY (by rw[ahu];omega),agY ∅]
 let E:∀x y,(S.grown c z ks).by x y=S.by x y:=λx y=>by unfold RS.by;rw[mZ g.wf]
 let j:c<(S.grown c z ks).gaps.length:=by show c<⇑(S.gaps++[ks]);rw[agk,g.wf.g];ext
 let l:S.made<(S.grown c z ks).gaps.length:=by show S.made<⇑(S.gaps++[ks]);rw[agk,g.wf.g,ahu];ext
 let p:c<(S.grown c z ks).ways.length:=by show c<⇑(S.ways++[[]]);rw[agk,g.wf.w];ext
 let v:S.made<(S.grown c z ks).ways.length:=by show S.made<⇑(S.ways++[[]]);rw[agk,g.wf.w,ahu];ext
 let ee:∀x,(S.make c z ks).ax x=if x=S.made then S.made else S.ax x:=λx=>fz g.wf c z ks x
 let m:∀a s b,S.by a s=some b->a≠S.made:=λa s b e q=>by have:=(g.st _ _ _ e).1;ext
 rwa[⟨λx i=>?_,λx i ex y w f=>?_,λx y e n=>?_⟩]
 ·rwa[(q9 j l).trans ?_];rw[u];by_cases q:x=S.made
  ·cbv
  ·rw[agF q];let i:x<S.made+ 1:=i;rwa[h.sub x ∅]
 ·let f:y∉((S.grown c z ks).keep c z S.made).gap x:=f;rw[pH j l,u]at f;by_cases t:x=c/\y=z
  ·erw[S.made,c,S.made,[t.2]▸pE,5]
   ·cbv
   cbv
  ·by_cases o:x=S.made/\y= -z
   ·erw[c,S.made,c,[o.2]▸.inr (.inr ⟨222⟩),5]
    ·rw[ee,agI rfl,o.1]
    ·rw[ee,agF ∅];rwa[B]
   ·by_cases q:x=S.made
    ·rw[agI q]at f;rwa[absurd ⟨w,t,o⟩ f]
    ·rw[agF q]at f;let i:x<S.made+ 1:=i;rw[ee,agF q]at ex;let⟨d,A,G,r,H,D⟩:=h.im x ∅ ex y w λk=>f ⟨k,t,o⟩
     let J:=g.rl _ _ _ r;rwa[d,A,G,.inl r,[ee,agF ∅]▸H,[ee,agF ∅]▸D]
 ·let n:((S.grown c z ks).keep c z S.made).by x y=some e:=n;rw[Dz p v,E]at n;show y∉((S.grown c z ks).keep c z S.made).gap x;rw[pH j l,u];rintro ⟨q,C,I⟩;rw[agF I,agF C]at n;rw[agF (m _ _ _ n)]at q;rwa[h.by_ x y e n q]
def eF.fin (h:eF S R ks)(g:Good S [] R)(nd:ks.Nodup){c:Nat}(hc:c<S.made)(f:S.ax c=c):S.gap c=ks.filter λz=>(S.by c z).isNone:=by
 let sl:∀{l k:Zg},l.Sublist k->k.Nodup->l=k.filter λz=>decide (z∈l):=λ{l k} s=>by
  induction s with
  |slnil=>intro _;rfl
  |cons a s b=>
   cbv
  |cons_cons a s b=>
   intro m;let j:=agX.mp m;rw[ajE (by simp)]
   congr 1
   conv=>lhs;rw[b j.2]
   rwa[ajP λz hz=>?_]
   cbv
 rw[sl (h.sub c hc) nd];rwa[ajP λz hz=>?_]
 cases e:S.by c z with
 |some d=>
  have:=h.by_ c z d e;simp[this]
 |none=>
  by_cases q:z∈S.gap c
  ·simp[q]
  ·let⟨d,i⟩:=h.im c hc f z hz q;have:=g.qY.mpr i
   cbv
end
end L2
namespace L2
open PySem PySem.Spec PyProof.Rows
structure Fly (B:Heap) (l:Zq) (x:Zs) (cls a0:Zt) (h:Heap):Prop where
 stays:B.StaysIn h
 new:B.get? x=none
 ae1:h.FunFrames B l
 tr:∃fl,h.TracedAtW B x cls a0 fl
theorem ND {tg:Expr}(d it:Zs)(o:Obj)(p:Array DictEntry)(ep:Nat)(a:List (Key×V))(B:o.data=.dict p ep):Turn P w K tg (Ah d o a) [it] it (λi h=>h.IsKeyIter it d i p.size ep) where
 mem:=by simp
 obj:=λi h st b l=>by
  let e:b=it:=by simpa using l
  subst e;let⟨o,e,c,d⟩:=st
  cbv
 keep:=λi h y st k=>st.at λo e=>k it (by simp) o e
 item:=by
  intro X hP R N hc i g s σ H E I A st G;subst hP R N;let⟨C,D⟩:=G;obtain⟨f,-,U,L,rel,o2,QI,S,q,F,u,h4,z,h6⟩:=I.aL d _ D;rw[f]at q;obtain rfl:=Za0 q;rw[B]at u;injection u with Y O
  subst Y O;let hv:=qV z rel;let m:=pairs_len z;let j:⇑a=⇑L:=KV.length rel;let Q:p.size=⇑a:=by rw[<-ah2,m,j]
  let n:p[i]?\(p[i]'∅):=Array.getElem?_eq_getElem ∅
  generalize p[i]'∅=en at n;let r:a[i]?\(a[i]'C):=agl C
  generalize a[i]'C=W at r;let⟨u0,v,rk⟩:=hv.get (i:=i) (x:=kV W.1) (by cbv);rw[agx,ai4,n]at v;obtain rfl:en.key=u0:=Za0 v;let⟨J,M,f2,f3,Z,T⟩:=A it (by simp);rwa[Dk.item st ⟨_,f,F,B⟩ n λy t sb=>?_]
  let I1:Inv X g σ H (s<*y):=I.turned (t':=s.toks) (λb o l e=>(sb.2 b l).trans e) J M f3 Z T;let⟨oi,e,c,dd⟩:=id t;rwa[12,zu (s:=(s<*y)) e c dd ⋯ ⟨kV W.1,H,I1,rk,⟨2,W,r,2⟩,t,λb l=>(A b l).1⟩]
 done:=by
  intro X hP R N hc i g s σ H E I A st G;subst hP R N;let⟨C,D⟩:=G;obtain⟨f,-,U,L,rel,o2,QI,S,q,F,u,h4,z,h6⟩:=I.aL d _ D;rw[f]at q;obtain rfl:=Za0 q;rw[B]at u;injection u with Y O
  subst Y O;let m:=pairs_len z;let j:⇑a=⇑L:=KV.length rel;let Q:p.size=⇑a:=by rw[<-ah2,m,j]
  let⟨J,M,f2,f3,Z,T⟩:=A it (by simp);rwa[Dk.fin (I.ok.hd hc) st ⟨_,f,F,B⟩ (ajI ∅) λy eb=>⟨2,I.turned (t':=s.toks) (λb o l e=>eb b o l e) J M f3 Z T⟩]
 self:=λ_ _ _ _ _ st h=>wpAny_pyIter_keyiter st h
section
variable {X:Cx}{tg:Expr}
def iDK (tl:TE):TI:=λ c H R=>tl c H λx b=>∃d a,x=↑d/\b d\.dK a/\∀o,R (Ah d o a) (upd b d (.cR o (.dK a)))
def UR {tl:TE}(y:PE X e tl):PI X tg e (iDK tl):=by
 intro c s B H R I h;rwa[a9 (y c s B H _ I h) λu s1 ζ=>?_];let⟨x,J,f,A,d,g,ex,k,q⟩:=ζ
 subst ex;ext A;obtain⟨-,j,E,rel,o,m,p,l,r,n,F,G,L⟩:=f.aL d _ k;rwa[Dk.iter j ⟨o,l,r,n⟩ ?_];let v:=(f.freeze k True.intro l).kept (h':=s1.heap.push ("dict_keyiterator">>>.fields #[↑d,.int 0 0,.int m.size 0,.int p 0])) (t':=s1.toks) λb o a=>agi _ a
 let T:=ND (P:=X.prog) (w:=X.w) (K:=X.K) (tg:=tg) d ↥s1 o m p g n;rwa[⟨111112,v,T,⟨_,agy _ rfl,22⟩,λb t=>?_,q o⟩];rw[ago.mp t];let i:=f.aL.fresh (agp ↥s1);rwa[f.pk (agp _) ([ak (λz=>by cbv)]▸i)]
end
theorem QJ {o:Obj}{kvs:List (Key×V)}{g:TG}{l:TS}(a:Nat->St->Hp->Prop)(s:a 0 D H)(u:∀i D H,i<=⇑kvs->a i D H->H d\.cR o (.dK kvs))
 (v:∀i j D H,kvs[i]?\j->a i D H->g (kV j.1) D H λ c k=>l { G with nx:=a (i+ 1),ct:=a (i+ 1),bk:=G.nx } c k) (r:∀ D H,a ⇑kvs D H->G.nx D H):
 ∃W:Nat->Nat->St->Hp->Prop,(∃m,W 0 m D H)/\∀i m D H,W i m D H->
  ((Ah d o kvs).stop i H/\G.nx D H)\/((Ah d o kvs).go i H/\∃N:St->Hp->Prop,(∀ b f,N b f->∃n,n<m/\W (i+ 1) n b f)/\∀x f,(Ah d o kvs).lP i H x f->g x D f λ c k=>l { G with nx:=N,ct:=N,bk:=G.nx } c k):=by
 erw[λi m D H=>m=⇑kvs - i/\i<=⇑kvs/\a i D H,⟨⇑kvs,by simp,agP _,s⟩];rintro i m D H ⟨rfl,w,p⟩;let q:=u i D H w p;by_cases h:i<⇑kvs
 ·rwa[.inr ⟨⟨h,q⟩,a (i+ 1),λ b f z=>⟨⇑kvs - (i+ 1),32,h,z⟩,λx f y=>?_⟩];let⟨rfl,j,t,rfl⟩:=y;rwa[v i j D _ t p]
 ·let e:i=⇑kvs:=∅
  subst e;rwa[.inl ⟨⟨agp _,q⟩,r D H p⟩]
inductive VG (a:Zs) (y z:V) (H:Hp) (Q:VK):Prop
 |mk (kvs:List (Key×V)) (k:Key):H a\.dK kvs->y=kV k->⇑kvs<sizeLine->(∀v,bB kvs k\v->Q v H)->(bB kvs k=none->Q z (upd H a (.dK (putK kvs k z))))->VG a y z H Q
def UT (td e tx:TE):TE:=λ b H Q=>td b H λx c=>Dq x c λa=>e b c λy d=>tx b d λz f=>VG a y z f Q
section
variable {X:Cx}{o e f:Expr}{apos cH:Pos}{td ty tx:TE}
def m2 (T:PE X o td)(t:PE X e ty)(S:PE X f tx)(m:M2 X o "setdefault" apos e f cH):PE X (.Call (.Attribute o "setdefault" apos) [e,f] [] cH) (UT td ty tx):=by
 intro c s p H Q I h;rwa[aiG m.base m.few m.line ahG aih PySem.F.type_dict_setdefault (a9 (T c s p H _ I h) λu Z ζ=>?_)];let⟨x,V,A,rx,a,ex,d,N⟩:=ζ;subst ex;obtain rfl:u=Value.ref a:=rx;let⟨U,F,_⟩:=lW A d;erw[U,F];rw[m.trees]
 rwa[ahq rfl (ahW (ahg (a9 (t c Z p V _ A N) λiv M ζ=>?_)))];let⟨y,H2,P,ry,q2⟩:=ζ;rwa[ ahg (a9 (S c M p H2 _ P q2) λfv s3 ζ=>?_)];let⟨z,J,n,C,g,k,E,ey,G,O,W⟩:=ζ;rwa[ahR ?_]
 subst ey;let⟨R,w,B,rel,D⟩:=sI n.aL E;let b:=rel.val k;let j:⇑B<=sizeLine:=by rw[<-⇑rel];rwa[R]
 rwa[aiQ aih D.typeIs PySem.F.entry_dict_setdefault (PySem.F.args_dict_setdefault_3^_) (kt_meets_setdefault (bQ X.prog X.w) a (jG ry) w fv) ⟨B,D,j,λv hv=>?_,λhn g1 i sb=>?_⟩]
 ·rw[hv]at b
  cases l:bB g k with
  |none=>rw[l]at b;rwa[b.elim]
  |some r=>
   rw[l]at b;rwa[r,J,n.tok _,b,O r l]
 ·rw[hn]at b
  cases l:bB g k with
  |some r=>rw[l]at b;rwa[b.elim]
  |none=>
   let Y:⇑(putK g k z)<=sizeLine:=by have:=g6 g k z;ext
   let t:∃q,g1.get? a\q:=let ⟨q,_,_,L,_⟩:=i;⟨q,L⟩
   rwa[z,_,jY n ([E]▸True.intro) sb t (qO Y w (rel.put k C) i),C,W l]
end
namespace Di
section
variable {prog:Program}{w:World}{A:Around}{E:Zt->Zu->Prop}{s:Zu}{d:Zs}{es:Array DictEntry}{ep:Nat}
def meets (d:Zs)(a:(d==sysModules)=false):MeetsIn prog w (Builtin.«dict.items» ⟨[↑d],[]⟩) (λ_ R s=>(∃es ep,dZ s.heap d es ep)/\R (.ok (.ret ↑↥s)) { s with heap:=s.heap.push ("dict_items">>>.fields #[↑d]) }):=
 .of_wp λA R s ζ=>by
  let⟨⟨es,ep,b⟩,h⟩:=ζ
  rwa[agg ?_];rwa[agg (aja (Dk.typ b) ?_)];rwa[agn ?_];unfold Builtin.Dict.showsAll;rw[agF (by rw[a];decide)];rwa[agg (agn (agg (ahd (agn ⟨12,h⟩))))]
theorem iter (c:s.heap.IsItemsView a d)(h:dZ s.heap d es ep)
 (j:Q ↑↥s { s with heap:=s.heap.push ("dict_itemiterator">>>.fields #[.none,.bool false,↑d,.int 0 0,.int es.size 0,.int ep 0,.none,.none]) }):(prog<|>w) A (pyIter ↑a) Q E s:=by
 let⟨k,f,i,e⟩:=id c;let⟨o,g,l,b⟩:=id h;rwa[wpAny_pyIter_slot c.typeIs F.slot_dict_items_iter (ahr F.slot_dict_items_iter c.typeIs F.entry_dict_items_iter ?_ (F.args_dict_items_iter_1 _))];rwa[agg (agn (agg ?_))];rwa[agg (ahp f e (x:=↑d) rfl (agn (agg ?_)))];rwa[agg (aik g b (agg (ajb g b ?_)))];let own:Builtin.Dict_items.ownsTuple "dict_itemiterator"=true:=⋯
 simp only[own,ajM];rwa[ahd (agn ⟨12,"dict_itemiterator",_,⟨_,agy _ rfl,2⟩,ahN.lookup,5⟩) (by simp only[sizeOk,Builtin.Dict_items.ownedTupleFields,agD,agk,agL,ahU,sizeLine_eq];omega)];simpa [rawInt,Builtin.Dict_items.ownedTupleFields] using j
theorem item {it:Zs}{en:DictEntry}{ok:Zt}{Q:Zl->Zu->Prop}(hit:IsItemIter s.heap it d i es.size ep ok v)(I:dZ s.heap d es ep)(H:es[i]?\en)
 (D:∀g,IsItemIterOut g it d (i+ 1) es.size ep en.key en.val ↥s->g.get? ↥s\("tuple">>>.seq #[en.key,en.val])->
  (∀b o,b≠it->s.heap.get? b\o->g.get? b\o)->Q (some ↑↥s) (s<*g)):(prog<|>w) A (pyNext ↑it) Q E s:=by
 let⟨f,q,p,n,os⟩:=s;let⟨R,m,M,h⟩:=id I;let c:Shared.TypeIs ⟨f,q,p,n,os⟩ ↑it "dict_itemiterator":=⟨_,hit,2⟩;rwa[agg (ajA (aho (name:=Str.ofString "__next__") c ahN (ahr ahN c F.entry_dict_itemiterator_next ?_ (F.args_dict_itemiterator_next_1 _))))];rwa[agg (agn (agg (agg ?_)))]
 first|(rwa[agg (aia c (agn ?_))];skip)|(rwa[agg (aiy c (agn ?_))];skip)
 rwa[agg (wpAny_fieldsOf hit rfl ?_)];let own:Builtin.Dict_items.ownsTuple "dict_itemiterator"=true:=⋯
 show wpAny _ _ (if (Value.ref d==Value.none)=true then _ else _) _ _ _;rw[agF (show ¬((Value.ref d==Value.none)=true) by cbv)];rwa[agg (agn (agg (aik m h ?_)))];rw[agF (by simp)];rwa[agg (agn (agg (ajb m h ?_)))];rw[agF (by simp)];rwa[agn ?_];simp only[show ¬((i:Int)<0) by ext,ajf,agT,H];rwa[agg ?_]
 first|(rwa[agg (aia c (agn ?_))];skip)|(rwa[agg (aiy c (agn ?_))];skip)
 rwa[agg (wpAny_isOneOf_itemiter c ?_)];show wpAny _ _ (setField ↑it 3 (rawInt ((i:Int)+ 1)) >>=_) _ _ ⟨f,q,p,n,os⟩
 rwa[agg (ahB hit (by simp) λg1 u s1=>?_)];let j:Shared.TypeIs ⟨g1,q,p,n,os⟩ ↑it "dict_itemiterator":=⟨_,u,2⟩;rwa[agg (ahn (agg (wpAny_isOneOf_itemiter j (agg (wpAny_isOneOf_itemiter j ?_)))))];rwa[agg (wpAny_newTuple ?_)];let k:IsItemIter (g1.push ("tuple">>>.seq #[en.key,en.val])) it d (i+ 1) es.size ep ok v:=agi _ u;generalize l:g1.push ("tuple">>>.seq #[en.key,en.val])=g2 at k;let z1:g1.objs.size=f.objs.size:=s1.1;let y:it<f.objs.size:=agC hit;let z:g2.get? f.objs.size\("tuple">>>.seq #[en.key,en.val]):=by rw[<-l,<-z1];rwa[agy _ rfl]
 let J:∀b o,b≠it->f.get? b\o->g2.get? b\o:=λb o a e=>by rw[<-l];rwa[agi _ (s1.extBut b o a e)]
 show wpAny _ _ (Builtin.Dict_items.ownedTupleIsFree ↑it >>=_) _ _ ⟨g2,q,p,n,os⟩;rw[z1];rwa[agg ?_];rwa[agg (ahp k rfl (x:=.none) rfl (agn ?_))];rwa[agg (ahp k rfl (x:=ok) rfl (agg (ahp k rfl (x:=v) rfl ?_)))];rwa[agg (ahB k (by simp) λS L s3=>?_)];rwa[agg (ahB L (by simp) λO N s4=>?_)];rwa[agg (ahB N (by simp) λP B s5=>?_)];rwa[agg (ahB B (by simp) λr G C=>?_)];let t:∀b o,b≠it->g2.get? b\o->r.get? b\o:=λb o a e=>C.extBut b o a (s5.extBut b o a (s4.extBut b o a (s3.extBut b o a e)))
 rwa[agg (ajO (agn (agn ⟨12,agn (D r G (t _ _ (ahw y) z) λb o a e=>t b o a (J b o a e))⟩)))]
theorem fin {it:Zs}{ok:Zt}{Q:Zl->Zu->Prop}(j:A.handled=none)(hit:IsItemIter s.heap it d i es.size ep ok v)(h:dZ s.heap d es ep)(n:es[i]?=none)
 (l:∀g,Heap.ExtBut it s.heap g->Q none (s<*g)):(prog<|>w) A (pyNext ↑it) Q E s:=by
 let⟨o,f,k,e⟩:=id h;let c:s.TypeIs ↑it "dict_itemiterator":=⟨_,hit,2⟩;rwa[agg (ajA (aho (name:=Str.ofString "__next__") c ahN (ahr ahN c F.entry_dict_itemiterator_next ?_ (F.args_dict_itemiterator_next_1 _))))];rwa[agg (agn (agg (agg ?_)))]
 first|(rwa[agg (aia c (agn ?_))];skip)|(rwa[agg (aiy c (agn ?_))];skip)
 rwa[agg (wpAny_fieldsOf hit rfl ?_)];let own:Builtin.Dict_items.ownsTuple "dict_itemiterator"=true:=⋯
 show wpAny _ _ (if (Value.ref d==Value.none)=true then _ else _) _ _ s;rw[agF (show ¬((Value.ref d==Value.none)=true) by cbv)];rwa[agg (agn (agg (aik f e ?_)))];rw[agF (by simp)];rwa[agg (agn (agg (ajb f e ?_)))];rw[agF (by simp)];rwa[agn ?_];simp only[show ¬((i:Int)<0) by ext,ajf,agT,n];rwa[agg ?_]
 first|(rwa[agg (aia c (agn ?_))];skip)|(rwa[agg (aiy c (agn ?_))];skip)
 show wpAny _ _ (setField ↑it 2 .none >>=_) _ _ s;rwa[agg (aiw hit rfl (by simp) ?_)];rwa[agg ?_];rwa[agg (m:=firstArgMember _ _) (wpAny_of_eq (a:=Value.none) (by first|rfl|(simp only[firstArgMember];rfl)) ?_)];rwa[ahd ?_ (by size_fits)];rwa[agg (wpAny_handled ?_)];rw[show A.in1.handled=none from j];rwa[agg (agn (wpAny_throw ?_))];rwa[agg (wpAny_isInstance (T:="StopIteration") (b:=true) ⟨_,agy _ rfl,2⟩ isSubtype_stop ?_)];rwa[agn (l _ (((ahQ ..).extBut.push _).push _))]
end
end Di
theorem yy {c b:Type}{R:c->b->Prop}:∀{e:List c} {ys:List b},Paired R e ys->∀{i:Nat} {x:c} {y:b},e[i]?\x->ys[i]?\y->R x y
 |[],_,h,i,x,y,a,_=>by simp at a
 |k::f,_,h,i,x,y,a,d=>by
  cases h with
  |cons g j=>
   cases i with
   |zero=>rw[<-Za0 a,<-Za0 d];rwa[g]
   |succ i=>exact yy j a d
def Aq (d:Zs)(o:Obj)(a:List (Zd×V)):It:=
 ⟨λi H=>i<⇑a/\H d\.cR o (.dT a),λi H x c=>∃p kp b,a[i]?\b/\H p=none/\H kp\.tup (b.1.map kV)/\x=↑p/\c=upd H p (.tup [↑kp,b.2]),λi H=>⇑a<=i/\H d\.cR o (.dT a)⟩
theorem NF {elts:Zr}{x1:Nat}{tp:Pos}(d it:Zs)(o:Obj)(C:Array DictEntry)(ep:Nat)(c:List (Zd×V))(B:o.data=.dict C ep):
 Turn P w K (.Tuple elts x1 tp) (Aq d o c) [it] it (λi h=>∃ok p,IsItemIter h it d i C.size ep ok p) where
 mem:=by simp
 obj:=λi h st b m=>by
  cbv
 keep:=λi h h' ζ k=>by let⟨ok,p,e⟩:=ζ;rwa[⟨ok,p,k it (by simp) _ e⟩]
 item:=by
  intro X hP hw hK hc i r s σ H E I x st M;let⟨ok,p,hit⟩:=st;let⟨D,F⟩:=M;obtain⟨f,-,hsm,ys,v,o2,QI,Y,j,L,t,S,h5⟩:=I.aL d _ F;rw[f]at j;obtain rfl:=Za0 j;rw[B]at t;injection t with e1 T
  subst e1 T;let R:⇑c=⇑ys:=Paired.length v;let Z:ys[i]?\(ys[i]'∅):=agl ∅
  generalize ys[i]'∅=y at Z;let U:C[i]?\(entryOfKey (tupleKind (bQ X.prog X.w)) y):=by rw[entry_at S,Z];rfl
  let l:c[i]?\(c[i]'D):=agl D
  generalize c[i]'D=u at l;let hk:u.1=y.1/\H y.2.1\.tup (u.1.map kV)/\RelV u.2 y.2.2:=yy v l Z;let il:it<↥s:=agC hit;rwa[Di.item hit ⟨_,f,L,B⟩ U λg ho' hT O=>⟨12,wpAny_letOwnedTupleGo_items ho' λg2 W sb=>?_⟩]
  let N:g2.get? ↥s\("tuple">>>.seq #[↑y.2.1,y.2.2]):=(sb.2 _ (ahw il)).trans hT
  let G:∀b n,b∉[it]->s.heap.get? b\n->g2.get? b\n:=λb n m q=>by
   let j:b≠it:=λz=>m (by simp[z])
   rwa[(sb.2 b j).trans (O b n j q)]
  let J:=I.aL.fresh (agp ↥s);rwa[⟨↑↥s,_,I.um (fp:=[it]) (a:=↥s) (o:=.tup [↑y.2.1,u.2]) (h':=g2) (t':=s.toks) G x (agp _) ?_,2,⟨_,y.2.1,u,l,J,hk.2.1,22⟩,⟨11,W⟩,λb m=>?_⟩]
  ·rwa[by show 2<=sizeLine;decide,[↑y.2.1,y.2.2],.cons rfl (.cons hk.2.2 .nil),_,N,212]
  ·rw[ago.mp m,ak (agO il)];rwa[(x it (by simp)).1]
 done:=by
  intro X hP hw hK hc i r s σ H E I x st M;let⟨ok,p,hit⟩:=st;let⟨D,F⟩:=M;obtain⟨f,-,hsm,ys,v,o2,QI,Y,j,L,t,S,h5⟩:=I.aL d _ F;rw[f]at j;obtain rfl:=Za0 j;rw[B]at t;injection t with e1 T
  subst e1 T;let R:⇑c=⇑ys:=Paired.length v;let hsz:C.size=⇑ys:=size_of_entries S;rwa[Di.fin (I.ok.hd hc) hit ⟨_,f,L,B⟩ (ajI ∅) λg eb=>⟨2,I.xj (fp:=[it]) (t':=s.toks) (λb n m q=>eb b n (λz=>m (by simp[z])) q) x⟩]
 self:=λA i s Q E ζ h=>by let⟨ok,p,hit⟩:=ζ;rwa[PySem.W.kcp_self hit h]
section
variable {X:Cx}
def iDI (tl:TE):TI:=λ c H R=>tl c H λx b=>∃d a,x=↑d/\b d\.dT a/\∀o,R (Aq d o a) (upd b d (.cR o (.dT a)))
def UU {tl:TE}{elts:Zr}{apos c:Pos}(N:PE X e tl)(f:attributeBase e "items" X.env (eval e X.env)=eval e X.env:=by rfl)(hline:(apos.endLine==c.line)=true:=by rfl):
 PI X (.Tuple elts n p) (.Call (.Attribute e "items" apos) [] [] c) (iDI tl):=by
 intro r s Q H R I h;rwa[wpAny_Call_method0_late f hline (a9 (N r s Q H _ I h) λu s1 ζ=>?_)];let⟨x,M,k,O,d,j,ex,v,q⟩:=ζ;subst ex;ext O;obtain⟨-,C,ys,V,o,m,t,A,E,D,Y,Z⟩:=k.aL d _ v;let l:dZ s1.heap d m t:=⟨o,A,E,D⟩;let B:Dm M d:=.inr ⟨j,.inl v⟩;let⟨F,G,_⟩:=lW k B;rwa[⟨"dict","dict.items",ahG,PySem.F.slot_dict_items,PySem.F.type_dict_items,F,G,ahq rfl (PySem.evalArgs_none ?_)⟩];rwa[aiQ PySem.F.slot_dict_items F PySem.F.entry_dict_items (PySem.F.args_dict_items_1 _) (Di.meets d C) ⟨⟨m,t,l⟩,5⟩];let S:(s1.heap.push ("dict_items">>>.fields #[↑d])).IsItemsView ↥s1 d:=⟨_,agy _ rfl,22⟩;let g:dZ (s1.heap.push ("dict_items">>>.fields #[↑d])) d m t:=⟨o,agi _ A,E,D⟩;rwa[Di.iter (s:={ s1 with heap:=s1.heap.push ("dict_items">>>.fields #[↑d]) }) S g ?_];let L:=(k.freeze v True.intro A).kept (h':=(s1.heap.push ("dict_items">>>.fields #[↑d])).push ("dict_itemiterator">>>.fields #[.none,.bool false,↑d,.int 0 0,.int m.size 0,.int t 0,.none,.none])) (t':=s1.toks) λb o a=>agi _ (agi _ a)
 let i:↥s1<=(s1.heap.push ("dict_items">>>.fields #[↑d])).objs.size:=by rw[ah5];ext
 let T:=NF (P:=X.prog) (w:=X.w) (K:=X.K) (elts:=elts) (x1:=n) (tp:=p) d (s1.heap.push ("dict_items">>>.fields #[↑d])).objs.size o m t j D;rwa[⟨111112,L,T,⟨11,agy _ rfl⟩,λb J=>?_,q o⟩];rw[ago.mp J];let y:=k.aL.fresh i;rwa[k.pk i ([ak (λz=>by cbv)]▸y)]
end
theorem QK {o:Obj}{kvs:List (Zd×V)}{g:TG}{l:TS}(a:Nat->St->Hp->Prop)(u:a 0 D H)(w:∀i D H,i<=⇑kvs->a i D H->H d\.cR o (.dT kvs))
 (A:∀i j D H p kp,kvs[i]?\j->H p=none->H kp\.tup (j.1.map kV)->a i D H->g ↑p D (upd H p (.tup [↑kp,j.2])) λ c k=>l { G with nx:=a (i+ 1),ct:=a (i+ 1),bk:=G.nx } c k) (r:∀ D H,a ⇑kvs D H->G.nx D H):
 ∃W:Nat->Nat->St->Hp->Prop,(∃m,W 0 m D H)/\∀i m D H,W i m D H->
  ((Aq d o kvs).stop i H/\G.nx D H)\/((Aq d o kvs).go i H/\∃N:St->Hp->Prop,(∀ b f,N b f->∃n,n<m/\W (i+ 1) n b f)/\∀x f,(Aq d o kvs).lP i H x f->g x D f λ c k=>l { G with nx:=N,ct:=N,bk:=G.nx } c k):=by
 erw[λi m D H=>m=⇑kvs - i/\i<=⇑kvs/\a i D H,⟨⇑kvs,by simp,agP _,u⟩];rintro i m D H ⟨rfl,B,p⟩;let q:=w i D H B p;by_cases h:i<⇑kvs
 ·rwa[.inr ⟨⟨h,q⟩,a (i+ 1),λ b f C=>⟨⇑kvs - (i+ 1),32,h,C⟩,λx f y=>?_⟩];let⟨t,kp,j,v,s,z,rfl,rfl⟩:=y;rwa[A i j D _ t kp v s z p]
 ·let e:i=⇑kvs:=∅
  subst e;rwa[.inl ⟨⟨agp _,q⟩,r D H p⟩]
theorem ur:∀(n:Nat) (l:Zg) (lo:Int),l.Nodup->(∀x∈l,lo<=x/\x<lo+ n)->⇑l<=n
 |0,[],_,_,_=>agp _
 |0,x::l,lo,_,h=>by have:=h x (agA ..);ext
 |n+ 1,l,lo,b,h=>by
  by_cases c:lo+ n∈l
  ·let d:=ur n (l.erase (lo+ n)) lo (b.erase _) λx a=>by
    let e:=(b.mem_erase_iff.mp a);let f:=h x e.2;ext
   rw[aiM c]at d;ext
  ·let d:=ur n l lo b λx a=>by
    let f:=h x a;let g:x≠lo+ n:=λz=>c (by rw[<-z];rwa[a])
    ext
   ext
section
variable {κ:Type} [DecidableEq κ]
def G0 (b:List (κ×V))(k j:κ):bB (eX b k) j=if j=k then none else bB b j:=by
 unfold eX
 induction b with
 |nil=>split <;> rfl
 |cons p r e=>
  by_cases c:p.1=k
  ·rw[List.filter_cons_of_neg (by simp[c]),e];by_cases a:j=k
   ·cbv
   ·rw[agF a,agF a,cM (λz=>a (z.symm.trans c))]
  ·rw[ajE (by simp[c])];by_cases a:p.1=j
   ·rw[cU a,agF (λz=>c (a.trans z)),cU a]
   ·rw[cM a,e];by_cases d:j=k
    ·cbv
    ·rw[agF d,agF d,cM a]
def Ar (a:List (κ×V))(k:κ)(v:V):(putK a k v).map (·.1)=if k∈a.map (·.1) then a.map (·.1) else a.map (·.1)++[k]:=by
 unfold putK;by_cases h:(a.any λb=>decide (b.1=k))=true
 ·let c:k∈a.map (·.1):=by
   let⟨b,e,d⟩:=List.any_eq_true.mp h;rwa[ahc.mpr ⟨b,e,agU d⟩]
  rw[agI h,agI c,ag6];rwa[ahv λb _=>?_]
  cbv
 cbv
def QL {a:List (κ×V)}(k:κ)(v:V)(h:(a.map (·.1)).Nodup):((putK a k v).map (·.1)).Nodup:=by
 rw[Ar]
 cbv
def NK {a:List (κ×V)}(k:κ)(h:(a.map (·.1)).Nodup):((eX a k).map (·.1)).Nodup:=by
 rwa[List.Nodup.sublist ((aim).map _) h]
def As {a:List (κ×V)}(h:(a.map (·.1)).Nodup){b:κ×V}(hm:b∈a):bB a b.1\b.2:=by
 induction a with
 |nil=>ext hm
 |cons p r c=>
  rw[ahA,agX]at h;rcases agB.mp hm with e|hm
  ·rw[e];rwa[cU rfl]
  ·rw[cM (λz=>h.1 ([z]▸aiS hm))];rwa[c h.2 hm]
def JD {a:List (κ×V)}{k:κ}(h:bB a k\q):(k,q)∈a:=by
 unfold bB at h
 cases e:a.find? λb=>decide (b.1=k) with
 |none=>rw[e]at h;ext h
 |some b=>
  cbv
end
def DI (H:Hp)(d:Zs)(f:Int->Zc):Prop:=∃a:List (Key×V),H d\.dK a/\(a.map (·.1)).Nodup/\(∀b∈a,∃i:Int,b.1=Sum.inl i)/\∀i:Int,bB a (Sum.inl i)=f i
def DI.at {f:Int->Zc}(h:DI H d f)(k:∀o,H d\o->I d\o):DI I d f:=by
 let⟨a,c,b⟩:=h;rwa[a,k _ c,b]
def DI.congr {f g:Int->Zc}(h:DI H d f)(e:∀i,f i=g i):DI H d g:=by
 let⟨a,j,b,k,c⟩:=h;rwa[a,j,b,k,λi=>(c i).trans (e i)]
def Au {a:List (Key×V)}{f:Int->Zc}(e:(a.map (·.1)).Nodup)(h:∀c∈a,∃i:Int,c.1=Sum.inl i)(g:∀i:Int,bB a (Sum.inl i)=f i)(i:Int)(v:V):DI (upd H d (.dK (putK a (Sum.inl i) v))) d (λj=>if j=i then some v else f j):=by
 rwa[⟨_,ah,QL^e,λc b=>?_,λj=>?_⟩]
 ·have:c.1∈(putK a (Sum.inl i) v).map (·.1):=aiS b;rw[Ar]at this
  cbv
 ·rw[pB]
  cbv
def NM {a:List (Key×V)}{f:Int->Zc}(e:(a.map (·.1)).Nodup)(g:∀c∈a,∃i:Int,c.1=Sum.inl i)(h:∀i:Int,bB a (Sum.inl i)=f i)(i:Int):DI (upd H d (.dK (eX a (Sum.inl i)))) d (λj=>if j=i then none else f j):=by
 rwa[⟨_,ah,NK _ e,λc b=>g c ((ah7.mp b).1),λj=>?_⟩];rw[G0]
 cbv
def vn {c:List (Key×V)}{f:Int->Zc}(k:(c.map (·.1)).Nodup)(m:∀d∈c,∃i:Int,d.1=Sum.inl i)(p:∀i:Int,bB c (Sum.inl i)=f i){n:Nat}{lo:Int}(o:∀i v,f i\v->lo<=i/\i<lo+ n):⇑c<=n:=by
 let h:=ur n (c.map λd=>match d.1 with|Sum.inl i=>i|Sum.inr _=>0) lo ?_ λx r=>?_
 ·rw[agm]at h;rwa[h]
 ·let e:c.map (·.1)=(c.map λd=>match d.1 with|Sum.inl i=>i|Sum.inr _=>(0:Int)).map Sum.inl:=by
   rw[ag6];rwa[ahv λd g=>?_]
   let⟨i,j⟩:=m d g;show d.1=Sum.inl (match d.1 with|Sum.inl i=>i|Sum.inr _=>(0:Int));rw[j]
  rw[e]at k;rwa[List.Pairwise.imp (λ{a b} q z=>q (ahF Sum.inl z)) (ah4.mp k)]
 ·let⟨d,g,rfl⟩:=ahc.mp r;let⟨i,j⟩:=m d g;let l:=As k g;rw[j,p]at l;rw[j];rwa[o i _ l]
abbrev bG:=Int->Int->Int->Bool
structure dM (H:Hp) (k:Zs) (D:Int->Zo) (E:Int->Int->Zo) (S:bG):Prop where
 top:DI H k λc=>(D c).map V.ref
 row:∀c d,D c\d->DI H d λs=>(E c s).map V.ref
 yz:∀c s e,E c s\e->DI H e λo=>if S c s o=true then some (.bl true) else none
 ed:∀c s e,E c s\e->∃d,D c\d
 se:∀c s o,S c s o=true->∃e,E c s\e
 nd:∀c d,D c\d->d≠k
 ne:∀c s e,E c s\e->e≠k
 dd:∀c c' d,D c\d->D c'\d->c=c'
 de:∀c c' s d,D c\d->E c' s\d->False
 ee:∀c s c' s' e,E c s\e->E c' s'\e->c=c'/\s=s'
def uv (k:Zs)(D:Int->Zo)(E:Int->Int->Zo)(b:Zs):Prop:=b=k\/(∃c,D c\b)\/∃c s,E c s\b
section
variable {H H':Hp}{k:Zs}{D:Int->Zo}{E:Int->Int->Zo}{S:bG}
def dM.keep (h:dM H k D E S)(f:∀b o,uv k D E b->H b\o->H' b\o):dM H' k D E S:=
 ⟨h.top.at λo e=>f _ _ (.inl rfl) e,λc d e=>(h.row c d e).at λo q=>f _ _ (.inr (.inl ⟨c,e⟩)) q,λc s e q=>(h.yz c s e q).at λo r=>f _ _ (.inr (.inr ⟨c,s,q⟩)) r,h.ed,h.se,h.nd,h.ne,h.dd,h.de,h.ee⟩
def dM.same (h:dM H k D E S)(s:aq H H'):dM H' k D E S:=h.keep λb o _ e=>s b o e
def dM.there (h:dM H k D E S){b:Zs}(d:uv k D E b):∃a,H b\(.dK a):=by
 rcases d with rfl|⟨c,e⟩|⟨c,s,e⟩
 ·let⟨a,q,_⟩:=h.top;rwa[a,q]
 ·let⟨a,q,_⟩:=h.row c b e;rwa[a,q]
 ·let⟨a,q,_⟩:=h.yz c s b e;rwa[a,q]
def dM.congr (h:dM H k D E S){d:Int->Zo}{b:Int->Int->Zo}{a:bG}(e:∀c,D c=d c)(g:∀c s,E c s=b c s)(f:∀c s o,S c s o=a c s o):dM H k d b a:=by
 obtain rfl:D=d:=funext e;obtain rfl:E=b:=funext λc=>funext (g c)
 obtain rfl:S=a:=funext λc=>funext λs=>funext (f c s)
 rwa[h]
def dM.QM (h:dM H k D E S):∃a:List (Key×V),H k\.dK a/\(a.map (·.1)).Nodup/\(∀b∈a,∃i:Int,b.1=Sum.inl i)/\∀i:Int,bB a (Sum.inl i)=(D i).map V.ref:=h.top
def dM.JF (h:dM H k D E S){c:Int}{d:Zs}(hd:D c\d):∃a:List (Key×V),H d\.dK a/\(a.map (·.1)).Nodup/\(∀b∈a,∃i:Int,b.1=Sum.inl i)/\∀i:Int,bB a (Sum.inl i)=(E c i).map V.ref:=h.row c d hd
def dM.QN (h:dM H k D E S){c s:Int}{e:Zs}(d:E c s\e):∃a:List (Key×V),H e\.dK a/\(a.map (·.1)).Nodup/\(∀b∈a,∃i:Int,b.1=Sum.inl i)/\∀i:Int,bB a (Sum.inl i)=if S c s i=true then some (.bl true) else none:=h.yz c s e d
theorem dM.NP (h:dM H k D E S){c s:Int}{d e:Zs}(hd:D c\d)(N:E c s=none){j:List (Key×V)}(B:H d\.dK j)(J:H e\.dK [])(nw:¬uv k D E e):
 dM (upd H d (.dK (putK j (Sum.inl s) ↑e))) k D (λb f=>if b=c/\f=s then some e else E b f) S:=by
 let x:e≠d:=λz=>nw (.inr (.inl ⟨c,[z]▸hd⟩))
 let⟨t,C,L,F,I⟩:=h.row c d hd;rw[B]at C;obtain rfl:j=t:=by cbv
 rwa[⟨h.top.at λo q=>?_,λb u i=>?_,λb f m a=>?_,λb f m a=>?_,λb f o G=>?_,h.nd,λb f m a=>?_,h.dd,λb r f u i a=>?_,λb f r w m p l=>?_⟩]
 ·rw[ak (h.nd c d hd).symm];rwa[q]
 ·by_cases g:b=c
  ·subst g;have:u=d:=by rw[hd]at i;rwa[(Za0 i).symm]
   subst this;rwa[(Au L F I s ↑e).congr λf=>?_]
   cbv
  ·let y:u≠d:=λz=>g (h.dd _ _ _ i ([z]▸hd))
   rwa[((h.row b u i).at λo q=>[ak y]▸q).congr λf=>?_]
   cbv
 ·by_cases g:b=c/\f=s
  ·rw[agI g]at a;obtain rfl:=Za0 a;let⟨rfl,rfl⟩:=g;rwa[⟨[],[ak x]▸J,by simp,(λM A=>by ext A),λo=>?_⟩]
   cases q:S b f o with
   |true=>let⟨m,z⟩:=h.se _ _ _ q;cbv
   |false=>dsimp only;rw[q];rfl
  ·rw[agF g]at a;exact(h.yz b f m a).at λo q=>by rw[ak (λz=>h.de c b f d hd (by cbv))];rwa[q]
 ·by_cases g:b=c/\f=s
  ·cbv
  ·rw[agF g]at a;rwa[h.ed _ _ _ a]
 ·by_cases g:b=c/\f=s
  ·rwa[e,agI g]
  ·let⟨m,z⟩:=h.se _ _ _ G;cbv
 ·by_cases g:b=c/\f=s
  ·rw[agI g]at a;obtain rfl:=Za0 a;rwa[λz=>nw (.inl z)]
  ·rw[agF g]at a;rwa[h.ne _ _ _ a]
 ·by_cases g:r=c/\f=s
  ·rw[agI g]at a;obtain rfl:=Za0 a;rwa[nw (.inr (.inl ⟨b,i⟩))]
  ·rw[agF g]at a;rwa[h.de _ _ _ _ i a]
 ·by_cases v:b=c/\f=s
  ·rw[agI v]at p;obtain rfl:=Za0 p;by_cases n:r=c/\w=s
   ·rwa[v.1.trans n.1.symm,v.2.trans n.2.symm]
   ·rw[agF n]at l;rwa[(nw (.inr (.inr ⟨r,w,l⟩))).elim]
  ·rw[agF v]at p;by_cases n:r=c/\w=s
   ·rw[agI n]at l;obtain rfl:=Za0 l;rwa[(nw (.inr (.inr ⟨b,f,p⟩))).elim]
   ·rw[agF n]at l;rwa[h.ee _ _ _ _ _ p l]
theorem dM.setCell (h:dM H k D E S){c s:Int}{e:Zs}(j:E c s\e){u:HO}{g:Int->Bool}(p:DI (upd H e u) e λo=>if g o=true then some (.bl true) else none):
 dM (upd H e u) k D E (λa b o=>if a=c/\b=s then g o else S a b o):=by
 rwa[⟨h.top.at λo q=>?_,λa m d=>(h.row a m d).at λo q=>?_,λa b n f=>?_,h.ed,λa b o l=>?_,h.nd,h.ne,h.dd,h.de,h.ee⟩]
 ·rw[ak (h.ne _ _ _ j).symm];rwa[q]
 ·rw[ak (λz=>h.de _ _ _ _ d ([z]▸j))];rwa[q]
 ·by_cases i:a=c/\b=s
  ·cbv
  ·refine((h.yz a b n f).at λo q=>?_).congr λo=>by rw[agF i]
   rw[ak (λz=>i (h.ee _ _ _ _ _ f ([z]▸j)))];rwa[q]
 ·by_cases i:a=c/\b=s
  ·cbv
  ·rw[agF i]at l;rwa[h.se _ _ _ l]
theorem dM.QO (h:dM H k D E S){c s:Int}{e:Zs}(j:E c s\e){a:List (Key×V)}(l:H e\.dK a)(o:Int):
 dM (upd H e (.dK (putK a (Sum.inl o) (.bl true)))) k D E (λi f b=>S i f b || (decide (i=c) && decide (f=s) && decide (b=o))):=by
 let⟨d,n,q,p,m⟩:=h.yz c s e j;rw[l]at n;obtain rfl:a=d:=by cbv
 rwa[(h.setCell (g:=λb=>S c s b || decide (b=o)) j ((Au q p m o (.bl true)).congr λb=>?_)).congr (λ_=>rfl) (λ_ _=>rfl) λi f b=>?_]
 ·cbv
 cbv
theorem dM.NQ (h:dM H k D E S){n:Int}{d:Zs}(hd:D n=none){g:List (Key×V)}(v:H k\.dK g)(A:H d\.dK [])(nw:¬uv k D E d):
 dM (upd H k (.dK (putK g (Sum.inl n) ↑d))) k (λc=>if c=n then some d else D c) E S:=by
 let⟨m,w,B,x,y⟩:=h.top;rw[v]at w;obtain rfl:g=m:=by cbv
 let t:d≠k:=λz=>nw (.inl z)
 let en:∀s,E n s=none:=λs=>by
  cases q:E n s with
  |none=>rfl
  |some e=>let⟨i,z⟩:=h.ed _ _ _ q;cbv
 rwa[⟨(Au B x y n ↑d).congr λc=>?_,λc i a=>?_,λc s e p=>(h.yz c s e p).at λo q=>?_,λc s e p=>?_,h.se,λc i a=>?_,h.ne,λc r i b f=>?_,λc r s i b f=>?_,h.ee⟩]
 ·cbv
 ·by_cases e:c=n
  ·rw[agI e]at a;obtain rfl:=Za0 a;subst e;rwa[⟨[],[ak t]▸A,by simp,(λC u=>by ext u),λs=>?_⟩];dsimp only;rw[en s];rfl
  ·rw[agF e]at a;exact(h.row c i a).at λo q=>by rw[ak (h.nd^a)];rwa[q]
 ·rw[ak (h.ne _ _ _ p)];rwa[q]
 ·let⟨i,z⟩:=h.ed _ _ _ p
  cbv
 ·by_cases e:c=n
  ·cbv
  ·rw[agF e]at a;rwa[h.nd^a]
 ·by_cases j:c=n
  ·rw[agI j]at b;obtain rfl:=Za0 b;by_cases l:r=n
   ·rw[j,l]
   ·rw[agF l]at f;rwa[(nw (.inr (.inl ⟨_,f⟩))).elim]
  ·rw[agF j]at b;by_cases l:r=n
   ·rw[agI l]at f;obtain rfl:=Za0 f;rwa[(nw (.inr (.inl ⟨_,b⟩))).elim]
   ·rw[agF l]at f;rwa[h.dd _ _ _ b f]
 ·by_cases j:c=n
  ·rw[agI j]at b;obtain rfl:=Za0 b;rwa[nw (.inr (.inr ⟨11,f⟩))]
  ·rw[agF j]at b;rwa[h.de _ _ _ _ b f]
end
namespace Et
section
variable {prog:Program}{w:World}{A:Around}{E:Zt->Zu->Prop}{s:Zu}
theorem item {it:Zs}{items:Zm}{x:Zt}(hit:s.heap.IsTupleIter it a i)(f:s.heap.IsTuple a items)(k:items[i]?\x)
 (h:∀g,g.IsTupleIter it a (i+ 1)->Heap.SameBut it s.heap g->Q x (s<*g)):(prog<|>w) A (Builtin.SmallTypes.nextOf ↑it) Q E s:=by
 let⟨o,c,j,b⟩:=id hit;let⟨m,e,_,l,d⟩:=f;rwa[agg (aho (name:=Str.ofString "__next__") hit.typeIs ain (ahr ain hit.typeIs F.entry_tuple_iterator_next ?_ (F.args_tuple_iterator_next_1 _)))];show wpAny _ _ (field ↑it 0 >>=_) _ _ s;rwa[agg (ahp c b (x:=↑a) rfl ?_)];rw[agF (show ¬((Value.ref a==Value.none)=true) by cbv)];rwa[agg (ahp c b (x:=.int i 0) rfl ?_)];rwa[agg (aiY e d ?_)];simp only[agT,k];rwa[agg (aiw c b (by simp) (agn ⟨x,2,agn (h _ ⟨_,ag2 _ c (ais (ahV b _)),(Obj.cls_mapFields ..).trans j,by rw[ahV b];simp[rawInt]⟩ (ahQ ..))⟩))]
theorem fin {it:Zs}{items:Zm}(j:A.handled=none)(hit:s.heap.IsTupleIter it a i)(k:s.heap.IsTuple a items)(n:items[i]?=none)
 (l:∀g e,Heap.ExtBut it s.heap g->(∃o,g.get? e\o/\o.cls=.type "StopIteration")->E ↑e (s<*g)):(prog<|>w) A (Builtin.SmallTypes.nextOf ↑it) Q E s:=by
 let⟨o,f,q,c⟩:=id hit;let⟨r,d,_,p,h⟩:=k;rwa[agg (aho (name:=Str.ofString "__next__") hit.typeIs ain (ahr ain hit.typeIs F.entry_tuple_iterator_next ?_ (F.args_tuple_iterator_next_1 _)))];show wpAny _ _ (field ↑it 0 >>=_) _ _ s;rwa[agg (ahp f c (x:=↑a) rfl ?_)];rw[agF (show ¬((Value.ref a==Value.none)=true) by cbv)];rwa[agg (ahp f c (x:=.int i 0) rfl ?_)];rwa[agg (aiY d h ?_)];simp only[agT,n];rwa[agg (ajN (agg (aiw f c (by simp) ?_)))];rwa[agg ?_];rwa[agg (m:=firstArgMember _ _) (wpAny_of_eq (a:=Value.none) (by first|rfl|(simp only[firstArgMember];rfl)) ?_)];rwa[ahd ?_ (by size_fits)];rwa[agg (wpAny_handled ?_)];first|rw[show A.in1.handled=none from j]|rw[j]
 rwa[agg (agn (wpAny_throw ?_))];rwa[l _ _ (((ahQ ..).extBut.push _).push _) ⟨_,agy _ rfl,2⟩]
end
theorem meets (l:Zs)(items:Zm)(n:Nat)(dct:Zo)(j:Array Zl):
 Meets (Builtin.«enumerate.__new__» ⟨[.type "enumerate",↑l],[]⟩) (λ_ R s=>s.heap.get? l\{ cls:=.type "tuple",dict:=dct,data:=.seq items n,slots:=j }/\
  R (.ok (.ret (↑(s.heap.push ("tuple_iterator">>>.fields #[↑l,.int 0 0])).objs.size)))
    { s with heap:=(s.heap.push ("tuple_iterator">>>.fields #[↑l,.int 0 0])).push ("enumerate">>>.fields #[.none,.bool false,↑↥s,rawInt 0,.none,.none]) }):=
 .of_wp λb w A R s h=>by
  let⟨i,g,d,k,os⟩:=s;let⟨a,h⟩:=h;let e:=sub_enumerate;let f:Heap.IsTuple (Shared.heap ⟨i,g,d,k,os⟩) l items:=⟨_,a,2,n,2⟩
  wp_walk using aiH a;rwa[wpAny_stack_any λst=>agn ?_]
  split
  ·rename_i c _ _ _ _ _;cases (c==Value.type "enumerate") <;> (wp_walk using aiH a,wpAny_pyIter_tuple f;rwa[12,h])
  ·wp_walk using aiH a,wpAny_pyIter_tuple f;rwa[12,h]
theorem call {items:Zm}(k:s.heap.IsTuple a items)
 (h:∀g,IsEnum g (↥s+ 1) ↥s 0 .none->g.IsTupleIter ↥s a 0->g.objs.size=↥s+ 2->(∀b o,s.heap.get? b\o->g.get? b\o)->Q ↑(↥s+ 1) (s<*g)):
 (P<|>w) A (call (.type "enumerate") [↑a]) Q E s:=by
 let⟨⟨c,dct,l,j⟩,m,f,n,d⟩:=k;replace f:c=.type "tuple":=f;replace d:l=.seq items n:=d;subst f d;rwa[callType_new F.called_enumerate ⋯ (F.typeCall_enumerate_1 _) (F.newCall_enumerate_1 _) (λobj=>F.args_object_init_2 obj _) F.entry_enumerate_new (meets a items n dct j) ⟨m,5⟩];let e:(s.heap.push ("tuple_iterator">>>.fields #[↑a,.int 0 0])).objs.size=↥s+ 1:=ah5 ..;show _/\_;rw[e]
 let i:IsEnum ((s.heap.push ("tuple_iterator">>>.fields #[↑a,.int 0 0])).push ("enumerate">>>.fields #[.none,.bool false,↑↥s,rawInt 0,.none,.none])) (↥s+ 1) ↥s 0 .none:=by
  have:=agy (s.heap.push ("tuple_iterator">>>.fields #[↑a,.int 0 0])) (o:=("enumerate">>>.fields #[.none,.bool false,↑↥s,rawInt 0,.none,.none])) rfl;rw[e]at this;rwa[this]
 rwa[⟨_,i,2⟩,h _ i ⟨_,agi _ (agy _ rfl),22⟩ (by rw[ah5,e]) λb o x=>agi _ (agi _ x)]
end Et
section
variable {K:Za1}{mg:Str->Zl}{h:Heap}{C f:Zs}{x q:Str}{st:Stmt}{ps:Zp}{oc kV doc pm cC ct:Zt}{od an:Zo}{zT:Array Zl}
theorem Def.of (X:K.In h)(G:h.Ns mainGlobals mg)(a:PySem.W.nsIn K mainGlobals x\some ↑f)(l:K.lookup f\⟨oc,od,.func (PySem.W.fnOf x x (dy st) (cF st) (aB st) .none kV doc pm an cC ct),zT⟩)(c:PySem.W.codeIn K cC x=true)(k:PySem.W.keepIn K ↑f=true)
 (b:∀(kV doc pm:Zt) (an:Zo) (cC ct:Zt) (us:Zk),⇑us=⇑ps->bindArgs (PySem.W.fnOf x x (dy st) (cF st) (aB st) .none kV doc pm an cC ct) ⟨us,[]⟩=pure (ps.zip us)):Def K mg x st ps f (PySem.W.fnOf x x (dy st) (cF st) (aB st) .none kV doc pm an cC ct):=
 let F:=Gq (st:=st) l c k
 ⟨F,PySem.W.mg_of X G a,F.binds (ps:=ps) b⟩
theorem MDef.of (a:PySem.W.findIn K ↑C x\some ↑f)(i:PySem.W.isFn K ↑f=true)(l:K.lookup f\⟨oc,od,.func (PySem.W.fnOf x q (dy st) (cF st) (aB st) .none kV doc pm an cC ct),zT⟩)(c:PySem.W.codeIn K cC q=true)(k:PySem.W.keepIn K ↑f=true)
 (b:∀(kV doc pm:Zt) (an:Zo) (cC ct:Zt) (us:Zk),⇑us=⇑ps->bindArgs (PySem.W.fnOf x q (dy st) (cF st) (aB st) .none kV doc pm an cC ct) ⟨us,[]⟩=pure (ps.zip us)):MDef K C x q st ps f (PySem.W.fnOf x q (dy st) (cF st) (aB st) .none kV doc pm an cC ct):=
 let F:=Gq (st:=st) l c k
 ⟨F,⟨a,i,k⟩,F.binds (ps:=ps) b⟩
def Def.fd {fd:FuncData}(D:Def K mg x st ps f fd):∃(kV doc pm:Zt) (an:Zo) (cC ct:Zt),fd=PySem.W.fnOf x x (dy st) (cF st) (aB st) .none kV doc pm an cC ct:=by
 let⟨oc,od,kV,doc,pm,an,cC,ct,zT,e,_⟩:=D.F.ex;rwa[kV,doc,pm,an,cC,ct,e]
end
end L2
namespace L2
noncomputable def wk (b:Nat->Int->Zi):Nat->Zg->Zi
 |c,[]=>some c
 |c,z::w=>match b c z with
  |none=>none
  |some d=>wk b d w
section
variable {b:Nat->Int->Zi}
def j1 (h:b n z\m):wk b n (z::l)=wk b m l:=by
 show (match b n z with|none=>none|some m=>wk b m l)=_;rw[h]
def vp (h:wk b n (z::l)\m):∃d,b n z\d/\wk b d l\m:=by
 cases q:b n z with
 |none=>
  let a:(match b n z with|none=>none|some d=>wk b d l)\m:=h;rw[q]at a;ext a
 |some d=>rw[j1 q]at h;rwa[d,2,h]
theorem vq:∀{u v:Zg} {c d:Nat},wk b c u\d->wk b c (u++v)=wk b d v
 |[],v,c,d,h=>by rw[Za0 h];rfl
 |z::u,v,c,d,h=>by
  let⟨e,f,a⟩:=vp h;rw[aiU,j1 f];rwa[vq a]
def QP (h:b n z\m):wk b n [z]\m:=by rw[j1 h];rfl
def take_snoc (h:l[i]?\z):l.take (i+ 1)=l.take i++[z]:=by rw[aij,h];rfl
def drop_cons (h:l[i]?\z):l.drop i=z::l.drop (i+ 1):=by
 let a:=(agj.mp h).1;rw[aiz a,(agj.mp h).2]
end
structure Later (S S':RS):Prop where
 el:∀c,c<S.made->S'.ax (S.ax c)=S'.ax c
 by_:∀c z d,S.by c z=some d->S'.by (S'.ax c) z=some (S'.ax d)
def Later.of {l:Za2}(h:Good S [] R)(g:Good T [] l)(i:∀a z b,R a z b->l a z b)(k:S.made<=T.made):Later S T:=by
 let el:∀c,c<S.made->T.ax (S.ax c)=T.ax c:=λc hc=>(g.fin (agM (h.lt hc) k) (agM hc k)).mpr ((h.cg c hc).mono i).symm
 rwa[⟨el,λc z d e=>?_⟩];let⟨f,j,r,n,m⟩:=h.so _ _ _ e;let⟨o,l2,_⟩:=h.rl _ _ _ r;rw[<-n,<-m,el f o,el j l2];rwa[g.qY.mpr ⟨f,j,i _ _ _ r,22⟩]
theorem Later.wk (h:Later S T):∀{w:Zg} {c d:Nat},wk S.by c w=some d->wk T.by (T.ax c) w=some (T.ax d)
 |[],c,d,e=>by rw[Za0 e];rfl
 |z::w,c,d,e=>by
  let⟨f,b,a⟩:=vp e;rw[j1 (h.by_ _ _ _ b)];rwa[Later.wk h a]
structure Gg where
 which:Nat
 word:Zg
 start:Nat
 front:Nat
 first:Nat
 bx:Nat
 last:Nat
abbrev Zf:=List (Option Gg)
noncomputable def Gg.z1 (g:Gg):Int:=g.word.getD g.first 0
noncomputable def Gg.z2 (g:Gg):Int:=-(g.word.getD g.last 0)
structure GI (S:RS) (g:Gg):Prop where
 fl:g.first<=g.last
 ll:g.last<⇑g.word
 s:g.start<S.made
 f:g.front<S.made
 r:g.bx<S.made
 wf:wk S.by (S.ax g.start) (g.word.take g.first)=some (S.ax g.front)
 wr:wk S.by (S.ax g.bx) (g.word.drop (g.last+ 1))=some (S.ax g.start)
def GI.later {g:Gg}(h:GI S g)(l:Later S T)(a:S.made<=T.made):GI T g:=by
 let c:=l.wk h.wf;let b:=l.wk h.wr;rw[l.el _ h.s,l.el _ h.f]at c;rw[l.el _ h.r,l.el _ h.s]at b;rwa[h.fl,h.ll,agM h.s a,agM h.f a,agM h.r a,c,b]
def Gg.qh {g:Gg}(h:g.first<⇑g.word):g.word[g.first]?\g.z1:=by
 unfold Gg.z1
 cbv
def Gg.at2 {g:Gg}(h:g.last<⇑g.word):g.word[g.last]?\(-g.z2):=by
 unfold Gg.z2
 cbv
structure VH (S:RS) (g g':Gg):Prop where
 wh:g'.which=g.which
 wo:g'.word=g.word
 st:g'.start=g.start
 gi:GI S g'
 ef:S.ax g'.front=g'.front
 er:S.ax g'.bx=g'.bx
 n1:g'.first<g'.last->S.by g'.front g'.z1=none
 n2:g'.first<g'.last->S.by g'.bx g'.z2=none
 k1:S.ax g.front=g.front->S.by g.front g.z1=none->g'.front=g.front/\g'.first=g.first
 k2:S.ax g.bx=g.bx->S.by g.bx g.z2=none->g'.bx=g.bx/\g'.last=g.last
def GI.whole {g:Gg}(h:GI S g)(e:g.first=g.last)(c:S.ax g.start=g.start)(ef:S.ax g.front=g.front)(er:S.ax g.bx=g.bx)(d:S.by g.front g.z1=some g.bx):wk S.by g.start g.word=some g.start:=by
 let b:=h.wf;let a:=h.wr;rw[c,ef]at b;rw[c,er,<-e]at a;let hz:=Gg.qh (g:=g) ([e]▸h.ll);have:g.word=g.word.take g.first++(g.z1::g.word.drop (g.first+ 1)):=by rw[<-drop_cons hz,ajd]
 rw[this,vq b,j1 d];rwa[a]
noncomputable def eN (m:Nat)(W:bG)(n:Int):Nat:=(List.range (m* 2001)).countP λc=>W ((c / 2001:Nat):Int) (((c % 2001:Nat):Int) - 1000) n
def vr (m G:Nat)(W:bG):Nat:=((List.range G).map λn:Nat=>eN m W n).sum
def gj (W:bG)(r s:Int):bG:=λb a n=>W b a n && !(decide (b=r) && decide (a=s))
def QQ (a:n<m)(b: -1000<=z/\z<=1000):n* 2001+ (z+ 1000).toNat<m* 2001:=by
 have:(n+ 1)* 2001<=m* 2001:=ahY _ a;ext
def G3 {c r:Nat}(f: -1000<=z/\z<=1000):(((c / 2001:Nat):Int)=(r:Int)/\((c % 2001:Nat):Int) - 1000=z)↔c=r* 2001+ (z+ 1000).toNat:=by
 constructor
 ·rintro ⟨e,d⟩;have:=Nat.div_add_mod c 2001;ext
 ·intro h;subst h
  let a:(r* 2001+ (z+ 1000).toNat) / 2001=r:=by
   rw[Nat.mul_comm,Nat.mul_add_div ⋯,Nat.div_eq_of_lt ∅];ext
  let b:(r* 2001+ (z+ 1000).toNat) % 2001=(z+ 1000).toNat:=by
   rw[Nat.mul_comm,Nat.mul_add_mod,Nat.mod_eq_of_lt ∅]
  rw[a,b];ext
def QR {W:bG}(a:Int)(g:n<m)(d: -1000<=z/\z<=1000):eN m (gj W n z) a+ (if W n z a=true then 1 else 0)=eN m W a:=by
 let f:=QQ g d
 let dec:∀c:Nat,(decide (((c / 2001:Nat):Int)=(n:Int)) && decide (((c % 2001:Nat):Int) - 1000=z))=decide (c=n* 2001+ (z+ 1000).toNat):=λc=>by
  rw[<-Bool.decide_and,decide_eq_decide];rwa[G3 d]
 let at_:=(G3 (c:=n* 2001+ (z+ 1000).toNat) (r:=n) d).mpr rfl;unfold eN gj;by_cases b:W n z a=true
 ·rw[agI b]
  have:=lF (p:=λc:Nat=>W ((c / 2001:Nat):Int) (((c % 2001:Nat):Int) - 1000) a) (p':=λc:Nat=>W ((c / 2001:Nat):Int) (((c % 2001:Nat):Int) - 1000) a && !(decide (((c / 2001:Nat):Int)=(n:Int)) && decide (((c % 2001:Nat):Int) - 1000=z))) (v:=n* 2001+ (z+ 1000).toNat) (λc=>by
   rw[dec c,<-decide_not]) ([at_.1,at_.2]▸b) (m* 2001)
  rw[agI f]at this;rwa[this]
 ·rw[agF b,Nat.add_zero];rwa[List.countP_congr λc _=>?_]
  rw[aib];rwa[⟨λh=>h.1,λh=>⟨h,5⟩⟩];rw[dec c]
  cases e:decide (c=n* 2001+ (z+ 1000).toNat) with
  |false=>rfl
  |true=>
   rw[agU e,at_.1,at_.2]at h;rwa[absurd h b]
theorem yA:∀(l:Zh) (f g h:Nat->Nat),(∀n∈l,f n+ g n=h n)->(l.map f).sum+ (l.map g).sum=(l.map h).sum
 |[],_,_,_,_=>rfl
 |a::l,f,g,h,e=>by
  let c:=yA l f g h λn b=>e n (agS _ b)
  have:=e a (agA ..);simp only[ahA,List.sum_cons];ext
theorem DB (p:Nat->Bool):∀l:Zh,(l.map λn=>if p n=true then 1 else 0).sum=l.countP p
 |[]=>rfl
 |a::l=>by
  rw[ahA,List.sum_cons,DB p l,List.countP_cons];ext
def NR {G:Nat}{W:bG}(b:n<m)(c: -1000<=z/\z<=1000):vr m G (gj W n z)+ (List.range G).countP (λa:Nat=>W n z a)=vr m G W:=by
 unfold vr;rw[<-DB (λa:Nat=>W n z a)];rwa[yA _ _ _ _ λa _=>QR a b c]
theorem NT:∀{l:Zh} {a b:Nat},l.Nodup->(∀x∈l,x=a\/x=b)->⇑l<=2
 |[],_,_,_,_=>⋯
 |[_],_,_,_,_=>aiv 1
 |[_,_],_,_,_,_=>agp 2
 |x::y::z::r,a,b,e,h=>by
  let f:=h x (by simp);let c:=h y (by simp);let d:=h z (by simp)
  cbv
def QS {W:bG}{p q:Int×Int}(h:∀r s,W r s z=true->(r,s)=p\/(r,s)=q):eN m W z<=2:=by
 unfold eN;rw[List.countP_eq_length_filter];rwa[NT (a:=(p.1* 2001+ (p.2+ 1000)).toNat) (b:=(q.1* 2001+ (q.2+ 1000)).toNat) (ajU.filter _) λc d=>?_]
 let f:=Nat.div_add_mod c 2001;rcases h _ _ (ah7.mp d).2 with e|e
 ·left;rw[<-e];dsimp only;ext
 ·right;rw[<-e];dsimp only;ext
theorem G4:∀(l:Zh) (f:Nat->Nat) (k:Nat),(∀n∈l,f n<=k)->(l.map f).sum<=⇑l* k
 |[],_,_,_=>by simp
 |a::l,f,k,h=>by
  let c:=G4 l f k λn b=>h n (agS _ b)
  have:=h a (agA ..);rw[ahA,List.sum_cons,agL,aiT];ext
def NV {W:bG}(h:∀a:Nat,∃p q:Int×Int,∀r s,W r s a=true->(r,s)=p\/(r,s)=q):vr m n W<=2* n:=by
 have:=G4 (List.range n) (λa:Nat=>eN m W a) 2 λa _=>by
  let⟨p,q,e⟩:=h a;rwa[QS e]
 rw[agZ]at this;unfold vr;ext
structure CI (S:RS) (bs:List (Nat×Zg×Nat)) (gs:Zf) (ag:Zh) (W:bG) (Ex:Nat->Int->Prop) (x:Zi):Prop where
 len:⇑gs=⇑bs
 al:∀(n:Nat) (g:Gg),gs[n]?\some g->bs[n]?\(g.which,g.word,g.start)/\GI S g/\(n∈ag\/some n=x\/(g.first<g.last/\W g.front g.z1 n=true/\W g.bx g.z2 n=true))
 de:∀(n:Nat) (b:Nat×Zg×Nat),gs[n]?\none->some n≠x->bs[n]?\b->S.ax b.2.2≠b.2.2\/wk S.by b.2.2 b.2.1=some b.2.2
 ab:∀n∈ag,n<⇑gs
 en:∀r s n,W r s n=true->∃r' n':Nat,r=r'/\n=n'/\r'<S.made/\n'<⇑gs/\(-1000<=s/\s<=1000)/\(S.ax r'=r'/\S.by r' s=none\/Ex r' s)
 sl:∀n:Nat,∃p q:Int×Int,(∀r s,W r s n=true->(r,s)=p\/(r,s)=q)/\∀g,gs[n]?\some g->p=((g.front:Int),g.z1)/\q=((g.bx:Int),g.z2)
 bd:∀b∈bs,∀z∈b.2.1,-1000<=z/\z<=1000
def fM:Nat->Int->Prop:=λ_ _=>False
section
variable {S:RS}{bs:List (Nat×Zg×Nat)}{gs:Zf}{ag:Zh}{W:bG}{Ex:Nat->Int->Prop}{x:Zi}{n:Nat}
def CI.pop (h:CI S bs gs (ag++[n]) W Ex none):CI S bs gs ag W Ex (some n):=by
 rwa[⟨h.len,λk g e=>?_,λk b e _=>h.de k b e (λz=>by ext z),λk a=>h.ab k (agJ _ a),h.en,h.sl,h.bd⟩];let⟨d,c,f⟩:=h.al k g e
 cbv
def CI.done (h:CI S bs gs ag W Ex (some n))(e:gs[n]?\none)(k:∀b,bs[n]?\b->S.ax b.2.2≠b.2.2\/wk S.by b.2.2 b.2.1=some b.2.2):CI S bs gs ag W Ex none:=by
 rwa[⟨h.len,λm g c=>?_,λm b c _ d=>?_,h.ab,h.en,h.sl,h.bd⟩]
 ·let⟨i,f,a⟩:=h.al m g c;erw[i,f];rcases a with a|a|a
  ·rwa[.inl a]
  ·cbv
  ·rwa[.inr (.inr a)]
 ·by_cases q:m=n
  ·rw[q]at d;rwa[k b d]
  ·rwa[h.de m b c (λz=>q (Za0 z)) d]
def fA {c:Type}{l:List c}{a b:c}(h:(l.set i a)[j]?\b):(j=i/\b=a)\/(j≠i/\l[j]?\b):=by
 cbv
def CI.kill (h:CI S bs gs ag W Ex (some n)):CI S bs (gs.set n none) ag W Ex (some n):=by
 rwa[⟨[agK]▸h.len,λm g e=>?_,λm b e q f=>?_,λk a=>[agK]▸h.ab k a,λr s k e=>?_,λm=>?_,h.bd⟩]
 ·rcases fA e with ⟨_,z⟩|⟨z,e⟩
  ·ext z
  ·rwa[h.al m g e]
 ·rcases fA e with ⟨z,_⟩|⟨z,e⟩
  ·cbv
  ·rwa[h.de m b e q f]
 ·rw[agK];rwa[h.en r s k e]
 ·let⟨p,q,d,c⟩:=h.sl m;rwa[⟨p,q,d,λg e=>?_⟩];rcases fA e with ⟨_,z⟩|⟨_,e⟩
  ·ext z
  ·rwa[c g e]
def addW (W:bG)(r s n:Int):bG:=λc a b=>W c a b || (decide (c=r) && decide (a=s) && decide (b=n))
def dv {W:bG}{n c a b:Int}:addW W z y n c a b=true↔W c a b=true\/(c=z/\a=y/\b=n):=by
 unfold addW
 cbv
def df {W:bG}{b a c:Int}:gj W z y b a c=true↔W b a c=true/\¬(b=z/\a=y):=by
 unfold gj
 cbv
def CI.waits (h:CI S bs gs ag W fM (some n)){g c:Gg}(e:gs[n]?\some g)(a:VH S g c)(d:c.first<c.last):CI S bs (gs.set n (some c)) ag (addW (addW W c.front c.z1 n) c.bx c.z2 n) fM none:=by
 let⟨t,N,_⟩:=h.al n g e;let C:=(agj.mp e).1;let gi:=a.gi;let A:∀z∈c.word,-1000<=z/\z<=1000:=λz hz=>h.bd _ (agh t) z (by rw[<-a.wo];rwa[hz])
 let E:=A _ (agh (Gg.qh (g:=c) (by have:=gi.ll;omega)));let O:=A _ (agh (Gg.at2 (g:=c) gi.ll));rwa[⟨[agK]▸h.len,λm u q=>?_,λm b q _ I=>?_,λk F=>[agK]▸h.ab k F,λr s k q=>?_,λm=>?_,h.bd⟩]
 ·rcases fA q with ⟨rfl,z⟩|⟨z,q⟩
  ·ext z;rwa[⟨by rw[t,a.wh,a.wo,a.st],gi,.inr (.inr ⟨d,dv.mpr (.inl (dv.mpr (.inr ⟨222⟩))),dv.mpr (.inr ⟨222⟩)⟩)⟩]
  ·let⟨i,j,f⟩:=h.al m u q;erw[i,j];rcases f with f|f|⟨f,G,H⟩
   ·rwa[.inl f]
   ·cbv
   ·rwa[.inr (.inr ⟨f,dv.mpr (.inl (dv.mpr (.inl G))),dv.mpr (.inl (dv.mpr (.inl H)))⟩)]
 ·rcases fA q with ⟨_,z⟩|⟨z,q⟩
  ·ext z
  ·rwa[h.de m b q (λy=>z (Za0 y)) I]
 ·rw[agK];rcases dv.mp q with q|⟨rfl,rfl,rfl⟩
  ·rcases dv.mp q with q|⟨rfl,rfl,rfl⟩
   ·rwa[h.en r s k q]
   ·rwa[⟨_,n,rfl,rfl,gi.f,C,E,.inl ⟨a.ef,a.n1 d⟩⟩]
  ·rwa[⟨_,n,rfl,rfl,gi.r,C,by ext,.inl ⟨a.er,a.n2 d⟩⟩]
 ·let⟨p,q,i,j⟩:=h.sl m;by_cases J:m=n
  ·subst J;let⟨L,eq⟩:=j g e;rwa[⟨((c.front:Int),c.z1),((c.bx:Int),c.z2),λr s w=>?_,λu v=>?_⟩]
   ·rcases dv.mp w with w|⟨rfl,rfl,_⟩
    ·rcases dv.mp w with w|⟨rfl,rfl,_⟩
     ·let⟨o,M,er,_,_,_,_,l⟩:=h.en r s m w;rcases l with ⟨B,D⟩|l
      ·rcases i r s w with z|z
       ·rw[L]at z;injection z with z1 z2
        have:o=g.front:=∅
        subst this;let⟨k1,k2⟩:=a.k1 B (by cbv)
        left
        rw[Prod.mk.injEq];erw[[k1]▸er];rw[z2];unfold Gg.z1;rw[a.wo,k2]
       ·rw[eq]at z;injection z with z1 z2
        have:o=g.bx:=∅
        subst this;let⟨k1,k2⟩:=a.k2 B (by cbv)
        right
        rw[Prod.mk.injEq];erw[[k1]▸er];rw[z2];unfold Gg.z2;rw[a.wo,k2]
      ·rwa[l.elim]
     ·rwa[.inl rfl]
    ·rwa[.inr rfl]
   ·rcases fA v with ⟨_,z⟩|⟨z,_⟩
    ·cbv
    ·rwa[absurd rfl z]
  ·rwa[⟨p,q,λr s w=>?_,λu v=>?_⟩]
   ·rcases dv.mp w with w|⟨_,_,z⟩
    ·rcases dv.mp w with w|⟨_,_,z⟩
     ·rwa[i r s w]
     ·ext
    ·ext
   cbv
def CI.wake (h:CI S bs gs ag W Ex x){r s:Int}{ns:Zh}(f:∀k:Nat,k∈ns↔W r s k=true):CI S bs gs (ag++ns) (gj W r s) Ex x:=by
 rwa[⟨h.len,λm g e=>?_,h.de,λk u=>?_,λt o k q=>h.en _ _ _ (df.mp q).1,λm=>?_,h.bd⟩]
 ·let⟨c,b,a⟩:=h.al m g e;erw[c,b];rcases a with a|a|⟨a,j,l⟩
  ·rwa[.inl (agJ _ a)]
  ·rwa[.inr (.inl a)]
  ·by_cases i:(g.front:Int)=r/\g.z1=s
   ·rwa[.inl (agr _ ((f m).mpr (by rw[<-i.1,<-i.2];rwa[j])))]
   ·by_cases d:(g.bx:Int)=r/\g.z2=s
    ·rwa[.inl (agr _ ((f m).mpr (by rw[<-d.1,<-d.2];rwa[l])))]
    ·rwa[.inr (.inr ⟨a,df.mpr ⟨j,i⟩,df.mpr ⟨l,d⟩⟩)]
 ·rcases agv.mp u with q|q
  ·rwa[h.ab k q]
  ·let⟨_,v,_,en,_,y,_⟩:=h.en _ _ _ ((f k).mp q);ext
 ·let⟨p,q,c,b⟩:=h.sl m;rwa[p,q,λt o w=>c^(df.mp w).1,b]
def CI.ex {e:Nat->Int->Prop}(h:CI S bs gs ag W Ex x)(k:∀(r:Nat) s n,W r s n=true->r<S.made->Ex r s->(S.ax r=r/\S.by r s=none)\/e r s):CI S bs gs ag W e x:=by
 rwa[⟨h.len,h.al,h.de,h.ab,λr s n q=>?_,h.sl,h.bd⟩];let⟨g,f,rfl,rfl,a,b,c,d⟩:=h.en r s n q;rwa[g,f,22,a,b,c,d.elim .inl (k g s f q a)]
end
structure gN (S:RS):Prop where
 a:∀c,c<S.made->S.ax c≠c->c∈S.aZ
 b:∀c∈S.aZ,S.ax c≠c
 c:∀c∈S.aZ,c<S.made
section
variable {S S':RS}{pend:Ze}{w:Way}{R:Za2}{ks:Zg}
def G5 {x:Nat}:(S.meet n z x m pend).1.aZ=S.aZ++[max x m]:=by
 have:=(gG (max x m) (S.joined n z (min x m) (max x m)) pend ((S.joined n z (min x m) (max x m)).way (max x m))).2;have:=ahF RS.aZ this;rwa[this]
def tM (h:(S.takeIn pend w).1.aZ=S.aZ):(S.takeIn pend w).1.aS=S.aS:=by
 let no:∀{c x y:Nat} {z:Int},(S.meet c z x y pend).1.aZ=S.aZ->False:=λ{c x y z} e=>by
  rw[G5]at e;have:=ahF List.length e
  cbv
 unfold RS.takeIn at h ⊢;split
 ·rename_i q;rw[agI q]at h;rwa[(no h).elim]
 ·rename_i q;rw[agF q]at h;split
  ·rename_i a;rw[agI a]at h;rwa[(no h).elim]
  ·rfl
def gN.take (f:gN S)(h:Good S (pend++[w]) R)(j:∀c z d,R c z d->z∈ks):gN (S.takeIn pend w).1/\∃l,(S.takeIn pend w).1.aZ=S.aZ++l:=by
 let⟨_,_,g,_,q⟩:=h.take j;rcases q with ⟨_,_,e⟩|⟨_,c,z,x,y,n,_,p,r,m,_,e,el⟩
 ·let ee:=tM e;let el:∀a,(S.takeIn pend w).1.ax a=S.ax a:=λa=>by unfold RS.ax;rw[ee]
  rwa[⟨⟨λc hc=>?_,λc hc=>?_,λc hc=>by rw[g];rw[e]at hc;rwa[f.c c hc]⟩,[],by rw[e,agQ]⟩]
  ·rw[g]at hc;rw[el,e];rwa[f.a c hc]
  ·rw[e]at hc;rw[el];rwa[f.b c hc]
 ·let⟨_,o,_,ex⟩:=h.st _ _ _ n;rwa[⟨⟨λa b=>?_,λa b=>?_,λa b=>?_⟩,[max x y],e⟩]
  ·rw[g]at b;rw[el,e];intro i;by_cases q:S.ax a=a
   ·cbv
   ·rwa[agJ _ (f.a a b q)]
  ·rw[el];rw[e]at b;rcases agv.mp b with q|q
   ·let i:=f.b a q
    cbv
   cbv
  ·rw[g];rw[e]at b;rcases agv.mp b with q|q
   ·rwa[f.c a q]
   ·rw[ago.mp q];rcases ajR x y with k|k <;> ext
inductive j2:RS->Ze->RS->Prop where
 |nil (S:RS):j2 S [] S
 |take {S S':RS} {pend:Ze} {w:Way}:j2 (S.takeIn pend w).1 (S.takeIn pend w).2 S'->j2 S (pend++[w]) S'
def j2.all (l:j2 S pend S'):Good S pend R->(∀c z d,R c z d->z∈ks)->gN S->Good S' [] R/\gN S'/\S'.made=S.made/\S'.L=S.L/\∃l,S'.aZ=S.aZ++l:=by
 induction l with
 |nil S=>exact λg _ w=>⟨g,w,22,[],(agQ _).symm⟩
 |take _ i=>
  intro g e w;let⟨h,_,m,k,_⟩:=g.take e;let⟨f,l2,n⟩:=w.take g e;let⟨a,b,c,d,o,j⟩:=i h e f
  cbv
end
section
variable {S S':RS}{R:Za2}{bs:List (Nat×Zg×Nat)}{gs:Zf}{ag:Zh}{W:bG}{n c d:Nat}{z:Int}
theorem CI.lay (h:CI S bs gs ag W fM (some n))(e:gs[n]?\none)(g:Good S [] R)(w:Good S' [] (fL R c z d))(hm:S'.made=S.made)(I:gN S)(C:gN S'){l:Zh}(Q:S'.aZ=S.aZ++l)(hc:c<S.made)(N:S.ax c=c)(hd:d<S.made)(ed:S.ax d=d)
 (k:∀b,bs[n]?\b->S'.ax b.2.2≠b.2.2\/wk S'.by b.2.2 b.2.1=some b.2.2):CI S' bs gs ag W (λr s=>(r=c/\s=z)\/(r=d/\s= -z)\/∃m∈l,r=m\/r=S'.ax m) none:=by
 let lt:=Later.of g w i9 (ajr hm.symm)
 let p:∀e,e<S.made->S.ax e=e->S'.ax e≠e->e∈l:=λe j i D=>by
  have:=C.a e ([hm]▸j) D;rw[Q]at this;rcases agv.mp this with q|q
  ·rwa[absurd i (I.b e q)]
  ext
 let h0:CI S' bs gs ag W (λr s=>(r=c/\s=z)\/(r=d/\s= -z)\/∃m∈l,r=m\/r=S'.ax m) (some n):=by
  rwa[⟨h.len,λm u q=>?_,λm b A H O=>?_,h.ab,λr s m q=>?_,h.sl,h.bd⟩]
  ·let⟨j,i,D⟩:=h.al m u q;rwa[j,i.later lt (ajr hm.symm),D]
  ·by_cases t:S'.ax b.2.2=b.2.2
   ·right
    rcases h.de m b A H O with q|q
    ·by_cases y:b.2.2<S.made
     ·let j:=(g.el _ y).1;let i:=(w.el _ ([hm]▸g.lt y)).1;rw[lt.el _ y,t]at i;rwa[absurd (Nat.le_antisymm j i) q]
     ·exfalso
      let G:⇑S.aS=S.made:=g.wf.e;let M:⇑S'.aS=S'.made:=w.wf.e;let J:S.ax b.2.2=0:=by unfold RS.ax;rw[agq,agY ∅];rfl
      let B:S'.ax b.2.2=0:=by unfold RS.ax;rw[agq,agY ∅];rfl
      rwa[q (by rw[J,<-B,t])]
    ·have:=lt.wk q;rw[t]at this;rwa[this]
   ·rwa[.inl t]
  ·let⟨f,L,t,P,F,U,G,q⟩:=h.en r s m q;erw[f,L,t,P,[hm]▸F,U,G];rcases q with ⟨A,H⟩|q
   ·by_cases j:S'.ax f=f
    ·cases i:S'.by f s with
     |none=>exact .inl ⟨j,2⟩
     |some o=>
      right
      let⟨v,T,x,f1,X⟩:=w.so _ _ _ i
      let stand:∀e,e<S.made->S.ax e=e->S'.ax e=f->e=f\/∃m∈l,f=m\/f=S'.ax m:=λe Y Z V=>by
       cbv
      rcases x with x|⟨rfl,rfl,rfl⟩|⟨rfl,rfl,rfl⟩
      ·let⟨E,l2,_⟩:=g.rl _ _ _ x;rcases stand (S.ax v) (g.lt E) (g.el _ E).2 ([lt.el _ E]▸f1) with a|a
       ·have:=g.qY.mpr ⟨v,T,x,a,rfl⟩
        cbv
       ·rwa[.inr (.inr a)]
      ·rcases stand v hc N f1 with a|a
       ·rwa[.inl ⟨a.symm,rfl⟩]
       ·rwa[.inr (.inr a)]
      ·rcases stand v hd ed f1 with a|a
       ·rwa[.inr (.inl ⟨a.symm,rfl⟩)]
       ·rwa[.inr (.inr a)]
    ·rwa[.inr (.inr (.inr ⟨f,p f F A j,.inl rfl⟩))]
   ·rwa[q.elim]
 rwa[h0.done e k]
end
noncomputable def cu (a:Nat->Int->Zi):Nat->Zg->Zh
 |_,[]=>[]
 |r,z::c=>match a r z with
  |none=>[]
  |some b=>b::cu a b c
def yB {a:Nat->Int->Zi}(h:a n z=none):cu a n (z::l)=[]:=by
 show (match a n z with|none=>[]|some b=>b::cu a b l)=[];rw[h]
def m3 {a:Nat->Int->Zi}(h:a n z\m):cu a n (z::l)=m::cu a m l:=by
 show (match a n z with|none=>[]|some m=>m::cu a m l)=_;rw[h]
noncomputable def jr (w:Nat)(p:Zh)(k:Nat):Dt:=.t [.s [114,117,108,101],.i w,.t (p.map λc:Nat=>Dt.i (c:Int)),.i k]
structure Av (ws:Za3) (nr:Nat) (S:RS) (which:Nat) (word:Zg) (start m c d:Nat) (z:Int):Prop where
 w:ws[which]?\word
 n:which<nr\/start=0
 s:start<S.made/\S.ax start=start
 hz:word[m]?\z
 f:wk S.by start (word.take m)=some c
 r:wk S.by d (word.drop (m+ 1))=some start
 hc:c<S.made/\S.ax c=c
 hd:d<S.made/\S.ax d=d
 o:S.by c z≠some d
def pJ (S:RS)(a:Nat)(word:Zg)(start m d:Nat):RS:={ S with rows:=S.rows++[jr a ((start::cu S.by start (word.take m))++(d::cu S.by d (word.drop (m+ 1)))) m] }
inductive Tr (ws:Za3) (nr:Nat):RS->RS->Prop where
 |refl (S:RS):Tr ws nr S S
 |step {S S1 S2:RS} {which:Nat} {word:Zg} {start m c d:Nat} {z:Int}:Tr ws nr S S1->Av ws nr S1 which word start m c d z->j2 (pJ S1 which word start m d) [(c,z,d)] S2->Tr ws nr S S2
def QT (S:RS)(c:Nat)(word:Zg):Prop:=wk S.by c word=some c\/∃(i j f r:Nat) (y z:Int),i<j/\word[i]?\y/\word[j]?\z/\wk S.by c (word.take i)=some f/\S.by f y=none/\wk S.by r (word.drop (j+ 1))=some c/\S.by r (-z)=none
structure E7 (rs ps:Za3) (S:RS):Prop where
 r:∀w∈rs,∀c,c<S.made->S.ax c=c->QT S c w
 p:∀w∈ps,QT S 0 w
def UW (U:Za2):Nat->Zg->Nat->Prop
 |p,[],q=>p=q
 |p,z::w,q=>∃r,U p z r/\UW U r w q
structure VJ (ws:Za3) (nr M:Nat) (φ:Nat->Nat) (U:Za2):Prop where
 sy:∀p z q,U p z q->U q (-z) p
 fn:∀p z q q',U p z q->U p z q'->q=q'
 cl:∀(which:Nat) (word:Zg) (start m c d:Nat) (z:Int),ws[which]?\word->which<nr\/start=0->start<M->word[m]?\z->UW U (φ start) (word.take m) (φ c)->UW U (φ d) (word.drop (m+ 1)) (φ start)->U (φ c) z (φ d)
end L2
namespace L2
open PySem PySem.Spec PyProof.Rows
section
variable {X:Cx}
def NW (K:Za1)(h:TA)(f:TE):TI:=λ c H R=>h c H λd e=>f c e λz b=>∃a n,d=[↑a]/\z=.int n/\0<=n/\n<1000/\(∃g,aF K b a g)/\R (sM K a n) b
def QV (Q:V->Hp->Prop):Zb->Hp->Prop
 |[z],H=>Q z H
 |_,_=>False
theorem NX {Q:V->Hp->Prop}:∀{a:Zb} {H:Hp},QV Q a H->∃z,a=[z]/\Q z H
 |[z],_,h=>⟨z,2,h⟩
 |[],_,h=>h.elim
 |_::_::_,_,h=>h.elim
theorem G6 {b:Expr}{D:TE}{elts:Zr}{d i kp:Pos}(J:Gl X "enumerate")(Z:X.mg "enumerate"=none)(he:PE X e r)(k:PE X b D)
 (F:starEach [e] X.env=(false,eval e X.env)::starEach [] X.env:=by rfl)
 (v:((backTo i (starEach [e] X.env)).any (·.1) || (backToKw i (keywordEach [⟨some "start",b,kp⟩] X.env)).any (·.1.isNone))=false:=by rfl):
 PI X (.Tuple elts n p) (.Call (.Name "enumerate" d) [e] [⟨some "start",b,kp⟩] i) (NW X.K (jD r jV) D):=by
 intro a s C H R I h;rwa[aht (gT I J Z boot_enumerate ?_)];rwa[PySem.W.callWith_of (P:=λ_=>True) v (λ_ _=>⟨.machine,.inr (.inl rfl),λ_ _ _ _ _ q=>agn q⟩) (evalArgs_kw2 rfl (a9 ((ae he aj F) i a s C H _ I h) λus W ζ=>?_) F)];let⟨O,V,L,c,q⟩:=ζ;rwa[a9 ((C9 k Gf:PK X [⟨some "start",b,kp⟩] _) i a W C V (QV λz o=>∃e f,O=[↑e]/\z=.int f/\0<=f/\f<1000/\(∃E,aF X.K o e E)/\R (sM X.K e f) o) L q) λws s2 ζ=>?_];let⟨zs,o,j,Y,qz⟩:=ζ;rwa[⟨True.intro,5⟩]
 let⟨z,rfl,l,f,S,rfl,x,B,y,U⟩:=NX qz;subst S;let⟨E,y⟩:=y;let⟨u,rfl,ru⟩:=vals1 c;ext ru;let⟨u2,rfl,G,rfl⟩:=vals1 Y;let⟨Q,rv,pl,hz⟩:=j.list y;show wpAny _ _ (call (.type "enumerate") [↑l] [("start",.int f G)]) _ _ s2;rwa[En.Cr pl.isList x B λt A hit M=>?_]
 let N:Inv X a C o (s2<*t):=j.kept (t':=s2.toks) M;let m:(∃old,IsEnum t (↥s2+ 1) ↥s2 (f+ ((0:Nat):Int)) old)/\t.IsListIter ↥s2 l 0:=⟨⟨_,[show f+ ((0:Nat):Int)=f by ext]▸A⟩,hit⟩;let T:=Ct (P:=X.prog) (w:=X.w) (K:=X.K) (elts:=elts) (x1:=n) (tp:=p) (↥s2+ 1) ↥s2 l f (Nat.succ_ne_self _);rwa[T.self _ 0 (s2<*t) _ _ m ⟨1111,o,2,N,T,m,λb k=>?_,U⟩];rcases agB.mp k with g|k
 ·subst g;rwa[j.pk (aiv _) (j.aL.fresh (aiv _))]
 ·rw[ago.mp k];rwa[j.pk (agp _) (j.aL.fresh (agp _))]
end
section
variable {prog:Program} {w:World} {K:Type} [DecidableEq K] {knd:HeapKind prog w K} {A:Around} {E:Zt->Zu->Prop} {s:Zu} {d a:Zs} {k:K} {xs:List (K×Zs×Zt)}
theorem Cu {dflt:Zt}(m:knd.room A)(b:knd.is s.heap k a)(C:s.heap.DictOfH knd d xs)
 (u:∀v,(atKey xs k).map (·.2)\v->Q v { s with toks:=s.toks+ knd.draws k })
 (r:atKey xs k=none->∀i,i.DictOfH knd d (storedH xs k a dflt)->Heap.SameBut d s.heap i->Q dflt { s with heap:=i,toks:=s.toks+ knd.draws k })
 (x:⇑xs<=sizeLine):(prog<|>w) A (dictSetDefault d ↑a dflt) Q E s:=by
 let⟨G,B,t,f,g2,c,h,n,l⟩:=C;unfold dictSetDefault
 first|(with_reducible rwa[ahn ?_])|skip
 rwa[agg (knd.pyHash m b (agg (wpAny_dictFind_heap (s:={ s with toks:=s.toks+ knd.draws k }) m b f c h n l (λno=>?_) (λj p o=>?_))))]
 ·let I:k∉xs.map (·.1):=not_mem_keys_of_get no;let g:=atKey_none_of_get no;rwa[agg (ajN (agg (wpAny_updateDictKeys (hz:=by let e:=size_of_entries h;omega) (s:={ s with toks:=s.toks+ knd.draws k }) f c (agn (r g _ ?_ (ahQ ..))))))];erw[11,t+ 1,ag2 _ f (Obj.isFreed_of_dict (Obj.data_mapDictKeys c _)),g2.mapDictKeys _,Obj.data_mapDictKeys c _,55]
  ·rw[storedH_new g];simp[h,entryOfKey]
  ·rw[storedH_new g];intro y z;rcases agv.mp z with q|q
   ·rwa[knd.keeps (n y q) f c (ahQ ..)]
   ·rw[ago.mp q];rwa[knd.keeps b f c (ahQ ..)]
  ·rw[storedH_new g,agR,ahf]
   cbv
 ·let D:=atKey_of_get l o;rwa[agg (aik (s:={ s with toks:=s.toks+ knd.draws k }) f c ?_)]
  let F:B[j]?\(entryOfKey knd (k,p)):=by
   rw[entry_at h j,o];rfl
  rw[F];rwa[agg (ajN (agn (u _ (by rw[D];rfl))))]
theorem y4 (knd:HeapKind prog w K)(d a:Zs)(e:(d==sysModules)=false)(dflt:Zt):MeetsIn prog w (Builtin.«dict.setdefault» ⟨[↑d,↑a,dflt],[]⟩) (λA R s=>knd.room A.in1/\∃k xs,knd.is s.heap k a/\s.heap.DictOfH knd d xs/\⇑xs<=sizeLine/\
 (∀v,(atKey xs k).map (·.2)\v->R (.ok (.ret v)) { s with toks:=s.toks+ knd.draws k })/\(atKey xs k=none->∀b,b.DictOfH knd d (storedH xs k a dflt)->Heap.SameBut d s.heap b->R (.ok (.ret dflt)) { s with heap:=b,toks:=s.toks+ knd.draws k })):=
 .of_wp λA R s ζ=>by
  let⟨j,k,xs,c,hm,n,i,h⟩:=ζ
  unfold Builtin.«dict.setdefault» Builtin.Dict.keyAndDefault;rwa[agg (agg (aja hm.typeIs ?_))];show wpAny _ _ (pure (d,Value.ref a,some dflt)) _ _ s;rwa[agn ?_];show wpAny _ _ (if (d==sysModules)=true then _ else (dictSetDefault d ↑a dflt >>=_)) _ _ s;rw[e];rwa[agg (Cu j c hm (λv g=>agn ⟨v,2,i v g⟩) (λm b l f=>agn ⟨dflt,2,h m b l f⟩) n)]
end
inductive QW (a:Zs) (y z:V) (H:Hp) (Q:VK):Prop
 |mk (kvs:List (Zd×V)) (k:Zd) (b:Zs):H a\.dT kvs->y=↑b->H b\.tup (k.map kV)->⇑kvs<sizeLine->(∀v,bB kvs k\v->Q v H)->(bB kvs k=none->Q z (upd H a (.dT (putK kvs k z))))->QW a y z H Q
def QX (td e tx:TE):TE:=λ b H Q=>td b H λx c=>Dq x c λa=>e b c λy d=>tx b d λz f=>QW a y z f Q
section
variable {X:Cx}{o e f:Expr}{apos cH:Pos}{td ty tx:TE}
def JG (hu:X.A.units+ 1<cLine)(Z:PE X o td)(he:PE X e ty)(Y:PE X f tx)(m:M2 X o "setdefault" apos e f cH):PE X (.Call (.Attribute o "setdefault" apos) [e,f] [] cH) (QX td ty tx):=by
 intro j s r H Q I h;rwa[aiG m.base m.few m.line ahG aih PySem.F.type_dict_setdefault (a9 (Z j s r H _ I h) λu s1 ζ=>?_)];let⟨x,H1,D,rx,a,ex,d,S⟩:=ζ;subst ex;obtain rfl:u=Value.ref a:=rx;let⟨t1,M,_⟩:=lW D d;erw[t1,M];rw[m.trees]
 rwa[ahq rfl (ahW (ahg (a9 (he j s1 r H1 _ D S) λiv P ζ=>?_)))];let⟨y,H2,V,ry,q2⟩:=ζ;rwa[ ahg (a9 (Y j P r H2 _ V q2) λfv s3 ζ=>?_)];let⟨z,E,n,J,i,k,b,A,ey,G,N,U,q4⟩:=ζ;rwa[ahR ?_]
 subst ey;cases (show iv=Value.ref b from ry);let⟨W,B,xs,rel,L⟩:=Lj n.aL A;let g:=rel.val k;let p:⇑xs<=sizeLine:=by rw[<-Paired.length rel];rwa[W]
 rwa[aiQ aih L.typeIs PySem.F.entry_dict_setdefault (PySem.F.args_dict_setdefault_3^_) (y4 _ a b B fv) ⟨air hu,k,xs,lV n.aL G,L,p,λv hv=>?_,λhn g1 w sb=>?_⟩]
 ·rw[hv]at g
  cases l:bB i k with
  |none=>rw[l]at g;rwa[g.elim]
  |some t=>
   rw[l]at g;rwa[t,E,n.tok _,g,U t l]
 ·rw[hn]at g
  cases l:bB i k with
  |some t=>rw[l]at g;rwa[g.elim]
  |none=>
   let hl:⇑(putK i k z)<=sizeLine:=by have:=g6 i k z;ext
   let⟨q,es,ep,F,O,h3,R,_,T⟩:=w;rwa[⟨z,upd E a (.dT (putK i k z)),jY n ([A]▸True.intro) sb ⟨q,F⟩ ⟨hl,B,_,(rel.put k G J).keeps λc ys C=>?_,q,es,ep,F,O,h3,R,T⟩,J,q4 l⟩];rw[ak (bZ C A (λz=>nomatch z))];rwa[C]
end
section
variable {H:Hp}{k:Zs}{D:Int->Zo}{E:Int->Int->Zo}{S:bG}
theorem dM.JH (h:dM H k D E S){c s:Int}{d:Zs}(hd:D c\d){l:List (Key×V)}(v:H d\.dK l):
 dM (upd H d (.dK (eX l (Sum.inl s)))) k D (λf g=>if f=c/\g=s then none else E f g) (gj S c s):=by
 let⟨m,w,F,y,C⟩:=h.row c d hd;rw[v]at w;obtain rfl:l=m:=by cbv
 let un:∀{f g:Int} {z:Zs},(if f=c/\g=s then none else E f g)\z->¬(f=c/\g=s)/\E f g\z:=λ{f g z} q=>by
  cbv
 rwa[⟨h.top.at λo q=>?_,λf p j=>?_,λf g n i=>?_,λf g n i=>h.ed _ _ _ (un i).2,λf g o B=>?_,h.nd,λf g n i=>h.ne _ _ _ (un i).2,h.dd,λf A g p j i=>h.de _ _ _ _ j (un i).2,λf g A G n x u=>h.ee _ _ _ _ _ (un x).2 (un u).2⟩]
 ·rw[ak (h.nd c d hd).symm];rwa[q]
 ·by_cases t:f=c
  ·subst t;obtain rfl:p=d:=by cbv
   rwa[(NM F y C s).congr λg=>?_]
   cbv
  ·rwa[((h.row f p j).at λo q=>by rw[ak λz=>t (h.dd _ _ _ j ([z]▸hd))];rwa[q]).congr λg=>?_]
   cbv
 ·let⟨ne,r⟩:=un i;rwa[((h.yz f g n r).at λo q=>[ak (λz=>h.de c f g d hd (by rw[<-z];rwa[r]))]▸q).congr λo=>?_]
  have:gj S c s f g o=S f g o:=by
   rw[ahK,df];rwa[λz=>z.1,λz=>⟨z,ne⟩]
  rw[this]
 ·let⟨a,b⟩:=df.mp B;let⟨e,r⟩:=h.se _ _ _ a
  cbv
end
structure QY (k:Zs) (D:Int->Zo) (E:Int->Int->Zo) (W:bG) (O:Zs->Prop):Prop where
 o:∀b,uv k D E b->O b
 d:∀c x,D c\x->0<=c/\c<100000
 e:∀c s x,E c s\x-> -1000<=s/\s<=1000
 w:∀c s n,W c s n=true->0<=n/\n<100000
def oq (H:Hp)(k:Zs)(W:bG)(O:Zs->Prop):Prop:=∃D E,dM H k D E W/\QY k D E W O
def fB (H:Hp)(k:Zs)(W:bG)(O:Zs->Prop)(c:Int)(d:Zs):Prop:=∃D E,dM H k D E W/\QY k D E W O/\D c\d
def pK (H:Hp)(k:Zs)(W:bG)(O:Zs->Prop)(c s:Int)(e:Zs):Prop:=∃D E,dM H k D E W/\QY k D E W O/\E c s\e
def G7 (O:Zs->Prop)(p:Zs):Zs->Prop:=λb=>O b\/b=p
section
variable {H H':Hp}{k:Zs}{W:bG}{O:Zs->Prop}{c s:Int}{d e p:Zs}
def oq.keep (h:oq H k W O)(f:∀b o,O b->H b\o->H' b\o):oq H' k W O:=by
 let⟨D,E,g,a⟩:=h;rwa[D,E,g.keep λb o i q=>f b o (a.o b i) q,a]
def oq.qe (h:oq H k W O):Dm H k:=by
 let⟨D,E,a,_⟩:=h;let⟨b,q,_⟩:=a.top;rwa[.inl ⟨b,.inl q⟩]
theorem oq.room (h:oq H k W O)(t:H p=none)(hc:0<=c/\c<100000):∃a,upd H p (.dK []) k\.dK a/\⇑a<sizeLine/\(∀v,bB a (Sum.inl c)\v->∃d,v=↑d/\fB (upd H p (.dK [])) k W O c d)/\
 (bB a (Sum.inl c)=none->fB (upd (upd H p (.dK [])) k (.dK (putK a (Sum.inl c) ↑p))) k W (G7 O p) c p):=by
 let⟨D,E,r,f⟩:=h;let y:=aq.upd (o:=.dK []) t;let k1:=r.same y;let⟨a,m,A,w,l⟩:=k1.QM;let nw:¬uv k D E p:=λz=>by let⟨B,q⟩:=r.there z;cbv
 rwa[⟨a,m,5,λv g=>?_,λg=>?_⟩]
 ·rwa[agu (vn (n:=100000) (lo:=0) A w l λi v g=>?_) ⋯]
  cases e:D i with
  |none=>rw[e]at g;ext g
  |some x=>have:=f.d i x e;ext
 ·rw[l]at g;let⟨d,hd,rfl⟩:=ahx.mp g;rwa[d,2,D,E,k1,f,hd]
 ·rw[l]at g;let hd:D c=none:=ajJ.mp g;rwa[⟨_,E,k1.NQ hd m ah nw,⟨λb u=>?_,λj x q=>?_,f.e,f.w⟩,agI rfl⟩]
  ·rcases u with z|⟨j,z⟩|z
   ·rwa[.inl (f.o b (.inl z))]
   ·dsimp only at z;by_cases e:j=c
    ·rw[agI e]at z;rwa[.inr (Za0 z).symm]
    ·rw[agF e]at z;rwa[.inl (f.o b (.inr (.inl ⟨j,z⟩)))]
   ·rwa[.inl (f.o b (.inr (.inr z)))]
  ·by_cases e:j=c
   ·rw[e];rwa[hc]
   ·rw[agF e]at q;rwa[f.d j x q]
def fB.qe (h:fB H k W O c d):Dm H d:=by
 let⟨D,E,a,g,b⟩:=h;let⟨f,q,_⟩:=a.row c d b;rwa[.inl ⟨f,.inl q⟩]
def fB.own (h:fB H k W O c d):O d:=by
 let⟨D,E,f,a,b⟩:=h;rwa[a.o d (.inr (.inl ⟨c,b⟩))]
def fB.same (h:fB H k W O c d)(s:aq H H'):fB H' k W O c d:=by
 let⟨D,E,b,a,f⟩:=h;rwa[D,E,b.same s,a,f]
theorem fB.cell (h:fB H k W O c d)(w:H p=none)(C: -1000<=s/\s<=1000):∃a,upd H p (.dK []) d\.dK a/\⇑a<sizeLine/\(∀v,bB a (Sum.inl s)\v->∃e,v=↑e/\pK (upd H p (.dK [])) k W O c s e)/\
 (bB a (Sum.inl s)=none->pK (upd (upd H p (.dK [])) d (.dK (putK a (Sum.inl s) ↑p))) k W (G7 O p) c s p):=by
 let⟨D,E,u,f,hd⟩:=h;let B:=aq.upd (o:=.dK []) w;let k1:=u.same B;let⟨a,t,F,A,m⟩:=k1.JF hd;let nw:¬uv k D E p:=λz=>by let⟨G,q⟩:=u.there z;cbv
 rwa[⟨a,t,5,λv g=>?_,λg=>?_⟩]
 ·rwa[agu (vn (n:=2001) (lo:=-1000) F A m λi v g=>?_) ⋯]
  cases e:E c i with
  |none=>rw[e]at g;ext g
  |some x=>have:=f.e c i x e;ext
 ·rw[m]at g;let⟨e,r,rfl⟩:=ahx.mp g;rwa[e,2,D,E,k1,f,r]
 ·rw[m]at g;let r:E c s=none:=ajJ.mp g;rwa[⟨D,_,k1.NP hd r t ah nw,⟨λb y=>?_,f.d,λl j x q=>?_,f.w⟩,agI ⟨22⟩⟩]
  ·rcases y with z|z|⟨l,j,z⟩
   ·rwa[.inl (f.o b (.inl z))]
   ·rwa[.inl (f.o b (.inr (.inl z)))]
   ·dsimp only at z;by_cases e:l=c/\j=s
    ·rw[agI e]at z;rwa[.inr (Za0 z).symm]
    ·rw[agF e]at z;rwa[.inl (f.o b (.inr (.inr ⟨l,j,z⟩)))]
  ·by_cases e:l=c/\j=s
   ·rw[e.2];rwa[C]
   ·rw[agF e]at q;rwa[f.e l j x q]
def pK.own (h:pK H k W O c s e):O e:=by
 let⟨D,E,f,a,b⟩:=h;rwa[a.o e (.inr (.inr ⟨c,s,b⟩))]
def pK.put (h:pK H k W O c s e){n:Int}(o:0<=n/\n<100000):∃a,H e\.dK a/\⇑a<sizeLine/\oq (upd H e (.dK (putK a (Sum.inl n) (.bl true)))) k (addW W c s n) O:=by
 let⟨D,E,g,b,j⟩:=h;let⟨a,f,r,l,m⟩:=g.QN j;rwa[⟨a,f,5,D,E,g.QO j f n,b.o,b.d,b.e,λx t u q=>?_⟩]
 ·rwa[agu (vn (n:=100000) (lo:=0) r l m λi v y=>?_) ⋯];by_cases w:W c s i=true
  ·have:=b.w _ _ _ w;ext
  cbv
 ·rcases dv.mp q with q|⟨_,_,q⟩
  ·rwa[b.w _ _ _ q]
  ·rw[q];rwa[o]
def oq.get (h:oq H k W O):∃o,fY H k (.int c) o/\((o=none/\∀s n,W c s n=false)\/∃d,o\↑d/\fB H k W O c d):=by
 let⟨D,E,a,i⟩:=h;let⟨b,j,r,q,f⟩:=a.QM;let g:=fY.k (k:=Sum.inl c) j;rw[f]at g;erw[_,g]
 cases e:D c with
 |none=>
  rwa[.inl ⟨2,λs n=>?_⟩]
  cases w:W c s n with
  |false=>rfl
  |true=>
   let⟨x,l⟩:=a.se _ _ _ w;let⟨y,m⟩:=a.ed _ _ _ l
   cbv
 |some d=>exact .inr ⟨d,2,D,E,a,i,e⟩
theorem Aw:∀{a:List (Key×V)},(a.map (·.1)).Nodup->(∀b∈a,∃n:Nat,b.1=Sum.inl (n:Int))->∃ns:Zh,a.map (λb=>kV b.1)=ao (nI ns)/\ns.Nodup/\∀n:Nat,n∈ns↔Sum.inl (n:Int)∈a.map (·.1)
 |[],_,_=>⟨[],2,ah6,λn=>⟨(λz=>by ext z),(λz=>by ext z)⟩⟩
 |b::r,f,h=>by
  rw[ahA,agX]at f;let⟨ns,i,l,j⟩:=Aw f.2 λx o=>h x (agS _ o)
  let⟨m,g⟩:=h b (agA ..);rwa[⟨m::ns,5,agX.mpr ⟨λz=>f.1 ([g]▸(j m).mp z),l⟩,λn=>?_⟩]
  ·rw[ahA,i,g];rfl
  cbv
def DC {a:List (Key×V)}{v:V}(h:bB a (Sum.inl z)\v):Sum.inl z∈a.map (·.1):=ahc.mpr ⟨_,JD h,2⟩
theorem fB.pop (h:fB H k W O c d)(s:Int):∃a,H d\.dK a/\(bB a (Sum.inl s)=none->∀n,W c s n=false)/\
 ∀v,bB a (Sum.inl s)\v->∃(e:Zs) (f:List (Key×V)) (ns:Zh),v=↑e/\e≠d/\H e\.dK f/\f.map (λt=>kV t.1)=ao (nI ns)/\ns.Nodup/\(∀n:Nat,n∈ns↔W c s n=true)/\oq (upd H d (.dK (eX a (Sum.inl s)))) k (gj W c s) O:=by
 let⟨D,E,o,l,hd⟩:=h;let⟨a,A,S,Q,B⟩:=o.JF hd;rwa[⟨a,A,λu n=>?_,λv u=>?_⟩]
 ·rw[B]at u
  cases w:W c s n with
  |false=>rfl
  |true=>
   let⟨x,R⟩:=o.se _ _ _ w
   cbv
 ·rw[B]at u;let⟨e,F,rfl⟩:=ahx.mp u;let⟨f,M,y,G,I⟩:=o.QN F
  let r:∀i:Int,Sum.inl i∈f.map (·.1)↔W c s i=true:=λi=>by
   constructor
   ·intro z;let⟨t,g,e⟩:=ahc.mp z;have:=As y g
    cbv
   ·intro w;rwa[DC (v:=.bl true) (by rw[I,agI w])]
  let⟨ns,N,L,P⟩:=Aw y λt g=>by
   let⟨i,C⟩:=G t g;have:=l.w _ _ _ ((r i).mp (by rw[<-C];rwa[aiS g]));rwa[i.toNat,by rw[C];congr 1;ext]
  rwa[⟨e,f,ns,2,λz=>o.de _ _ _ _ hd (by rw[<-z];rwa[F]),M,N,L,λn=>(P n).trans (r n),11,o.JH hd A,⟨λb J=>l.o b ?_,l.d,λm j x q=>?_,λm j n q=>l.w _ _ _ (df.mp q).1⟩⟩]
  ·rcases J with z|z|⟨m,j,z⟩
   ·rwa[.inl z]
   ·rwa[.inr (.inl z)]
   ·dsimp only at z;by_cases e:m=c/\j=s
    ·cbv
    ·rw[agF e]at z;rwa[.inr (.inr ⟨m,j,z⟩)]
  ·by_cases e:m=c/\j=s
   ·rw[agI e]at q;ext q
   ·rw[agF e]at q;rwa[l.e _ _ _ q]
def G8 {P:Nat->Bool}{G:Nat}:∀{ns:Zh},ns.Nodup->(∀n∈ns,n<G/\P n=true)->⇑ns<=(List.range G).countP P:=by
 intro ns
 induction ns generalizing P with
 |nil=>exact λ_ _=>agP _
 |cons m r i=>
  intro g h;rw[agX]at g;let⟨f,b⟩:=h m (agA ..);have:=lF (p:=P) (p':=λa=>P a && decide (a≠m)) (v:=m) (λa=>rfl) b G;rw[agI f]at this
  cbv
def xn {W:bG}{c s:Int}(h:∀n,W c s n=false):gj W c s=W:=by
 funext b a n
 rw[ahK,df]
 cbv
end
theorem NZ {CX:lg}{base:Heap}{k:Nat}{name qual:Str}{params:Arguments}{body:Expr}{scope:Scope}{pm:Zt}{i:Zp}
 {A:Around} {f:Zq} {s:Zu} {H:Hp} {g:Args} {us:Zk} {vs:Zb} {Q:VK} {E:XK} {t:TE} (S:aT Z i scope) (L:⇑vs=⇑i) (m:cy (k+ 1) A) (j:lQ P w K M base A f s H)
 (G:s.heap.get? a\PySem.W.kla_obj name qual params body scope [] pm c v) (l:s.heap.CodeRec ↑c qual) (B:bindArgs (PySem.W.kla_fn name qual params body scope [] pm ↑c v) g=pure (i.zip us)) (r:Vals vs us)
 (F:PE (cz CX P w K M base Z qual scope a ↑c A f s H E) body t) (C:t (start Z vs) H Q):codeAny (model P w) A (.call ↑a g) (CR CX f P w H s Q E) s:=by
 let lim:s.heap.NoLimit:=j.mod.nolimit.keeps λb o e=>(j.bs b o e).1
 let h:∀y∈i.zip us,scope.names.lookup y.1=some .local\/(scope.names.lookup y.1=some .cell/\((cellsFrom (↥s+ 1) scope.names []).lookup y.1).isSome=true):=λζ N=>by
  let⟨n,d⟩:=ζ
  rcases S.par n (List.of_mem_zip N).1 with q|q
  ·rwa[.inl q]
  ·rwa[.inr ⟨q,ajG _ _ _ (.inl q)⟩]
 rwa[PySem.W.kla_callFunE m.depth G rfl S.co S.gen rfl l ?_];rw[B];rwa[agn (wpAny_newFunctionEnv_cells S.kind h λenv R p x=>?_)];subst R;rwa[⟨lim.keeps x.toInCall.keep,PySem.W.kla_codeExpr ?_⟩];let I:Inv (cz CX P w K M base Z qual scope a ↑c A f s H E) [] (start Z vs) H p:=yg S m.hd j L r x;rwa[ahk (F [] p (start Z vs) H Q I C) (λu z ζ=>?_) λe z O=>O];let⟨d,T,J,D,q⟩:=ζ
 rwa[d,T,J.os,J.bare,J.base,J.aL,D,q]
def c9 (d:Zs)(pos:Pos)(qual:Str)(H:Hp):Prop:=
 H d=some (.fw #[])\/∃(c:Zs) (b:Obj) (a:Zm) (t:Tok),H d\(.fw #[rawInt pos.line,rawInt pos.col,↑c])/\H c\.cR b (.own c)/\b.data=.fields a/\a[1]?\(.str qual t)
def c9.keep {pos:Pos}{qual:Str}(h:c9 a pos qual H)(k:∀b u,H b\u->(∃d,u=.fw d)\/(∃o v,u=.cR o v)->I b\u):c9 a pos qual I:=by
 rcases h with h|⟨c,j,e,t,i,f,l,g⟩
 ·rwa[.inl (k _ _ h (.inl ⟨_,rfl⟩))]
 ·rwa[.inr ⟨c,j,e,t,k _ _ i (.inl ⟨_,rfl⟩),k _ _ f (.inr ⟨_,_,rfl⟩),l,g⟩]
def j3 (c:Str->Zl)(base:Heap):Prop:=∃(b:Zs) (a:Obj),c "__builtins__"=some ↑b/\base.get? b\a/\(a.cls=.type "module"/\a.dict\builtinsNs/\a.data=.plain)/\b≠builtinsNs
section
variable {X:Cx}{pins:List (Zs×Obj)}{σ:St}{H:Hp}{s:Zu}
theorem QZ {params:Arguments}{body:Expr}{scope:Scope}{pos:Pos}(I:Inv X pins σ H s)(A:X.env.code=↑c)(hC:PySem.W.codeHdIn X.K c a=true)
 (ou:closureFor scope X.env=pure []) (W:defaultsOf params X.env=([],[])) (hT:c9 a pos (X.env.qual++"<lambda>") H)
 (hB:j3 X.mg X.base)
 (h:∀(f g:Zs) (m:Obj) (D:Zm) (t:Tok) (pm j:Zt) (B:Hp) (s2:Zu),Inv X (pins++[(f,PySem.W.kla_obj "<lambda>" (X.env.qual++"<lambda>") params body scope [] pm g j)]) σ B s2->B g\.cR m (.own g)->m.data=.fields D->D[1]?\.str (X.env.qual++"<lambda>") t->
  c9 a pos (X.env.qual++"<lambda>") B->(∀b u,b≠a->H b\u->B b\u)->Q ↑f s2):
 X⁻¹ X.A (eval (.Lambda params body scope pos) X.env) Q E s:=by
 let⟨bm,ob,b1,b2,b3,b4⟩:=hB;rwa[PySem.W.kla_eval W ?_]
 let C:s.heap.Ns mainGlobals X.mg:=by
  let⟨o,es,ep,e,r⟩:=I.ok.mod.glob;rwa[o,es,ep,I.bk^e,r]
 let VL:=PySem.W.codeHd_of_K I.dk hC;let R:s.heap.get? bm\ob:=I.bk^b2
 let hPH:∃ps,H a\(.fw ps):=by
  rcases hT with z|⟨L,_,_,_,z,_⟩
  ·rwa[⟨_,z⟩]
  ·rwa[⟨_,z⟩]
 let⟨V,S⟩:=hPH
 let neP:∀{b:Zs} {o:Obj},s.heap.get? b\o->o.cls≠.none->b≠a:=λ{b o} e hc z=>by
  have:=I.aL^S;rw[z,show s.heap.get? a=some { cls:=.none,data:=.fields V } from this]at e
  cbv
 let hbP:bm≠a:=neP R (by cbv)
 let hgP:mainGlobals≠a:=λz=>by
  let⟨o,es,ep,e,hd,_⟩:=C;have:=I.aL^S;rw[z,show s.heap.get? a=some { cls:=.none,data:=.fields V } from this]at e
  cbv
 let hbG:bm≠mainGlobals:=λz=>by
  let⟨o,es,ep,e,hd,_⟩:=C
  cbv
 let hB:s.heap.BuiltinsAt X.mg a:=⟨bm,ob,b1,b4,hbG,hbP,R,b3.1,b3.2.1,b3.2.2⟩
 let fin:∀{f:Zs} {B:Hp} {s2:Zu} {o:Obj},Inv X pins σ B s2->↥s<=f->s2.heap.get? f\o->B f=none->(∀v,o.data≠.cell v)->Inv X (pins++[(f,o)]) σ B s2:=λ{f B s2 o} J hf e n hd=>J.jf λp Z=>by
  rcases agv.mp Z with Z|Z
  ·rwa[J.pin p (agr _ Z)]
  ·rw[ago.mp Z];rwa[e,n,ahw (agM I.lt hf),I.Es hf,hd]
 rcases hT with M|⟨L,m,D,t,M,qP,x,y⟩
 ·let F:s.heap.get? a\(PySem.W.tabObj #[]):=I.aL^M;rwa[PySem.W.kla_makeFunction (mg:=X.mg) ou I.ok.glob C A VL F trivial rfl hgP hB λg j U tk hx G P N O=>?_]
  let⟨c2,m,D,t,e2,Y,x,y⟩:=N;ext e2;let lb:∀b u,H b\u->b≠g:=λb u e z=>absurd (I.aL b u e).lt ([z]▸Nat.not_lt.mpr G)
  let hcP:g≠a:=(lb a _ M).symm;let k1:∀b o,b≠a->s.heap.get? b\o->(U.push (PySem.W.kla_obj "<lambda>" (X.env.qual++"<lambda>") params body scope [] ((X.mg "__name__").getD .none) g j)).get? b\o:=λb o w e=>agi _ (hx b o w e)
  let eP2:(upd (upd H a (.fw #[rawInt pos.line,rawInt pos.col,↑g])) g (.cR m (.own g))) a\(.fw #[rawInt pos.line,rawInt pos.col,↑g]):=by rw[ak hcP.symm,ah]
  let i:∀b u,b≠a->H b\u->(upd (upd H a (.fw #[rawInt pos.line,rawInt pos.col,↑g])) g (.cR m (.own g))) b\u:=λb u w e=>by rw[ak (lb b u e),ak w];rwa[e]
  let J:Inv X pins σ (upd (upd H a (.fw #[rawInt pos.line,rawInt pos.col,↑g])) g (.cR m (.own g))) { s with heap:=U.push (PySem.W.kla_obj "<lambda>" (X.env.qual++"<lambda>") params body scope [] ((X.mg "__name__").getD .none) g j),toks:=tk }:=by
   rwa[I.un ⟨λb o e n _ _=>k1 b o (λz=>by cbv) e,λb o e n _ _=>⟨o.slots,k1 b o (λz=>by cbv) e⟩,λb o e n _=>?_,λb o e _=>?_,λb xs e=>i b _ (λz=>by cbv) e,λb o u e=>i b _ (λz=>by cbv) e,λb qs e=>?_⟩ λb u e=>?_]
   ·rw[ak (agO (agM (agC e) G)),ak (λz=>by cbv)];rwa[n]
   ·by_cases w:b=a
    ·subst w;rwa[_,agi _ O]
    ·rwa[o,k1 b o w e]
   ·by_cases w:b=a
    ·cbv
    ·rwa[#[],by rw[i b _ w e];simp]
   ·by_cases w:b=g
    ·subst w;rw[ah]at e;ext e;rwa[agi _ Y,m,agi _ Y]
    ·rw[ak w]at e;by_cases T:b=a
     ·subst T;rw[ah]at e;ext e;rwa[agi _ O]
     ·rw[ak T]at e;rwa[(I.aL b u e).fi (λd v hd q=>k1 d v ?_ q) (λd q=>?_) λd xs q=>?_]
      ·cbv
      ·rwa[i d _ (λz=>by cbv) q]
      ·rwa[i d _ (λz=>by cbv) q]
  let l:↥s<=U.objs.size:=agz G (ajp P);rwa[h _ g m D t _ j _ _ (fin J l (agy _ rfl) ?_ λv z=>nomatch z) ah x y (.inr ⟨g,m,D,t,eP2,ah,x,y⟩) i];rw[ak (ahw P),ak (λz=>absurd (I.aL^M).lt (by rw[<-z];rwa[Nat.not_lt.mpr l]))];rwa[I.aL.fresh l]
 ·let F:s.heap.get? a\(PySem.W.tabObj #[rawInt pos.line,rawInt pos.col,↑L]):=I.aL^M;rwa[PySem.W.kla_makeFunctionHit (mg:=X.mg) (cv:=↑L) ou I.ok.glob C A VL F (by simp[TriplesOk,rawInt]) (by simp[codeAmong,rawInt]) hB λj U tk k l=>?_]
  let J:Inv X pins σ H { s with heap:=U.push ("function">>>.func (PySem.W.kla_fn "<lambda>" (X.env.qual++"<lambda>") params body scope [] ((X.mg "__name__").getD .none) ↑L j)),toks:=tk }:=I.kept λb u e=>agi _ (k b u e)
  rwa[h _ L m D t _ j H _ (fin J l (agy _ rfl) (I.aL.fresh l) λv z=>nomatch z) qP x y (.inr ⟨L,m,D,t,M,qP,x,y⟩) λb u _ e=>e]
structure Fp (X:Cx) (pq:List (Zs×Obj)) (H:Hp) (b:Zs):Prop where
 none:H b=none
 loc:b≠X.env.locals
 fs:b∉X.fs
 new:X.dY.heap.objs.size<=b
 cell:∀x c,X.env.cells.lookup x\c->c≠b
 pin:∀p∈X.pn++pq,p.1≠b
def vt (I:Inv X o σ H s)(h:↥s<=b):Fp X o H b:=
 ⟨I.aL.fresh h,ahw (agM I.lt h),I.Es h,agz I.sz h,λx c e z=>by
  let⟨v,d⟩:=I.cell x c e;rwa[absurd d.lt ([z]▸Nat.not_lt.mpr h)],λp a z=>absurd (agC (I.pin p a).1) ([z]▸Nat.not_lt.mpr h)⟩
def Inv.E8 {b:List (Zs×Obj)}(I:Inv X (o++b) σ H s):Inv X o σ H s:=I.jf λp a=>I.pin p (agr _ (agJ _ a))
abbrev Q0 (a:Zm) (c:Nat):Obj:={ cls:=.type "list",dict:=none,data:=.seq a c,slots:=#[] }
theorem G9 {it l:Zs}{ys:Zb}{kf:Nat->Int}{R:Result->Zu->Prop}(hh:X.A.in1.handled=none)(hq:aF X.K H l ys)(Y:l≠it)(n1:a≠it)(B:Fp X o H it)(C:Fp X o H a)
 (turn:∀(i:Nat) (y:V) (n:Zt) (pr:List (Zs×Obj)) (s':Zu),ys[i]?\y->RelV y n->Inv X (o++pr) σ H s'->X⁻¹ X.A.in1 (call ↑b [n]) (λu s2=>∃t,u=.int (kf i) t/\Inv X (o++pr) σ H s2) (λ_ _=>False) s')
 (hR:∀n s',(ys=[]/\n=v\/∃(j:Nat) (y:V),ys[j]?\y/\RelV y n/\∀q,q<⇑ys->kf j<=kf q/\(q<j->kf j<kf q))->Inv X o σ H s'->R (.ok (.ret n)) s'):
 ∀(k i:Nat) (s:Zu) (old:Zm) (c:Nat),⇑ys - i=k->i<=⇑ys->Inv X o σ H s->s.heap.IsListIter it l i->s.heap.get? a\Q0 old c->
 ((i=0/\old=#[])\/∃(j:Nat) (y:V) (vb:Zt) (T:Tok),j<i/\ys[j]?\y/\RelV y vb/\old=#[vb,.int (kf j) T]/\∀q,q<i->kf j<=kf q/\(q<j->kf j<kf q))->
 codeAny (model X.prog X.w) X.A (.builtin "min.loop" ⟨[↑it,↑b,↑a],[("default",v)]⟩) R s:=by
 let nm:(toString "min"++toString ".loop":String)="min.loop":=⋯
 let J:∀m:Zs,m≠it->m∉[it]:=λm r z=>r (ago.mp z)
 intro k
 induction k with
 |zero=>
  intro i s old c hk hi I hit r hold;let⟨D,hv,pl,hz⟩:=I.list hq;let Q5:=⇑hv;let W:=Walks.list (prog:=X.prog) (w:=X.w) (A:=X.A.in1) hh it l Y D.toArray;let ei:i=⇑D:=∅
  rwa[ajB F.entry_min_loop ?_];rw[ajj aiV _];show wpAny _ X.A.in1 (seqItems? ↑a >>=_) _ _ s;rwa[agg (aiY r rfl ?_)];show wpAny _ X.A.in1 (tryCatch (pyNext ↑it) _ >>=_) _ _ s;rwa[agg (ajQ (W.done s _ _ ⟨by cbv,pl.isList⟩ λh' L kp=>?_))];let N:=kp a _ (J _ n1) r;let I2:Inv X o σ H { s with heap:=h',toks:=L }:=I.turned (λm f r e=>kp m f (J _ r) e) B.none B.loc (.inr B.new) B.cell B.pin;rcases hold with ⟨e0,rfl⟩|⟨j,y,vb,T,hj,hy,rb,rfl,d⟩
  ·let en:ys=[]:=ahM (by omega);rwa[agg (ajN ?_)];rwa[agn (hR v _ (.inl ⟨en,2⟩) I2)]
  ·show wpAny _ X.A.in1 (updateSeq a (λ_=>#[]) >>=_) _ _ _;rwa[agg (aiJ N rfl (agg (ajO (agn ?_))))];rwa[hR _ _ (.inr ⟨j,y,hy,rb,λq Q=>d q ∅⟩) (I2.turned (t':=L) (λm f r e=>(ag3^ahC r).trans e) C.none C.loc (.inr C.new) C.cell C.pin)]
 |succ k ih=>
  intro i s old c hk hi I hit r hold;let⟨D,hv,pl,hz⟩:=I.list hq;let Q5:=⇑hv;let nV:i<⇑D:=∅
  let W:=Walks.list (prog:=X.prog) (w:=X.w) (A:=X.A.in1) hh it l Y D.toArray;rwa[ajB F.entry_min_loop ?_];rw[ajj aiV _];show wpAny _ X.A.in1 (seqItems? ↑a >>=_) _ _ s;rwa[agg (aiY r rfl ?_)];show wpAny _ X.A.in1 (tryCatch (pyNext ↑it) _ >>=_) _ _ s;rwa[agg (ajQ (W.item i s _ _ ∅ ⟨hit,pl.isList⟩ λn h' L hP Hc kp=>?_))];let⟨⟨oI,hoI,Q6,S⟩,DE⟩:=Hc;let N:=kp a _ (J _ n1) r;let I2:Inv X o σ H { s with heap:=h',toks:=L }:=I.turned (λm f r e=>kp m f (J _ r) e) B.none B.loc (.inr B.new) B.cell B.pin;let E:ys[i]?\(ys[i]'∅):=agl ∅
  generalize ys[i]'∅=y at E;let⟨u,hu,ru⟩:=hv.get (i:=i) (x:=y) E;let DF:D[i]?\n:=by simpa using hP
  rw[hu]at DF;let euv:u=n:=Za0 DF;subst euv;let dI:∀z,oI.data≠.cell z:=λz e=>by rw[S]at e;ext e
  let J2:Inv X (o++[(it,oI),(a,Q0 old c)]) σ H { s with heap:=h',toks:=L }:=I2.jf λp O=>by
   rcases agv.mp O with O|O
   ·rwa[I2.pin p (agr _ O)]
   ·rcases agB.mp O with rfl|O
    ·rwa[⟨hoI,B.none,B.loc,B.fs,dI⟩]
    ·rw[ago.mp O];rwa[N,C.none,C.loc,C.fs,λz e=>nomatch e]
  show wpAny _ X.A.in1 (tryCatch (holding [u] (call ↑b [u])) _ >>=_) _ _ _;rwa[agg (ajQ (ahn (ahk (turn i y u _ _ E ru J2) (λx G he=>?_) λ_ _ hF=>hF.elim)))];let⟨U,rfl,J3⟩:=he;let pI:=(J3.pin (it,oI) (agr _ (agr _ (.head _)))).1;let Z:=(J3.pin (a,Q0 old c) (agr _ (agr _ (.tail _ (.head _))))).1;let I3:=J3.E8;let Yn:G.heap.IsListIter it l (i+ 1):=⟨oI,pI,Q6,S⟩;let VM:∀(g:Zm->Zm),(G.heap.update a (Obj.mapSeq g)).IsListIter it l (i+ 1):=λg=>⟨oI,(ag3^n1).trans pI,Q6,S⟩
  let VN:∀(g:Zm->Zm) (L:Nat),Inv X o σ H { G with heap:=G.heap.update a (Obj.mapSeq g),toks:=L }:=λg L=>I3.turned (λm f r e=>(ag3^ahC r).trans e) C.none C.loc (.inr C.new) C.cell C.pin
  rcases hold with ⟨e0,rfl⟩|⟨j,y0,vb,T,hj,hy,rb,rfl,d⟩
  ·subst e0;show wpAny _ X.A.in1 (updateSeq a (λ_=>#[u,.int (kf 0) U]) >>=_) _ _ _;rwa[agg (aiJ Z rfl ?_)];rw[nm]
   exact agn ⟨aiR aiV _,ih 1 _ _ _ ∅ ∅ (VN _ _) (VM _) (ag2 _ Z rfl) (.inr ⟨(0),y,u,U,3,E,ru,2,λq Q=>by
    let e:q=0:=∅
    subst e;rwa[Int.le_refl _,λz=>absurd z (ahz _)]⟩)⟩
  ·show wpAny _ X.A.in1 (tryCatch (holding [u,.int (kf i) U] (richCompare .Lt (.int (kf i) U) (.int (kf j) T) >>=_)) _ >>=_) _ _ _;rwa[agg (ajQ (ahn (agg (CmpOf.ints_lt (prog:=X.prog) (w:=X.w) (A:=X.A.in1) (P:=λi n=>∃t,n=.int (kf i) t) kf (λi n h=>h) i j _ _ _ _ _ ⟨U,2⟩ ⟨T,2⟩ ?_))))];rwa[agg (ahn (aiB ?_))];rwa[agg (ajO (agn ?_))];by_cases Ax:kf i<kf j
   ·simp only[Ax,decide_true,ajM];rwa[agg (aiJ Z rfl (agg (ajO ?_)))];rw[nm];rwa[agn ⟨aiR aiV _,ih (i+ 1) _ _ _ ∅ ∅ (VN _ _) (VM _) (ag2 _ Z rfl) (.inr ⟨i,y,u,U,3,E,ru,2,λq Q=>?_⟩)⟩];by_cases e:q=i
    ·subst e;rwa[Int.le_refl _,λz=>absurd z (ahz _)]
    ·let h1:=(d q ∅).1;rwa[3,λ_=>∅]
   ·simp only[Ax,decide_false,ai3,ajf];rwa[agg (ajO ?_)];rw[nm];rwa[agn ⟨aiR aiV _,ih (i+ 1) _ _ _ ∅ ∅ I3 Yn Z (.inr ⟨j,y0,vb,T,3,hy,rb,2,λq Q=>?_⟩)⟩];by_cases e:q=i
    ·subst e;rwa[3,λ_=>∅]
    ·rwa[d q ∅]
def aF.fT {H:Hp}{ys:Zb}{d:Zm}(h:aF K H a ys)(f:H b\.fw d)(k:∀c u,c≠b->H c\u->I c\u):aF K I a ys:=by
 rcases h with h|h
 ·rcases h with e|⟨o,e⟩
  ·rwa[.inl (.inl (k _ _ (λz=>by cbv) e))]
  ·rwa[.inl (.inr ⟨o,k _ _ (λz=>by cbv) e⟩)]
 ·rwa[.inr h]
def JK (a f d:Zt):checkBuiltinCall "min" ⟨[a],[("key",f),("default",d)]⟩=pure ():=by kernel_rfl
def UX (K:Za1)(e:Zs)(f:Pos)(qual:Str)(g:TE)(k:TA):TE:=λ σ H Q=>k σ H λh d=>∃(l:Zs) (ys:Zb) (c:Nat->Int),h=[↑l]/\aF K d l ys/\c9 e f qual d/\
 ∀a,c9 e f qual a->(∀b u,b≠e->d b\u->a b\u)->(∀(i:Nat) (y:V),ys[i]?\y->g [some y] a λv m=>v=.int (c i)/\m=a)/\(ys=[]->Q .non a)/\
  ∀(i:Nat) (y:V),ys[i]?\y->(∀j,j<⇑ys->c i<=c j/\(j<i->c i<c j))->Q y a
theorem N0 {body:Expr}{tb:TE}{w O G kq lp:Pos}{k:Nat}{params:Arguments}{scope:Scope}(hc:X.calm=true)(hg:Gl X "min")(hm:X.mg "min"=none)(he:PE X e r)
 (L:X.env.code=↑c) (hC:PySem.W.codeHdIn X.K c a=true) (ou:closureFor scope X.env=pure []) (V:defaultsOf params X.env=([],[]))
 (hB:j3 X.mg X.base) (hr:cy (k+ 2) X.A) (S:aT [x] [x] scope)
 (W:∀(pm C:Zt) (B:Zs) (u:Zt),bindArgs (PySem.W.kla_fn "<lambda>" (X.env.qual++"<lambda>") params body scope [] pm ↑B C) ⟨[u],[]⟩=pure [(x,u)])
 (D:∀(A:Around) (N:Zq) (s:Zu) (H:Hp) (f B:Zs),cy k (A.deeper (envOfC (X.env.qual++"<lambda>") scope ↥s f ↑B))->PE (cz VD X.prog X.w X.K X.mg X.base [x] (X.env.qual++"<lambda>") scope f ↑B A N s H E0) body tb)
 (hs:starEach [e] X.env=(false,eval e X.env)::starEach [] X.env:=by rfl)
 (kH:((backTo w (starEach [e] X.env)).any (·.1) || (backToKw w (keywordEach [⟨some "key",.Lambda params body scope lp,O⟩,⟨some "default",.Constant .none j kq,G⟩] X.env)).any (·.1.isNone))=false:=by rfl):
 PE X (.Call (.Name "min" p) [e] [⟨some "key",.Lambda params body scope lp,O⟩,⟨some "default",.Constant .none j kq,G⟩] w) (UX X.K a lp (X.env.qual++"<lambda>") tb (jD r jV)):=by
 intro pins s σ H Q I h;rwa[aht (gT I hg hm PyProof.Rows.boot_min ?_)];rwa[PySem.W.callWith_of (P:=λ_=>True) kH (λ_ _=>⟨.machine,.inr (.inl rfl),λ_ _ _ _ _ q=>agn q⟩) (evalArgs_kw2 rfl (a9 ((ae he aj hs) w pins s σ H _ I h) λus s1 ζ=>?_) hs)];let⟨vs,H1,I1,g,q⟩:=ζ;let⟨l,ys,kf,rfl,hq,hT,q⟩:=q;let⟨u,rfl,ru⟩:=vals1 g;ext ru;rwa[kwAll_cons (QZ I1 L hC ou V hT hB λf B oc cvs ct pm C H2 s2 I2 Lx hvs hv1 Z n=>?_)];rwa[a9 ((C9 cO Gf:PK X [⟨some "default",.Constant .none j kq,G⟩] _) w _ s2 σ H2 (λzs M=>zs=[.non]/\M=H2) I2 ⟨22⟩) λws s3 ζ=>?_];let⟨zs,M,U,rz,R,e2⟩:=ζ;rwa[⟨True.intro,5⟩]
 subst R e2;let⟨u2,rfl,ru2⟩:=vals1 rz;ext ru2;let⟨q1,q2,q3⟩:=q M Z n
 let T:aF X.K M l ys:=by
  rcases hT with z|⟨_,_,_,_,z,_⟩
  ·rwa[hq.fT z n]
  ·rwa[hq.fT z n]
 show wpAny _ _ (call (.builtin "min") [↑l] [("key",↑f),("default",.none)]) _ _ s3;let nm:(toString "min"++toString ".loop":String)="min.loop":=⋯
 rwa[aiW (ahX F.plain_min F.entry_min (wpAny_of_eq (JK^_) ?_))];show wpAny _ X.A.in1 (Builtin.Builtins.bindParams "min" ["key","default"] 0 ⟨[],[("key",↑f),("default",.none)]⟩ >>=_) _ _ s3;rwa[agg (wpAny_of_eq (show Builtin.Builtins.bindParams "min" ["key","default"] 0 ⟨[],[("key",↑f),("default",.none)]⟩=pure #v[↑f,some .none] from rfl) ?_)];let⟨its,rv,pl,hz⟩:=U.list T;rwa[agg (agn (agg (aiE pl.isList ?_)))];let⟨ol,Q7,Q6,Q8⟩:=id pl.isList;rwa[agg (ahd ?_)];let nV:=agC Q7;let hsz:(s3.heap.push ("list_iterator">>>.fields #[↑l,.int 0 0])).objs.size=↥s3+ 1:=ah5 ..;let kp4:∀(b:Zs) (o:Obj),s3.heap.get? b\o->((s3.heap.push ("list_iterator">>>.fields #[↑l,.int 0 0])).push ("list">>>.seq ([]:Zk).toArray)).get? b\o:=λb o d=>agi _ (agi _ d)
 let I4:=U.kept (t':=s3.toks) kp4;rw[nm];rwa[agn ⟨aiR aiV _,G9 (X:=X) (σ:=σ) (H:=M) (ys:=ys) (kf:=kf) (it:=↥s3) (l:=l) (U.ok.hd hc) T (agO nV) (by cbv) (vt U (agp _)) (vt U (by cbv)) (λi y v pr s' hy rv' J=>?_) (λv s' hw J=>?_) _ 0 _ #[] 0 rfl (agP _) I4 ⟨_,agi _ (agy _ rfl),22⟩ (agy _ rfl) (.inl ⟨22⟩)⟩]
 ·let hf:=(J.pin (f,_) (agr _ (agJ _ (agr _ (.head _))))).1;let hcr:s'.heap.CodeRec ↑B (X.env.qual++"<lambda>"):=⟨B,oc,cvs,ct,2,(J.aL^Lx).1,hvs,hv1⟩;rwa[aiW (aiO (NZ (CX:=VD) (E:=E0) (k:=k) (vs:=[y]) (us:=[v]) S rfl hr.in1 J.zM.in1 hf hcr (W pm C B v) (.cons rv' .nil) (D _ _ _ _ f B (hr.in1.deeper _)) (q1 i y hy)) λg s2 m=>?_)]
  cases g with
  |error d=>exact m.elim
  |ok fl=>
   cases fl with
   |next=>exact False.elim m
   |brk=>exact False.elim m
   |cont=>exact False.elim m
   |ret u=>
    let⟨v2,H4,J4,Y,R,e2⟩:=J.after m;subst R e2;let⟨t,rfl⟩:=Y;rwa[t,2,J4]
 ·rcases hw with ⟨R,rfl⟩|⟨i,y,hy,ry,hb⟩
  ·rwa[⟨.non,M,J.E8,rfl,q2 R⟩]
  ·rwa[⟨y,M,J.E8,ry,q3 i y hy hb⟩]
end
theorem Hd {D:Str->Zl}{CX:lg}{k:Nat}{fd:FuncData}{O:Sp}{ns:Zg}
 (R:K.In s.heap) (n:s.heap.Ns mainGlobals M) (g:s.heap.Ns builtinsNs D) (G:∀x:Str,x≠"__name__"->D x=bootBuiltins x) (p:s.heap.NoLimit) (hg:s.gens=#[])
 (J:s.heap.get? b\("list">>>.seq N.toArray)) (Y:IntsAre N ns) (W:⇑ns<=sizeLine) (hr:cy k callerA)
 (Fn:∀base:Heap,K.In base->base.Ns mainGlobals M->j3 M base->di P w K M base CX k a fd [x] O) (hB:j3 M s.heap) (l:∀(s:Zu) (u:Zt),BindsTo s fd ⟨[u],[]⟩ [(x,u)])
 (L:s.heap.get? c\(PySem.W.tabObj #[])) (hKP:K.lookup c=none) (E:isCodeTable s.heap c)
 (I:∀H:Hp,H c\(.fw #[])->aF K H b (ns.map V.int)->O [↑b] H (λv _=>v=.bl true) λ_ _ _=>False)
 (F:∀H e i,CX [] H s (λ_ _ _=>False) e i->False):
 codeAny (model P w) callerA (.call ↑a ⟨[↑b],[]⟩) (λr i=>r=.ok (.ret (.bool true))/\OldK s.heap i.heap/\i.os=s.os/\AllBare i.gens) s:=by
 let rv:=yj Y;let C:b≠c:=λz=>by cbv
 let main:∀H:Hp,H c\(.fw #[])->(∀f u,H f\u->K.lookup f=none/\(f=c\/f=b/\∃X,u=.cR ("list">>>.seq N.toArray) (.lst X)))->aF K H b (ns.map V.int)->dz P w H s.heap->
  codeAny (model P w) callerA (.call ↑a ⟨[↑b],[]⟩) (λr i=>r=.ok (.ret (.bool true))/\OldK s.heap i.heap/\i.os=s.os/\AllBare i.gens) s:=by
  intro H T Q h3 S
  let nodict:∀{f:Zs} {o:Obj} {t:Array DictEntry} {A:Nat},s.heap.get? f\o->o.data=.dict t A->H f=none:=λ{f o t A} e d=>by
   cases q:H f with
   |none=>rfl
   |some u=>
    cbv
  let y:∀{f:Zs} {m:Str->Zl},s.heap.Ns f m->(pe s.heap H).Ns f m:=λ{f m} ζ=>by let⟨o,t,A,e,d,r⟩:=ζ;rwa[⟨o,t,A,t9 e (nodict e d),d,r⟩]
  let Z:K.In (pe s.heap H):=λf o e=>t9 (R f o e) (by
   cases q:H f with
   |none=>rfl
   |some u=>rw[(Q f u q).1]at e;ext e)
  let md:Mod K M (pe s.heap H):=⟨Z,y n,⟨D,y g,G⟩,let ⟨mc,z1,z2⟩:=p;⟨mc,y z1,z2⟩⟩;let e0:lQ P w K M (pe s.heap H) callerA [] s H:=⟨2,md,λf o e=>M4 e,ajr (F2 _ _),trivial,λf z=>absurd (show f∈([]:Zn) from z) (by simp),S,.of_eq hg⟩
  let bb:j3 M (pe s.heap H):=by
   let⟨U,ob,b1,b2,b3,b4⟩:=hB;rwa[⟨U,ob,b1,t9 b2 ?_,b3,b4⟩]
   cases q:H U with
   |none=>rfl
   |some u=>
    cbv
  rwa[aiO ((Fn _ Z (y n) bb).run callerA [] s H ⟨[↑b],[]⟩ [↑b] [↑b] _ _ hr e0 (l s ↑b) (.cons rfl .nil) (I H T h3)) λr i h=>?_]
  cases r with
  |error e=>exact(F H e i h).elim
  |ok fl=>
   cases fl with
   |next=>exact False.elim h
   |brk=>exact False.elim h
   |cont=>exact False.elim h
   |ret u=>
    let⟨v,H',os,bare,un,j,r',q⟩:=h;let q':v=.bl true:=q;subst q';obtain rfl:u=Value.bool true:=r'
    let each:∀f o,s.heap.get? f\o->asItWas s.heap i.heap f o/\∃o',i.heap.get? f\o':=λf o e=>by
     cases q:H f with
     |none=>
      let z:=un.keep f o e q (by intro z;rwa[absurd (show f∈([]:Zn) from z) (by simp)]) (by simp);rwa[.inl z,o,z]
     |some u=>
      rcases (Q f u q).2 with rfl|⟨rfl,X,rfl⟩
      ·rw[L]at e;ext e;let⟨more,z⟩:=un.hY^T;let z2:i.heap.get? f\{ cls:=.none,data:=.fields (#[]++more) }:=j^z;rwa[.inr (.inl ⟨E,2,#[],more,2,z2⟩),_,z2]
      ·let⟨z1,_⟩:=S^q;let⟨z2,_⟩:=j^un.gH _ _ _ q;rw[e]at z1;ext z1;rwa[.inl z2,_,z2]
    rwa[2,⟨λf o e=>(each f o e).1,λf o e=>(each f o e).2⟩,os,bare]
 cases B:K.lookup b with
 |some o=>
  let e:=R b o B;rw[J]at e;ext e;rwa[main (upd (λ_=>none) c (.fw #[])) ah (λf u z=>?_) (.inr ⟨_,N.toArray,_,B,222,[agD,⇑Y]▸W,3⟩) λf u z=>?_]
  ·by_cases g:f=c
   ·cbv
   ·rw[ak g]at z;ext z
  ·by_cases g:f=c
   ·subst g;rw[ah]at z;ext z;rwa[L]
   ·rw[ak g]at z;ext z
 |none=>
  rwa[main (upd (upd (λ_=>none) c (.fw #[])) b (.cR ("list">>>.seq N.toArray) (.lst (ns.map V.int)))) (by rw[ak C.symm,ah]) (λf u z=>?_) (.inl (.inr ⟨_,ah⟩)) λf u z=>?_]
  ·by_cases g:f=b
   ·subst g;rw[ah]at z;ext z;rwa[B,.inr ⟨212⟩]
   ·rw[ak g]at z;by_cases g:f=c
    ·cbv
    ·rw[ak g]at z;ext z
  ·by_cases g:f=b
   ·subst g;rw[ah]at z;ext z;rwa[J,[agm]▸W,N,_,rv,J]
   ·rw[ak g]at z;by_cases g:f=c
    ·subst g;rw[ah]at z;ext z;rwa[L]
    ·rw[ak g]at z;ext z
theorem qK.okT {mg:Str->Zl}{base:Heap}{j:lg}{qual:Str}{st:Stmt}{fd:FuncData}{f:Zp}{k:Nat}{sp:Sp}(F:qK K x qual st a fd)(hc:fd.code=↑c)(S:aT Z f (aB st))(len:∀b H Q E,sp b H Q E->⇑b=⇑f)
 (d:∀(A:Around) (outer:Zq) (s:Zu) (H:Hp) (b:Zb) (Q:VK) (E:XK),cy k (A.deeper (envOfC qual (aB st) ↥s a ↑c))->sp b H Q E->
  ∃t,iI (cz j P w K mg base Z qual (aB st) a ↑c A outer s H E).tH (cF st) t/\t { nx:=λ_ p=>Q .non p,rt:=Q } (start Z b) H):di P w K mg base j (k+ 1) a fd f sp:=by
 let⟨q,u,kV,doc,pm,r,g,ct,m,rfl,lk,i⟩:=F.ex;let e:g=↑c:=hc;subst e;rwa[zv lk i S len λA outer s H b Q E o h=>?_]
 let⟨t,n,l⟩:=d A outer s H b Q E o h;rwa[t,n.tH,l]
structure LamAt (K:Za1) (fd:FuncData) (c Pt:Zs):Prop where
 code:fd.code=↑c
 hd:PySem.W.codeHdIn K c Pt=true
 no:K.lookup Pt=none
theorem JL {l:PySem.W.OpenLaw}{k:Nat}{loose:Zp}{XP:(Str->Zl)->Heap->Prop}{C:World->Heap->Prop}{d:DefRec}{K:Params->Za1}{CX:World->lg}{sp:World->Sp}
 (hn:l.most\n) (y:n<=sizeLine) (q:d.params.defaults=[]) (hr:cy k callerA) (T:∀(w:World) (h:Heap),C w h->(K w.params).In h/\h.get? a\(PySem.W.tabObj #[]))
 (F:∀(w:World) (g:Str->Zl) (j:Zs) (h:Heap),(K w.params).In h->h.Ns mainGlobals g->g d.name\↑j->
  ∃fd:FuncData,(∃fd2 c,LamAt (K w.params) fd2 c a)/\(∀(s:Zu) (u:Zt),BindsTo s fd ⟨[u],[]⟩ [(x,u)])/\∀base:Heap,(K w.params).In base->base.Ns mainGlobals g->j3 g base->di l.prog w (K w.params) g base (CX w) k j fd [x] (sp w))
 (A:∀(w:World) (H:Hp) (b:Zs) (ns:Zg),⇑ns<=n->H a\(.fw #[])->aF (K w.params) H b (ns.map V.int)->sp w [↑b] H (λv _=>v=.bl true) λ_ _ _=>False)
 (t:∀(w:World) (H:Hp) (s:Zu) (e:Zt) (m:Zu),CX w [] H s (λ_ _ _=>False) e m->False):
 PySem.W.WalkO P loose XP C l.row.toRowW d [] (λf D=>PySem.call f D):=by
 rwa[Att.Cm hn q λw B s g mb j o pm cd doc b D ns G Y ho hd hcd z i hints hlen L=>?_]
 let⟨p,hP⟩:=T w _ Y;let⟨fd,⟨fd2,c,E⟩,J,S⟩:=F w g j _ p G.T.g z;let⟨I,r,_,_,_,_,_,_,_,Z,M,g3,W,_⟩:=PySem.W.codeHd_of_K p E.hd;let hB:j3 g s.heap:=let ⟨X,N,a1,a2,O,U,R,a6⟩:=G.T.bmain;⟨X,N,a1,O,⟨U,R,a6⟩,a2⟩
 rwa[Hd p G.T.g G.T.b G.T.builtins G.T.nolimit L i hints (agz hlen y) hr S hB J hP E.no ⟨c,I,r,Z,M,g3,W⟩ (λH Q hS=>A w H b ns hlen Q hS) λH e m=>t w H s e m]
namespace Lr
def Q9:typeLookup (.type "list_reverseiterator") "__len__"=pure none:=by kernel_rfl
def N1:typeLookup (.type "list_reverseiterator") "__length_hint__"=pure (some (.builtin "list_reverseiterator.__length_hint__")):=by kernel_rfl
section
variable {prog:Program}{w:World}{A:Around}{E:Zt->Zu->Prop}{s:Zu}{it l:Zs}{items:Zm}
def hint {Q:Bool->Zu->Prop}(hm:s.heap.IsRevIter it l z)(h:Q false s):(prog<|>w) A (Builtin.List.listLengthHint ↑it) Q E s:=by
 rwa[agg (wpAny_specialOf hm.typeIs Q9 ?_)];rwa[agg (wpAny_specialOf hm.typeIs N1 ?_)];generalize c:("list_reverseiterator.__length_hint__":String)=d
 wp_delta
 subst c;rwa[agg (wpAny_isInstance (T:="list_reverseiterator") (b:=true) hm.typeIs (by kernel_rfl) ?_)];rwa[ajC (λa=>absurd a ⋯) (λ_=>?_)];rwa[ajC (λ_=>?_) (λa=>absurd ⋯ a)];rwa[agn h]
theorem extend {R:Result->Zu->Prop}(z:A.handled=none)(hit:s.heap.IsRevIter it l ((items.size:Int) - 1))(y:s.heap.IsList l items)(k:l≠it)(hlen:items.size<=sizeLine)(S:Zs)(n:S≠it)(x:S≠l)(res:Zt)(g:Nat)(D:s.heap.get? S\("list">>>.seq #[] g))
 (G:∀g1 t a d,(∀b o,b≠S->b≠it->s.heap.get? b\o->g1.get? b\o)->g1.get? S\{ cls:=.type "list",dict:=none,data:=.seq a d,slots:=#[] }->
  ItemsOf (λi v=>items[items.size - 1 - i]?\v) a items.size->R (.ok (.ret res)) { s with heap:=g1,toks:=t }):
 (prog<|>w) A.in1 (Builtin.List.listExtendWith ↑S ↑it res)
  (λfin c=>match fin with|.done f=>R (.ok f) c|.again d=>d.quiet=true/\codeAny (model prog w) A d R c) (λe c=>R (.error e) c) s:=by
 rwa[agg (aiP (T:="list_reverseiterator") hit.typeIs ?_)];let u:Builtin.List.listSameRef ↑S ↑it=false:=by simp[Builtin.List.listSameRef,n]
 let r:(Value.type "list_reverseiterator"==Value.type "list")=false:=⋯
 let B:(Value.type "list_reverseiterator"==Value.type "tuple")=false:=⋯
 simp only[u,r,B,Bool.or_false,ai3,ajf];rwa[agg (wpAny_pyIter_revIter hit ?_)];rwa[agg (ahn (hint hit ?_))];let W:=(Walks.listRev (prog:=prog) (w:=w) (A:=A.in1) z it l k items).toS
 let m:S∉[it,l]:=λI=>by
  cbv
 rwa[agn ⟨aiR F.plain_extend_loop _,5⟩];rwa[codeAny_extend_loopS W hlen S m res items.size 0 _ #[] _ rfl (agP _) ⟨agP _,by simpa using hit,y⟩ D (ItemsOf.nil _) λc a d h p j=>?_]
 rw[Moved.eq_with h];rwa[G c.heap c.toks a d (λb o H C e=>h.heap b o (λq=>?_) e) p j]
 cbv
def init {R:Result->Zu->Prop}(z:A.handled=none)(hit:s.heap.IsRevIter it l ((items.size:Int) - 1))(y:s.heap.IsList l items)(n:l≠it)(hlen:items.size<=sizeLine)(S:Zs)(g:S≠it)(h:S≠l)(t:s.heap.get? S\("list">>>.seq #[]))
 (B:∀g1 p a d,(∀b o,b≠S->b≠it->s.heap.get? b\o->g1.get? b\o)->g1.get? S\{ cls:=.type "list",dict:=none,data:=.seq a d,slots:=#[] }->
  ItemsOf (λi v=>items[items.size - 1 - i]?\v) a items.size->R (.ok (.ret .none)) { s with heap:=g1,toks:=p }):
 (prog<|>w) A.in1 (Builtin.«list.__init__» ⟨[↑S,↑it],[]⟩)
  (λfin k=>match fin with|.done f=>R (.ok f) k|.again d=>d.quiet=true/\codeAny (model prog w) A d R k) (λe k=>R (.error e) k) s:=by
 show wpAny _ _ (do let old <-Builtin.List.listItems ↑S;Builtin.List.listUpdate ↑S (λ_=>#[]);letGo old.toList.reverse;Builtin.List.listExtendWith ↑S ↑it .none) _ _ s;rwa[agg ?_];unfold Builtin.List.listItems;rwa[agg (aiY t rfl (agn ?_))];show wpAny _ _ (updateSeq S (λ_=>#[]) >>=λ_=>letGo (#[]:Zm).toList.reverse >>=λ_=>Builtin.List.listExtendWith ↑S ↑it .none) _ _ s;rwa[agg (aiJ t rfl ?_)];let u:=ag2 (Obj.mapSeq (λ_=>(#[]:Zm))) t rfl;let c:∀b o,b≠S->s.heap.get? b\o->(s.heap.update S (Obj.mapSeq (λ_=>(#[]:Zm)))).get? b\o:=λb o m e=>(ag3^ahC m).trans e
 rwa[extend (s:={ s with heap:=s.heap.update S (Obj.mapSeq (λ_=>(#[]:Zm))) }) z (hit.at λo e=>c _ o g.symm e) (y.at λo e=>c _ o h.symm e) n hlen S g h .none _ u λg1 p a d x q j=>?_]
 rwa[B g1 p a d (λb o m r e=>x b o m r (c b o m e)) q j]
theorem call (z:A.handled=none)(hit:s.heap.IsRevIter it l ((items.size:Int) - 1))(q:s.heap.IsList l items)(g:l≠it)(hlen:items.size<=sizeLine)
 (x:∀g1 j a h,(∀b o,b≠it->s.heap.get? b\o->g1.get? b\o)->g1.get? ↥s\{ cls:=.type "list",dict:=none,data:=.seq a h,slots:=#[] }->ItemsOf (λi v=>items[items.size - 1 - i]?\v) a items.size->Q ↑↥s { s with heap:=g1,toks:=j }):
 (prog<|>w) A (PySem.call (.type "list") [↑it]) Q E s:=by
 rwa[callType_codes (Q₁:=λobj c=>obj=↑↥s/\c={ s with heap:=s.heap.push ("list">>>.seq #[]) }) F.called_list (F.typeCall_list_1 _) F.entry_list_init (code_list_new _ ⟨22⟩) λobj c d=>?_]
 let⟨rfl,rfl⟩:=d;let t:(s.heap.push ("list">>>.seq #[])).get? ↥s\("list">>>.seq #[]):=agy _ rfl;let p:it<↥s:=let ⟨o,m,_⟩:=hit;agC m
 let k:l<↥s:=let ⟨o,m,_⟩:=q;agC m
 rwa[⟨⟨_,t,2⟩,F.args_list_init_2 _ _,init (A:=A.in1) (s:={ s with heap:=s.heap.push ("list">>>.seq #[]) }) z (hit.at λo e=>agi _ e) (q.at λo e=>agi _ e) g hlen _ (ahw p) (ahw k) t λg1 j a h y n f=>?_⟩];rwa[2,x g1 j a h (λb o u e=>y b o (agO (agC e)) u (agi _ e)) n f]
end
end Lr
section
variable {X:Cx}{a e:Expr}{ta:TA}{p p2 pos Ae:Pos}
def JM (K:Za1)(ta:TA):TE:=λ d H Q=>ta d H λc b=>∃(l:Zs) (ys:Zb),c=[↑l]/\aF K b l ys/\∀D,b D=none->Q ↑D (upd b D (.lst ys.reverse))
def JN {ys:Zb}{acc:Zm}(b:Vals ys N)(h:ItemsOf (λi v=>N.toArray[N.toArray.size - 1 - i]?\v) acc N.toArray.size):acc.toList=N.reverse:=by
 let f:acc.size=⇑N:=by simpa using h.1
 rwa[ah3 λi=>?_]
 by_cases d:i<⇑N
 ·let e:acc[i]?\(acc[i]'∅):=Array.getElem?_eq_getElem ∅
  let c:=h.2 i _ e
  cbv
 cbv
theorem rh:∀{ys:Zb} {b:Zk},Vals ys b->Vals ys.reverse b.reverse
 |_,_,.nil=>.nil
 |_,_,.cons r t=>[List.reverse_cons,List.reverse_cons]▸(rh t).append (.cons r .nil)
theorem E9 (R:X.calm=true)(P:Gl X "list")(M:X.mg "list"=none)(V:Gl X "reversed")(O:X.mg "reversed"=none)(ha:PA X [a] ta)(hs:starEach [a] X.env=[(false,eval a X.env)]:=by rfl)
 (L:starEach [.Call (.Name "reversed" p) [a] [] pos] X.env=[(false,eval (.Call (.Name "reversed" p) [a] [] pos) X.env)]:=by rfl):PE X (.Call (.Name "list" p2) [.Call (.Name "reversed" p) [a] [] pos] [] Ae) (JM X.K ta):=by
 intro i s N H Q I h;rwa[aht (gT I P M boot_list ?_)];rwa[ahj ?_ L rfl];rwa[ahg ?_];rwa[Call_ (gT I V O boot_reversed (ahj (a9 (ha pos i s N H _ I h) λus s1 ζ=>?_) hs rfl))];let⟨vs,B,k,U,Z⟩:=ζ;let⟨l,ys,e,Y,q⟩:=Z;subst e;let⟨u,rfl,ru⟩:=vals1 U;ext ru;let⟨g,F,pl,hz⟩:=k.list Y;let hl:=⇑F;let t:∀b o,s1.heap.get? b\o->(s1.heap.push (revObj l ((g.toArray.size:Int) - 1))).get? b\o:=λb o e=>agi _ e
 let C:l<↥s1:=let ⟨o,ho,_⟩:=pl.isList;agC ho
 let w:=vt k (agp ↥s1);rwa[call_reversed_list pl.isList (ahR ?_)];let I2:Inv X i N B { s1 with heap:=s1.heap.push (revObj l ((g.toArray.size:Int) - 1)) }:=k.kept (t':=s1.toks) t;rwa[Lr.call (s:={ s1 with heap:=s1.heap.push (revObj l ((g.toArray.size:Int) - 1)) }) (I.ok.hd R) ⟨_,agy _ rfl,22⟩ (pl.isList.at λo e=>t^e) (agO C) (by rw[agD];omega) λJ A acc c W T x=>?_]
 let r:=JN F x;let E:Inv X i N B { s1 with heap:=J,toks:=A }:=I2.turned (t':=A) (λb o j e=>W b o j e) w.none w.loc (.inr w.new) w.cell w.pin;let G:(s1.heap.push (revObj l ((g.toArray.size:Int) - 1))).objs.size=↥s1+ 1:=ah5 ..;generalize hD:(s1.heap.push (revObj l ((g.toArray.size:Int) - 1))).objs.size=D at T G ⊢;let f:B D=none:=k.aL.fresh ∅;let y:=vt k (b:=D) ∅;let nD:∀{b:Zs},b∉[D]->b≠D:=λj z=>j (by simp[z])
 refine⟨↑D,upd B D (.lst ys.reverse),Inv.step (s:={ s1 with heap:=J,toks:=A }) E (h':=J) (t':=A) (g':=s1.gens) (d':=s1.drawn) (ch:=[D]) (λb j=>[ago.mp j]▸⟨.inr y.new,y.loc,y.cell,y.pin⟩) (λb o _ _ _ e _=>e) (λb o _ _ _ e _=>⟨o.slots,e⟩) (λb o R _ n=>[ak (nD R)]▸n) (λb o _ e=>⟨o,e⟩)
  (λb xs e=>[ak (aw e f)]▸e) (λb o u e=>[ak (aw e f)]▸e) (λb ps e=>⟨#[],by rw[ak (aw e f),e];simp⟩) (λm O=>O) (λb u e=>?_) E.bare,2,q D f⟩
 ·by_cases j:b=D
  ·subst j;rw[ah]at e;ext e;erw[[List.length_reverse]▸hz,g.reverse,c,rh F];rw[<-r,Array.toArray_toList];rwa[T]
  ·rw[ak j]at e;rwa[(E.aL b u e).fi (λd v _ q=>q) (λd q=>[ak (aw q f)]▸q) λd xs q=>[ak (aw q f)]▸q]
def Ay (d c:TE):TE:=λ b H Q=>d b H Q\/c b H Q
def vu {c:TE}(g:PE X e r)(f:PE X e c):PE X e (Ay r c):=λb s d H Q I h=>h.elim (g b s d H Q I) (f b s d H Q I)
def Rb (C:Zs):TE:=λ_ H Q=>∀x d,H x=none->H d=none->d≠x->Q ↑x (upd (upd H d (.own x)) x (.ins C d []))
theorem ux (d:PySem.W.makesIn X.K b=true)(n:PySem.W.findIn X.K ↑b "__init__"=some (some (.builtin "object.__init__")))(kp:PySem.W.keepIn X.K ↑b=true)(j:Gl X x)(q:X.mg x\↑b)
 (f:(x==("__debug__":Str))=false:=by decide):PE X (.Call (.Name x p) [] [] pos) (Rb b):=by
 intro g s r H Q I h;rwa[aht (jU I j q ?_ f)];rwa[PySem.W.callWith_K0 I.dk kp (aiW ?_)];let l:=Inv.made (C:=b) I;let k:=h (↥s+ 1) ↥s (I.aL.fresh (aiv _)) (I.aL.fresh (agp _)) (agO (ahE _));let Y:=PySem.W.makes_of (M:=model X.prog X.w) I.dk d;rwa[Gb I.dk d n (λself=>PySem.W.Looks.of_pure (PySem.W.oi_bind self)) ?_]
 let m:((s.heap.push PySem.W.emptyDict).push (PySem.W.instObj b ↥s)).get? (↥s+ 1)\(PySem.W.instObj b ↥s):=by
  have:=agy (s.heap.push PySem.W.emptyDict) (o:=PySem.W.instObj b ↥s) rfl
  rwa [ah5]at this
 let t1:PySem.W.Looks (model X.prog X.w) ((s.heap.push PySem.W.emptyDict).push (PySem.W.instObj b ↥s)) (typeOf ↑(↥s+ 1)) ↑b:=(PySem.W.Looks.ld m).andThen .now;let i:PySem.W.Looks (model X.prog X.w) ((s.heap.push PySem.W.emptyDict).push (PySem.W.instObj b ↥s)) (isInstance ↑(↥s+ 1) (.type "object")) true:=t1.andThen (Y.top.keeps λc o e=>agi _ (agi _ e));rwa[ahX PySem.W.oi_plain PySem.W.entry_oi (@PySem.W.check_slot (model X.prog X.w) _ _ _ "object.__init__" "object" "__init__" ↑(↥s+ 1) [] [] _ PySem.W.oi_kind PySem.W.oi_split i (PySem.W.oi_args ↑(↥s+ 1)) ?_)];rwa[agn (And.intro rfl ⟨↑(↥s+ 1),_,l,rfl,k⟩)]
inductive UY (K:Za1) (xs:Zb) (H:Hp) (Q:VK):Prop
 |mk (x:V) (D:Zs) (t:Zt) (b:Bool):xs=[x,↑D]->jC K H x t->PySem.W.kitOne K t ↑D\b->Q (.bl b) H->UY K xs H Q
end
end L2
namespace L2
def nm (E:Zh)(c:Nat):Nat:=E.getD c 0
def oy (R:Za2)(E:Zh)(a:Nat)(z:Int)(b:Nat):Prop:=∃c d,R c z d/\nm E c=a/\nm E d=b
noncomputable def qi (x y a:Nat):Nat:=if a=y then x else a
def vw (h:n<m)(E:Zh)(c:Nat):nm (E.map (qi n m)) c=qi n m (nm E c):=by
 unfold nm;rw[agq,agq,agx]
 cases E[c]? with
 |some x=>rfl
 |none=>show 0=qi n m 0;unfold qi;rw[agF ∅]
def Rc (u v:Nat)(W:Za2)(a:Nat)(z:Int)(b:Nat):Prop:=∃c d,W c z d/\qi u v c=a/\qi u v d=b
inductive One (ws:Za3) (nr:Nat):Zh->(Za2)->Dt->Zh->(Za2)->Prop
 |meet {E:Zh} {W:Za2} {c u v:Nat} {z:Int}:u<v->E[u]?\u->E[v]?\v->W c z u->W c z v->One ws nr E W (fq c z u v) (E.map (qi u v)) (Rc u v W)
 |rule {E:Zh} {W:Za2} {which k c d:Nat} {word:Zg} {p:Zh} {z:Int}:ws[which]?\word->⇑p=⇑word+ 1->p[0]?=p[⇑word]?->(which<nr\/p[0]?\0)->(∀x∈p,E[x]?\x)->word[k]?\z->p[k]?\c->p[k+ 1]?\d->
  (∀(i a b:Nat) (y:Int),i≠k->word[i]?\y->p[i]?\a->p[i+ 1]?\b->W a y b)->One ws nr E W (jr which p k) E (fL W c z d)
inductive Go (ws:Za3) (nr:Nat):Zh->(Za2)->List Dt->Zh->(Za2)->Prop
 |nil {E:Zh} {W W':Za2}:(∀a z b,W a z b↔W' a z b)->Go ws nr E W [] E W'
 |cons {E E1 E2:Zh} {W W1 W2:Za2} {row:Dt} {ms:List Dt}:One ws nr E W row E1 W1->Go ws nr E1 W1 ms E2 W2->Go ws nr E W (row::ms) E2 W2
section
variable {ws:Za3}{nr:Nat}{E E1 E2:Zh}{W W' W1 W2:Za2}{ms ns:List Dt}
def Go.congr (h:Go ws nr E W ms E1 W1):∀{W':Za2},(∀a z b,W' a z b↔W a z b)->Go ws nr E W' ms E1 W1:=by
 induction h with
 |nil e=>exact λh=>.nil λa z b=>(h a z b).trans (e a z b)
 |cons o _ m=>
  intro W' h
  cases o with
  |meet j c l f k=>exact .cons (.meet j c l ((h^_).mpr f) ((h^_).mpr k)) (m λa z b=>by
   constructor
   ·rintro ⟨g,d,q,r⟩;rwa[g,d,(h^_).mp q,r]
   ·rintro ⟨g,d,q,r⟩;rwa[g,d,(h^_).mpr q,r])
  |rule j c l f k v p u w=>exact .cons (.rule j c l f k v p u λi a b y n x s t=>(h^_).mpr (w i a b y n x s t)) (m λa z b=>by
   unfold fL;rw[h])
def Go.app (h:Go ws nr E W ms E1 W1):∀{E2:Zh} {W2:Za2} {ns:List Dt},Go ws nr E1 W1 ns E2 W2->Go ws nr E W (ms++ns) E2 W2:=by
 induction h with
 |nil e=>exact λg=>g.congr e
 |cons o _ a=>exact λg=>.cons o (a g)
end
def N2 (h:n<m)(a:Nat)(z:Int)(b:Nat):Rc n m (oy R B) a z b↔oy R (B.map (qi n m)) a z b:=by
 constructor
 ·rintro ⟨g,i,⟨d,c,r,rfl,rfl⟩,e,f⟩;rwa[d,c,r,by rw[vw h,e],by rw[vw h,f]]
 ·rintro ⟨d,c,r,e,f⟩;rwa[11,⟨d,c,r,22⟩,by rw[<-vw h,e],by rw[<-vw h,f]]
section
variable {ws:Za3}{nr:Nat}{S S':RS}{pend:Ze}{R:Za2}{ks:Zg}
def pL {S:RS}(wf:S.Wf){c:Nat}(a:c<S.made):S.aS[c]?\(S.ax c):=by
 unfold RS.ax;rw[agq,agl ([wf.e]▸a)];rfl
def Rf (l:j2 S pend S'):Good S pend R->(∀c z d,R c z d->z∈ks)->∃e,S'.rows=S.rows++e/\Go ws nr S.aS (oy R S.aS) e S'.aS (oy R S'.aS):=by
 induction l with
 |nil S=>exact λ_ _=>⟨[],(agQ _).symm,.nil λ_ _ _=>Iff.rfl⟩
 | @take S S' pend w _ F=>
   intro g r;let⟨g1,_,t,_,q⟩:=g.take r;let⟨e,A,p⟩:=F g1 r;rcases q with ⟨_,h,C⟩|⟨_,c,z,x,y,v,m,E,G,k,h,_,B⟩
   ·rw[tM C]at p;rwa[e,by rw[A,h],p]
   ·let⟨_,o,_,ex⟩:=g.st _ _ _ v;let f:min x y<max x y:=by rcases Nat.lt_or_gt_of_ne k with q|q <;> ext
    let D:(S.takeIn pend w).1.aS=S.aS.map (qi (min x y) (max x y)):=by
     rwa[ah3 λi=>?_]
     rw[agx];by_cases u:i<S.made
     ·rw[pL g1.wf ([t]▸u),pL g.wf u,B];rfl
     ·rw[agY (by rw[g1.wf.e,t];omega),agY (by rw[g.wf.e];omega)];rfl
    let ix:oy R S.aS c z x:=g.so _ _ _ v;let m:oy R S.aS c z y:=m;let n:=pL g.wf o;let j:=pL g.wf E;rw[ex]at n;rw[G]at j;rwa[⟨fq c z (min x y) (max x y)::e,by rw[A,h,ahe];rfl,.cons (.meet f ?_ ?_ ?_ ?_) ((D ▸ p).congr λa s b=>N2 f a s b)⟩]
    ·rcases ajR x y with q|q
     ·rw[aiN q];rwa[n]
     ·rw[ajm q];rwa[j]
    ·rcases ajR x y with q|q
     ·rw[ajT q];rwa[j]
     ·rw[ajD q];rwa[n]
    ·rcases ajR x y with q|q
     ·cbv
     ·rw[ajm q];rwa[m]
    ·rcases ajR x y with q|q
     ·cbv
     ·rw[ajD q];rwa[ix]
theorem ri {c:Nat->Int->Zi}:∀{w:Zg} {r e:Nat},wk c r w\e->⇑(r::cu c r w)=⇑w+ 1/\(r::cu c r w)[⇑w]?\e/\∀(i:Nat) (y:Int),w[i]?\y->∃a b,(r::cu c r w)[i]?\a/\(r::cu c r w)[i+ 1]?\b/\c a y\b
 |[],r,e,h=>by
  rwa[⟨2,by rw[<-Za0 h];rfl,λi y q=>by simp at q⟩]
 |z::w,r,e,h=>by
  let⟨d,f,j⟩:=vp h;let⟨g,k,l⟩:=ri j;rw[m3 f];rwa[⟨by rw[agL,g];rfl,k,λi y q=>?_⟩]
  cases i with
  |zero=>rwa[r,d,22,by rw[<-Za0 q];rwa[f]]
  |succ i=>exact l i y q
theorem uy (g:Good S [] R):∀{w:Zg} {r e:Nat},wk S.by r w=some e->S.aS[r]?\r->∀x∈r::cu S.by r w,S.aS[x]?\x
 |[],r,e,h,b,x,a=>by rw[ago.mp a];rwa[b]
 |z::w,r,e,h,b,x,a=>by
  let⟨d,c,i⟩:=vp h;rcases agB.mp a with rfl|a
  ·rwa[b]
  ·rw[m3 c]at a;let⟨_,f,_,j⟩:=g.st _ _ _ c;have:=pL g.wf f;rw[j]at this;rwa[uy g i this x a]
def JP (f:nm B n=n)(e:nm B m=m)(a:Nat)(y:Int)(b:Nat):fL (oy R B) n z m a y b↔oy (fL R n z m) B a y b:=by
 constructor
 ·rintro (⟨g,h,r,c,d⟩|⟨rfl,rfl,rfl⟩|⟨rfl,rfl,rfl⟩)
  ·rwa[g,h,.inl r,c,d]
  ·rwa[11,.inr (.inl ⟨222⟩),f,e]
  ·rwa[11,.inr (.inr ⟨222⟩),e,f]
 ·rintro ⟨g,h,r|⟨rfl,rfl,rfl⟩|⟨rfl,rfl,rfl⟩,c,d⟩
  ·rwa[.inl ⟨g,h,r,c,d⟩]
  ·rwa[.inr (.inl ⟨c.symm.trans f,2,d.symm.trans e⟩)]
  ·rwa[.inr (.inr ⟨c.symm.trans e,2,d.symm.trans f⟩)]
def JQ {start:Nat}{word:Zg}(g:Good S [] R)(c:Av ws nr S n word start m i j z):One ws nr S.aS (oy R S.aS) (jr n ((start::cu S.by start (word.take m))++(j::cu S.by j (word.drop (m+ 1)))) m) S.aS (fL (oy R S.aS) i z j):=by
 let H:m<⇑word:=(agj.mp c.hz).1;let⟨d,A,G⟩:=ri c.f;let⟨v,F,B⟩:=ri c.r;let lt:⇑(word.take m)=m:=by rw[agV];ext
 let ld:⇑(word.drop (m+ 1))=⇑word - (m+ 1):=ahh ..;rw[lt]at d A;rw[ld]at v F;let u:=pL g.wf c.s.1;rw[c.s.2]at u;let t:=pL g.wf c.hd.1;rw[c.hd.2]at t;let left:∀h,h<=m->((start::cu S.by start (word.take m))++(j::cu S.by j (word.drop (m+ 1))))[h]?=(start::cu S.by start (word.take m))[h]?:=λh w=>ags (by rw[d];omega)
 let right:∀h,((start::cu S.by start (word.take m))++(j::cu S.by j (word.drop (m+ 1))))[m+ 1+ h]?=(j::cu S.by j (word.drop (m+ 1)))[h]?:=λh=>by
  rw[agt (by rw[d];omega),d]
  congr 1
  ext
 rwa[.rule c.w (by rw[agk,d,v];omega) ?_ ?_ (λx k=>?_) c.hz ?_ ?_ λh a b y w E o l=>?_]
 ·cbv
 ·rw[left 0 ∅];exact c.n.imp id λe=>by rw[e];rfl
 ·rcases agv.mp k with k|k
  ·rwa[uy g c.f u x k]
  ·rwa[uy g c.r t x k]
 ·rw[left m (agp _)];rwa[A]
 ·rw[right 0];rfl
 ·rcases Nat.lt_or_gt_of_ne w with q|q
  ·let⟨D,C,p,s,r⟩:=G h y (by cbv);rw[left h ∅,p]at o;rw[left (h+ 1) ∅,s]at l;obtain rfl:=Za0 o;obtain rfl:=Za0 l;rwa[g.so _ _ _ r]
  ·obtain⟨f,rfl⟩:∃f,h=m+ 1+ f:=⟨h - (m+ 1),3⟩;let⟨D,C,p,s,r⟩:=B f y ([aiu]▸E);rw[right,p]at o;rw[show m+ 1+ f+ 1=m+ 1+ (f+ 1) by ext,right,s]at l;obtain rfl:=Za0 o;obtain rfl:=Za0 l;rwa[g.so _ _ _ r]
def zy (t:Tr ws nr S S')(C:∀w∈ws,∀z∈w,z∈ks/\-z∈ks):Good S [] R->gN S->(∀a z b,R a z b->z∈ks)->∃p,Good S' [] p/\gN S'/\(∀a z b,p a z b->z∈ks)/\∃j,S'.rows=S.rows++j/\Go ws nr S.aS (oy R S.aS) j S'.aS (oy p S'.aS):=by
 induction t with
 |refl=>exact λg w k=>⟨R,g,w,k,[],(agQ _).symm,.nil λ_ _ _=>Iff.rfl⟩
 |step _ f u E=>
  rename_i l G h word start m c d z _;intro g x k;let⟨D,g1,n,v,j,H,o⟩:=E g x k;let s:=C word (agh f.w) z (agh f.hz)
  let i:∀a y b,fL D c z d a y b->y∈ks:=by
   rintro a y b (r|⟨_,e,_⟩|⟨_,e,_⟩)
   ·rwa[v _ _ _ r]
   ·rw[e];rwa[s.1]
   ·rw[e];rwa[s.2]
  let gl:=g1.lay z f.hc.1 f.hd.1 (l.rows++[jr h ((start::cu l.by start (word.take m))++(d::cu l.by d (word.drop (m+ 1)))) m]);let⟨A,F,_⟩:=u.all gl i ⟨n.a,n.b,n.c⟩;let⟨q,B,go2⟩:=Rf (ws:=ws) (nr:=nr) u gl i;rwa[⟨_,A,F,i,j++(_::q),5,o.app (.cons (JQ g1 f) (go2.congr λa y b=>JP f.hc.2 f.hd.2 a y b))⟩];rw[B];show (l.rows++[_])++q=_
  cbv
end
end L2
namespace L2
open PySem PySem.Spec PyProof.Rows
def VP (a:Program)(w:World)(A:Around)(env:Env):Zr->(Bool->Zu->Prop)->Zu->Prop
 |[],K,s=>K true s
 |c::_,K,s=>(a<|>w) A (isTrue c env (eval c env)) K (λ_ _=>False) s
theorem Az {R:Result->Zu->Prop}{elt target iter:Expr}{cs:Zr}{scope:Scope}{it acc:Zt}{env:Env}(i:⇑cs<=1)(I:Nat->Zu->Prop)
 (turn:∀n s,I n s->(P<|>w) A (pyNext it) (λr c=>match r with
  |none=>R (.ok .next) c
  |some v=>(P<|>w) A (letOwnedTupleGo target it v) (λ_ e=>(P<|>w) A (assign target env v) (λ_ g=>VP P w A env cs (λb a=>
   match b with
   |true=>(P<|>w) A (eval elt env) (λx f=>(P<|>w) A (call (.builtin "list.append") [acc,x]) (λ_ d=>∃m,m<n/\I m d) (λ_ _=>False) f) (λ_ _=>False) a
   |false=>∃m,m<n/\I m a) g) (λ_ _=>False) e) (λ_ _=>False) c) (λ_ _=>False) s)
 (n:Nat) (h:I n s):codeAny (model P w) A (.compLoop (.ListComp elt [⟨target,iter,cs,(0)⟩] scope p) 0 it acc env) R s:=
 match cs,i,turn with
 |[],_,turn=>Cp I turn n h
 |[_],_,turn=>yZ I turn n h
def Ly (X:Cx):Zr->TT->Prop
 |[],a=>a=λ_ H Q=>Q true H
 |c::_,a=>PT X c a
def N3 {e:TT}{Q:Bool->Hp->Prop}{K:Bool->Zu->Prop}(h:Ly X C e)(i:X.xe=λ_ _=>False)(I:Inv X o D H s)(q:e D H Q)(k:∀b a d,Inv X o D d a->Q b d->K b a):VP X.prog X.w X.A X.env C K s:=
 match C,h with
 |[],h=>by
  rw[h]at q;rwa[k true s H I q]
 |c::_,h=>by
  have:=h o s D H Q I q;rw[i]at this;rwa[a9 this λb a ζ=>?_];let⟨d,f,g⟩:=ζ;rwa[k b a d f g]
section
variable {X:Cx}{elt iter vj:Expr}{x:Str}{px pos:Pos}{scope:Scope}{cl:List (Str×Zs)}{fns:Zp}{ixs:Zh}{wi:TI}{tt:TT}{te:TE}
theorem yC {cs:Zr}{use:Option (Zt->Sem Unit)}{RQ:Zt->Zu->Prop}{Q:VK}(hl:⇑cs<=1)(hc:X.calm=true)(hi:PI X (.Name x px) iter wi)(S:dQ X x fns ixs scope cl)
 (ht:∀(C:Zs) (s:Zu) (H:Hp) (ex:Zn),Ly (dm X (x::fns) scope cl C s H ex) cs tt) (he:∀(C:Zs) (s:Zu) (H:Hp) (ex:Zn),PE (dm X (x::fns) scope cl C s H ex) elt te)
 (hs:∀x,foldedSetIterable iter X.env x=pure x) (I:Inv X o D H s) (h:nX wi (iN ixs) tt te D H Q)
 (fin:∀(C k:Zs) (H3:Hp) (ys:Zb) (s4:Zu) (m:Str->Zl),s4.heap.Ns C m->(∀G,Heap.SameBut C s4.heap G->Inv X o D (upd H3 k (.lst ys)) (s4<*G))->upd H3 k (.lst ys) C=none->X.env.locals≠C->(∀z c,X.env.cells.lookup z\c->c≠C)->X.dY.heap.objs.size<=C->(∀g∈X.pn++o,g.1≠C)->Q ↑k (upd H3 k (.lst ys))->compPost (model X.prog X.w) X.A X.xe use RQ ↑k C (.ok .next) s4):
 X⁻¹ X.A (comprehension (.ListComp elt [⟨.Name x px,iter,cs,(0)⟩] scope pos) scope X.env p (newList []) false (eval iter X.env) use) RQ X.xe s:=by
 rwa[wpAny_comprehension_free rfl hs S.zU S.kind S.names (a9 (hi o s D H _ I h) λv s1 h1=>a9 h1 λitv s2 h2=>?_)];let⟨it,Y,tn,J,H2,e,A,T,Hc,f2,W,⟨m0,w0⟩,turn⟩:=h2;subst e
 let E:∀b∈Y,b<↥s2:=λb t=>by
  let⟨f,ho,_⟩:=T.obj _ _ Hc b t;rwa[agC ho]
 rwa[ahd (wpAny_newFunctionEnv S.cell (by intro y hy;simp at hy) (λJR O N=>?_) S.kind)];generalize AB:s2.heap.push { cls:=.type "list",dict:=none,data:=.seq ([]:Zk).toArray }=F at O N ⊢;generalize hD:↥s2=k at E ⊢;let hC:F.objs.size=k+ 1:=by rw[<-AB,ah5,hD]
 generalize hCe:F.objs.size=C at hC O N ⊢;let w:k<C:=∅
 let He:k≠C:=agO w;let L:∀b u,s2.heap.get? b\u->F.get? b\u:=λb u q=>by rw[<-AB];rwa[agi _ q]
 let Lz:∀{b u},s2.heap.get? b\u->b<k:=λq=>by rw[<-hD];rwa[agC q]
 let U:∀b u,F.get? b\u->JR.get? b\u:=λb u q=>
  N.extBut b u (agO (agM (agC q) (ajr hCe))) (agi _ q)
 let hDo:F.get? k\{ cls:=.type "list",dict:=none,data:=.seq ([]:Zk).toArray }:=by rw[<-AB,<-hD];rwa[agy _ rfl]
 let I3:Inv X o D H2 (s2<*F):=A.kept (t':=s2.toks) L;let LC:H2 k=none:=A.aL.fresh ∅;let hnC:H2 C=none:=A.aL.fresh ∅
 let JS:∀b∈k::Y,b∉cJ X.stack:=λb t z=>by
  rcases agB.mp (A.zH b z) with e|z
  ·rcases agB.mp t with Z|t
   ·rwa[absurd A.lt (by rw[<-e,Z,<-hD];rwa[ahz _])]
   ·rwa[(f2 b t).2.1 e]
  ·rcases agB.mp t with Z|t
   ·rwa[A.Es (by rw[Z,<-hD];rwa[agp _]) z]
   ·rwa[(f2 b t).2.2.1 z]
 let lb:∀y c,cl.lookup y\c->∀b∈k::Y,c≠b:=λy c q b t z=>by
  let⟨v,hv⟩:=A.cell y c (S.sub y c q);rcases agB.mp t with Z|t
  ·rwa[absurd hv.lt (by rw[z,Z,<-hD];rwa[ahz _])]
  ·rwa[(f2 b t).2.2.2.2.1 y c (S.sub y c q) z]
 let' R:Cx:=dm X (x::fns) scope cl C (s2<*F) H2 (k::Y)
 let ok:R.Ok:={
  mod:=A.ok.mod
  kind:=S.kind
  glob:=A.ok.glob
  blt:=A.ok.blt
  above:=by show F.objs.size<=C;ext
  inj:=λy z c q1 q2=>A.ok.inj y z c (S.sub^q1) (S.sub^q2)
  has:=S.has
  zG:=λy c q=>nomatch q
  hd:=A.ok.hd
  frames:=A.ok.frames
  C1:=.inl rfl
  K2:=λb t=>⟨by
   rcases agB.mp t with Z|t
   ·rw[Z];rwa[He]
   ·rwa[agO (ajv (E b t) w)],λy c q=>lb y c q b t⟩
  bs:=I3.bs
  qG:=agz I3.ok.qG I3.sz
  ub:=λb f q t=>by
   rcases agB.mp t with Z|t
   ·rwa[absurd (Lz (A.bs b f q).1) (by rw[Z];rwa[ahz _])]
   ·rcases (f2 b t).2.2.2.1 with z|z
    ·rwa[A.ok.ub b f q z]
    ·rwa[absurd (agC (A.ok.bs b f q).1) (Nat.not_lt.mpr z)]
  wO:=JS
  i5:=I3.stack
  tG:=I3.nS }
 let start:∀(v0:Zc),v0=none->Inv R [(k,{ cls:=.type "list",dict:=none,data:=.seq ([]:Zk).toArray })] (v0::iN ixs D) H2 { s2 with heap:=JR,toks:=s2.toks+ ⇑([]:List (Str×Zt)) }:=λv0 hv0=>{
  ok:=ok
  os:=rfl
  bare:=A.bare
  base:=Un.kept U
  loc:=⟨_,O,λi y v e1 Z e3=>by
   cases i with
   |zero=>rw[hv0]at Z;ext Z
   |succ j=>
    let e1':fns[j]?\y:=e1
    let Rg:(iN ixs D)[j]?\(some v):=Z
    let⟨i,hi1,hi2,hk,c,qP,Lx⟩:=S.at_ j y e1';unfold iN at Rg;rw[agx,hi1]at Rg
    let e3':D[i]?\(some v):=by
     let z:(D[i]?).join\v:=Za0 Rg
     cases q:D[i]? with
     |none=>rw[q]at z;ext z
     |some f=>rw[q]at z;rw[show f=some v from z]
    let⟨m,_,hl⟩:=A.loc;let⟨u,r,l⟩:=hl i y v hi2 e3' (hk.elim (λz=>.inr (.inl z)) λz=>.inr (.inr z));rwa[⟨u,r,.inr ⟨Lx,c,qP,5⟩⟩];rcases l with ⟨z,_⟩|⟨_,c',hc',UZ⟩
    ·rcases hk with hk|hk <;> cbv
    ·have:c'=c:=Za0 (hc'.symm.trans (S.sub^qP));subst this;let⟨f,ho,hd⟩:=UZ;rwa[f,U^L^ho,hd]⟩
  cell:=λy c q=>by
   let⟨v,f,ho,hd⟩:=A.cell y c (S.sub y c q);rwa[v,f,U^L^ho,hd]
  free:=hnC
  gI:=λy c q=>A.gI y c (S.sub y c q)
  pin:=λg hp=>by
   let Rh:g=(k,{ cls:=.type "list",dict:=none,data:=.seq ([]:Zk).toArray }):=by simpa [R,dm] using hp
   subst Rh;rwa[U^hDo,LC,He,JS k (agA ..),λv z=>nomatch z]
  aL:=(A.aL.kept L).kept U
  len:=by show ⇑(v0::iN ixs D)=⇑(x::fns);simp[iN,S.len] }
 let Ri:∀{H':Hp} {P:List (Zs×Obj)},(∀b∈Y,H' b=none)->(∀g∈P,g.1=k)->∀b∈Y,pj R P H' b:=λ{H' P} hn hp b t=>
  ⟨hn b t,agO (ajv (E b t) w),JS b (agS _ t),.inl (agS _ t),λy c q=>lb y c q b (agS _ t),λg q=>by
   let q':g∈P:=by simpa [R,dm] using q
   rw[hp g q'];rwa[ahw (E b t)]⟩
 let loop:codeAny (model X.prog X.w) X.A (.compLoop (.ListComp elt [⟨.Name x px,iter,cs,(0)⟩] scope pos) 0 ↑it ↑k (compEnvC scope cl C X.env))
  (compPost (model X.prog X.w) X.A X.xe use RQ ↑k C) { s2 with heap:=JR,toks:=s2.toks+ ⇑([]:List (Str×Zt)) }:=by
  refine Az hl (λn s'=>∃(i:Nat) (ys:Zb) (M:Zk) (nn:Nat) (v0:Zc) (H':Hp),Inv R [(k,{ cls:=.type "list",dict:=none,data:=.seq M.toArray nn })] (v0::iN ixs D) H' s'/\tn i s'.heap/\(∀b∈Y,H' b=none)/\Vals ys M/\W i n ys H') ?_ m0
   ⟨(0),[],[],(0),none,H2,start none rfl,T.keep _ _ _ Hc λb _ f q=>U^L^q,λb t=>(f2 b t).1,.nil,w0⟩
  rintro n s3 ⟨i,ys,M,nn,v0,H3,J3,VQ,VR,vv,w3⟩
  let JT:∀g∈([(k,({ cls:=.type "list",dict:=none,data:=.seq M.toArray nn }:Obj))]:List (Zs×Obj)),g.1=k:=λg hp=>by
   cbv
  rcases turn i n ys H3 w3 with ⟨stop,hlen,q⟩|⟨go,hlen,step⟩
  ·-- the end
   rwa[a9 (T.done R rfl rfl rfl hc i _ s3 _ H3 _ J3 (Ri VR JT) VQ stop) λr s4 ζ=>?_];let⟨hr,J4⟩:=ζ
   subst hr;let⟨m,hn,_⟩:=J4.loc;let⟨gD,nD,_,_,_⟩:=J4.pin (k,{ cls:=.type "list",dict:=none,data:=.seq M.toArray nn }) (by simp[R,dm]);let B:=J4.base
   let inv:∀G,Heap.SameBut C s4.heap G->Inv X o D (upd H3 k (.lst ys)) (s4<*G):=λG hsb=>by
    let kC:∀b u,b≠C->s4.heap.get? b\u->G.get? b\u:=λb u t q=>(hsb.2 b t).trans q
    let ne:∀{b f},s2.heap.get? b\f->b≠C/\b≠k:=λq=>⟨agO (ajv (Lz q) w),agO (Lz q)⟩
    let vx:∀{b f},s2.heap.get? b\f->b∉Y->b∉k::Y:=λq hx z=>(agB.mp z).elim (ne q).2 hx
    let uu:Un (cJ X.stack) Y H2 (upd H3 k (.lst ys)) s2.heap G:={
     keep:=λb f q n t hx=>kC b f (ne q).1 (B.keep b f (L b f q) n t (vx q hx))
     slot:=λb f q n t hx=>by
      let⟨sl,e⟩:=B.slot b f (L b f q) n t (vx q hx);rwa[sl,kC b _ (ne q).1 e]
     free:=λb f q n hx=>by rw[ak (ne q).2];rwa[B.free b f (L b f q) n (vx q hx)]
     there:=λb f q hx=>by
      let⟨o',e⟩:=B.there b f (L b f q) (vx q hx);rwa[o',kC b _ (ne q).1 e]
     hX:=λb xs q=>by rw[ak (aw q LC)];rwa[B.hX b xs q]
     gH:=λb f xs q=>by rw[ak (aw q LC)];rwa[B.gH b f xs q]
     hY:=λb ps q=>by
      let⟨more,e⟩:=B.hY b ps q;rwa[⟨more,[ak (aw q LC)]▸e⟩ ]}
    let aL:dz X.prog X.w (upd H3 k (.lst ys)) G:=λb u e=>by
     by_cases t:b=k
     ·subst t;rw[ah]at e;ext e;rwa[hlen,M,nn,vv,kC _ _ He gD]
     ·rw[ak t]at e;refine(J4.aL b u e).fi (λc v hc q=>kC c v ?_ q) (λc q=>[ak (aw q nD)]▸q) λc xs q=>by rw[ak (aw q nD)];rwa[q]
      let fC:H3 C=none:=J4.free
      cbv
    rwa[A.Eu (s':=(s4<*G)) J4.os uu aL J4.bare (λb t=>⟨(f2 b t).2.2.2.1,(f2 b t).2.1,(f2 b t).2.2.2.2.1,(f2 b t).2.2.2.2.2⟩)]
   let ab:∀{b f},s2.heap.get? b\f->b≠C:=λq z=>absurd (Lz q) ([z]▸Nat.not_lt.mpr (ajp w))
   rwa[fin C k H3 ys s4 m hn inv ([ak (ahC He)]▸J4.free) (λz=>?_) (λz c hz=>?_) (agz (by have:=A.sz;rw[hD]at this;rwa[this]) (ajp w)) (λg hp=>ab (A.pin g hp).1) (q k nD)]
   ·let h1:=A.lt
    cbv
   ·let⟨v,f,ho,_⟩:=A.cell z c hz;rwa[ab ho]
  ·-- a turn
   rwa[a9 (T.item R rfl rfl rfl hc i _ s3 _ H3 _ J3 (Ri VR JT) VQ go) λr s4 ζ=>?_];let⟨u,hr,h4⟩:=ζ
   subst hr;rwa[a9 h4 λ_ s5 ζ=>?_];let⟨xv,H5,J5,r5,y5,Hf,Hg⟩:=ζ
   let J5':=J5.pinned (Ri Hg JT) (T.obj^Hf);let hg:PG R (.Name x px) (lB 0):=C3 (X:=R) (i:=0) S.nd rfl (.inl (tK S.own)) (.inr (tK S.own));rwa[a9 (hg _ s5 _ H5 xv u (λ fx H'=>fx=some xv::iN ixs D/\H'=H5) J5' r5 ⟨22⟩) λ_ s6 ζ=>?_];let⟨σ6,H6,J6,e6,e6'⟩:=ζ
   subst e6 e6';rwa[N3 (ht C (s2<*F) H2 (k::Y)) rfl J6 (step xv H6 y5) λbt VS Rj Hh q6=>?_]
   cases bt with
   |true=>
    rwa[a9 (he C (s2<*F) H2 (k::Y) _ VS _ Rj _ Hh q6) λyv s7 ζ=>?_];let⟨y,H7,J7,r7,m',Rk,w7⟩:=ζ
    let⟨gD,nD,_,_,_⟩:=J7.pin (k,{ cls:=.type "list",dict:=none,data:=.seq M.toArray nn }) (by simp[R,dm]);let Rl:tn (i+ 1) s7.heap:=T.keep _ _ _ Hf λb t f e=>(J7.pin (b,f) (agr _ (agr _ (iw t e)))).1
    let Rm:∀b∈Y,H7 b=none:=λb t=>by
     let⟨f,e,d⟩:=T.obj _ _ Hf b t;rwa[(J7.pin (b,f) (agr _ (agr _ (iw t e)))).2.1]
    let J7':Inv R [] (some xv::iN ixs D) H7 s7:=J7.jf λg hp=>nomatch hp
    rwa[wpAny_list_append_plain (hsz:=by rw[agD,<-⇑vv];omega) ⟨nn,gD⟩ λh8 pl8 VW=>?_]
    let⟨n8,g8⟩:=pl8
    let J8:Inv R [] (some xv::iN ixs D) H7 (s7<*h8):=J7'.turned (t':=s7.toks) (it:=k) (λb f t e=>(VW.2 b t).trans e) nD (He) (.inl (agA ..))
     (λy c q=>lb y c q k (agA ..)) (λg hp=>by simp[R,dm]at hp)
    rwa[⟨m',Rk,i+ 1,ys++[y],M++[yv],n8,some xv,H7,J8.jf λg hp=>?_,5,Rm,vv.append (.cons r7 .nil),w7⟩]
    ·cbv
    ·rwa[T.keep _ _ _ Rl λb t f e=>(VW.2 b (agO (E b t))).trans e]
   |false=>
    let⟨m',Rk,w7⟩:=q6;let⟨gD,nD,_,_,_⟩:=Hh.pin (k,{ cls:=.type "list",dict:=none,data:=.seq M.toArray nn }) (by simp[R,dm]);let Rl:tn (i+ 1) VS.heap:=T.keep _ _ _ Hf λb t f e=>(Hh.pin (b,f) (agr _ (agr _ (iw t e)))).1
    let Rm:∀b∈Y,Rj b=none:=λb t=>by
     let⟨f,e,d⟩:=T.obj _ _ Hf b t;rwa[(Hh.pin (b,f) (agr _ (agr _ (iw t e)))).2.1]
    rwa[⟨m',Rk,i+ 1,ys,M,nn,some xv,Rj,Hh.jf λg hp=>?_,Rl,Rm,vv,w7⟩]
    cbv
 rwa[codeAny_compStart_list loop (T.self _ 0 _ _ _ (T.keep _ _ _ Hc λb _ f q=>U^L^q) loop)]
theorem AF {cs:Zr}(e:⇑cs<=1)(k:X.calm=true)(g:PI X (.Name x px) iter wi)(S:dQ X x fns ixs scope cl)(d:∀(C:Zs) (s:Zu) (H:Hp) (ex:Zn),Ly (dm X (x::fns) scope cl C s H ex) cs tt)
 (j:∀(C:Zs) (s:Zu) (H:Hp) (ex:Zn),PE (dm X (x::fns) scope cl C s H ex) elt te) (f:∀x,foldedSetIterable iter X.env x=pure x):PE X (.ListComp elt [⟨.Name x px,iter,cs,(0)⟩] scope pos) (nX wi (iN ixs) tt te):=by
 intro c s o H Q I h;rwa[yC e k g S d j f I h λC D n ys l m i inv _ _ _ _ _ q=>⟨m,i,λa b=>⟨↑D,_,inv a b,2,q⟩⟩]
theorem tN {cs:Zr}{a:Pos}(L:⇑cs<=1)(P:X.N.Nodup)(i:X.N[n]?\f)(M:Loc X.env.scope f)(T:X.calm=true)(O:PI X (.Name x px) iter wi)(S:dQ X x fns ixs scope cl)(B:∀(C:Zs) (s:Zu) (H:Hp) (ex:Zn),Ly (dm X (x::fns) scope cl C s H ex) cs tt)
 (R:∀(C:Zs) (s:Zu) (H:Hp) (ex:Zn),PE (dm X (x::fns) scope cl C s H ex) elt te) (N:∀x,foldedSetIterable iter X.env x=pure x) (r:swapsWith (.ListComp elt [⟨.Name x px,iter,cs,(0)⟩] scope pos) (some (.Name f p)) a.line X.env=pure true)
 (l:X.fn f=true\/X.env.scope.names.lookup f=some .local):PS X (.Assign [.Name f p] (.ListComp elt [⟨.Name x px,iter,cs,(0)⟩] scope pos) a) (wR (nX wi (iN ixs) tt te) (lB n)):=by
 intro d s σ H U I h;rw[exec_Assign_Name_used _ _ _ _ r];rwa[agg (aje (agg ?_))];rwa[agg (ahk (yC (RQ:=λ_ w=>SP X d U .next w) L T O S B R N I h λC D Z ys V m Q inv t A z sz J q=>?_) (λ_ w F=>agn (agn F)) λ_ _ e=>e)];rwa[wpAny_assign_Name (xZ (inv _ ⟨2,λ_ _=>rfl⟩) P i M (v:=↑D) rfl (λs5 G c=>?_) l)];let⟨y,j,k⟩:=c
 let g:C≠y:=by
  rcases k with e|e
  ·cbv
  ·rwa[ahC (z f y e)]
 rwa[⟨m,Q.sameBut j g,λh6 u=>?_⟩];rwa[11,G.turned (t':=s5.toks) (it:=C) (λb o E e=>(u.2 b E).trans e) t (ahC A) (.inr sz) z J,q]
theorem jb (c:X.calm=true)(d:PI X (.Name x px) iter wi)(S:dQ X x fns ixs scope cl)
 (a:∀(C:Zs) (s:Zu) (H:Hp) (ex:Zn),PE (dm X (x::fns) scope cl C s H ex) elt te)
 (b:∀x,foldedSetIterable iter X.env x=pure x:=by intro _;rfl):
 PE X (.ListComp elt [⟨.Name x px,iter,[],(0)⟩] scope pos) (Le wi (iN ixs) te):=AF (cs:=[]) ⋯ c d S (λ_ _ _ _=>rfl) a b
theorem Fb (e:X.calm=true)(b:PI X (.Name x px) iter wi)(S:dQ X x fns ixs scope cl)
 (c:∀(C:Zs) (s:Zu) (H:Hp) (ex:Zn),PT (dm X (x::fns) scope cl C s H ex) vj tt) (a:∀(C:Zs) (s:Zu) (H:Hp) (ex:Zn),PE (dm X (x::fns) scope cl C s H ex) elt te)
 (d:∀x,foldedSetIterable iter X.env x=pure x:=by intro _;rfl):
 PE X (.ListComp elt [⟨.Name x px,iter,[vj],(0)⟩] scope pos) (nX wi (iN ixs) tt te):=AF (cs:=[vj]) (agp _) e b S c a d
theorem kg {iy:Nat}{a:Pos}(i:X.N.Nodup)(c:X.N[iy]?\f)(g:Loc X.env.scope f)(j:X.calm=true)(k:PI X (.Name x px) iter wi)(S:dQ X x fns ixs scope cl)
 (e:∀(C:Zs) (s:Zu) (H:Hp) (ex:Zn),PE (dm X (x::fns) scope cl C s H ex) elt te)
 (h:∀x,foldedSetIterable iter X.env x=pure x:=by intro _;rfl) (d:swapsWith (.ListComp elt [⟨.Name x px,iter,[],(0)⟩] scope pos) (some (.Name f p)) a.line X.env=pure true:=by rfl)
 (b:X.fn f=true\/X.env.scope.names.lookup f=some .local:=by trivial):
 PS X (.Assign [.Name f p] (.ListComp elt [⟨.Name x px,iter,[],(0)⟩] scope pos) a) (wR (Le wi (iN ixs) te) (lB iy)):=tN (cs:=[]) ⋯ i c g j k S (λ_ _ _ _=>rfl) e h d b
theorem y6 {iy:Nat}{a:Pos}(j:X.N.Nodup)(c:X.N[iy]?\f)(g:Loc X.env.scope f)(k:X.calm=true)(l:PI X (.Name x px) iter wi)(S:dQ X x fns ixs scope cl)
 (h:∀(C:Zs) (s:Zu) (H:Hp) (ex:Zn),PT (dm X (x::fns) scope cl C s H ex) vj tt) (e:∀(C:Zs) (s:Zu) (H:Hp) (ex:Zn),PE (dm X (x::fns) scope cl C s H ex) elt te)
 (i:∀x,foldedSetIterable iter X.env x=pure x:=by intro _;rfl) (d:swapsWith (.ListComp elt [⟨.Name x px,iter,[vj],(0)⟩] scope pos) (some (.Name f p)) a.line X.env=pure true:=by rfl)
 (b:X.fn f=true\/X.env.scope.names.lookup f=some .local:=by trivial):
 PS X (.Assign [.Name f p] (.ListComp elt [⟨.Name x px,iter,[vj],(0)⟩] scope pos) a) (wR (nX wi (iN ixs) tt te) (lB iy)):=tN (cs:=[vj]) (agp _) j c g k l S h e i d b
end
def TrD (h base:Heap)(e:Zs)(cls:Zt)(g:Zo)(f:Zt):Prop:=
 ∃a b T d c,h.get? e\a/\(a.cls=cls/\a.dict=g)/\a.data=.fields b/\b[1]?\↑T/\base.get? T=none/\T≠e/\h.get? T\d/\d.data=.fields c/\c[3]?\f
def kU (base:Heap)(l:Zq)(e:Zs)(cls:Zt)(b:Zo)(a:Zt)(h:Heap):Prop:=base.StaysIn h/\base.get? e=none/\h.FunFrames base l/\TrD h base e cls b a
def yD (f:Zm->Zm)(o:Obj):(Obj.mapFields f o).dict=o.dict:=by
 let⟨a,b,d,e⟩:=o;cases d <;> rfl
section
variable {M:Model}{A:Around}{E:Zt->Zu->Prop}{s:Zu}{base:Heap}{env:Env}{outer:Zq}{L e:Zs}{cls:Zt}{dx:Zo}
theorem Hi {v:Obj}{y:Zm}{head:Zt}{n:Bool}(B:A.frames\(env::outer))(z:s.heap.FunFrames base (env::outer))(P:env.frame\L)
 (Q:s.heap.get? e\v) (G:base.StaysIn s.heap) (F:base.get? e=none) (N:v.data=.fields y) (w:1<y.size)
 (h:∀D,kU base (env::outer) e v.cls v.dict (rawInt L) D->s.heap.UpToSlots D->U () (s<*D)):
 wpAny M A (do let a <-frameOf env;let pl <-entryPlaceOf L n;let b <-EntryCells.newEntry head a .none (rawInt L) .none pl;setField ↑e 1 b) U E s:=by
 let u:e∉(env::outer).filterMap (·.frame):=λI=>by
  let⟨_,o,R,k⟩:=z.mem I
  cbv
 rwa[agg (wpAny_frameOf_fun B z P λc f=>?_)];rwa[agg (wpAny_entryPlaceOf λpl C=>?_)];unfold EntryCells.newEntry newFields;rwa[agg (ahd ?_ (C.sizeOk5 _ _ _ _ _))];let i:c.get? e\v:=(f.2.1 e u).trans Q;let g:base.StaysIn c:=λb o j=>(f.2.1 b λI=>by rw[(z.mem I).1]at j;ext j).trans (G b o j)
 let l:=agi (h:=c) { cls:=.type "traceback",dict:=none,data:=.fields ([head,↑L,.none,rawInt L,.none]++(if pl.isEmpty then List.replicate 6 Value.none else pl)).toArray } i;rwa[aiw l N w ?_];let x:c.objs.size≠e:=ahw (agC i);let m:=ahV N (·.setIfInBounds 1 (Value.ref c.objs.size));let t:=ag2 (Obj.mapFields (·.setIfInBounds 1 (Value.ref c.objs.size))) l (ais m)
 let r:=(ag3 (c.push { cls:=.type "traceback",dict:=none,data:=.fields ([head,↑L,.none,rawInt L,.none]++(if pl.isEmpty then List.replicate 6 Value.none else pl)).toArray })
  (Obj.mapFields (·.setIfInBounds 1 (Value.ref c.objs.size))) (ahC x)).trans (agy c rfl)
 let keep:∀b o,b≠e->c.get? b\o->_\o:=λb o J p=>(ag3 (c.push { cls:=.type "traceback",dict:=none,data:=.fields ([head,↑L,.none,rawInt L,.none]++(if pl.isEmpty then List.replicate 6 Value.none else pl)).toArray }) (Obj.mapFields (·.setIfInBounds 1 (Value.ref c.objs.size))) (ahC J)).trans (agi _ p)
 let d:∀b o,s.heap.get? b\o->(∀y,o.data≠.fields y)->b≠e:=λb o p k q=>by
  cbv
 rwa[h _ ⟨λb o j=>keep b o (λq=>by cbv) (g b o j),F,z.of_keeps λb o p k=>?_,5⟩ λb o p k=>?_]
 ·let⟨O,H⟩:=f.2.2 b o p;rwa[_,keep b _ (d b o p k) H,2]
 ·rwa[11,c.objs.size,11,t,⟨Obj.cls_mapFields _ _,yD _ _⟩,m,by simp[w],g.fresh,x,r,2,by cbv]
 ·let⟨O,H⟩:=f.2.2 b o p;rwa[O,keep b _ (d b o p k) H]
theorem Rn {y:Obj}{x:Zm}{k:Obj}{j:Zm}{l:Zq}(w:base.StaysIn s.heap)(t:base.get? e=none)(D:s.heap.FunFrames base l)
 (G:s.heap.get? e\k) (H:k.cls=cls/\k.dict=dx) (B:k.data=.fields j) (C:j[1]?\↑a) (r:base.get? a=none) (m:a≠e) (z:s.heap.get? a\y) (i:y.data=.fields x) (F:x[3]?\v)
 (h:∀p,kU base l e cls dx u p->s.heap.UpToSlots p->U () (s<*p)):wpAny M A (setField ↑a 3 u) U E s:=by
 let g:3<x.size:=(ah1.mp F).1;let other:∀b,b≠a->(s.heap.update a (Obj.mapFields (·.setIfInBounds 3 u))).get? b=s.heap.get? b:=λb f=>ag3^ahC f
 let c:∀b o,s.heap.get? b\o->(∀j,o.data≠.fields j)->b≠a:=λb o f d q=>by
  cbv
 rwa[aiw z i g (h _ ⟨λb o n=>(other b λq=>by cbv).trans (w b o n),t,D.of_keeps λb o f d=>⟨o,(other b (c b o f d)).trans f,2⟩,5⟩ λb o f d=>⟨o.slots,(other b (c b o f d)).trans f⟩)]
 rwa[k,j,a,11,(other e (ahC m)).trans G,H,B,C,r,m,ag2 _ z (ais (ahV i _)),ahV i _,by simp[g]]
def vy {l:Zq}(p:kU base l e cls dx v s.heap)(m:∀c,kU base l e cls dx .none c->s.heap.UpToSlots c->U () (s<*c)):wpAny M A (setFlight ↑e none) U E s:=by
 let⟨h,f,o,u,t,T,r,w,k,a,i,j,d,g,n,b,q⟩:=p;unfold setFlight;rwa[agg (ahp k i j ?_)];rw[agI (show (Value.ref T !=Value.none)=true from by simp)];rwa[Rn h f o k a i j d g n b q m]
theorem LD (g:A.frames\(env::outer))(q:env.frame\L)(l:kU base (env::outer) e cls dx .none s.heap)
 (x:∀d,kU base (env::outer) e cls dx (rawInt L) d->s.heap.UpToSlots d->U () (s<*d)):wpAny M A (noteFrame ↑e env) U E s:=by
 let⟨b,a,k,N,J,T,I,O,u,⟨rfl,rfl⟩,n,p,h,j,o,c,t⟩:=l;unfold noteFrame;simp only[q];rwa[agg (ahp u n p ?_)];rw[agI (show (Value.ref T !=Value.none)=true from by simp)];rwa[agg (ahp o c t ?_)];rw[agF (show ¬((Value.none==rawInt L)=true) from by simp[rawInt])];rwa[agg (Rn b a k u ⟨22⟩ n p h j o c t λw H z=>?_)];let⟨b,a,k,B,y,P,G,F,m,⟨D,v⟩,f,i,_⟩:=H;rwa[Hi (s:=(s<*w)) g k q m b a f (ah1.mp i).1 λd r C=>?_]
 rw[D,v]at r;rwa[x d r (z.trans C)]
theorem N4 (b:A.frames\(env::outer))(f:env.frame\L)(c:kU base (env::outer) e cls dx .none s.heap)
 (n:∀a,kU base outer e cls dx .none a->s.heap.UpToSlots a->U () (s<*a)):wpAny M A (leaving env ↑e) U E s:=by
 unfold leaving;rwa[agg (LD b f c λl h o=>vy (s:=(s<*l)) h λj ζ k=>?_)];let⟨d,g,⟨11,i⟩,m⟩:=ζ;rwa[n j ⟨d,g,i,m⟩ (o.trans k)]
theorem JV {b:Obj}{i:Zm}(c:A.frames\(env::outer))(t:s.heap.FunFrames base (env::outer))(j:env.frame\L)
 (k:s.heap.get? e\b) (g:base.StaysIn s.heap) (f:base.get? e=none) (h:b.data=.fields i) (a:i[1]?=some .none)
 (n:∀d,kU base outer e b.cls b.dict .none d->s.heap.UpToSlots d->U () (s<*d)):wpAny M A (leaving env ↑e) U E s:=by
 unfold leaving noteFrame;simp only[j];rwa[agg (agg (ahp k h a ?_))];rw[agF ⋯];rwa[Hi c t j k g f h (ah1.mp a).1 λa o r=>vy (s:=(s<*a)) o λm ζ q=>?_];let⟨l,u,⟨11,p⟩,v⟩:=ζ;rwa[n m ⟨l,u,p,v⟩ (r.trans q)]
end
end L2
namespace L2
open PySem PySem.Spec PyProof.Rows PySem.Calls PySem.W Builtin Builtin.ObjectAttr
def yE (x C:Zs)(e:Zo)(d:Bool)(h:Heap):Prop:=∃b c,h.get? x\b/\b.cls=↑C/\b.dict=e/\b.data=.fields c/\(d=true->c[1]?=some .none/\∃a,c[0]?\↑a)
noncomputable def XO (x C:Zs)(b:Zo)(a:Bool):HO:=.ext (yE x C b a)
def yE.fi {x:Zs}{dx:Zo}{nw:Bool}(p:yE x a dx nw h)(k:∀o,h.get? x\o->g.get? x\o):yE x a dx nw g:=by
 let⟨c,b,e,r⟩:=p;rwa[c,b,k _ e,r]
def yE.ex {x:Zs}{dx:Zo}{nw:Bool}(p:yE x a dx nw h):EL x a h:=let ⟨f,b,e,c,_,d,_⟩:=p;⟨f,b,e,c,d⟩
def AG (d:Zs)(fs:List (Str×V))(h:Heap):Prop:=∃a,h.Ns1 d a/\(∀f,eA (fs.lookup f) (a f))/\Within a (fs.map (·.1))
noncomputable def XD (d:Zs)(fs:List (Str×V)):HO:=.ext (AG d fs)
def AG.fi {fs:List (Str×V)}(p:AG d fs h)(k:∀o,h.get? d\o->g.get? d\o):AG d fs g:=by
 let⟨a,n,r⟩:=p;rwa[a,n.at k,r]
def zz {x:Zs}{c:Zo}{b:Bool}(p:yE x a c b h):bY P w H h x (XO x a c b):=⟨p,let ⟨d,_,e,_⟩:=p;⟨d,e⟩,λ_ _ q k=>q.fi k⟩
def LJ {fs:List (Str×V)}(p:AG d fs h):bY P w H h d (XD d fs):=⟨p,let ⟨_,⟨o,_,_,e,_⟩,_⟩:=p;⟨o,e⟩,λ_ _ q k=>q.fi k⟩
noncomputable def mh:Zk->Bool
 |.ref _::r=>mh r
 |l=>l==Ac
def Fd (e:mh N=true):(∃c r,N=↑c::r/\mh r=true)\/N=Ac:=by
 cases N with
 |nil=>exact .inr (ajq.mp e)
 |cons c r=>cases c <;> first|rwa[.inl ⟨_,_,rfl,e⟩]|rwa[.inr (ajq.mp e)]
theorem qj (self:Zt):∀(l:Zk),mh l=true->refuseLoop self "__setattr__" l=pure ()/\l.contains (.type "object")=true/\l.isEmpty=false
 |[],e=>by ext e
 |v::l,e=>by
  rcases Fd e with ⟨c,r,q,e⟩|q
  ·injection q with b d
   subst b d;let a:=qj self l e;rwa[[refuseLoop_ref]▸a.1,by cbv,2]
  ·rw[q];rwa[PySem.F.store_ValueError.passes self,42]
structure xo (K:Za1) (C:Zs):Prop where
 mr:(clsIn K C).any (λcd=>mh cd.mro)=true
 hd:hasDictIn K C=true
 sa:findIn K ↑C "__setattr__"=some (some (.builtin "object.__setattr__"))
 ga:findIn K ↑C "__getattribute__"=some (some (.builtin "BaseException.__getattribute__"))
 gt:findIn K ↑C "__getattr__"=some none
 be:subIn K ↑C (.type "BaseException")\true
section
variable {prog:Program}{w:World}{A:Around}{R:Result->Zu->Prop}{s:Zu}{K:Za1}{x C:Zs}{name:Str}{v:Zt}
theorem DG {p:Obj}{t:Option Obj}{g:Tok}(X:K.In s.heap)(I:PySem.W.InstAt s.heap x p C t)(m:(clsIn K C).any (λcd=>mh cd.mro)=true)(j:takerIn K C name\none)
 (h:∀b,(prog<|>w) A.in1 (storeInOwnDict ↑x ↑C (.str name g) name v b)
  (λfin d=>match fin with|.done f=>R (.ok f) d|.again i=>i.quiet=true/\codeAny (model prog w) A i R d) (λe d=>R (.error e) d) s):
 codeAny (model prog w) A (.call (.builtin "object.__setattr__") ⟨[↑x,.str name g,v],[]⟩) R s:=by
 let c:=PySem.F.store_object;let⟨cd,y,o⟩:=any_some m;let⟨n,B,z⟩:=qj ↑x _ o;let sub:Looks (model prog w) s.heap (isInstance ↑x (.type "object")) true:=I.type.andThen (looks_mroIn X (by unfold mroIn;cbv));rwa[ahX c.slot.plain c.entry (@check_slot (model prog w) _ _ s "object.__setattr__" "object" "__setattr__" ↑x [.str name g,v] [] _ c.kind c.split sub (c.args ↑x (.str name g) v) ?_)];let⟨attr,u,r⟩:=Option.bind_eq_some_iff.mp j;let hm:Looks (model prog w) s.heap (mroOf ↑C) cd.mro:=(looks_clsIn X y).andThen .now
 let l:Looks (model prog w) s.heap (storeTaker? attr) none:=by
  cases attr with
  |none=>exact .now
  |some a=>
   let⟨b,k,q⟩:=ahx.mp r;rwa[(looks_takesIn X k).andThen ?_]
   cases b with
   |true=>ext q
   |false=>exact .now
 rw[osa_eq,refuse_eq];rwa[agg (agg (I.type.here (agg (hm.here ?_))))];rw[n];rwa[agn (agg (I.type.here (agg ((looks_findIn X u).here (agg (l.here ?_))))))];rwa[h _]
theorem Yo {ns:Zp}{f:Obj}{t:Zm}(X:K.In s.heap)(c:xo K C)(z:s.heap.get? x\f)(j:f.cls=↑C)(q:f.data=.fields t)(D:takerIn K C name\none)
 (e:f.dict\d) (B:s.heap.Ns1 d M) (I:PySem.Within M ns) (H:⇑ns<=sizeLine)
 (h:∀i,i.Ns1 d (λy=>if y=name then some v else M y)->Heap.SameBut d s.heap i->U () { s with heap:=i,toks:=s.toks+ 2 }):
 (prog<|>w) A (setAttr ↑x name v) U E s:=by
 let⟨P,L,O,p⟩:=f;dsimp only at j q e;subst j q e;let⟨u,S,T,F,r⟩:=id B;let J:PySem.W.InstAt s.heap x ⟨↑C,some d,.fields t,p⟩ C (some u):=⟨z,22,F⟩;rwa[set_plain X J c.sa (DG (s:={ s with toks:=s.toks+ 1 }) X J c.mr D λb=>?_)];let⟨Q,j,o⟩:=any_some c.hd;rwa[agg (agn (agg (agg (wpAny_loadPart z (agg (Looks.here (s:={ s with toks:=s.toks+ 1 }) (looks_clsIn X j) ?_))))))];rw[o];rwa[agn (a:=some d) (agg (agn (agg ?_)))];rwa[wpAny_nsSet1 (s:={ s with toks:=s.toks+ 1 }) B λi g l=>?_]
 let⟨u,N,G,n,k,m⟩:=g.count (PySem.Within.cons name v I);rwa[agg (wpAny_lookBehind n ([k]▸pastItsLine_dict (agz m (by rw[agL];omega))) ?_)];rwa[agn (h _ g l)]
theorem U0 {f:Obj}{r:Zm}(X:K.In s.heap)(c:xo K C)(n:s.heap.get? x\f)(p:f.cls=↑C)(F:f.data=.fields r)(G:takerIn K C name\none)(g:f.dict=none)
 (h:∀j,j.Ns1 ↥s (λy=>if y=name then some v else none)->j.get? x\{ f with dict:=some ↥s }->(∀b o,b≠x->s.heap.get? b\o->j.get? b\o)->U () { s with heap:=j,toks:=s.toks+ 2 }):
 (prog<|>w) A (setAttr ↑x name v) U E s:=by
 let⟨P,L,O,m⟩:=f;dsimp only at p F g;subst p F g;let J:PySem.W.InstAt s.heap x ⟨↑C,none,.fields r,m⟩ C none:=⟨n,22,True.intro⟩;rwa[set_plain X J c.sa (DG (s:={ s with toks:=s.toks+ 1 }) X J c.mr G λb=>?_)];let⟨S,p,D⟩:=any_some c.hd;rwa[agg (agn (agg (agg (wpAny_loadPart n (agg (Looks.here (s:={ s with toks:=s.toks+ 1 }) (looks_clsIn X p) ?_))))))];rw[D];let d:(s.heap.push ("dict">>>.dict #[])).get? x\⟨↑C,none,.fields r,m⟩:=agi _ n;let i:x≠↥s:=agO (agC n);rwa[agg (wpAny_alloc' ?_)];rwa[agg (wpAny_update' d ?_)];rwa[agn (a:=some ↥s) (agg (agn (agg ?_)))]
 let q:((s.heap.push ("dict">>>.dict #[])).update x λo=>{ cls:=o.cls,dict:=some ↥s,data:=o.data,slots:=o.slots }).get? ↥s
  =some ("dict">>>.dict #[]):=(Heap.get?_update_ne _ _ _ _ i.symm).trans (Heap.get?_push_at rfl rfl)
 let u:((s.heap.push ("dict">>>.dict #[])).update x λo=>{ cls:=o.cls,dict:=some ↥s,data:=o.data,slots:=o.slots }).Ns ↥s (λ_=>none):=
  ⟨_,#[],_,q,2,λe M=>absurd M (by simp),λ_=>rfl⟩
 rwa[wpAny_nsSet1 (s:={ s with heap:=(s.heap.push ("dict">>>.dict #[])).update x λo=>{ cls:=o.cls,dict:=some ↥s,data:=o.data,slots:=o.slots },toks:=s.toks+ 1 }) (Heap.Ns1.of_empty u) λj l k=>?_]
 let⟨Q,N,I,B,t,z⟩:=l.count (Within.cons name v Within.nil);rwa[agg (wpAny_lookBehind B ([t]▸pastItsLine_dict (agz z (by rw[agL,ahU,sizeLine_eq];omega))) ?_)];rwa[agn (h _ l ?_ λb o H e=>?_)]
 ·rwa[(k.2 x i).trans (ag2 _ d rfl)]
 ·rwa[(k.2 b (agO (agC e))).trans ((Heap.get?_update_ne _ _ _ _ H).trans (agi _ e))]
end
section
variable {prog:Program}{w:World}{A:Around}{E:Zt->Zu->Prop}{s:Zu}{K:Za1}{x C:Zs}{name:Str}
def Yp {b:Bool}{l:Obj}{f:Obj}(X:K.In s.heap)(c:xo K C)(I:PySem.W.InstAt s.heap x l C (some f))(k:findObj K C (some f) name\.value v)(n:handedIn v=true)(h:Q v { s with toks:=s.toks+ 1 }):
 (prog<|>w) A (getAttr ↑x name b) Q E s:=by
 let⟨m,g,d,t,os⟩:=s;let i:=I.type (M:=model prog w);let q:=looks_findIn (M:=model prog w) X c.ga;let L2:=looks_findIn (M:=model prog w) X c.gt;let j:Looks (model prog w) m (isSubtype ↑C (.type "BaseException")) true:=looks_subIn X c.be;let r:=looks_find (M:=model prog w) X I k;let a:(Value.builtin "BaseException.__getattribute__"==Value.builtin "object.__getattribute__")=false:=⋯
 let e:(onTheHeap (Value.ref C) && Value.builtin "BaseException.__getattribute__"==Value.builtin "object.__getattribute__")=false:=by rw[a];rfl
 let o:(b && onTheHeap (Value.builtin "BaseException.__getattribute__"))=false:=by cases b <;> rfl
 let p:=PySem.F.excAttr_ValueError.ga.bind ↑x;unfold getAttr getAttrBy;rwa[agg (wpAny_mkText (ahn (agg (i.at (agg (q.at ?_))))))];dsimp only;rw[agF (by rw[e];decide)];unfold getAttrByItsOwn hookBefore;rw[agI (show onTheHeap (Value.ref C)=true from rfl)];rwa[agg (L2.at (agg (ajA (ahn ?_))))];unfold callGetattribute boundAndCalled;rw[agF (by cbv),p];rwa[agg (agn ?_)];show wpAny _ _ (call (.builtin "BaseException.__getattribute__") [↑x,.str name t]) _ _ _;rwa[aiW (ahX PySem.F.excAttr_ValueError.ga.plain PySem.F.entry_bexc_ga (GB i j ?_))];unfold Builtin.«object.__getattribute__»
 repeat lk
 show wpAny _ _ (handedOut v) _ _ _;rw[handedOut_of n];rwa[agn h]
end
end L2
namespace L2
open PySem PySem.Spec PyProof.Rows PySem.Calls PySem.W
noncomputable def xq (K:Frag)(C f:Zs):Bool:=match K.lookup C with
 |some ⟨.type "type",_,.cls cd,c⟩=>(match cd.mro,c.toList with
  |.ref b::a,#v[_,_,_,_,.builtin n,_]=>b==C && n=="ValueError.__new__" && !cd.hasDel && tailIn K Ac a && nsOkIn K cd.ns && nsIn K cd.ns "__init__"==some (some ↑f)
  |_,_=>false)
 |_=>false
def N5 {K:Frag}(X:K.In h)(G:h.Ns a M)(e:nsIn K a x\some v):M x\v:=by
 let⟨o,m,p,i,b,_,g⟩:=G;unfold nsIn at e;split at e
 ·rename_i c d f k l q;have:=X^q;rw[i]at this;ext this;ext b;split at e
  ·rename_i n j;ext e;rw[<-g];unfold nsFind findBy;rw[<-Array.find?_toList,j];rfl
  ·split at e <;> ext e
 ·ext e
theorem AH (XK:K.In h)(q:xq K a b=true):∃n N nm o bs k s sub r col t E A G D F w,
 h.get? a=some (excClassObj nm o a N bs n k s sub r col t E A G D F "ValueError.__new__")/\h.Ns N w/\w "__init__"=some ↑b/\OwnTail h Ac n:=by
 unfold xq at q;split at q
 ·rename_i t cls m j;split at q
  ·rename_i H n x y z u nid v f c;simp only[aib,ajq,Bool.not_eq_true']at q;let⟨⟨⟨⟨⟨rfl,rfl⟩,e⟩,g⟩,i⟩,d⟩:=q;let⟨nm,bs,mro,C,o,B,s,sub,r,col,del⟩:=cls;dsimp only at f e i d;subst f e
   let p:m=#[x,y,z,u,some (.builtin "ValueError.__new__"),v]:=by
    let⟨l⟩:=m;simp only at c;rw[c]
   subst p;rwa[n,C,nm,o,bs,B,s,sub,r,col,t,x,y,z,u,v,_,XK^j,.of_isNs (PySem.W.isNs_of_in XK i),N5 XK (.of_isNs (PySem.W.isNs_of_in XK i)) d,PySem.W.tail_of_in XK g]
  ·ext q
 ·ext q
section
variable {prog:Program}{w:World}{A:Around}{E:Zt->Zu->Prop}{h:Heap}{g:Array GenState}{d:Drawn}{t:Nat}{os:OsState}
variable {nm q:Str}{C N:Zs}{bs bm LK:Zk}{hdct:Bool}{sn:Zp}{sub:Zk}{ab:Bool}{col:Option Bool}{dd:Zo}{k0 k1 k2 k3 k5:Zl}{B newId Hj:String}
theorem vz (F:ExcBaseFacts B newId Hj LK)(T:OwnTail h LK bm){n:Str->Zl}{rest:Zk}{s:Zs}{y:Obj}{Q:Fin->Zu->Prop}
 (j:h.get? C\excClassObj nm q C N bs bm hdct sn sub ab col dd k0 k1 k2 k3 k5 newId) (L:h.Ns N n) (J:n "__init__"=some ↑s)
 (u:h.get? s\y) (p:y.cls=.type "function")
 (G:∀l e,Heap.MadeExcOf h l e ↑C rest->
  (prog<|>w) A (call ↑s (↑e::rest)) (λr v=>r=.none/\Q (.done (.ret ↑e)) v) E ⟨l,g,d,t,os⟩) (U1:⇑rest<=sizeLine):
 (prog<|>w) A (Builtin.«type.__call__» ⟨↑C::rest,[]⟩) Q E ⟨h,g,d,t,os⟩:=by
 repeat (first|with_reducible rwa[ajh j ?_]|with_reducible rwa[wpAny_madeBy_exc j ?_]|wp_step)
 rwa[codeAny_call_builtin_code (Code.quiet_builtin _ F.quiet) (wpAny_check_new_subT F T j ?_)];rwa[codeAny_exc_new_subT F T j ?_ U1];show wpAny _ _ _ _ _ _
 let a:=agi { cls:=↑C,data:=.fields #[↑h.objs.size,.none,.none,.none,.bool false,.none] }
  (agi ("tuple">>>.seq rest.toArray) j)
 let c:=agi { cls:=↑C,data:=.fields #[↑h.objs.size,.none,.none,.none,.bool false,.none] }
  (agi ("tuple">>>.seq rest.toArray) u)
 let i:((h.push ("tuple">>>.seq rest.toArray)).push { cls:=↑C,data:=.fields #[↑h.objs.size,.none,.none,.none,.bool false,.none] }).Ns N n:=
  let ⟨o,I,M,e,r⟩:=L;⟨o,I,M,agi _ (agi _ e),r⟩
 let f:((h.push ("tuple">>>.seq rest.toArray)).push
  { cls:=↑C,data:=.fields #[↑h.objs.size,.none,.none,.none,.bool false,.none] }).get? (h.objs.size+ 1)=some
  { cls:=↑C,data:=.fields #[↑h.objs.size,.none,.none,.none,.bool false,.none] }:=by heap_get
 let m:(Value.ref C::bm).contains ↑C=true:=by simp
 let k:=T.keeps (h':=(h.push ("tuple">>>.seq rest.toArray)).push { cls:=↑C,data:=.fields #[↑h.objs.size,.none,.none,.none,.bool false,.none] })
  λb o e=>agi _ (agi _ e)
 unfold isInstance
 repeat (first|with_reducible rwa[ajh f ?_]|(with_reducible rwa[wpAny_isSubtype_exc a ?_];rw[m])|wp_step)
 show wpAny _ _ (typeLookup ↑C _) _ _ _;rwa[wpAny_typeLookup_tail a i k F.mroIs F.init.lookup ?_];rw[J];rwa[ahn (agg ?_)];unfold bindSpecial;rwa[agg (aiP (T:="function") ⟨_,c,p⟩ ?_)];rw[agI ⋯];rwa[agn (agg (ahk (G _ (h.objs.size+ 1) ⟨λb o z=>agi _ (agi _ z),Heap.get?_none_of_le (aiv _),h.objs.size,f,Heap.get?_none_of_le (agp _),5⟩) (λr v H=>?_) λ_ _ x=>x))]
 ·rwa[agi _ (Heap.get?_push_at rfl rfl)]
 ·let⟨rfl,D⟩:=H
  wp_walk
  rwa[D]
theorem Fe (F:ExcBaseFacts B newId Hj LK)(T:OwnTail h LK bm){k:Str->Zl}{rest:Zk}{i:Zs}{l:Obj}{Q:Zt->Zu->Prop}
 (b:h.get? C\excClassObj nm q C N bs bm hdct sn sub ab col dd k0 k1 k2 k3 k5 newId) (p:h.Ns N k) (o:k "__init__"=some ↑i)
 (j:h.get? i\l) (f:l.cls=.type "function")
 (n:∀c e,Heap.MadeExcOf h c e ↑C rest->
  (prog<|>w) (A.under (.builtin "type.__call__" ⟨↑C::rest,[]⟩)) (call ↑i (↑e::rest)) (λr m=>r=.none/\Q ↑e m) E ⟨c,g,d,t,os⟩) (a:⇑rest<=sizeLine):
 (prog<|>w) A (call ↑C rest) Q E ⟨h,g,d,t,os⟩:=by
 let u:=tc_lookup;let x:=tc_bind ↑C;let v:(⟨h,g,d,t,os⟩:Zu).TypeIs ↑C "type":=⟨_,b,2⟩;rwa[aiW (codeAny_of_tree ?_)];show wpAny _ _ (callAny ↑C _) _ _ _
 repeat (any_goals (first|assumption|with_reducible rwa[ajh b ?_]|wp_step))
 erw[2];rwa[codeAny_call_builtin_at (Code.quiet_builtin _ ⋯) entry_typeCall (wpAny_check_type_call_sub b (vz (U1:=a) F T b p o j f λc e s=>?_))];rwa[n c e s]
theorem JW {M:Model}{env:Env}{x:Sem Zt}{Q:Flow->Zu->Prop}(b:bm.contains (.type "BaseException")=true)(r:A.handled=none)
 (h:wpAny M A x (λv a=>∃e f i,v=↑e/\a.heap.get? C\excClassObj nm q C N bs bm hdct sn sub ab col dd k0 k1 k2 k3 k5 newId/\
  a.heap.get? e=some f/\f.cls=↑C/\f.data=.fields i/\i[1]?=some .none/\E ↑e a) E s):
 wpAny M A (raiseStmt env (some x) none) Q E s:=by
 let j:(Value.ref C::bm).contains (.type "BaseException")=true:=by rw[List.contains_cons,b,Bool.or_true]
 unfold raiseStmt;rwa[agg (ahk h (λv a c=>?_) λ_ _ x=>x)];let⟨e,f,i,rfl,l,m,n,k,o,p⟩:=c;let⟨F,g,d,D,os⟩:=a;let⟨z,G,y,u⟩:=f;dsimp only at n k;subst n k
 repeat (first|with_reducible rwa[ajh m ?_]|with_reducible rwa[ajh l ?_]|(with_reducible rwa[wpAny_isSubtype_exc l ?_];rw[j])|with_reducible rwa[agg (ahp m rfl o ?_)]|wp_step)
 all_goals rwa[wpAny_raiseNew_none r p]
end
end L2
namespace L2
open PySem PySem.Spec PyProof.Rows
inductive cZ (P:Program) (w:World) (outer:Zq) (H:Hp) (s:Zu) (E:XK) (e:Zt) (s':Zu):Prop
 |mk (x C:Zs) (dx:Zo) (B:Heap) (H':Hp):e=↑x->s'.os=s.os->AllBare s'.gens->kU B outer x ↑C dx .none s'.heap->Un (cJ outer) [] H H' s.heap s'.heap->dz P w H' B->(∀b o,s.heap.get? b\o->H b=none->b∉cJ outer->B.get? b\o)->(∀b o,s.heap.get? b\o->b∉cJ outer->∃o',B.get? b\o')->E ↑C dx H'->cZ P w outer H s E e s'
noncomputable def del (H:Hp)(x:Zs):Hp:=λb=>if b=x then none else H b
def rj {x:Zs}(h:b≠x):del H x b=H b:=by unfold del;rw[agF h]
def JX {x:Zs}{u:HO}(h:del H x b\u):b≠x/\H b\u:=by
 unfold del at h
 cbv
def gk:Passes (cZ P w) X (λ_ _ _=>False):=λ_ _ _ _ _ _ _ ζ=>by let⟨_,_,_,_,_,_,_,_,_,_,_,_,_,q⟩:=ζ;rwa[q.elim]
def LN {a:Zq}(h:cZ P w a H s (λ_ _ _=>False) v t):False:=let ⟨_,_,_,_,_,_,_,_,_,_,_,_,_,q⟩:=h;q
section
variable {P:Program}{w:World}{K:Za1}{mg:Str->Zl}{base:Heap}{N:Zp}{qual:Str}{scope:Scope}{f:Zs}{cd:Zt}{A:Around}{outer:Zq}{s:Zu}{H:Hp}{E:XK}{pins:List (Zs×Obj)}{σ:St}{H1:Hp}{s1:Zu}
def pM {o:Obj}(I:Inv (cz (cZ P w) P w K mg base N qual scope f cd A outer s H E) pins σ H1 s1)(e:s.heap.get? b\o)(a:b∉cJ outer):b∉cJ (cz (cZ P w) P w K mg base N qual scope f cd A outer s H E).stack:=λz=>by
 rcases agB.mp (show b∈↥s::cJ outer from z) with z|z
 ·rwa[absurd (agC e) (by rw[z];rwa[ahz _])]
 ·rwa[a z]
theorem Ro {x:Zs}{R:Zo}(I:Inv (cz (cZ P w) P w K mg base N qual scope f cd A outer s H E) pins σ H1 s1)(F:H1 x\XO x a R true)(Z:s.heap.get? x=none)(q:E ↑a R (del H1 x)):
 (cz (cZ P w) P w K mg base N qual scope f cd A outer s H E).xe ↑x s1:=by
 let t:=I.ok.frames;let C:∀env∈(cz (cZ P w) P w K mg base N qual scope f cd A outer s H E).stack,∀b,env.frame\b->b∈x::cJ (cz (cZ P w) P w K mg base N qual scope f cd A outer s H E).stack:=λenv X b k=>agS _ (ajx.mpr ⟨env,X,k⟩)
 let G:=PySem.W.funFrames_hide I.stack C;let⟨⟨ob,vs,d,rfl',rfl,i,l⟩,_,_⟩:=I.aL x _ F;let nx:∀b o,s.heap.get? b\o->b≠x:=λb o e z=>by cbv
 let out:∀b o,s.heap.get? b\o->b∉cJ outer->b∉x::cJ (cz (cZ P w) P w K mg base N qual scope f cd A outer s H E).stack:=λb o e k z=>(agB.mp z).elim (nx b o e) (pM I e k)
 rwa[JV (s:=s1) (base:=PySem.W.hideAll s1.heap (x::cJ (cz (cZ P w) P w K mg base N qual scope f cd A outer s H E).stack)) (L:=↥s) t G rfl d (λb o z=>PySem.W.of_hideAll _ z) (PySem.W.hideAll_none _ (.head _)) i (l rfl).1 λy r ups=>?_]
 let S:∀b o,s.heap.get? b\o->H b=none->b∉cJ outer->(PySem.W.hideAll s1.heap (x::cJ (cz (cZ P w) P w K mg base N qual scope f cd A outer s H E).stack)).get? b\o:=λb o d g h=>
  ajn _ (I.base.keep b o d g h (by simp[cz])) (out b o d h)
 let O:∀b o,s.heap.get? b\o->b∉cJ outer->∃j,(PySem.W.hideAll s1.heap (x::cJ (cz (cZ P w) P w K mg base N qual scope f cd A outer s H E).stack)).get? b\j:=λb o d h=>by
  let⟨j,i⟩:=I.base.there b o d (by simp[cz]);rwa[j,ajn _ i (out b o d h)]
 let M:∀b o,s1.heap.get? b\o->b∈cJ outer->∃B,y.get? b\{ o with slots:=B }:=λb o d g=>by
  let⟨_,o2,h,Y⟩:=I.stack.mem (show b∈cJ (cz (cZ P w) P w K mg base N qual scope f cd A outer s H E).stack from agS _ g);rw[d]at h;ext h;rwa[ups b o d Y]
 let dl:∀{b:Zs} {u:HO},H1 b\u->(∀ T,u≠.ext T)->del H1 x b\u:=λ{b u} e n=>by
  rw[rj]
  ·rwa[e]
  ·intro z;rw[z,F]at e;rwa[n _ (Za0 e).symm]
 rw[rfl']at r;rwa[⟨x,a,11,del H1 x,2,I.os,I.bare,r,⟨λb o d g h _=>r.1 b o (S b o d g h),λb o d g h _=>?_,λb o d g _=>?_,λb o d _=>?_,λb Q e=>dl (I.base.hX b Q e) (by cbv),λb o u e=>dl (I.base.gH b o u e) (by cbv),λb V e=>?_⟩,5,S,O,q⟩]
 ·let⟨B,i⟩:=I.base.slot b o d g h (by simp[cz]);let⟨D,l⟩:=M b _ i h;rwa[D,l]
 ·rw[rj (nx b o d)];rwa[I.base.free b o d g (by simp[cz])]
 ·by_cases k:b∈cJ outer
  ·let⟨j,i⟩:=I.base.there b o d (by simp[cz]);let⟨B,l⟩:=M b j i k;rwa[_,l]
  ·let⟨j,i⟩:=O b o d k;rwa[j,r.1 b j i]
 ·let⟨m,g⟩:=I.base.hY b V e;rwa[m,dl g (by cbv)]
 ·intro b u d;let⟨U,d⟩:=JX d
  let p:∀c v,c≠x->H1 c\v->c∉x::cJ (cz (cZ P w) P w K mg base N qual scope f cd A outer s H E).stack:=λc v J g z=>by
   rcases agB.mp z with z|z
   ·rwa[J z]
   ·rw[I.nS c z]at g;ext g
  rwa[(I.aL b u d).fi (λc v J z=>ajn _ z ?_) (λc z=>dl z (by cbv)) λc Q z=>dl z (by cbv)]
  rcases J with z2|z2
  ·rw[z2];rwa[p b u U d]
  ·rwa[p c _ (λz=>by rw[z,F]at z2;ext z2) z2]
def U2:Passes (cZ P w) (cz (cZ P w) P w K mg base N qual scope f cd A outer s H E) E:=by
 intro pins σ H1 s1 e S I z;let⟨x,C,M,B,J,rfl,os,bare,G,un,l,O,F,q⟩:=z;rwa[N4 (L:=↥s) I.ok.frames rfl G λt k ups=>?_]
 let p:∀b o,s.heap.get? b\o->H b=none->b∉cJ outer->B.get? b\o:=λb o a d c=>
  O b o (I.base.keep b o a d c (by simp[cz])) (I.base.free b o a d (by simp[cz])) (pM I a c)
 let m:∀b o,s.heap.get? b\o->b∉cJ outer->∃h,B.get? b\h:=λb o a c=>by
  let⟨h,g⟩:=I.base.there b o a (by simp[cz]);rwa[F b h g (pM I a c)]
 let D:∀b o,s1.heap.get? b\o->b∈cJ outer->∃u,t.get? b\{ o with slots:=u }:=λb o a d=>by
  let i:b∈cJ (cz (cZ P w) P w K mg base N qual scope f cd A outer s H E).stack:=agS _ d;let⟨_,T,c,Q⟩:=I.stack.mem i;rw[a]at c;ext c;let⟨u,g⟩:=un.slot b o a (I.nS b i) i (by simp);let⟨j,r⟩:=ups b _ g Q;rwa[j,r]
 rwa[⟨x,C,M,B,J,2,os.trans I.os,bare,k,⟨λb o a d c _=>k.1 b o (p b o a d c),λb o a d c _=>?_,λb o a d _=>?_,λb o a _=>?_,λb n a=>un.hX b n (I.base.hX b n a),λb o n a=>un.gH b o n (I.base.gH b o n a),λb y a=>?_⟩,l,p,m,q⟩]
 ·let⟨u,g⟩:=I.base.slot b o a d c (by simp[cz]);let⟨j,r⟩:=D b _ g c;rwa[j,r]
 ·let⟨h,g⟩:=I.base.there b o a (by simp[cz]);rwa[un.free b h g (I.base.free b o a d (by simp[cz])) (by simp)]
 ·by_cases v:b∈cJ outer
  ·let⟨h,g⟩:=I.base.there b o a (by simp[cz])
   cbv
  ·let⟨h,g⟩:=m b o a v;rwa[h,k.1 b h g]
 ·let⟨U,d⟩:=I.base.hY b y a;let⟨R,c⟩:=un.hY b _ d
  cbv
end
section
variable {P:Program}{w:World}{K:Za1}{mg:Str->Zl}{base:Heap}
theorem qK.Rp {qual:Str}{st:Stmt}{fd:FuncData}{e:Zp}{k:Nat}{sp:Sp}(F:qK K x qual st a fd)(S:aT Z e (aB st))(len:∀c H Q E,sp c H Q E->⇑c=⇑e)
 (d:∀(b:Zt) (A:Around) (outer:Zq) (s:Zu) (H:Hp) (c:Zb) (Q:VK) (E:XK),cy k (A.deeper (envOfC qual (aB st) ↥s a b))->sp c H Q E->
  ∃t,iI (cz (cZ P w) P w K mg base Z qual (aB st) a b A outer s H E) (cF st) t/\t { nx:=λ_ i=>Q .non i,rt:=Q } (start Z c) H):di P w K mg base (cZ P w) (k+ 1) a fd e sp:=by
 let⟨l,n,kV,doc,pm,m,b,ct,j,rfl,lk,g⟩:=F.ex;rwa[zv lk g S len λA outer s H c Q E h f=>d b A outer s H c Q E h f]
end
section
variable {X:Cx}{pins:List (Zs×Obj)}{σ:St}{H:Hp}{s:Zu}{h':Heap}{e C:Zs}{vs:Zk}
def Inv.U4 (I:Inv X pins σ H s)(hm:Heap.MadeExcOf s.heap h' e ↑C vs)(hex:X.ex=[]):H e=none/\X.dY.heap.get? e=none/\Inv X pins σ (upd H e (XO e C none true)) (s<*h'):=by
 let a:H e=none:=by
  cases q:H e with
  |none=>rfl
  |some u=>
   let⟨o,d⟩:=(I.aL e u q).get;rw[hm.new]at d;ext d
 let ne:∀b o,s.heap.get? b\o->b≠e:=λb o q z=>by rw[z,hm.new]at q;ext q
 let h:X.dY.heap.get? e=none:=by
  cases q:X.dY.heap.get? e with
  |none=>rfl
  |some o=>
   let⟨l,d⟩:=I.base.there e o q (by rw[hex];simp)
   cbv
 rwa[⟨a,h,I.un (t':=s.toks) ⟨λb u q _ _ _=>hm.keeps b u q,λb u q _ _ _=>⟨u.slots,hm.keeps b u q⟩,λb u q n _=>[ak (ne b u q)]▸n,λb u q _=>⟨u,hm.keeps b u q⟩,λb g q=>[ak (aw q a)]▸q,λb u g q=>[ak (aw q a)]▸q,λb k q=>⟨#[],by rw[ak (aw q a),q];simp⟩⟩ λb u q=>?_⟩];by_cases f:b=e
 ·subst f;rw[ah]at q;ext q;let⟨t,i,_,_⟩:=hm.there;rwa[zz ⟨11,i,222,λ_=>⟨212⟩⟩]
 ·rw[ak f]at q;rwa[(I.aL b u q).fi (λc v _ q=>hm.keeps c v q) (λc q=>[ak (aw q a)]▸q) λc g q=>[ak (aw q a)]▸q]
end
section
variable {X:Cx}{k:Nat}{f C:Zs}{fd:FuncData}{ps:Zp}{sp:Sp}{x:Str}{p pos cH:Pos}{e:Expr}{es:Zr}{t:TA}{E:XK}
def VX (X:Cx)(C:Zs)(E:XK):Prop:=∀(a:List (Zs×Obj)) (c:St) (H:Hp) (s:Zu) (x:Zs) (b:Zo),Inv X a c H s->H x\XO x C b true->X.dY.heap.get? x=none->E ↑C b (del H x)->X.xe ↑x s
def lvD {base:Heap}{qual:Str}{scope:Scope}{f C:Zs}{a:Zq}{E:XK}:VX (cz (cZ P w) P w K M base Z qual scope f v A a s H E) C E:=λ_ _ _ _ _ _ I c b q=>Ro I c b q
def N6 (C:Zs)(sp:Sp)(E:XK)(t:TA):TS:=λ_ g H=>t g H λd b=>∀x,b x=none->sp (↑x::d) (upd b x (XO x C none true)) (λv a=>v=.non/\∃c,a x\XO x C c true/\E ↑C c (del a x)) (λ_ _ _=>False)
theorem Hk (F:di X.prog X.w X.K X.mg X.base (cZ X.prog X.w) k f fd ps sp)(hr:cy (k+ 1) X.A)(hb:Binds X.K fd ps [])(hc:X.calm=true)(hg:Gl X x)(hm:X.mg x\↑C)(hC:xq X.K C f=true)(hf:PySem.W.isFn X.K ↑f=true)(hk:PySem.W.keepIn X.K ↑C=true)
 (ha:PA X (e::es) t) (lv:VX X C E) (hex:X.ex=[]:=by rfl) (AI:⇑ps<=1000:=by decide) (w:(x==("__debug__":Str))=false:=by decide) (he:starEach (e::es) X.env=(false,eval e X.env)::starEach es X.env:=by rfl) (G:(backTo cH (starEach es X.env)).any (·.1)=false:=by rfl):
 PS X (.Raise (some (.Call (.Name x p) (e::es) [] cH)) none pos) (N6 C sp E t):=by
 intro c s σ H D I h;let⟨R,N,nm,qn,bs,i,sn,sub,Q,col,dd,k0,k1,T,Z,k5,mN,W,o2,o3,o4⟩:=AH I.ok.mod.uX hC;let kp:∀{P O n},Inv X c P O n->∀b o,X.base.get? b\o->n.heap.get? b\o:=λJ b o q=>(J.bs b o q).1
 rw[arm_exec_Raise];rwa[agg (aje (JW (C:=C) (nm:=nm) (q:=qn) (N:=N) (bs:=bs) (bm:=R) (hdct:=i) (sn:=sn) (sub:=sub) (ab:=Q) (col:=col) (dd:=dd) (k0:=k0) (k1:=k1) (k2:=T) (k3:=Z) (k5:=k5) (newId:="ValueError.__new__") (o4.hasType ⋯) (I.ok.hd hc) (agg (ahk (E:=X.xe) ?_ (λv Y m=>agg (aje (agn m))) λ_ _ x=>x))))];rwa[aht (jU I hg hm ?_ w)];rwa[ai2 (h₀:=X.base) I.ok.mod.uX hk (a9 (ha cH c s σ H _ I h) λus s1 ζ=>?_) he G];let⟨vs,H1,j,r,q⟩:=ζ;rwa[⟨j.dk,5⟩];let⟨oI,M,B⟩:=ahx.mp (ajq.mp hf)
 let len:⇑us<=1000:=by
  let h1:=F.len _ _ _ _ (q (↥s1) (j.aL.fresh (agp _)));rw[agL]at h1;rw[<-⇑r];ext
 let⟨hh,g,d,tk,os⟩:=s1;rwa[Fe (A:=X.A) aio (o4.keeps (kp j)) (kp j _ _ W) (o2.keeps (kp j)) o3 (j.dk^M) B (λh' y z=>?_) (agz len ⋯)];let⟨hn,h0,J⟩:=j.U4 z hex;let hq:=q y hn;let r2:Vals (V.ref y::vs) (Value.ref y::us):=.cons rfl r
 let hl:⇑(Value.ref y::us++[])=⇑ps:=by
  rw[agQ,<-⇑r2];rwa[F.len _ _ _ _ hq]
 let l:=hb _ (Value.ref y::us) J.dk hl;rw[agQ]at l;rwa[aiW (aiO (F.run _ X.stack _ _ ⟨Value.ref y::us,[]⟩ (Value.ref y::us) _ _ _ (hr.make C us []) (J.zM.make C us []) l r2 hq) λr n a=>?_)]
 cases r with
 |error e=>exact(LN a).elim
 |ok fl=>
  cases fl with
  |ret u=>
   let⟨v,O,L,rv,ev,dx,S,q3⟩:=J.after a;subst ev;let⟨⟨ob,ws,a1,a2,a3,a4,a5⟩,_,_⟩:=L.aL y _ S;rwa[rv,y,ob,ws,2,kp L _ _ W,a1,a2,a4,(a5 rfl).1,lv c σ O n y dx L S h0 q3]
  |next=>exact False.elim a
  |brk=>exact False.elim a
  |cont=>exact False.elim a
end
end L2
namespace L2
open PySem PySem.Spec PyProof.Rows PySem.W
section
variable {M:Model}{A:Around}{E:Zt->Zu->Prop}{s:Zu}{x a:Zs}{ob:Obj}{vs:Zm}{tv:Zt}
theorem JY {Q:Fin->Zu->Prop}(e:s.heap.get? x\ob)(c:ob.data=.fields vs)(d:vs[0]?\↑a)
 (h:Q (.done (.ret .none)) { s with heap:=(s.heap.push ("tuple">>>.seq #[tv])).update x (Obj.mapFields (·.setIfInBounds 0 ↑↥s)) }):wpAny M A (Builtin.«BaseException.__init__» ⟨[↑x,tv],[]⟩) Q E s:=by
 let b:=agi ("tuple">>>.seq #[tv]) e;unfold Builtin.«BaseException.__init__»;rwa[agg (wpAny_newTuple ?_)];unfold Builtin.BaseException.bexcPut;rwa[agg (agg (ahp b c d (agg (aiw b c (ah1.mp d).1 ?_))))]
 wp_walk
 rwa[h]
end
section
variable {X:Cx}{Y:Zs}{y f:Str}{np apos pos pos':Pos}{e:Expr}{es:Zr}{t:TA}
structure JZ (K:Za1) (Y:Zs):Prop where
 sp:specialIn K ↑Y "__getattribute__"=some (some (.builtin "type.__getattribute__"))
 rd:readsIn K Y (.type "type")=true
 fc:(match findCls K ↑Y (.type "type") "__init__" with|some (.val (.builtin i))=>i=="ValueError.__init__" | _=>false)=true
def JZ.find {Y:Zs}(b:JZ K Y):findCls K ↑Y (.type "type") "__init__"=some (.val (.builtin "ValueError.__init__")):=by
 have:=b.fc
 cbv
def Yq (C:Zs)(t:TA):TE:=λ d H Q=>t d H λb a=>∃(x:Zs) (c:Zo) (l:Zh),b=[↑x,.str (tx l)]/\a x\XO x C c true/\Q .non a
def J0 {pl:Sem Bool}(hC:xq X.K a b=true)(B:JZ X.K Y)(V:Gl X y)(hm:X.mg y\↑Y)(ha:PA X (e::es) t)(v:(y==("__debug__":Str))=false:=by decide)
 (A:starEach (e::es) X.env=(false,eval e X.env)::starEach es X.env:=by rfl) (C:(backTo pos (starEach es X.env)).any (·.1)=false:=by rfl)
 (S:eval (.Call (.Attribute (.Name y np) "__init__" apos) (e::es) [] pos) X.env=(do
  let P <-eval (.Name y np) X.env
  standAt apos.atName
  let (f,first) <-holding [P] (getMethod P "__init__" pl)
  callWith pos f first (backTo pos (starEach (e::es) X.env)) (backToKw pos (keywordEach [] X.env))):=by rfl):
 PE X (.Call (.Attribute (.Name y np) "__init__" apos) (e::es) [] pos) (Yq a t):=by
 intro k s σ H Q I h;rwa[methodCall_KW (pl:=pl) (jU I V hm ?_ v) S];rwa[method_cls I.dk B.sp (cls_value I.dk B.rd B.find rfl ?_)];rwa[PyProof.Rows.callWith_builtin1 (a9 (ha pos k _ σ H _ (I.tok _) h) λus s1 ζ=>?_) A C];let⟨vs,n,w,r,x,G,l,ev,p,q⟩:=ζ;subst ev;let⟨u,O,rfl,Z,ry⟩:=vals2 r;ext Z;let⟨bm,N,nm,qn,bs,F,sn,sub,ab,col,dd,k0,k1,k2,k3,k5,mN,W,o2,o3,o4⟩:=AH I.ok.mod.uX hC;let kp:∀d o,X.base.get? d\o->s1.heap.get? d\o:=λd o q=>(w.bs d o q).1
 let⟨⟨ob,ws,m,M,a3,L,a5⟩,_,_⟩:=w.aL x _ p;let⟨b1,c,E⟩:=a5 rfl;let⟨g,gg,dr,U,os⟩:=s1;rwa[aiW (ahX aio.init.plain aio.initEntry (wpAny_check_init_subT aio (o4.keeps kp) (kp^W) m M ?_))];rwa[JY m L E ?_];let R:x≠g.objs.size:=agO (agC m);let D:=agi ("tuple">>>.seq #[O]) m;let i:=ahV L (·.setIfInBounds 0 (Value.ref g.objs.size));let j:=ag2 (Obj.mapFields (·.setIfInBounds 0 (Value.ref g.objs.size))) D (ais i)
 let J:=w.write (h':=(g.push ("tuple">>>.seq #[O])).update x (Obj.mapFields (·.setIfInBounds 0 ↑g.objs.size))) (t':=U) (o:=XO x a G true) (x:=x) (e:=x) ([p]▸True.intro) (.inl rfl) (λd u T z=>(ag3^ahC T).trans (agi _ z)) ⟨_,j⟩
  (zz ⟨11,j,(Obj.cls_mapFields _ _).trans M,(yD _ _).trans a3,i,λ_=>⟨by cbv,g.objs.size,by simp[(ah1.mp E).1]⟩⟩)
 let eH:upd n x (XO x a G true)=n:=by
  funext d
  by_cases z:d=x
  ·rw[z,ah,p]
  ·rw[ak z]
 rw[eH]at J;rwa[.non,n,J,2,q]
def U6 (K:Za1)(k i:TE)(f:Str):TS:=λD c H=>i c H λy j=>k c j λx b=>∃(a C:Zs) (h:Zo) (g:Bool),x=↑a/\b a\XO a C h g/\xo K C/\kz K C f/\
 match h with
 |none=>∀d,b d=none->D.nx c (upd (upd b d (XD d [(f,y)])) a (XO a C (some d) g))
 |some d=>∃fs,d≠a/\b d\XD d fs/\⇑fs<1000/\D.nx c (upd b d (XD d (bJ f y fs)))
def Hl {fs:List (Str×V)}{mA:Str->Zl}{y:V}(r:∀f,eA (fs.lookup f) (mA f))(a:PySem.Within mA (fs.map (·.1)))(c:RelV y u):(∀g,eA ((bJ f y fs).lookup g) (if g=f then some u else mA g))/\PySem.Within (λg=>if g=f then some u else mA g) ((bJ f y fs).map (·.1)):=by
 rwa[⟨λg=>?_,λg b=>?_⟩]
 ·rw[nB];by_cases q:g=f
  ·rw[agI q,agI q];rwa[c]
  cbv
 ·by_cases q:g=f
  ·rw[q];rwa[(ky f y fs).1]
  ·rwa[(ky f y fs).2 g (a g λz=>b ?_)]
   cbv
def DH {o value:Expr}{Q:TE}(ha:PE X o r)(hv:PE X value Q)(hs:swapsWith value (some (.Attribute o f pos')) pos.line X.env=pure false):PS X (.Assign [.Attribute o f pos'] value pos) (U6 X.K r Q f):=by
 intro k s A H D I h;rwa[plainObj_wpAny_Assign_Attribute (a9 (hv k s A H _ I h) λu s1 ζ=>?_) hs];let⟨y,H1,Z,S,q⟩:=ζ;rwa[a9 (ha k s1 A H1 _ Z q) λov s2 ζ=>?_];let⟨x,H2,l,rx,a,C,dx,nw,ex,U,c,n,B⟩:=ζ;subst ex;obtain rfl:ov=Value.ref a:=rx;let⟨⟨ob,vs,N,O,R,L,a5⟩,_,_⟩:=l.aL a _ U
 cases dx with
 |some d=>
  let⟨fs,nd,T,hl,B⟩:=B;let⟨⟨mA,hn,i,P⟩,_,_⟩:=l.aL d _ T;rwa[Yo l.dk c N O L n.EC R hn P (by rw[agm,sizeLine_eq];omega) λp j sb=>?_]
  let⟨M,F⟩:=Hl (f:=f) i P S;let⟨w,_,_,v,_⟩:=id j;rwa[A,_,l.write (x:=d) (e:=d) ([T]▸True.intro) (.inl rfl) (λb u G z=>(sb.2 b G).trans z) ⟨w,v⟩ (LJ ⟨_,j,M,F⟩),B]
 |none=>
  rwa[U0 l.dk c N O L n.EC R λp j m kp=>?_]
  let V:H2 ↥s2=none:=l.aL.fresh (agp _);let E:↥s2≠a:=ahw (agC N);let⟨w,es,ep,v,W⟩:=id j;let⟨M,F⟩:=Hl (fs:=[]) (mA:=λ_=>none) (f:=f) (λ_=>True.intro) (λg hg=>absurd rfl hg) S;let J:=l.laid (a:=↥s2) (o:=XD ↥s2 [(f,y)]) (h':=s2.heap.push w) (t':=s2.toks) (λb u z=>agi _ z) (agp _) (LJ ⟨_,⟨w,es,ep,Heap.get?_push_at rfl (Heap.get?_some_iff.mp v).2,W⟩,M,F⟩);rwa[⟨A,_,J.write (h':=p) (x:=a) (e:=a) (o:=XO a C (some ↥s2) nw) ([ak E.symm,U]▸True.intro) (.inl rfl) (λb u G z=>?_) ⟨_,m⟩ (zz ⟨11,m,O,2,L,a5⟩),B _ V⟩];rcases Heap.get?_push_cases z with ⟨rfl,rfl⟩|z
  ·rwa[v]
  ·rwa[kp b u G z]
inductive Rq (K:Za1) (f:Str) (x:V) (H:Hp) (Q:VK):Prop
 |mk (a C d:Zs) (nw:Bool) (fs:List (Str×V)) (v:V):x=↑a->H a\XO a C (some d) nw->H d\XD d fs->xo K C->kz K C f->fs.lookup f\v->Q v H->Rq K f x H Q
def U9 (K:Za1)(b:TE)(f:Str):TE:=λ c H Q=>b c H λx a=>Rq K f x a Q
def DJ {e:Expr}(S:PE X e r)(z:attributeBase e f X.env (eval e X.env)=eval e X.env):PE X (.Attribute e f pos) (U9 X.K r f):=by
 intro g s N H Q I h;rwa[C8 z (a9 (S g s N H _ I h) λu s1 ζ=>?_)];let⟨x,F,i,M,a,C,d,nw,fs,v,ex,U,O,c,n,l,q⟩:=ζ;subst ex;obtain rfl:u=Value.ref a:=M;let⟨⟨E,B,T,p,k,m,a5⟩,_,_⟩:=i.aL a _ U;let⟨⟨R,P,b,W⟩,_,_⟩:=i.aL d _ O;let⟨u,L,w⟩:=eA.some_of (v:=v) (o:=R f) (by rw[<-l];rwa[b f]);let⟨D,A,G⟩:=ya P;let⟨Z,od,V,j⟩:=E;dsimp only at p k m;subst p k m;let J:PySem.W.InstAt s1.heap a ⟨↑C,some d,.fields B,j⟩ C (some D):=⟨T,22,A⟩;rwa[Yp i.dk c J (findObj_own c.hd n rfl (by rw[G,L])) (yb w) ⟨v,F,i.tok _,w,q⟩]
end
end L2
namespace L2
open PySem PySem.Spec PyProof.Rows
def eR (X:Cx)(a:List (Zs×Obj))(g:St)(d:Hp)(x C:Zs)(f:Zo)(s:Zu):Prop:=
 ∃(B:Heap) (c:Hp) (s1:Zu),Inv X a g c s1/\s.os=s1.os/\AllBare s.gens/\kU B X.stack x ↑C f .none s.heap/\Un (cJ X.stack) [] c d s1.heap s.heap/\dz X.prog X.w d B/\
  (∀b o,s1.heap.get? b\o->c b=none->b∉cJ X.stack->B.get? b\o)/\(∀b o,s1.heap.get? b\o->b∉cJ X.stack->∃e,B.get? b\e)
section
variable {X:Cx}{pins:List (Zs×Obj)}{σ:St}{H':Hp}{x C:Zs}{dx:Zo}{s:Zu}
def eR.of {E:XK}(I:Inv X pins σ H t)(c:cZ X.prog X.w X.stack H t E v s):∃x C dx H',v=↑x/\eR X pins σ H' x C dx s/\E ↑C dx H':=by
 let⟨x,C,dx,B,H',rfl,os,bare,fl,un,a,d,b,q⟩:=c;rwa[x,C,dx,H',2,⟨B,H,t,I,os,bare,fl,un,a,d,b⟩,q]
theorem eR.step {fl:Zt}{s1:Zu}(I:Inv X pins σ H s1)(os:s.os=s1.os)(bare:AllBare s.gens)(un:Un (cJ X.stack) [] H H' s1.heap s.heap)(aL:dz X.prog X.w H' g)
 (q:∀b o,s1.heap.get? b\o->H b=none->b∉cJ X.stack->g.get? b\o) (p:∀b o,s1.heap.get? b\o->b∉cJ X.stack->∃i,g.get? b\i) (a:kU g X.stack x ↑C dx .none h) (u:s.heap.UpToSlots h):eR X pins σ H' x C dx (s<*h):=by
 let n:∀b o,s1.heap.get? b\o->b∈cJ X.stack->∃sl,h.get? b\{ o with slots:=sl }:=λb o e c=>by
  let⟨t,f,r⟩:=I.Lp c;rw[e]at f;ext f;let⟨sl,m⟩:=un.slot b o e (I.nS b c) c (by simp);let⟨k,j⟩:=u b _ m r;rwa[k,j]
 rwa[⟨g,H,s1,I,os,bare,a,⟨λb o d f l _=>a.1 b o (q b o d f l),λb o d _ l _=>n b o d l,un.free,λb o d _=>?_,un.hX,un.gH,un.hY⟩,aL,q,p⟩];by_cases c:b∈cJ X.stack
 ·let⟨sl,j⟩:=n b o d c;rwa[_,j]
 ·let⟨i,m⟩:=p b o d c;rwa[i,a.1 b i m]
theorem eR.look (t:eR X pins σ H' x C dx s)(a:X.stack=X.env::X.outer)(k:X.env.frame\X.env.locals)(hA:A.frames\X.stack)
 (h:∀d,eR X pins σ H' x C dx (s<*d)->U () (s<*d)):
 X⁻¹ A (noteFrame ↑x X.env) (λ_ f=>X⁻¹ A (setFlight ↑x none) U E f) E s:=by
 let⟨B,o,p,I,os,bare,fl,un,aL,n,j⟩:=t;let b:=fl;rw[a]at b;rwa[LD (base:=B) (hA.trans (by rw[a])) k b λe l i=>?_]
 rwa[vy (s:=(s<*e)) l λm c g=>h m (eR.step (fl:=.none) I os bare un aL n j ([a]▸c) (i.trans g))]
theorem eR.again (t:eR X pins σ H' x C dx s)(h:∀b,eR X pins σ H' x C dx (s<*b)->U () (s<*b)):
 X⁻¹ A (setFlight ↑x none) U E s:=by
 let⟨B,f,g,I,os,bare,fl,un,aL,d,c⟩:=t;rwa[vy fl λe a u=>h e (eR.step (fl:=.none) I os bare un aL d c a u)]
def eR.inv (t:eR X pins σ H' x C dx s):Inv X pins σ H' s:=by
 let⟨B,c,d,I,os,bare,fl,un,aL,e,a⟩:=t;rwa[I.Eu (ch:=[]) os un (aL.kept fl.1) bare (λb z=>absurd z (by simp))]
def eR.none (t:eR X pins σ H' x C dx s):H' x=none:=by
 let⟨B,c,d,I,os,bare,fl,un,aL,f,b⟩:=t
 cases e:H' x with
 |none=>rfl
 |some u=>
  let⟨o,a⟩:=(aL x u e).get;rw[fl.2.1]at a;ext a
def eR.at (t:eR X pins σ H' x C dx s):yE x C dx false s.heap:=by
 let⟨B,e,f,I,os,bare,fl,un,aL,g,d⟩:=t;let⟨_,_,_,c,a,_,_,_,b,hc,hd,_⟩:=fl;rwa[c,a,b,hc.1,hc.2,hd,λz=>by ext z]
def eR.Yr (t:eR X pins σ H' x C dx s):Inv X pins σ (upd H' x (XO x C dx false)) s:=by
 let F:=t.none;let h:=t.at;let⟨B,D,E,I,os,bare,fl,un,aL,l,y⟩:=t;let⟨r,p,G,_,_,hd,_⟩:=id h;let ne:∀b u,H' b\u->b≠x:=λb u e z=>by cbv
 rwa[I.Eu (ch:=[]) os ⟨un.keep,un.slot,λb o d f k=>?_,un.there,λb g e=>?_,λb o u e=>?_,λb j e=>?_⟩ (λb u e=>?_) bare (λb z=>absurd z (by simp))]
 ·rwa[(ak ?_).trans (un.free b o d f k)];rintro rfl;by_cases a:b∈cJ X.stack
  ·let⟨w,i,A⟩:=I.Lp a;rw[d]at i;ext i;let⟨sl,n⟩:=un.slot b o d f a (by simp)
   cbv
  ·have:=l b o d f a;rw[fl.2.1]at this
   cbv
 ·have:=un.hX b g e;rw[ak (ne^this)];ext
 ·have:=un.gH b o u e;rw[ak (ne^this)];ext
 ·let⟨m,this⟩:=un.hY b j e;rwa[m,by rw[ak (ne^this)];ext]
 ·by_cases a:b=x
  ·subst a;rw[ah]at e;ext e;rwa[zz h]
  ·rw[ak a]at e;rwa[(aL b u e).fi (λc v _ q=>fl.1 c v q) (λc q=>[ak (ne^q)]▸q) λc g q=>[ak (ne^q)]▸q]
end
abbrev Hm:=Zs->Zo->St->Hp->Prop
abbrev LQ:=St->Hp->VK->Hm->Prop
abbrev yF:=Ends->Hm->St->Hp->Prop
def Rt (X:Cx)(a:List (Zs×Obj))(R:Hm)(e:Zt)(s:Zu):Prop:=∃x C b c H,e=↑x/\eR X a c H x C b s/\R C b c H
def VY (X:Cx)(e:Expr)(t:LQ):Prop:=
 ∀(a:List (Zs×Obj)) (s:Zu) (b:St) (H:Hp) (Q:VK) (R:Hm),Inv X a b H s->t b H Q R->X⁻¹ X.A (eval e X.env) (EP X a b Q) (Rt X a R) s
def DK (X:Cx)(st:Stmt)(t:yF):Prop:=
 ∀(a:List (Zs×Obj)) (s:Zu) (b:St) (H:Hp) (D:Ends) (R:Hm),Inv X a b H s->t D R b H->X⁻¹ X.A (exec st X.env) (SP X a D) (Rt X a R) s
section
variable {X:Cx}{k:Nat}{f:Zs}{fd:FuncData}{ps:Zp}{sp:Sp}{x:Str}{p pos:Pos}{e:Expr}{es:Zr}{t:TA}{ds:Zk}{dvs:Zb}
def Ru (sp:Sp)(dvs:Zb)(t:TA):LQ:=λ a H Q R=>t a H λd g=>sp (d++dvs) g Q λc h b=>∃C,c=↑C/\R C h a b
theorem AJ (F:di X.prog X.w X.K X.mg X.base (cZ X.prog X.w) k f fd ps sp)(N:cy k X.A)(E:Gl X x)(P:X.mg x\↑f)(G:PySem.W.keepIn X.K ↑f=true)(D:Binds X.K fd ps ds)(A:Vals dvs ds)
 (W:PA X.tH (e::es) t) (m:(x==("__debug__":Str))=false:=by decide) (U:starEach (e::es) X.env=(false,eval e X.env)::starEach es X.env:=by rfl) (g:(backTo pos (starEach es X.env)).any (·.1)=false:=by rfl):
 VY X (.Call (.Name x p) (e::es) [] pos) (Ru sp dvs t):=by
 intro b s j H Q R I h;rwa[aht (jU I E P ?_ m)];rwa[ai2 (h₀:=X.base) I.ok.mod.uX G (ahk (W pos b s j H _ (I.wish _) h) (λd i ζ=>?_) λ_ _ z=>False.elim z) U g];let⟨o,v,n,r,q⟩:=ζ;rwa[⟨n.dk,5⟩];let J:=n.ia;let w:Vals (o++dvs) (d++ds):=r.append A;let M:⇑(d++ds)=⇑ps:=by rw[<-⇑w];rwa[F.len _ _ _ _ q]
 rwa[aiW (aiO (F.run X.A X.stack i v ⟨d,[]⟩ (d++ds) (o++dvs) Q _ N J.zM (D i d J.dk M) w q) λr B a=>?_)]
 cases r with
 |error e=>
  let a:cZ X.prog X.w X.stack v i (λc l S=>∃C,c=Value.ref C/\R C l j S) e B:=a;let⟨x,C,l,Y,rfl,L,Z,T,z⟩:=eR.of J a;ext T;rwa[x,C,l,j,Y,2,L,z]
 |ok O=>
  cases O with
  |ret u=>exact J.after a
  |next=>exact False.elim a
  |brk=>exact False.elim a
  |cont=>exact False.elim a
def Va (i:Nat)(b:LQ):yF:=λD R a H=>b a H (λv c=>D.nx (a.set i (some v)) c) R
def DL {x:Str}{b:LQ}{pos':Pos}(w:X.N.Nodup)(o:X.N[i]?\x)(r:Loc X.env.scope x)(u:VY X e b)(n:swapsWith e (some (.Name x pos')) pos.line X.env=pure false:=by rfl)(l:X.fn x=true\/X.env.scope.names.lookup x=some .local:=by trivial):
 DK X (.Assign [.Name x pos'] e pos) (Va i b):=by
 intro a s q H D R I h;rwa[wpAny_Assign_Name (a9 (u a s q H _ R I h) λv A ζ=>?_) n];let⟨y,m,d,c,g⟩:=ζ;rwa[pf d w o r c (λz j=>⟨_,m,j,g⟩) l]
def Ys (c:TT)(t u:yF):yF:=λD R a H=>c a H λb d=>if b=true then t D R a d else u D R a d
def Rw {c:Expr}{a b:Stmt}{o:TT}{u w:yF}(E:PT X.tH c o)(C:DK X a u)(y:DK X b w):DK X (.If c [a] [b] pos) (Ys o u w):=by
 intro g s l H D R I h
 let one:∀{st:Stmt} {m:yF} {j:Zu} {i:Hp},DK X st m->Inv X g l i j->m D R l i->X⁻¹ X.A (execs [st] X.env) (SP X g D) (Rt X g R) j:=λ{st m j i} A J q=>
  wpAny_execs_cons (a9 (A g j l i D R J q) λB F z=>by
   cases B with
   |next=>exact aiC z
   |ret v=>exact z
   |brk=>exact z
   |cont=>exact z)
 rwa[wpAny_If (ahk (E g s l H _ (I.wish _) h) (λd j ζ=>?_) λ_ _ z=>False.elim z)];let⟨i,n,r⟩:=ζ
 cases d with
 |true=>exact one C n.ia r
 |false=>exact one y n.ia r
end
abbrev yG:=Ends->Zs->Zo->St->Hp->Prop
def LR (X:Cx)(d:List ExceptHandler)(t:yG):Prop:=
 ∀(a:List (Zs×Obj)) (s:Zu) (c:St) (H:Hp) (x C:Zs) (b:Zo) (D:Ends),eR X a c H x C b s->t D C b c H->X⁻¹ X.A (handleBy ↑x X.env d) (SP X a D) X.xe s
section
variable {X:Cx}{y n:Str}{Y:Zs}{np pos:Pos}{ER:Stmt}{suite:List Stmt}{rest:List ExceptHandler}{tb:TS}{tr:yG}{i:Nat}
def Vb (K:Za1)(Y:Zs)(i:Nat)(tb:TS)(tr:yG):yG:=λD C d e H=>∃b,PySem.W.exmOne K ↑C ↑Y\b/\
 if b=true then ∀x,H x=none->tb { nx:=λ a c=>D.nx (a.set i none) c,rt:=D.rt,bk:=λ a c=>D.bk (a.set i none) c,ct:=λ a c=>D.ct (a.set i none) c } (e.set i (some ↑x)) (upd H x (XO x C d false)) else tr D C d e H
theorem Rx (l:X.N.Nodup)(k:X.N[i]?\n)(g:X.env.scope.names.lookup n=some .local)(B:Gl X y)(N:X.mg y\↑Y)(A:∀x,iI (X.yn x) (ER :: suite) tb)(G:LR X rest tr)(w:(y==("__debug__":Str))=false:=by decide):
 LR X (.ExceptHandler (some (.Name y np)) (some n) (ER :: suite) pos::rest) (Vb X.K Y i tb tr):=by
 intro a s M H x C O D j h;let⟨b,p,h⟩:=h;let I:=j.inv;rwa[wpAny_handleBy_cons (codeAny_handlers_test ?_) f!""];rwa[jU (X:=X.yn x) (I.yn x) B N ?_ w];rwa[PySem.W.exm_one I.dk j.at.ex.UG p _ _ _ _ (λ_ _ e=>e) ?_]
 cases b with
 |false=>exact G a s M H x C O D j h
 |true=>
  let h:=h x j.none;rwa[codeAny_handlers_suite_as (j.again λP o=>?_)];let J:=o.Yr;rwa[pf (X:=X.yn x) (J.yn x) l k (.inl g) (v:=↑x) rfl (λE F=>?_) (.inr g)];rwa[ahk (A x a E _ _ _ F h) (λL Q q=>?_) λ_ _ z=>False.elim z]
  cases L with
  |next=>let⟨f,t,d,q⟩:=q;rwa[sL (d.zx I.ok) l k g λm c=>⟨11,c,q⟩]
  |brk=>let⟨f,t,d,q⟩:=q;rwa[sL (d.zx I.ok) l k g λm c=>⟨11,c,q⟩]
  |cont=>let⟨f,t,d,q⟩:=q;rwa[sL (d.zx I.ok) l k g λm c=>⟨11,c,q⟩]
  |ret u=>let⟨v,f,t,d,r,q⟩:=q;rwa[sL (d.zx I.ok) l k g λm c=>⟨v,11,c,r,q⟩]
def Vc:yG:=λ_ _ _ _ _=>False
def Rz:LR X rest Vc:=λ_ _ _ _ _ _ _ _ _ h=>h.elim
def Vd (t:yF)(c:yG):TS:=λD e H=>t D (λC d a b=>c D C d a b) e H
theorem N7 {st:Stmt}{t:yF}{b:ExceptHandler}{j:List ExceptHandler}{c:yG}(d:X.stack=X.env::X.outer)(l:X.env.frame\X.env.locals)(k:DK X st t)(o:LR X (b :: j) c):
 PS X (.Try [st] (b :: j) [] [] pos) (Vd t c):=by
 intro a s u H D I h;rwa[wpAny_Try_except (wpAny_execs_cons (ahk (k a s u H D _ I h) (λp r q=>?_) λe r q=>?_))]
 ·cases p with
  |next=>exact aiC (aiC q)
  |ret v=>exact q
  |brk=>exact q
  |cont=>exact q
 ·let⟨x,C,w,g,m,rfl,c,q⟩:=q;rwa[c.look d l I.ok.frames λz f=>o a _ g m x C w D f q]
end
def Ff (K:Za1)(C:Zs):Bool:=match PySem.W.findIn K ↑C "__init__" with
 |some (some ↑f)=>xq K C f
 |_=>false
def DM (h:Ff K a=true)(e:PySem.W.findIn K ↑a "__init__"=some (some ↑b)):xq K a b=true:=by
 unfold Ff at h;rw[e]at h;rwa[h]
structure Yt (K:Za1) (x qual:Str) (st:Stmt) (f:Zs) (fd:FuncData) (dV:Zt):Prop where
 ex:∃(oc:Zt) (od:Zo) (kV doc pm:Zt) (an:Zo) (cC ct:Zt) (zT:Array Zl),
  fd=PySem.W.fnOf x qual (dy st) (cF st) (aB st) dV kV doc pm an cC ct/\K.lookup f\⟨oc,od,.func fd,zT⟩/\PySem.W.codeIn K cC qual=true
 kp:PySem.W.keepIn K ↑f=true
structure DDef (K:Za1) (mg:Str->Zl) (x:Str) (st:Stmt) (ps:Zp) (f:Zs) (fd:FuncData) (d:Str):Prop where
 F:∃dV,Yt K x x st f fd dV
 kp:PySem.W.keepIn K ↑f=true
 m:mg x\↑f
 b:Binds K fd ps []
 bd:∃t,Binds K fd ps [.str d t]
section
variable {P:Program}{w:World}{K:Za1}{mg:Str->Zl}{base:Heap}
theorem DDef.Rp {st:Stmt}{fd:FuncData}{e:Zp}{k:Nat}{sp:Sp}(D:DDef K mg x st e a fd f)(S:aT Z e (aB st))(len:∀c H Q E,sp c H Q E->⇑c=⇑e)
 (d:∀(b:Zt) (A:Around) (outer:Zq) (s:Zu) (H:Hp) (c:Zb) (Q:VK) (E:XK),cy k (A.deeper (envOfC x (aB st) ↥s a b))->sp c H Q E->
  ∃t,iI (cz (cZ P w) P w K mg base Z x (aB st) a b A outer s H E) (cF st) t/\t { nx:=λ_ j=>Q .non j,rt:=Q } (start Z c) H):di P w K mg base (cZ P w) (k+ 1) a fd e sp:=by
 let⟨p,F⟩:=D.F;let⟨m,o,kV,doc,pm,n,b,ct,l,rfl,lk,h⟩:=F.ex;rwa[zv lk h S len λA outer s H c Q E i g=>d b A outer s H c Q E i g]
theorem DDef.of {st:Stmt}{y d:Zo}{j r:Array Zl}{kV doc pm ct A:Zt}{dd:Zo}{t:Tok}(X:K.In h)(G:h.Ns mainGlobals mg)(e:PySem.W.nsIn K mainGlobals x\some ↑a)(l:K.lookup a\⟨v,y,.func (PySem.W.fnOf x x (dy st) (cF st) (aB st) ↑b kV doc pm d u ct),j⟩)(c:PySem.W.codeIn K u x=true)(k:PySem.W.keepIn K ↑a=true)
 (lt:K.lookup b\⟨A,dd,.seq #[.str f t] n,r⟩)
 (g:∀(kV doc pm:Zt) (d:Zo) (u ct:Zt) (us:Zk),⇑us=⇑Z->∃i:Option Zm->Sem (List (Str×Zt)),bindArgs (PySem.W.fnOf x x (dy st) (cF st) (aB st) ↑b kV doc pm d u ct) ⟨us,[]⟩=seqItems? ↑b >>=i/\i (some #[.str f t])=pure (Z.zip us))
 (z:∀(kV doc pm:Zt) (d:Zo) (u ct:Zt) (us:Zk),⇑us+ 1=⇑Z->∃i:Option Zm->Sem (List (Str×Zt)),bindArgs (PySem.W.fnOf x x (dy st) (cF st) (aB st) ↑b kV doc pm d u ct) ⟨us,[]⟩=seqItems? ↑b >>=i/\i (some #[.str f t])=pure (Z.zip (us++[.str f t]))):
 DDef K mg x st Z a (PySem.W.fnOf x x (dy st) (cF st) (aB st) ↑b kV doc pm d u ct) f:=by
 rwa[⟨⟨_,⟨v,y,kV,doc,pm,d,u,ct,j,2,l,c⟩,k⟩,k,PySem.W.mg_of X G e,λs us p m=>?_,t,λs us p m=>?_⟩]
 ·rw[agQ]at m ⊢;let⟨i,q,o⟩:=g kV doc pm d u ct us m;rwa[BindsTo.of_defaults (T:=b) rfl (p^lt) rfl q o]
 ·let⟨i,q,o⟩:=z kV doc pm d u ct us (by simpa using m);rwa[BindsTo.of_defaults (T:=b) rfl (p^lt) rfl q o]
end
end L2
namespace L2
def Fg {c:Nat}{g:Zg}(b:S.Wf):(S.make c z g).stand=S.stand+ 1:=by
 unfold RS.stand;show (List.range (S.made+ 1)).countP _=_;rw[ahD,List.countP_append,List.countP_singleton]
 let d:(S.make c z g).ax S.made=S.made:=by
  show (S.grown c z g).ax S.made=S.made;rw[fz b,agI rfl]
 rw[show decide ((S.make c z g).ax S.made=S.made)=true from agW d,agI rfl]
 congr 1
 rwa[List.countP_congr λa e=>?_]
 have:(S.make c z g).ax a=S.ax a:=by
  show (S.grown c z g).ax a=S.ax a;rw[fz b,agF (by have:=ahl.mp e;omega)]
 rw[this]
def J1 (hw:S.Wf)(d:n<S.made):(S.make n z l).by m y=if m=S.made/\y= -z then some n else if m=n/\y=z then some S.made else S.by m y:=by
 unfold RS.make RS.keep;let b:(S.grown n z l).ways.length=S.made+ 1:=by show ⇑(S.ways++[[]])=_;rw[agk,hw.w];rfl
 let c:∀a s,(S.grown n z l).by a s=S.by a s:=λa s=>by unfold RS.by;rw[mZ hw]
 show (((S.grown n z l).cj n z S.made).cj S.made (-z) n).by m y=_;rw[jn (by show ⇑((S.grown n z l).ways.set n _) > _;rw[agK,b];omega),jn (by rw[b];omega),c]
def rn (h:gN S)(g:S.Wf)(c:Nat)(z:Int)(f:Zg):gN (S.make c z f):=by
 let e:∀b,(S.make c z f).ax b=if b=S.made then S.made else S.ax b:=λb=>fz g c z f b
 rwa[⟨λb a d=>?_,λb a=>?_,λb a=>?_⟩]
 ·let a:b<S.made+ 1:=a;rw[e]at d;by_cases q:b=S.made
  ·cbv
  ·rw[agF q]at d;rwa[h.a b ∅ d]
 ·let a:b∈S.aZ:=a;have:=h.c b a;rw[e,agF ∅];rwa[h.b b a]
 ·let a:b∈S.aZ:=a;have:=h.c b a;show b<S.made+ 1;ext
def DN (d:Dt):Prop:=(∃n,d=.i n)\/∃l,d=.s l
def DN.low {k:Nat}{d:Dt}(h:DN d)(a:bN H k q d):bN H n q d:=by
 rcases h with ⟨b,rfl⟩|⟨l,rfl⟩
 ·ext a;rwa[.i]
 ·ext a;rwa[.s]
def N8 {k:Nat}{b:List Dt}(h:∀x∈b,DN x)(a:bN H (k+ 1) q (.t b)):bN H (n+ 1) q (.t b):=by
 cases a with
 |t g f i=>exact .t g f λj q d e c=>(h d (agh c)).low (i j q d e c)
def Dp (d:Dt):Prop:=∃a,d=.t a/\∀x∈a,DN x\/∃as,x=.t as/\∀y∈as,DN y
def Dp.low {d:Dt}(h:Dp d)(b:bN H 4 q d):bN H 2 q d:=by
 let⟨k,rfl,h⟩:=h
 cases b with
 |t g f i=>
  rwa[.t g f λj q d e c=>?_]
  let b:=i j q d e c;rcases h d (agh c) with a|⟨as,rfl,a⟩
  ·rwa[a.low b]
  ·rwa[N8 a b]
def DP {a:List Dt}(h:∀x∈a,DN x):Dp (.t a):=⟨a,rfl,λx b=>.inl (h x b)⟩
def RB (c:Nat)(z:Int)(n:Nat):Dp (kF c z n):=DP λx a=>by
 simp only[agB,ag4,ait]at a;rcases a with rfl|rfl|rfl|rfl
 ·rwa[.inr ⟨_,rfl⟩]
 all_goals rwa[.inl ⟨_,rfl⟩]
def RC {e:Za3}{b:Zh}{W:Za2}{row:Dt}(h:One e n B W row b R):Dp row:=by
 cases h with
 |meet=>
  rwa[DP λx a=>?_]
  simp only[agB,ag4,ait]at a;rcases a with rfl|rfl|rfl|rfl|rfl
  ·rwa[.inr ⟨_,rfl⟩]
  all_goals rwa[.inl ⟨_,rfl⟩]
 |rule=>
  rwa[⟨12,λx a=>?_⟩];simp only[agB,ag4,ait]at a;rcases a with rfl|rfl|rfl|rfl
  ·rwa[.inl (.inr ⟨_,rfl⟩)]
  ·rwa[.inl (.inl ⟨_,rfl⟩)]
  ·rwa[.inr ⟨_,rfl,λy d=>?_⟩];let⟨c,_,rfl⟩:=ahc.mp d;rwa[.inl ⟨12⟩]
  ·rwa[.inl (.inl ⟨12⟩)]
def Ve {e:Za3}{c:Zh}{W:Za2}{b:List Dt}(h:Go e n B W b c R):∀x∈b,Dp x:=by
 induction h with
 |nil=>cbv
 |cons o _ d=>
  intro x a;rcases agB.mp a with rfl|a
  ·rwa[RC o]
  ·rwa[d x a]
section
variable {S S':RS}{R:Za2}{ks:Zg}{pend:Ze}
def j2.gap (l:j2 S pend S'):Good S pend R->(∀c z d,R c z d->z∈ks)->eF S R ks->eF S' R ks:=by
 induction l with
 |nil S=>exact λ_ _ h=>h
 |take _ b=>
  intro g a h;rwa[b (g.take a).1 a (h.take g)]
def j2.wr (l:j2 S pend S'):Good S pend R->(∀c z d,R c z d->z∈ks)->⇑S.aZ<=⇑S.rows->⇑S'.aZ<=⇑S'.rows:=by
 induction l with
 |nil S=>exact λ_ _ h=>h
 |take _ i=>
  intro g e h;let⟨f,_,_,_,q⟩:=g.take e;rwa[i f e ?_];rcases q with ⟨_,a,b⟩|⟨_,_,_,_,_,_,_,_,_,_,a,b,_⟩
  ·rw[a,b];rwa[h]
  ·rw[a,b,agk,agk,ahu,ahu];ext
structure YS (S:RS) (L:Nat) (ks:Zg) (R:Za2):Prop where
 g:Good S [] R
 w:gN S
 k:∀a z b,R a z b->z∈ks
 gi:eF S R ks
 l:S.L=L
 m:0<S.made
 d:∀x∈S.rows,Dp x
 wr:⇑S.aZ<=⇑S.rows
def YS.new {L:Nat}{ks:Zg}:YS (RS.new L ks) L ks (λ_ _ _=>False):=by
 rwa[⟨uq L _,⟨λc hc e=>?_,(λc hc=>by ext hc),(λc hc=>by ext hc)⟩,(λ_ _ _ z=>z.elim),NC L _,2,Nat.one_pos,(λx a=>by ext a),agp _⟩];have:c=0:=by have:c<1:=hc;ext
 subst this;rwa[absurd rfl e]
def YS.make (h:YS S n ks R)(hc:m<S.made)(f:S.ax m=m)(g:S.by m z=none)(hz:z∈ks)(c: -z∈ks):YS (S.make m z ks) n ks (fL R m z S.made):=by
 erw[h.g.make hc f g _,rn h.w h.g.wf _ _ _,λa y b r=>?_,h.gi.make h.g hc f g,h.l,Nat.succ_pos _,λx d=>?_]
 ·rcases r with r|⟨_,e,_⟩|⟨_,e,_⟩
  ·rwa[h.k _ _ _ r]
  ·rw[e];rwa[hz]
  ·rw[e];rwa[c]
 ·let d:x∈S.rows++[kF m z S.made]:=d;rcases agv.mp d with p|p
  ·rwa[h.d x p]
  ·rw[ago.mp p];rwa[RB^_]
 ·show ⇑S.aZ<=⇑(S.rows++[_]);rw[agk];have:=h.wr;ext
def YS.tr {ws:Za3}(t:Tr ws m S S')(o:∀w∈ws,∀z∈w,z∈ks/\-z∈ks)(h:YS S n ks R):∃u,YS S' n ks u/\S'.made=S.made/\(∀a z b,R a z b->u a z b)/\∃v,S'.rows=S.rows++v/\∃E W B F,Go ws m E W v B F:=by
 induction t with
 |refl=>rwa[R,h,2,λ_ _ _ r=>r,[],(agQ _).symm,1111,.nil (E:=S.aS) (W:=λ_ _ _=>False) λ_ _ _=>Iff.rfl]
 |step L ra j P=>
  rename_i k Z which word start f c d z;let⟨C,g,M,N,O,e1,E,W,B,F,g1⟩:=P;let hz:=o word (agh ra.w) z (agh ra.hz)
  let i:∀a y b,fL C c z d a y b->y∈ks:=by
   rintro a y b (r|⟨_,e,_⟩|⟨_,e,_⟩)
   ·rwa[g.k _ _ _ r]
   ·rw[e];rwa[hz.1]
   ·rw[e];rwa[hz.2]
  let gl:=g.g.lay z ra.hc.1 ra.hd.1 (pJ k which word start f d).rows;let⟨I,Q,A,l2,_⟩:=j.all gl i ⟨g.w.a,g.w.b,g.w.c⟩;let gp:=j.gap gl i ((g.gi.more λa y b r=>.inl r).rows _);let⟨u,X,T,Y,H,J,p⟩:=zy (Tr.step (Tr.refl k) ra j) (R:=C) o g.g g.w g.k;let⟨R0,U,w0,V,l,G,s⟩:=zy (Tr.step L ra j) (R:=R) o h.g h.w h.k;rwa[⟨_,⟨I,Q,i,gp,l2.trans g.l,[A]▸g.m,λx D=>?_,j.wr gl i (by show ⇑k.aZ<=⇑(k.rows++[_]);rw[agk];have:=g.wr;omega)⟩,A.trans M,λa y b r=>.inl (N _ _ _ r),l,G,1111,s⟩];rw[J]at D;rcases agv.mp D with q|q
  ·rwa[g.d x q]
  ·rwa[Ve p x q]
end
def CI.make {bs:List (Nat×Zg×Nat)}{gs:Zf}{W:bG}(h:CI S bs gs [] W fM none)(d:Good S [] R)(hc:n<S.made)(x:S.ax n=n)(A:S.by n z=none)(f:∀b∈bs,b.2.2<S.made)(g:Zg):CI (S.make n z g) bs gs [] W (λr s=>r=n/\s=z) none:=by
 let i:=d.make hc x A g;let k:S.made<=(S.make n z g).made:=aiv _;let lt:=Later.of d i i9 k;let el:∀b,b<S.made->(S.make n z g).ax b=S.ax b:=λb c=>(fz d.wf n z g b).trans (agF ∅)
 rwa[⟨h.len,λa u q=>?_,λa b B I m=>?_,(λa j=>by ext j),λr s a q=>?_,h.sl,h.bd⟩]
 ·let⟨C,v,E⟩:=h.al a u q;rwa[C,v.later lt k,E]
 ·let c:=f b (agh m);rw[el _ c];rcases h.de a b B I m with w|w
  ·rwa[.inl w]
  ·by_cases e:S.ax b.2.2=b.2.2
   ·right
    have:=lt.wk w;rw[el _ c,e]at this;rwa[this]
   ·rwa[.inl e]
 ·let⟨l,p,G,D,o,j,F,w⟩:=h.en r s a q;erw[l,p,G,D,agM o k,j,F];rcases w with ⟨t,H⟩|w
  ·by_cases e:l=n/\s=z
   ·rwa[.inr e]
   ·left
    rw[el _ o,J1 d.wf hc,agF (λy=>by omega),agF e];rwa[t,H]
  ·rwa[w.elim]
noncomputable def pw (s:Int)(n:Nat):Zg:=List.replicate n s
def Fh (h:(pw z n)[m]?\y):m<n/\y=z:=by
 unfold pw at h;rw[List.getElem?_replicate]at h;split at h
 ·rwa[3,(Za0 h).symm]
 ·ext h
structure Pth (S:RS) (P:Nat->Int) (lo:Int):Prop where
 el:∀c,c<S.made->S.ax c=c
 rg:∀c,c<S.made->lo<=P c/\P c<lo+ S.made
 on:∀t:Int,lo<=t->t<lo+ S.made->∃c,c<S.made/\P c=t
 inj:∀a b,a<S.made->b<S.made->P a=P b->a=b
 by_:∀a z b,S.by a z=some b->(z=1\/z= -1)/\P b=P a+ z
 ch:∀a b,a<S.made->b<S.made->P b=P a+ 1->S.by a 1=some b
section
variable {S:RS}
structure Rng (S:RS) (G:Int->Nat) (M:Nat):Prop where
 st:∀t,S.by (G t) 1=some (G (t+ 1))
 pm:∀t,G (t+ M)=G t
end
def Per (G:Int->Nat)(k:Int):Prop:=∀t,G (t+ k)=G t
end L2
namespace L2
open PySem PySem.Spec PyProof.Rows
inductive RD (K:Za1) (xs:Zb) (H:Hp) (Q:VK):Prop
 |mk (l:Zs) (ns:Zg):xs=[↑l]->aF K H l (ao ns)->⇑ns<64->(∀D ms,H D=none->ms.Perm ns->ms.Pairwise (·<= ·)->Q ↑D (upd H D (.lst (ao ms))))->RD K xs H Q
inductive N9 (x:V) (vs:Zb) (H:Hp) (Q:VK):Prop
 |mk (a:Zs) (ns:Zg) (k:Int):x=↑a->vs=[.int k]->H a\.lst (ao ns)->Q (.int (ns.count k:Nat)) H->N9 x vs H Q
abbrev Def.Ok {K:Za1} {mg:Str->Zl} {x:Str} {st:Stmt} {ps:Zp} {f:Zs} {fd:FuncData} (_:Def K mg x st ps f fd) (P:Program) (w:World) (base:Heap) (k:Nat) (sp:Sp):Prop:=di P w K mg base (cZ P w) k f fd ps sp
abbrev MDef.Ok {K:Za1} {C:Zs} {x q:Str} {st:Stmt} {ps:Zp} {f:Zs} {fd:FuncData} (_:MDef K C x q st ps f fd) (mg:Str->Zl) (P:Program) (w:World) (base:Heap) (k:Nat) (sp:Sp):Prop:=di P w K mg base (cZ P w) k f fd ps sp
section
variable {P:Program}{w:World}{K:Za1}{mg:Str->Zl}{base:Heap}{x q:Str}{st:Stmt}{ps N:Zp}{f C:Zs}{fd:FuncData}{k:Nat}{sp:Sp}
theorem Def.on (D:Def K mg x st ps f fd)(S:aT N ps (aB st))
 (a:∀(b:Zt) (A:Around) (outer:Zq) (s:Zu) (H:Hp) (c:Zb) (Q:VK) (E:XK),cy k (A.deeper (envOfC x (aB st) ↥s f b))->sp c H Q E->
  ∃t,iI (cz (cZ P w) P w K mg base N x (aB st) f b A outer s H E).tH (cF st) t/\t { nx:=λ_ d=>Q .non d,rt:=Q } (start N c) H) (len:∀c H Q E,sp c H Q E->⇑c=⇑ps:=by intro _ _ _ _ h;rcases h with ⟨⟩;subst_vars;rfl):D.Ok P w base (k+ 1) sp:=D.F.okN S len a
theorem MDef.on (D:MDef K C x q st ps f fd)(S:aT N ps (aB st))
 (a:∀(b:Zt) (A:Around) (outer:Zq) (s:Zu) (H:Hp) (c:Zb) (Q:VK) (E:XK),cy k (A.deeper (envOfC q (aB st) ↥s f b))->sp c H Q E->
  ∃t,iI (cz (cZ P w) P w K mg base N q (aB st) f b A outer s H E).tH (cF st) t/\t { nx:=λ_ d=>Q .non d,rt:=Q } (start N c) H) (len:∀c H Q E,sp c H Q E->⇑c=⇑ps:=by intro _ _ _ _ h;rcases h with ⟨⟩;subst_vars;rfl):D.Ok mg P w base (k+ 1) sp:=D.F.okN S len a
end
section
variable {X:Cx}{x q m:Str}{st:Stmt}{ps:Zp}{f C:Zs}{fd:FuncData}{k j i:Nat}{sp:Sp}{e o:Expr}{es:Zr}{t:TA}{ta te:TE}{p pos pos' apos:Pos}
def pc (D:Def X.K X.mg x st ps f fd)(F:di X.prog X.w X.K X.mg X.base (cZ X.prog X.w) k f fd ps sp)(g:cy j X.A)(d:PA X (e::es) t)(hj:k<=j:=by decide)(h:Gl X x:=by rfl)(b:(x==("__debug__":Str))=false:=by decide)(c:starEach (e::es) X.env=(false,eval e X.env)::starEach es X.env:=by rfl)(a:(backTo pos (starEach es X.env)).any (·.1)=false:=by rfl):
 PE X (.Call (.Name x p) (e::es) [] pos) (K8 sp [] (λ_ _ _=>False) t):=wV F (g.mono hj) h D.m D.F.kp D.b .nil gk d b c a
def pm {pl:Sem Bool}(g:PE X o ta)(c:jS X.K C)(D:MDef X.K C m q st ps f fd)(F:di X.prog X.w X.K X.mg X.base (cZ X.prog X.w) k f fd ps sp)(n:cy j X.A)(l:PA X (e::es) t)(h:k<=j:=by decide)(a:starEach (e::es) X.env=(false,eval e X.env)::starEach es X.env:=by rfl)(b:(backTo pos (starEach es X.env)).any (·.1)=false:=by rfl)
 (r:eval (.Call (.Attribute o m apos) (e::es) [] pos) X.env=(do
  let d <-eval o X.env
  standAt apos.atName
  let (f,first) <-holding [d] (getMethod d m pl)
  callWith pos f first (backTo pos (starEach (e::es) X.env)) (backToKw pos (keywordEach [] X.env))):=by rfl):
 PE X (.Call (.Attribute o m apos) (e::es) [] pos) (kc C m sp [] (λ_ _ _=>False) ta t):=jW g c D.m F (n.mono h) D.b .nil gk l a b r
def vA {pl:Sem Bool}(b:PE X o ta)(c:jS X.K C)(D:MDef X.K C m q st ps f fd)(F:di X.prog X.w X.K X.mg X.base (cZ X.prog X.w) k f fd ps sp)(g:cy j X.A)(d:k<=j:=by decide)
 (h:eval (.Call (.Attribute o m apos) [] [] pos) X.env=(do
  let a <-eval o X.env
  standAt apos.atName
  let (f,first) <-holding [a] (getMethod a m pl)
  callWith pos f first (backTo pos (starEach [] X.env)) (backToKw pos (keywordEach [] X.env))):=by rfl):
 PE X (.Call (.Attribute o m apos) [] [] pos) (kc C m sp [] (λ_ _ _=>False) ta jV):=Jb b c D.m F (g.mono d) D.b .nil gk h
def bI (i:Nat)(d:X.N.Nodup)(b:PE X e te)(g:X.N[i]?\x:=by rfl)(h:Loc X.env.scope x:=by trivial)(c:swapsWith e (some (.Name x pos')) pos.line X.env=pure false:=by rfl)(a:X.fn x=true\/X.env.scope.names.lookup x=some .local:=by trivial):
 PS X (.Assign [.Name x pos'] e pos) (wR te (lB i)):=Pb d g h b c a
def dA (i:Nat)(a:X.N.Nodup)(b:X.N[i]?\x:=by rfl)(c:Loc X.env.scope x:=by trivial)(d:X.fn x=true\/X.env.scope.names.lookup x=some .local:=by trivial):PG X (.Name x pos) (lB i):=C3 a b c d
end
inductive Vf (x:V) (y:V) (H:Hp) (Q:VK):Prop
 |mk (a b:Zs) (xs:Zb):x=↑a->y=↑b->H a\.lst xs->H b\.lst []->Q (.bl (!decide (⇑xs=0))) H->Vf x y H Q
end L2
namespace M11
noncomputable def flip (k:Nat):Nat:=if k % 2=0 then k+ 1 else k - 1
noncomputable def nx (T:Za3)(k i:Nat):Nat:=((T.getD i []).getD k 0).toNat
structure Tab (L:Nat) (T:Za3):Prop where
 pos:1<=⇑T
 top:⇑T<=300
 let1:1<=L
 Yu:L<=40
 row:∀(i:Nat) (r:Zg),T[i]?\r->⇑r=2* L
 val:∀i k,i<⇑T->k<2* L->∃r:Zg,T[i]?\r/\r[k]?\((nx T k i:Nat):Int)
 lt:∀i k,i<⇑T->k<2* L->nx T k i<⇑T
 back:∀i k,i<⇑T->k<2* L->nx T (flip k) (nx T k i)=i
noncomputable def pl (s:Int):Nat:=if 0<s then 2* s.natAbs - 2 else 2* s.natAbs - 1
def walk (T:Za3)(w:Zg)(i:Nat):Nat:=w.foldl (λi s=>nx T (pl s) i) i
def eY (L:Nat)(w:Zg):Prop:=∀s∈w,s≠0/\s.natAbs<=L
noncomputable def back (w:Zg):Zg:=w.reverse.map λz=>-z
def LV (h:z≠0/\z.natAbs<=n):pl z<2* n:=by
 unfold pl;split <;> ext
def Ob (h:z≠0):pl (-z)=flip (pl z):=by
 unfold pl flip;rw[Int.natAbs_neg];by_cases a:0<z
 ·rw[agI a,agF (show ¬ 0 < -z by omega),agI ∅];ext
 ·rw[agF a,agI (show 0 < -z by omega),agF ∅];ext
structure Pm (p:Nat) (r:Zg):Prop where
 len:⇑r=p
 nd:r.Nodup
 rg:∀z∈r,0<=z/\z<(p:Int)
def Pm.at (h:Pm n l){i:Nat}(b:i<n):∃j:Nat,l[i]?\(j:Int)/\j<n:=by
 let a:i<⇑l:=by rw[h.len];rwa[b]
 have:=h.rg l[i] (List.getElem_mem a);rwa[l[i].toNat,by rw[agl a,show ((l[i].toNat:Nat):Int)=l[i] by ext],3]
def Oc {k:Nat}(h:k<2* n):flip k<2* n:=by unfold flip;split <;> ext
def aeQ (L:Nat)(f:Nat->Int->Int)(come:Zg)(x:Int)(r:Zg)(m:Nat):Prop:=⇑r=m/\∀k,k<m->∃j:Nat,r[k]?\(j:Int)/\come[j]?\(f k x)
theorem jt:∀(n:Nat) (l:Zh),l.Nodup->(∀x∈l,x<n)->⇑l<=n
 |0,[],_,_=>agp _
 |0,a::l,_,h=>absurd (h a (agA ..)) ∅
 |n+ 1,l,b,h=>by
  by_cases c:n∈l
  ·have:=jt n (l.erase n) (b.erase n) (λx d=>by
    cbv)
   rw[aiM c]at this;ext
  ·have:=jt n l b (λx d=>by
    cbv)
   ext
def vB (j:l.Nodup)(h:∀x∈l,0<=x/\x<(n:Int)):⇑l<=n:=by
 let f:(l.map Int.toNat).Nodup:=by
  rwa[ah4.mpr (ajw ?_ j)];intro a b d g c z;have:=h a d;have:=h b g;rwa[c ∅]
 have:=jt n (l.map Int.toNat) f (λx i=>by
  let⟨y,e,rfl⟩:=ahc.mp i;have:=h y e;omega)
 rw[agm]at this;rwa[this]
def Pm.RG (h:Pm n l){x:Nat}(g:x<n):∃i:Nat,l[i]?\(x:Int)/\i<n:=by
 let c:(x:Int)∈l:=by
  rwa[ajk λc=>?_]
  have:=vB (n:=n) (l:=(x:Int)::l) (agX.mpr ⟨c,h.nd⟩) (λy d=>by
   rcases agB.mp d with e|d
   ·rw[e];ext
   ·rwa[h.rg y d])
  rw[agL,h.len]at this;ext
 let⟨i,f,e⟩:=aie.mp c;rwa[i,by rw[agl f,e],by rw[<-h.len];rwa[f]]
def aeR (p:Nat)(r t:Zg):Prop:=⇑t=p/\∀k j:Nat,r[k]?\(j:Int)->t[j]?\(k:Int)
def aeS (p:Nat)(r t:Zg)(n:Nat):Prop:=⇑t=p/\∀k j:Nat,k<n->r[k]?\(j:Int)->t[j]?\(k:Int)
end M11
namespace M12
open M11
def Fc (W:Nat)(E:Zg)(N:Nat):Prop:=(∀z∈E,0<=z/\z<(N:Int))/\∀j:Nat,0<j->j<N->∃p:Nat,p<j* W/\E[p]?\(j:Int)/\∀(q:Nat) (z:Int),q<p->E[q]?\z->z<(j:Int)
def Fc.old {W:Nat}(h:Fc W l n)(k:i<n):Fc W (l++[(i:Int)]) n:=by
 rwa[⟨λz hz=>?_,λj e d=>?_⟩]
 ·rcases agv.mp hz with hz|hz
  ·rwa[h.1 z hz]
  ·rw[ago.mp hz];ext
 ·let⟨p,b,c,f⟩:=h.2 j e d;let g:=(agj.mp c).1;rwa[⟨p,b,by cbv,λq z a hz=>f q z a ?_⟩];rw[ags ∅]at hz;rwa[hz]
def Fc.new {W:Nat}{E:Zg}(h:Fc W E n)(hN:0<n)(hE:⇑E<n* W):Fc W (E++[(n:Int)]) (n+ 1):=by
 rwa[⟨λz hz=>?_,λj d i=>?_⟩]
 ·rcases agv.mp hz with hz|hz
  ·have:=h.1 z hz;ext
  ·rw[ago.mp hz];ext
 ·by_cases e:j=n
  ·subst e;rwa[⟨⇑E,hE,by cbv,λq z a hz=>?_⟩];rw[ags a]at hz;rwa[(h.1 z (agh hz)).2]
  ·let⟨p,b,c,f⟩:=h.2 j d ∅;let g:=(agj.mp c).1;rwa[⟨p,b,by cbv,λq z a hz=>f q z a ?_⟩];rw[ags ∅]at hz;rwa[hz]
def Fc.zero (W:Nat):Fc W [] 1:=⟨(λz hz=>by ext hz),(λj b a=>∅)⟩
theorem DQ {W:Nat}(d:0<W):∀{T:Za3} {i k:Nat} {r:Zg},(∀(i:Nat) (r:Zg),T[i]?\r->⇑r=W)->T[i]?\r->k<W->T.flatten[i* W+ k]?=r[k]?
 |[],i,k,r,_,a,_=>by simp at a
 |s::T,0,k,r,h,a,b=>by
  cbv
 |s::T,i+ 1,k,r,h,a,b=>by
  let c:=h 0 s rfl;rw[aiF,agt (by rw[c,Nat.succ_mul];omega),c];let e:(i+ 1)* W+ k - W=i* W+ k:=by rw[Nat.succ_mul];ext
  rw[e];rwa[DQ d (λi r a=>h (i+ 1) r a) a b]
noncomputable def st (k:Nat):Int:=if k % 2=0 then ((k / 2+ 1:Nat):Int) else -((k / 2+ 1:Nat):Int)
def Fi (k:Nat):pl (st k)=k:=by
 unfold pl st;by_cases h:k % 2=0
 ·rw[agI h,agI ∅];ext
 ·rw[agF h,agF ∅];ext
def zA {k:Nat}(h:k<2* n):st k≠0/\(st k).natAbs<=n:=by
 unfold st;split <;> ext
def RH:Zh->Zh->Prop
 |a::u,b::v=>a<b\/(a=b/\RH u v)
 |_,_=>False
def abj (u v:Zh):Prop:=⇑u<⇑v\/(⇑u=⇑v/\RH u v)
def Lw (L:Nat)(T:Za3)(ws:List Zh):Prop:=⇑ws=⇑T/\ws[0]?\[]/\
 ∀(j p:Nat),0<j->j<⇑T->T.flatten[p]?\(j:Int)->(∀(q:Nat) (z:Int),q<p->T.flatten[q]?\z->z<(j:Int))->∃u,ws[p / (2* L)]?\u/\ws[j]?\(u++[p % (2* L)])
end M12
namespace M17
noncomputable def it (f:Nat->Nat):Nat->Nat->Nat
 |0,x=>x
 |n+ 1,x=>f (it f n x)
theorem vC (f:Nat->Nat)(m:Nat):∀(n x:Nat),it f (m+ n) x=it f n (it f m x)
 |0,x=>rfl
 |n+ 1,x=>ahF f (vC f m n x)
theorem sT {f:Nat->Nat}(h:∀x,x<m->f x<m):∀(n x:Nat),x<m->it f n x<m
 |0,x,a=>a
 |n+ 1,x,a=>h _ (sT h n x a)
theorem Hn {f:Nat->Nat}(h:∀x,x<m->f x<m)(b:∀x y,x<m->y<m->f x=f y->x=y):∀(n x y:Nat),x<m->y<m->it f n x=it f n y->x=y
 |0,x,y,_,_,e=>e
 |n+ 1,x,y,c,a,e=>Hn h b n x y c a (b _ _ (sT h n x c) (sT h n y a) e)
theorem mj {f:Nat->Nat}{x:Nat}(h:it f n x=x):∀k,it f (n* k) x=x
 |0=>rfl
 |k+ 1=>by
  rw[Nat.mul_succ,vC,mj h k,h]
def ring {f:Nat->Nat}{x:Nat}(h:∀x,x<n->f x<n)(r:∀x y,x<n->y<n->f x=f y->x=y)(k:x<n):∃c,1<=c/\c<=n/\it f c x=x:=by
 rwa[ajk λs=>?_]
 let ne:∀i j,i<j->j<=n->it f i x≠it f j x:=λi j m t e=>by
  rwa[s ⟨j - i,335⟩];let p:it f j x=it f i (it f (j - i) x):=by rw[<-vC,show j - i+ i=j by ext]
  rw[p]at e;rwa[(Hn h r i x _ k (sT h _ x k) e).symm]
 let o:((List.range (n+ 1)).map λi=>((it f i x:Nat):Int)).Nodup:=by
  rw[List.nodup_iff_pairwise_ne,ah4];rwa[ajw (R:=λa b=>a<b) (λu l g e=>?_) ajK];have:=ahl.mp l;rwa[ne _ _ g ∅ ∅]
 have:=M11.vB (n:=n) o λz q=>by
  let⟨i,_,rfl⟩:=ahc.mp q;have:=sT h i x k;ext
 rw[agm,agZ]at this;ext
def Vg {f:Nat->Nat}(g:n<=6)(h:∀x,x<n->f x<n)(b:∀x y,x<n->y<n->f x=f y->x=y)(x:Nat)(d:x<n):it f 60 x=x:=by
 let⟨c,j,i,e⟩:=ring h b d;let a:c=1\/c=2\/c=3\/c=4\/c=5\/c=6:=∅
 rcases a with rfl|rfl|rfl|rfl|rfl|rfl
 ·rwa[mj e 60]
 ·rwa[mj e 30]
 ·rwa[mj e 20]
 ·rwa[mj e 15]
 ·rwa[mj e 12]
 ·rwa[mj e 10]
end M17
namespace M24
noncomputable def add (come:Zh)(y:Nat):Zh:=if y∈come then come else come++[y]
def dF (f:Nat->Nat->Nat)(x:Nat)(come:Zh)(k:Nat):Zh:=(List.range k).foldl (λc i=>add c (f i x)) come
def ju (f:Nat->Nat->Nat)(x:Nat)(come:Zh)(k:Nat):dF f x come (k+ 1)=add (dF f x come k) (f k x):=by
 unfold dF;rw[ahD,aiK];rfl
def bh (f:Nat->Nat->Nat)(k a:Nat):Nat->Zh
 |0=>[a]
 |n+ 1=>match (bh f k a n)[n]? with
  |some x=>dF f x (bh f k a n) k
  |none=>bh f k a n
def uz (f:Nat->Nat->Nat)(k a:Nat):bh f k a 0=[a]:=rfl
def fN {f:Nat->Nat->Nat}{k x:Nat}(h:(bh f k n m)[m]?\x):bh f k n (m+ 1)=dF f x (bh f k n m) k:=by
 rw[bh,h]
def ml {f:Nat->Nat->Nat}{k:Nat}(h:(bh f k n m)[m]?=none):bh f k n (m+ 1)=bh f k n m:=by
 rw[bh,h]
def DR (come:Zh)(y:Nat):∃t,add come y=come++t:=by
 unfold add;split
 ·rwa[[],(agQ _).symm]
 cbv
theorem pN (f:Nat->Nat->Nat)(x:Nat)(come:Zh):∀k,∃t,dF f x come k=come++t
 |0=>⟨[],(agQ _).symm⟩
 |k+ 1=>by
  let⟨t,b⟩:=pN f x come k;let⟨u,a⟩:=DR (dF f x come k) (f k x);rwa[t++u,by rw[ju,a,b,ahe]]
def uA (f:Nat->Nat->Nat)(k a n:Nat):∃t,bh f k a (n+ 1)=bh f k a n++t:=by
 cases h:(bh f k a n)[n]? with
 |none=>rwa[[],by rw[ml h,agQ]]
 |some x=>let⟨t,b⟩:=pN f x (bh f k a n) k;rwa[t,by rw[fN h,b]]
theorem DS (f:Nat->Nat->Nat)(k a n:Nat):∀m,∃t,bh f k a (n+ m)=bh f k a n++t
 |0=>⟨[],(agQ _).symm⟩
 |m+ 1=>by
  let⟨t,c⟩:=DS f k a n m;let⟨u,b⟩:=uA f k a (n+ m)
  cbv
def Od {come:Zh}:m∈add come n↔m∈come\/m=n:=by
 unfold add
 cbv
def RJ {come:Zh}(h:come.Nodup)(y:Nat):(add come y).Nodup:=by
 unfold add
 cbv
theorem sU {f:Nat->Nat->Nat}{x:Nat}{come:Zh}(h:come.Nodup):∀k,(dF f x come k).Nodup
 |0=>h
 |k+ 1=>[ju]▸RJ (sU h k) _
theorem iQ (f:Nat->Nat->Nat)(k a:Nat):∀n,(bh f k a n).Nodup
 |0=>by rw[uz];simp
 |n+ 1=>by
  cases h:(bh f k a n)[n]? with
  |none=>rw[ml h];rwa[iQ f k a n]
  |some x=>rw[fN h];rwa[sU (iQ f k a n) k]
theorem j4 {f:Nat->Nat->Nat}{x:Nat}{come:Zh}{z:Nat}:∀{k:Nat},z∈dF f x come k↔z∈come\/∃i,i<k/\z=f i x
 |0=>⟨.inl,λq=>q.elim id λζ=>by let⟨i,a,_⟩:=ζ;rwa[absurd a (Nat.not_lt_zero _)]⟩
 |k+ 1=>by
  rw[ju,Od,j4 (k:=k)]
  cbv
theorem oz {f:Nat->Nat->Nat}{k x0:Nat}{P:Nat->Prop}(b:P x0)(c:∀x i,P x->i<k->P (f i x)):∀n,∀z∈bh f k x0 n,P z
 |0,z,a=>by rw[uz,ago]at a;rw[a];rwa[b]
 |n+ 1,z,a=>by
  cases h:(bh f k x0 n)[n]? with
  |none=>rw[ml h]at a;rwa[oz b c n z a]
  |some x=>
   rw[fN h,j4]at a;rcases a with a|⟨i,d,rfl⟩
   ·rwa[oz b c n z a]
   ·rwa[c _ _ (oz b c n x (agh h)) d]
theorem lG {f:Nat->Nat->Nat}{k:Nat}:∀{n j x i:Nat},j<n->(bh f k m n)[j]?\x->i<k->f i x∈bh f k m n
 |n+ 1,j,x,i,g,b,c=>by
  cases h:(bh f k m n)[n]? with
  |none=>
   rw[ml h]at b ⊢;let o:=aiA.mp h;let l:=(agj.mp b).1;rwa[lG (show j<n by omega) b c]
  |some y=>
   let⟨t,d⟩:=pN f y (bh f k m n) k;let p:=(agj.mp h).1
   let a:(bh f k m n)[j]?\x:=by
    rw[fN h,d,ags ∅]at b;rwa[b]
   by_cases e:j=n
   ·rw[e,h]at a;rw[fN h,j4];rwa[.inr ⟨i,c,by cbv⟩]
   ·rw[fN h,j4];rwa[.inl (lG (show j<n by omega) a c)]
noncomputable def ix (come:Zh)(y:Nat):Nat:=come.findIdx λz=>z==y
theorem vD:∀{come:Zh} {i y:Nat},come.Nodup->come[i]?\y->ix come y=i
 |[],i,y,_,h=>by simp at h
 |a::l,0,y,_,h=>by
  let e:a=y:=Za0 h;unfold ix
  cbv
 |a::l,i+ 1,y,d,h=>by
  rw[List.getElem?_cons_succ]at h;let f:=agh h
  let b:(a==y)=false:=by
   rw[agE];intro e;rwa[(agX.mp d).1 (by cbv)]
  let c:ix l y=i:=vD (agX.mp d).2 h;unfold ix at c ⊢;rw[List.findIdx_cons,b];show l.findIdx _+ 1=i+ 1;rw[c]
def Ho {come:Zh}(b:come.Nodup)(h:n∈come):come[ix come n]?\n:=by
 let⟨i,a⟩:=ag8 h;rw[vD b a];rwa[a]
def vE {come:Zh}(b:(come++B).Nodup)(h:n∈come):ix (come++B) n=ix come n:=by
 let⟨i,a⟩:=ag8 h;let c:(come++B)[i]?\n:=by rw[ags (agj.mp a).1];rwa[a]
 rw[vD b c,vD (ahf.mp b).1 a]
def fm (f:Nat->Nat->Nat)(k:Nat)(come:Zh):Za3:=come.map λx=>(List.range k).map λi=>((ix come (f i x):Nat):Int)
def Hq {come:Zh}(h:n∉come):ix (come++[n]) n=⇑come:=by
 induction come with
 |nil=>unfold ix;rw[ai5,List.findIdx_cons];simp
 |cons a l b=>
  rw[agB,not_or]at h;let c:(a==n)=false:=by rw[agE];rwa[λe=>h.1 e.symm]
  have:=b h.2;unfold ix at this ⊢
  cbv
def j5 (f:Nat->Nat->Nat)(k a n:Nat):Za3:=((bh f k a n).take n).map λx=>(List.range k).map λi=>((ix (bh f k a n) (f i x):Nat):Int)
def yH (f:Nat->Nat->Nat)(k a:Nat):j5 f k a 0=[]:=rfl
def yI {f:Nat->Nat->Nat}{k x:Nat}(h:(bh f k n m)[m]?\x):j5 f k n (m+ 1)=j5 f k n m++[(List.range k).map λi=>((ix (bh f k n (m+ 1)) (f i x):Nat):Int)]:=by
 let⟨t,e⟩:=uA f k n m;let b:=iQ f k n (m+ 1);let q:=(agj.mp h).1
 let l:(bh f k n (m+ 1)).take (m+ 1)=(bh f k n m).take m++[x]:=by
  rw[e,List.take_append_of_le_length ∅,aij,h];rfl
 unfold j5;rw[l,agR]
 congr 1
 rwa[ahv λc o=>?_]
 rwa[ahv λi p=>?_]
 let⟨j,d⟩:=ag8 o
 let a:j<m:=by
  have:=(agj.mp d).1;rw[agV]at this;ext
 rw[ajt a]at d;let g:=lG a d (ahl.mp p);rw[e]at b ⊢;rw[vE b g]
def AK {f:Nat->Nat->Nat}{k:Nat}(h:⇑(bh f k n m)=m):j5 f k n m=fm f k (bh f k n m):=by
 unfold j5 fm
 cbv
end M24
namespace M55
open M11 M24
theorem yJ {f:Nat->Nat->Nat}{x:Nat}{come:Zh}{m:Nat}:∀n,∃t,dF f x come (m+ n)=dF f x come m++t
 |0=>⟨[],(agQ _).symm⟩
 |n+ 1=>by
  let⟨t,b⟩:=yJ (m:=m) n;let⟨u,a⟩:=DR (dF f x come (m+ n)) (f (m+ n) x);rwa[t++u,by rw[<-Nat.add_assoc,ju,a,b,ahe]]
section
variable {f:Nat->Nat->Nat}{k N:Nat}
theorem Hr {x:Nat}(h:(bh f k 0 n)[n]?\x){E:Zg}(g:⇑E=n* k)(l:M12.Fc k E ⇑(bh f k 0 n)):∀m,m<=k->M12.Fc k (E++(List.range m).map λi=>((ix (bh f k 0 (n+ 1)) (f i x):Nat):Int)) ⇑(dF f x (bh f k 0 n) m)
 |0,_=>by rw[List.range_zero,List.map_nil,agQ];rwa[l]
 |m+ 1,p=>by
  let j:=Hr h g l m ∅;let a:=iQ f k 0 (n+ 1);let⟨t,b⟩:=yJ (f:=f) (x:=x) (come:=bh f k 0 n) (m:=m+ 1) (k - (m+ 1));rw[show m+ 1+ (k - (m+ 1))=k by ext,<-fN h]at b;rw[ahD,agR,<-ahe,List.map_singleton];generalize e:bh f k 0 (n+ 1)=O at *;let r:=(agj.mp h).1;let⟨u,o⟩:=pN f x (bh f k 0 n) m;let hlen:n<⇑(dF f x (bh f k 0 n) m):=by rw[o,agk];ext
  rw[ju]at b ⊢;by_cases c:f m x∈dF f x (bh f k 0 n) m
  ·let d:add (dF f x (bh f k 0 n) m) (f m x)=dF f x (bh f k 0 n) m:=by unfold add;rw[agI c]
   rw[d]at b ⊢;rw[b]at a;let q:=vE a c;let lt:=(agj.mp (Ho (ahf.mp a).1 c)).1;rw[show ix O (f m x)=ix (dF f x (bh f k 0 n) m) (f m x) by rw[b];rwa[q]];rwa[j.old lt]
  ·let d:add (dF f x (bh f k 0 n) m) (f m x)=dF f x (bh f k 0 n) m++[f m x]:=by unfold add;rw[agF c]
   rw[d]at b ⊢;rw[b]at a;let q:=vE a (agr (dF f x (bh f k 0 n) m) agA);rw[show ix O (f m x)=⇑(dF f x (bh f k 0 n) m) by rw[b,q];rwa[Hq c],agk];rwa[j.new ∅ ?_];rw[agk,agm,agZ,g];have:(n+ 1)* k<=⇑(dF f x (bh f k 0 n) m)* k:=ahY _ hlen;rw[aiT]at this;ext
theorem RK (d:⇑(bh f k 0 N)=N):∀n,n<=N->(j5 f k 0 n).flatten.length=n* k/\M12.Fc k (j5 f k 0 n).flatten ⇑(bh f k 0 n)
 |0,_=>⟨by rw[yH,Nat.zero_mul];rfl,[yH,uz]▸M12.Fc.zero k⟩
 |n+ 1,i=>by
  let⟨c,g⟩:=RK d n ∅
  let a:∃x,(bh f k 0 n)[n]?\x:=by
   cases e:(bh f k 0 n)[n]? with
   |some x=>rwa[x,2]
   |none=>
    exfalso
    let h:=aiA.mp e
    have:∀m,(bh f k 0 (n+ m))=bh f k 0 n:=λm=>by
     induction m with
     |zero=>rfl
     |succ m b=>rw[<-Nat.add_assoc,ml ([b]▸aiA.mpr ∅),b]
    have:=this (N - n);rw[show n+ (N - n)=N by ext]at this;rw[this]at d;ext
  let⟨x,a⟩:=a;rw[yI a,List.flatten_append,List.flatten_singleton];erw[by rw[agk,c,agm,agZ,aiT,Nat.one_mul]];have:=Hr a c g k (agp _);rw[fN a]at this ⊢;rwa[this]
def fc (a:⇑(bh f k 0 N)=N):M12.Fc k (fm f k (bh f k 0 N)).flatten ⇑(fm f k (bh f k 0 N)):=by
 have:=(RK a N (agp _)).2;rw[AK a]at this;unfold fm;rw[agm];rwa[this]
def AO {come:Zh}(a:j<k)(b:come[i]?\n):nx (fm f k come) j i=ix come (f j n):=by
 unfold nx fm;rw[agq (l:=List.map _ come),agx,b];show ((((List.range k).map λi=>((ix come (f i n):Nat):Int))).getD j 0).toNat=_;rw[agq,agx,ahP a];rfl
def uB (c:⇑(bh f k 0 N)=N){j i y:Nat}(b:j<k)(a:(bh f k 0 N)[i]?\y):(bh f k 0 N)[nx (fm f k (bh f k 0 N)) j i]?\(f j y):=by
 rw[AO b a];rwa[Ho (iQ _ _ _ N) (lG (by have:=(agj.mp a).1;omega) a b)]
end
def RL {f:Nat->Nat->Nat}(l:⇑(bh f (2* n) 0 m)=m)(p:∀x∈bh f (2* n) 0 m,∀j,j<2* n->f (flip j) (f j x)=x)(g:1<=n)(o:n<=40)(s:1<=m)(q:m<=300):Tab n (fm f (2* n) (bh f (2* n) 0 m)):=by
 let hlen:⇑(fm f (2* n) (bh f (2* n) 0 m))=m:=by unfold fm;rw[agm,l]
 let c:∀i,i<⇑(fm f (2* n) (bh f (2* n) 0 m))->∃y,(bh f (2* n) 0 m)[i]?\y:=λi d=>⟨_,agl ∅⟩
 rwa[⟨33,g,o,λi r h=>?_,λi k d a=>?_,λi k d a=>?_,λi k d a=>?_⟩]
 ·unfold fm at h;rw[agx]at h
  cases e:(bh f (2* n) 0 m)[i]? with
  |none=>rw[e]at h;ext h
  |some y=>
   rw[e]at h;rw[<-Za0 h,agm,agZ]
 ·let⟨y,b⟩:=c i d;erw[_,by unfold fm;rw[agx,b];rfl];rw[AO a b,agx,ahP a];rfl
 ·let⟨y,b⟩:=c i d;have:=(agj.mp (uB l a b)).1;ext
 ·let⟨y,b⟩:=c i d;rw[AO (Oc a) (uB l a b),p y (agh b) k a];rwa[vD (iQ _ _ _ m) b]
end M55
namespace K37
open PySem L2
noncomputable def top (i:Nat):Stmt:=PySem.Challenge.pw_cosetyard_k37_whole_greatest_move.main.body.getD i (.Pass ⟨(0),(0),(0),(0)⟩)
abbrev AQ:Stmt:=top 1
abbrev oB:Stmt:=top 2
abbrev vF:Stmt:=top 10
abbrev vG:Stmt:=top 12
abbrev vH:Stmt:=top 13
abbrev vI:Stmt:=top 18
abbrev vJ:Stmt:=top 19
abbrev vK:Stmt:=top 22
abbrev LW:Stmt:=top 23
abbrev Hs:Stmt:=top 25
abbrev oC:Stmt:=top 27
abbrev tO:Stmt:=top 29
abbrev oD:Stmt:=top 30
abbrev ro:Stmt:=top 31
abbrev qk:Stmt:=top 32
abbrev rq:Stmt:=top 33
abbrev tQ:Stmt:=top 34
abbrev rA:Stmt:=top 35
abbrev qm:Stmt:=top 36
abbrev rB:Stmt:=top 37
abbrev mn:Stmt:=top 38
abbrev qo:Stmt:=top 39
abbrev LX:Stmt:=top 40
abbrev mq:Stmt:=inClass (top 3) 0
abbrev m4:Stmt:=inClass (top 3) 1
abbrev tR:Stmt:=inClass (top 3) 2
abbrev kI:Stmt:=inClass (top 4) 0
abbrev jv:Stmt:=inClass (top 4) 1
abbrev m5:Stmt:=inClass (top 4) 2
abbrev mw:Stmt:=inClass (top 4) 3
abbrev oE:Stmt:=inClass (top 4) 4
abbrev m6:Stmt:=inClass (top 4) 5
abbrev oF:Stmt:=inClass (top 4) 6
abbrev qp:Stmt:=inClass (top 4) 7
abbrev oH:Stmt:=inClass (top 4) 8
abbrev oJ:Stmt:=inClass (top 4) 9
abbrev kJ:Stmt:=inClass (top 4) 10
abbrev kK:Stmt:=inClass (top 8) 0
abbrev tS:Stmt:=inClass (top 15) 0
abbrev jJ:Stmt:=inClass (top 16) 0
abbrev rD:Stmt:=inClass (top 17) 0
abbrev mx:Stmt:=inClass (top 21) 0
abbrev rE:Stmt:=inClass (top 21) 1
abbrev tT:Stmt:=inClass (top 21) 2
abbrev vL:Stmt:=inClass (top 21) 3
abbrev qq:Stmt:=inClass (top 21) 4
abbrev my:Stmt:=inClass (top 21) 5
abbrev qu:Stmt:=inClass (top 21) 6
abbrev lh:Stmt:=inClass (top 21) 7
abbrev rF:Stmt:=inClass (top 21) 8
abbrev m7:Stmt:=inClass (top 21) 9
abbrev jK:Stmt:=inClass (top 21) 10
abbrev m8:Stmt:=inClass (top 21) 11
set_option genInjectivity false in
structure qv where
 J9:Zs
 Ka:FuncData
 xr:Zs
 xt:FuncData
 Fj:Zs
 Fm:FuncData
 Fo:Zs
 Fq:FuncData
 Fs:Zs
 Ft:FuncData
 vM:Zs
 vN:FuncData
 Fu:Zs
 Fv:FuncData
 Fw:Zs
 Fx:FuncData
 sV:Zs
 sW:FuncData
 Ht:Zs
 Hu:FuncData
 xu:Zs
 xA:FuncData
 Cv:Zs
 Cw:FuncData
 xB:Zs
 xC:FuncData
 AU:Zs
 AV:FuncData
 y7:Zs
 y8:FuncData
 AW:Zs
 AX:FuncData
 Cy:Zs
 Cz:FuncData
 AY:Zs
 AZ:FuncData
 y9:Zs
 za:FuncData
 A0:Zs
 A1:FuncData
 uC:Zs
 uD:FuncData
 zb:Zs
 zc:FuncData
 Vh:Zs
 Vi:FuncData
 mz:Zs
 uE:FuncData
 vO:Zs
 vP:FuncData
 CB:Zs
 CD:FuncData
 kL:Zs
 rH:FuncData
 oK:Zs
 oM:FuncData
 vQ:Zs
 vR:FuncData
 uF:Zs
 uG:FuncData
 xD:Zs
 xE:FuncData
 vS:Zs
 vT:FuncData
 xF:Zs
 xG:FuncData
 zf:Zs
 zg:FuncData
 xH:Zs
 xI:FuncData
 xJ:Zs
 xK:FuncData
 rJ:Zs
 rK:FuncData
 rL:Zs
 rM:FuncData
 CF:Zs
 CH:FuncData
 m9:Zs
 jL:FuncData
 A2:Zs
 A3:FuncData
 mB:Zs
 uH:FuncData
 A4:Zs
 A5:FuncData
 CJ:Zs
 CK:FuncData
 Fy:Zs
 Fz:FuncData
 zh:Zs
 zi:FuncData
 uI:Zs
 uJ:FuncData
 zj:Zs
 zk:FuncData
 tf:Zs
 ti:FuncData
 A6:Zs
 A7:FuncData
 vU:Zs
 vV:FuncData
 pO:Zs
 pQ:FuncData
 vW:Zs
 vX:FuncData
 kh:Zs
 nh:Zs
 bz:Zs
 cP:Zs
 bK:Zs
 cD:Zs
 az:Zs
 aJ:Zs
 aD:Zs
 Yv:Zs
 eG:Zs
set_option genInjectivity false in
structure Txt (K:Za1) (mg:Str->Zl) (A:qv):Prop where
 walked:Def K mg "walked" AQ ["rooms","room","word"] A.J9 A.Ka
 mC:Def K mg "first_places" oB ["rules"] A.xr A.xt
 pR:Def K mg "steps_of" vF ["letters"] A.Fj A.Fm
 numbered:Def K mg "numbered" vG ["rooms"] A.Fo A.Fq
 mD:Def K mg "place_of" vH ["step"] A.Fs A.Ft
 pS:Def K mg "order_by" vI ["name"] A.vM A.vN
 lY:Def K mg "first_of" vJ ["rooms","some"] A.Fu A.Fv
 pT:Def K mg "all_gaps" vK ["letters"] A.Fw A.Fx
 own:Def K mg "own" LW ["value"] A.sV A.sW
 fill:DDef K mg "fill" Hs ["letters","rules","part","limit","order"] A.Ht A.Hu (tx [114,111,111,109,115])
 bL:Def K mg "_law_cell_at" oC ["_law_script","_law_k"] A.xu A.xA
 ni:Def K mg "_law_step" tO ["_law_number","_law_letters"] A.Cv A.Cw
 mE:Def K mg "_law_turning" oD ["_law_number","_law_many","_law_plain"] A.xB A.xC
 fD:Def K mg "_law_moved" ro ["_law_turns","_law_point","_law_word"] A.AU A.AV
 ki:Def K mg "_law_rounds" qk ["_law_turns","_law_points_here","_law_word"] A.y7 A.y8
 pU:Def K mg "_law_rules" rq ["_law_turns","_law_letters","_law_mask","_law_room"] A.AW A.AX
 rN:Def K mg "_law_part" tQ ["_law_script","_law_turns","_law_letters","_law_first"] A.Cy A.Cz
 pV:Def K mg "_law_group" rA ["_law_script"] A.AY A.AZ
 nH:Def K mg "_law_filled" qm ["_law_letters","_law_rules_here","_law_part_here","_law_limit_here","_law_order"] A.y9 A.za
 pW:Def K mg "_law_limit" rB ["_law_script"] A.A0 A.A1
 iD:Def K mg "_law_true_rows" mn ["_law_rows","_law_words","_law_turns","_law_first"] A.uC A.uD
 nJ:Def K mg "_law_points" qo ["_law_table","_law_letters","_law_turns","_law_first"] A.zb A.zc
 law:Def K mg "law" LX ["_law_script"] A.Vh A.Vi
 gn:MDef K A.aJ "__init__" "Going.__init__" mq ["self","which","word","start"] A.mz A.uE
 kX:MDef K A.aJ "advance" "Going.advance" m4 ["self","rooms"] A.vO A.vP
 rO:MDef K A.aJ "row" "Going.row" tR ["self","rooms"] A.CB A.CD
 eS:MDef K A.aD "__init__" "Closing.__init__" kI ["self","rooms","rules","part"] A.kL A.rH
 eZ:MDef K A.aD "begin_rules" "Closing.begin_rules" jv ["self","room"] A.oK A.oM
 iX:MDef K A.aD "begin" "Closing.begin" m5 ["self","which","word","room"] A.vQ A.vR
 iE:MDef K A.aD "settle" "Closing.settle" mw ["self"] A.uF A.uG
 mF:MDef K A.aD "make" "Closing.make" oE ["self","room","step"] A.xD A.xE
 kY:MDef K A.aD "go_on" "Closing.go_on" m6 ["self","number"] A.vS A.vT
 jM:MDef K A.aD "wait" "Closing.wait" oF ["self","number","room","step"] A.xF A.xG
 nK:MDef K A.aD "lay" "Closing.lay" qp ["self","going"] A.zf A.zg
 eT:MDef K A.aD "wake" "Closing.wake" oH ["self","room","step"] A.xH A.xI
 mG:MDef K A.aD "hear" "Closing.hear" oJ ["self"] A.xJ A.xK
 jc:MDef K A.aD "wake_all" "Closing.wake_all" kJ ["self","room"] A.rJ A.rK
 dG:MDef K A.bz "__init__" "TooMany.__init__" kK ["self","made","rows"] A.rL A.rM
 jw:MDef K A.cP "gap" "Order.gap" tS ["self","rooms"] A.CF A.CH
 gX:MDef K A.bK "gap" "ByLetters.gap" jJ ["self","rooms"] A.m9 A.jL
 iF:MDef K A.cD "gap" "Newest.gap" rD ["self","rooms"] A.A2 A.A3
 gq:MDef K A.az "__init__" "Rooms.__init__" mx ["self","letters"] A.mB A.uH
 pX:MDef K A.az "make" "Rooms.make" rE ["self","room","step"] A.A4 A.A5
 rP:MDef K A.az "lay" "Rooms.lay" tT ["self","room","step","other","row"] A.CJ A.CK
 ik:MDef K A.az "by" "Rooms.by" vL ["self","room","step"] A.Fy A.Fz
 g9:MDef K A.az "elder" "Rooms.elder" qq ["self","room"] A.zh A.zi
 eK:MDef K A.az "standing" "Rooms.standing" my ["self"] A.uI A.uJ
 kj:MDef K A.az "paper" "Rooms.paper" qu ["self"] A.zj A.zk
 fE:MDef K A.az "first_gap" "Rooms.first_gap" lh ["self","room"] A.tf A.ti
 lH:MDef K A.az "keep" "Rooms.keep" rF ["self","room","step","other"] A.A6 A.A7
 kZ:MDef K A.az "take_in" "Rooms.take_in" m7 ["self","way","pending"] A.vU A.vV
 fF:MDef K A.az "put_together" "Rooms.put_together" jK ["self","room","step","one","other","pending"] A.pO A.pQ
 k8:MDef K A.az "put_off" "Rooms.put_off" m8 ["self","room","pending"] A.vW A.vX
 kl:mg "enumerate"=none
 LY:mg "min"=none
 Vj:mg "max"=none
 hH:mg "range"=none
 eI:mg "len"=none
 oN:mg "tuple"=none
 ip:mg "list"=none
 dR:mg "isinstance"=none
 abk:mg "bool"=none
 LZ:mg "int"=none
 A8:mg "dict"=none
 FC:mg "reversed"=none
 Vk:mg "abs"=none
 CL:mg "YardError"=some ↑A.kh
 VZ:mg "NoOrder"=some ↑A.nh
 yK:mg "TooMany"=some ↑A.bz
 Oe:mg "Order"=some ↑A.cP
 CM:mg "ByLetters"=some ↑A.bK
 Kb:mg "Newest"=some ↑A.cD
 Og:mg "Rooms"=some ↑A.az
 Oh:mg "Going"=some ↑A.aJ
 Hv:mg "Closing"=some ↑A.aD
 Kc:PySem.W.plainGet K A.az Str.empty=true
 Kd:PySem.W.hasDictIn K A.az=true
 Ke:PySem.W.plainOver K A.az=true
 Kf:PySem.W.findIn K ↑A.az "__setattr__"=some (some (.builtin "object.__setattr__"))
 uK:PySem.W.makesIn K A.az=true
 Kg:PySem.W.keepIn K ↑A.az=true
 rQ:PySem.W.findIn K ↑A.az "letters"=some none
 oO:PySem.W.findIn K ↑A.az "made"=some none
 rS:PySem.W.findIn K ↑A.az "rows"=some none
 iR:PySem.W.findIn K ↑A.az "ways"=some none
 rT:PySem.W.findIn K ↑A.az "gaps"=some none
 jd:PySem.W.findIn K ↑A.az "elders"=some none
 mH:PySem.W.findIn K ↑A.az "called"=some none
 rV:PySem.W.findIn K ↑A.az "went"=some none
 Kh:PySem.W.plainGet K A.aJ Str.empty=true
 Ki:PySem.W.hasDictIn K A.aJ=true
 Kj:PySem.W.plainOver K A.aJ=true
 Kk:PySem.W.findIn K ↑A.aJ "__setattr__"=some (some (.builtin "object.__setattr__"))
 uL:PySem.W.makesIn K A.aJ=true
 Kl:PySem.W.keepIn K ↑A.aJ=true
 A9:PySem.W.findIn K ↑A.aJ "which"=some none
 jx:PySem.W.findIn K ↑A.aJ "word"=some none
 pY:PySem.W.findIn K ↑A.aJ "start"=some none
 gO:PySem.W.findIn K ↑A.aJ "front"=some none
 eU:PySem.W.findIn K ↑A.aJ "first"=some none
 hJ:PySem.W.findIn K ↑A.aJ "rear"=some none
 iG:PySem.W.findIn K ↑A.aJ "last"=some none
 FD:PySem.W.plainGet K A.aD Str.empty=true
 FE:PySem.W.hasDictIn K A.aD=true
 FG:PySem.W.plainOver K A.aD=true
 FH:PySem.W.findIn K ↑A.aD "__setattr__"=some (some (.builtin "object.__setattr__"))
 pZ:PySem.W.makesIn K A.aD=true
 FI:PySem.W.keepIn K ↑A.aD=true
 eV:PySem.W.findIn K ↑A.aD "rooms"=some none
 Ba:PySem.W.findIn K ↑A.aD "rules"=some none
 jy:PySem.W.findIn K ↑A.aD "goings"=some none
 kM:PySem.W.findIn K ↑A.aD "agenda"=some none
 jN:PySem.W.findIn K ↑A.aD "waiting"=some none
 mI:PySem.W.findIn K ↑A.aD "heard"=some none
 Km:PySem.W.plainGet K A.cP Str.empty=true
 Kn:PySem.W.hasDictIn K A.cP=true
 Ko:PySem.W.plainOver K A.cP=true
 Kq:PySem.W.findIn K ↑A.cP "__setattr__"=some (some (.builtin "object.__setattr__"))
 Kr:PySem.W.makesIn K A.cP=true
 Ks:PySem.W.keepIn K ↑A.cP=true
 Kt:PySem.W.findIn K ↑A.cP "__init__"=some (some (.builtin "object.__init__"))
 Yw:PySem.W.findIn K ↑A.cP "__class__"=some (some (.builtin "object.__class__"))
 Yx:PySem.W.mroIn K A.cP (.type "object")\true
 Bb:PySem.W.plainGet K A.bK Str.empty=true
 Bc:PySem.W.hasDictIn K A.bK=true
 Bd:PySem.W.plainOver K A.bK=true
 Be:PySem.W.findIn K ↑A.bK "__setattr__"=some (some (.builtin "object.__setattr__"))
 Bf:PySem.W.makesIn K A.bK=true
 Bg:PySem.W.keepIn K ↑A.bK=true
 Bh:PySem.W.findIn K ↑A.bK "__init__"=some (some (.builtin "object.__init__"))
 RM:PySem.W.findIn K ↑A.bK "__class__"=some (some (.builtin "object.__class__"))
 RN:PySem.W.mroIn K A.bK (.type "object")\true
 Hw:PySem.W.plainGet K A.cD Str.empty=true
 Hx:PySem.W.hasDictIn K A.cD=true
 Hy:PySem.W.plainOver K A.cD=true
 Hz:PySem.W.findIn K ↑A.cD "__setattr__"=some (some (.builtin "object.__setattr__"))
 HB:PySem.W.makesIn K A.cD=true
 HC:PySem.W.keepIn K ↑A.cD=true
 HD:PySem.W.findIn K ↑A.cD "__init__"=some (some (.builtin "object.__init__"))
 V0:PySem.W.findIn K ↑A.cD "__class__"=some (some (.builtin "object.__class__"))
 V1:PySem.W.mroIn K A.cD (.type "object")\true
 V2:PySem.W.excIn K A.nh Ac "ValueError.__new__"=true
 vY:L2.Ff K A.bz=true
 FJ:PySem.W.keepIn K ↑A.bz=true
 V3:PySem.W.exmOne K ↑A.bz ↑A.bz\true
 FK:(PySem.W.clsIn K A.bz).any (λcd=>L2.mh cd.mro)=true
 FL:PySem.W.hasDictIn K A.bz=true
 FN:PySem.W.findIn K ↑A.bz "__setattr__"=some (some (.builtin "object.__setattr__"))
 FP:PySem.W.findIn K ↑A.bz "__getattribute__"=some (some (.builtin "BaseException.__getattribute__"))
 FQ:PySem.W.findIn K ↑A.bz "__getattr__"=some none
 FU:PySem.W.subIn K ↑A.bz (.type "BaseException")\true
 Oi:PySem.W.findIn K ↑A.bz "made"=some none
 xM:PySem.W.findIn K ↑A.bz "rows"=some none
 Yy:PySem.W.specialIn K ↑A.kh "__getattribute__"=some (some (.builtin "type.__getattribute__"))
 Yz:PySem.W.readsIn K A.kh (.type "type")=true
 YB:(match PySem.W.findCls K ↑A.kh (.type "type") "__init__" with|some (.val (.builtin i))=>i=="ValueError.__init__" | _=>false)=true
 lam:LamAt K A.jL A.Yv A.eG
def aI {A:qv}(T:Txt K M A):jS K A.az:=⟨T.Kc,T.Kd,T.Ke,T.Kf⟩
def uK {A:qv}(T:Txt K M A):Mk K A.az A.mB:=⟨T.uK,T.gq.m.at_,T.gq.m.fn,T.Kg⟩
def aU {A:qv}(T:Txt K M A):jS K A.aJ:=⟨T.Kh,T.Ki,T.Kj,T.Kk⟩
def uL {A:qv}(T:Txt K M A):Mk K A.aJ A.mz:=⟨T.uL,T.gn.m.at_,T.gn.m.fn,T.Kl⟩
def aK {A:qv}(T:Txt K M A):jS K A.aD:=⟨T.FD,T.FE,T.FG,T.FH⟩
def pZ {A:qv}(T:Txt K M A):Mk K A.aD A.kL:=⟨T.pZ,T.eS.m.at_,T.eS.m.fn,T.FI⟩
def Bi {A:qv}(T:Txt K M A):jS K A.cP:=⟨T.Km,T.Kn,T.Ko,T.Kq⟩
def rX {A:qv}(T:Txt K M A):jS K A.bK:=⟨T.Bb,T.Bc,T.Bd,T.Be⟩
def yL {A:qv}(T:Txt K M A):jS K A.cD:=⟨T.Hw,T.Hx,T.Hy,T.Hz⟩
def nj:aT ["rooms","room","word","path","step"] ["rooms","room","word"] (aB AQ):=(by ac_rfl)
def hV:aT ["rules","places","which","rule"] ["rules"] (aB oB):=(by ac_rfl)
def nL:aT ["letters","steps","letter"] ["letters"] (aB vF):=(by ac_rfl)
def fO:aT ["rooms","steps","found","numbers","rows","others","other"] ["rooms"] (aB vG):=(by ac_rfl)
def CN:aT ["step"] ["step"] (aB vH):=(by ac_rfl)
def CP:aT ["name"] ["name"] (aB vI):=(by ac_rfl)
def nM:aT ["rooms","some","room","step"] ["rooms","some"] (aB vJ):=(by ac_rfl)
def CQ:aT ["letters"] ["letters"] (aB vK):=(by ac_rfl)
def HF:aT ["value"] ["value"] (aB LW):=(by ac_rfl)
def lO:aT ["letters","rules","part","limit","order","chosen","rooms","closing","gap"] ["letters","rules","part","limit","order"] (aB Hs):=(by ac_rfl)
def vZ:aT ["_law_script","_law_k"] ["_law_script","_law_k"] (aB oC):=(by ac_rfl)
def Bj:aT ["_law_number","_law_letters"] ["_law_number","_law_letters"] (aB tO):=(by ac_rfl)
def fG:aT ["_law_number","_law_many","_law_plain","_law_by","_law_some","_law_turned"] ["_law_number","_law_many","_law_plain"] (aB oD):=(by ac_rfl)
def iY:aT ["_law_turns","_law_point","_law_word","_law_step_here"] ["_law_turns","_law_point","_law_word"] (aB ro):=(by ac_rfl)
def gu:aT ["_law_turns","_law_points_here","_law_word","_law_count","_law_spots"] ["_law_turns","_law_points_here","_law_word"] (aB qk):=(by ac_rfl)
def cW:aT ["_law_turns","_law_letters","_law_mask","_law_room","_law_words","_law_k","_law_j","_law_found","_law_word","_law_often"] ["_law_turns","_law_letters","_law_mask","_law_room"] (aB rq):=(by ac_rfl)
def gx:aT ["_law_script","_law_turns","_law_letters","_law_first","_law_way","_law_words","_law_word","_law_cell"] ["_law_script","_law_turns","_law_letters","_law_first"] (aB tQ):=(by ac_rfl)
def cx:aT ["_law_script","_law_plain","_law_many","_law_letters","_law_turns","_law_k","_law_mask","_law_first","_law_rules_here"] ["_law_script"] (aB rA):=(by ac_rfl)
def dH:aT ["_law_letters","_law_rules_here","_law_part_here","_law_limit_here","_law_order","_law_found","_law_refused","e"] ["_law_letters","_law_rules_here","_law_part_here","_law_limit_here","_law_order"] (aB qm):=(by ac_rfl)
def iZ:aT ["_law_script","_law_cell","_law_limit_here"] ["_law_script"] (aB rB):=(by ac_rfl)
def fW:aT ["_law_rows","_law_words","_law_turns","_law_first","_law_points_here","_law_row","_law_step_here"] ["_law_rows","_law_words","_law_turns","_law_first"] (aB mn):=(by ac_rfl)
def dh:aT ["_law_table","_law_letters","_law_turns","_law_first","_law_points_here","_law_room","_law_row","_law_at","_law_other","_law_step_here","_law_point"] ["_law_table","_law_letters","_law_turns","_law_first"] (aB qo):=(by ac_rfl)
def dS:aT ["_law_script","_law_letters","_law_turns","_law_rules_here","_law_part_here","_law_first","_law_limit_here","_law_order","_law_found","_law_refused","_law_points_here","_law_room","_law_point","_law_cell","_law_step_here"] ["_law_script"] (aB LX):=(by ac_rfl)
def tj:aT ["self","which","word","start"] ["self","which","word","start"] (aB mq):=(by ac_rfl)
def je:aT ["self","rooms","room"] ["self","rooms"] (aB m4):=(by ac_rfl)
def mJ:aT ["self","rooms","ahead","behind"] ["self","rooms"] (aB tR):=(by ac_rfl)
def e8:aT ["self","rooms","rules","part","room","which","word"] ["self","rooms","rules","part"] (aB kI):=(by ac_rfl)
def fP:aT ["self","room","rule","which"] ["self","room"] (aB jv):=(by ac_rfl)
def uM:aT ["self","which","word","room"] ["self","which","word","room"] (aB m5):=(by ac_rfl)
def tm:aT ["self"] ["self"] (aB mw):=(by ac_rfl)
def v7:aT ["self","room","step"] ["self","room","step"] (aB oE):=(by ac_rfl)
def mK:aT ["self","number","going"] ["self","number"] (aB m6):=(by ac_rfl)
def jO:aT ["self","number","room","step","steps","numbers"] ["self","number","room","step"] (aB oF):=(by ac_rfl)
def oQ:aT ["self","going","step"] ["self","going"] (aB qp):=(by ac_rfl)
def wc:aT ["self","room","step"] ["self","room","step"] (aB oH):=(by ac_rfl)
def wg:aT ["self"] ["self"] (aB oJ):=(by ac_rfl)
def fb:aT ["self","room","step","elder"] ["self","room"] (aB kJ):=(by ac_rfl)
def qC:aT ["self","made","rows"] ["self","made","rows"] (aB kK):=(by ac_rfl)
def Bk:aT ["self","rooms"] ["self","rooms"] (aB tS):=(by ac_rfl)
def mM:aT ["self","rooms","gaps"] ["self","rooms"] (aB jJ):=(by ac_rfl)
def zl:aT ["self","rooms"] ["self","rooms"] (aB rD):=(by ac_rfl)
def tq:aT ["self","letters"] ["self","letters"] (aB mx):=(by ac_rfl)
def qw:aT ["self","room","step","number"] ["self","room","step"] (aB rE):=(by ac_rfl)
def rY:aT ["self","room","step","other","row","pending"] ["self","room","step","other","row"] (aB tT):=(by ac_rfl)
def CT:aT ["self","room","step"] ["self","room","step"] (aB vL):=(by ac_rfl)
def xN:aT ["self","room"] ["self","room"] (aB qq):=(by ac_rfl)
def tu:aT ["self"] ["self"] (aB my):=(by ac_rfl)
def xO:aT ["self"] ["self"] (aB qu):=(by ac_rfl)
def kO:aT ["self","room","step"] ["self","room"] (aB lh):=(by ac_rfl)
def zo:aT ["self","room","step","other"] ["self","room","step","other"] (aB rF):=(by ac_rfl)
def dJ:aT ["self","way","pending","room","step","other","led_to","come_from"] ["self","way","pending"] (aB m7):=(by ac_rfl)
def dX:aT ["self","room","step","one","other","pending","less","more","number"] ["self","room","step","one","other","pending"] (aB jK):=(by ac_rfl)
def gP:aT ["self","room","pending","ways","step","other"] ["self","room","pending"] (aB m8):=(by ac_rfl)
section
variable {P:Program}{w:World}{K:Za1}{mg:Str->Zl}{base:Heap}{A:qv}
def gY {c:PySem.Const}{p:PySem.Pos}{a:List PySem.Expr}{env:PySem.Env}:PySem.starEach (.Constant c j p::a) env=(false,PySem.eval (.Constant c j p) env)::PySem.starEach a env:=rfl
def zB (K:Za1)(d:Zs):Sp:=λb H Q _=>∃(a:Zs) (ns:Zg),b=[↑a]/\aF K H a (ns.map V.int)/\⇑ns<=63/\H d\(.fw #[])/\∀c,Q (.bl true) c
def bq (n:Nat):Zg:=(List.range n).map M12.st
def sX (n:Nat):⇑(bq n)=n:=by unfold bq;cbv
def rZ (h:i<n):(bq n)[i]?\(M12.st i):=by
 unfold bq;rw[agx,ahP h];rfl
def Oj (i:Nat):bq (2* i)++[1+ (i:Int)]++[-(1+ (i:Int))]=bq (2* (i+ 1)):=by
 let e:2* (i+ 1)=2* i+ 1+ 1:=∅
 rw[e];unfold bq;rw[ahD,ahD,agR,agR];let a:M12.st (2* i)=1+ (i:Int):=by unfold M12.st;rw[agI ∅];ext
 let b:M12.st (2* i+ 1)= -(1+ (i:Int)):=by unfold M12.st;rw[agF ∅];ext
 show _=(List.range (2* i)).map M12.st++[M12.st (2* i)]++[M12.st (2* i+ 1)];rw[a,b]
def HG (n:Nat):(bq n).Nodup:=by
 unfold bq;rwa[ah4.mpr (List.Pairwise.imp ?_ ajU)];intro a b c z;let d:=M12.Fi a;rw[z,M12.Fi]at d;rwa[c d.symm]
def dB {rs:Zn}(h:rs[i]?\a):jE (rs.map V.ref) (i:Int)\(V.ref a):=bO (by rw[agx,h];rfl)
def Ku:Sp:=λb H Q _=>∃L:Nat,b=[.int L]/\1<=L/\L<=200/\∀l a,aq H a->a l\.lst (ao ((List.range (2* L)).map M12.st))->Q ↑l a
def RP:Sp:=λb H Q _=>∃L:Nat,b=[.int L]/\1<=L/\L<=200/\∀d a,aq H a->H d=none->a d\.dK (gK (bq (2* L)))->Q ↑d a
inductive L0 (C:Zs) (vs:Zb) (H:Hp) (Q:VK) (E_:XK):Prop
 |mk (x dx:Zs) (L:Nat):vs=[↑x,.int L]->H x\.ins C dx []->1<=L->L<=200->(∀a H',(∀b o,H b\o->b≠x->H' b\o)->ay C H' x (RS.new L (bq (2* L))) a->(∀b,a.own x b->b=x\/H b=none)->Q .non H')->L0 C vs H Q E_
def cY (a:RA)(r:Zs)(H c:Hp):Prop:=∀b o,¬a.own r b->H b\o->c b\o
inductive HJ (C:Zs) (vs:Zb) (H:Hp) (Q:VK) (E_:XK):Prop
 |mk (r:Zs) (S:RS) (a:RA) (c d:Nat) (z:Int):vs=[↑r,.int c,.int z,.int d]->ay C H r S a->S.Wf->c<S.made->d<S.made->(∀l∈S.ways,⇑l<=100000)->(∀H',cY a r H H'->ay C H' r (S.keep c z d) a->Q .non H')->HJ C vs H Q E_
inductive HK (C:Zs) (vs:Zb) (H:Hp) (Q:VK) (E_:XK):Prop
 |mk (r:Zs) (S:RS) (a:RA) (c:Nat) (z:Int):vs=[↑r,.int c,.int z]->ay C H r S a->S.Wf->1<=S.L->S.L<=200->c<S.made->S.made<=100000->⇑S.rows<=1000000->(∀l∈S.ways,⇑l<=100000)->(∀a' H',cY a r H H'->ay C H' r (S.make c z (bq (2* S.L))) a'->(∀b,a'.own r b->a.own r b\/H b=none)->Q (.int S.made) H')->HK C vs H Q E_
inductive L1 (C:Zs) (vs:Zb) (H:Hp) (Q:VK) (E_:XK):Prop
 |mk (r:Zs) (S:RS) (a:RA) (c:Nat) (z:Int):vs=[↑r,.int c,.int z]->ay C H r S a->c<⇑S.ways->(Q (((S.by c z).map λn:Nat=>V.int (n:Int)).getD .non) H)->L1 C vs H Q E_
inductive DT (C:Zs) (vs:Zb) (H:Hp) (Q:VK) (E_:XK):Prop
 |mk (r:Zs) (S:RS) (a:RA) (c e:Nat):vs=[↑r,.int c]->ay C H r S a->S.aS[c]?\e->Q (.int e) H->DT C vs H Q E_
inductive wj (C:Zs) (vs:Zb) (H:Hp) (Q:VK) (E_:XK):Prop
 |mk (r:Zs) (S:RS) (a:RA):vs=[↑r]->ay C H r S a->S.Wf->S.made<=100000->(∀l,H l=none->Q ↑l (upd H l (.lst (ao (nI ((List.range S.made).filter λc=>decide (S.aS[c]?\c)))))))->wj C vs H Q E_
def wm (k:Nat):Sp:=λc H Q _=>∃(v:V) (d:Dt),c=[v]/\bN H k v d/\lZ d/\∀b a,aq H a->bN a k b d->Q b a
inductive DU (k:Nat) (C:Zs) (vs:Zb) (H:Hp) (Q:VK) (E_:XK):Prop
 |mk (r:Zs) (S:RS) (a:RA):vs=[↑r]->ay C H r S a->⇑S.rows<=1000000->(∀p d,d∈S.rows->bN H 4 ↑p d->bN H k ↑p d)->(∀l ps H',aq H H'->H l=none->H' l\.lst (ps.map V.ref)->Each (λp d=>bN H' 4 ↑p d) ps S.rows->Q ↑l H')->DU k C vs H Q E_
def HL (T:Txt K mg A):di P w K mg base (cZ P w) 2 A.sV A.sW ["value"] (wm 0):=by
 rwa[T.own.F.okN HF (λc H Q E h=>?_) (λp u f s H c Q E x h=>?_)]
 ·let⟨v,d,rfl,_⟩:=h;rfl
 ·let⟨v,d,rfl,g,j,k⟩:=h
  erw[_,(ai (bD (gU (bF ic rfl T.dR ahb (ae (pv 0) (ae (jg (v:=.ty "tuple") rfl T.oN aii rfl) aj))))
   kr
   bp)
   (ai (bD (gU (bF ic rfl T.dR ahb (ae (pv 0) (ae (jg (v:=.ty "list") rfl T.ip ahy rfl) aj))))
    kr
    bp)
   (ai (bD (gU (bF ic rfl T.dR ahb (ae (pv 0) (ae (jg (v:=.ty "dict") rfl T.A8 ajL rfl) aj))))
    kr
    bp)
   (au (bj (pv 0))))))]
  rwa[gM ?_];intro q t o
  let atom:(∃n,v=.int n)\/(∃l,v=.str (tx l))\/∃(a:Zs) (c:Zb) (m:List Dt),v=↑a/\d=.t m/\False:=by
   cases g with
   |i=>exact .inl ⟨12⟩
   |s=>exact .inr (.inl ⟨12⟩)
   |n=>ext j
   |b=>ext j
  rcases atom with ⟨n,rfl⟩|⟨l,rfl⟩|⟨a,c,m,rfl,rfl,r⟩
  ·rwa[⟨_,rfl,_,_,_,_,rfl,.int n,qf K,_,rfl,dP ?_⟩];rwa[⟨1211112,.int n,qR K,12,dP ?_⟩];rwa[⟨1211112,.int n,qS K,12,dP ?_⟩];rwa[12,k _ H (λ_ _ e=>e) g]
  ·rwa[⟨1211112,.str (tx l),qg K,12,dP ?_⟩];rwa[⟨1211112,.str (tx l),qT K,12,dP ?_⟩];rwa[⟨1211112,.str (tx l),qU K,12,dP ?_⟩];rwa[12,k _ H (λ_ _ e=>e) g]
  ·rwa[r.elim]
def Bl (T:Txt K mg A)(p:di P w K mg base (cZ P w) j A.sV A.sW ["value"] (wm m)):di P w K mg base (cZ P w) (j+ 1) A.sV A.sW ["value"] (wm (m+ 1)):=by
 rwa[T.own.F.okN HF (λg H Q E h=>?_) (λcC AA I s H g Q E J h=>?_)]
 ·let⟨v,d,rfl,_⟩:=h;rfl
 ·let⟨v,d,rfl,M,z,k⟩:=h
  erw[_,(ai (bD (gU (bF ic rfl T.dR ahb (ae (pv 0) (ae (jg (v:=.ty "tuple") rfl T.oN aii rfl) aj))))
   (au (bj (eJ qc rfl T.oN aii (ae (jb (fns:=[]) (ixs:=[]) (cl:=[]) rfl (zJ (pv 0)) (lC ⋯ ⋯ rfl ⋯ rfl) (λC s H ex=>(pc (hj:=agp _) T.own p J (ae (pv 0) aj)))) aj))))
   bp)
   (ai (bD (gU (bF ic rfl T.dR ahb (ae (pv 0) (ae (jg (v:=.ty "list") rfl T.ip ahy rfl) aj))))
    kr
    bp)
   (ai (bD (gU (bF ic rfl T.dR ahb (ae (pv 0) (ae (jg (v:=.ty "dict") rfl T.A8 ajL rfl) aj))))
    kr
    bp)
   (au (bj (pv 0))))))]
  rwa[gM ?_];intro jP fS X
  let atom:(∃n,v=.int n)\/(∃l,v=.str (tx l))\/∃(a:Zs) (g:Zb) (ds:List Dt),v=↑a/\d=.t ds/\(H a\.tup g/\⇑g=⇑ds/\∀(c:Nat) (v:V) (x:Dt),g[c]?\v->ds[c]?\x->bN H m v x):=by
   cases M with
   |i=>exact .inl ⟨12⟩
   |s=>exact .inr (.inl ⟨12⟩)
   |n=>ext z
   |b=>ext z
   |t o N L=>exact .inr (.inr ⟨11122,o,N,L⟩)
   |l=>ext z
  rcases atom with ⟨n,rfl⟩|⟨l,rfl⟩|⟨a,g,ds,rfl,rfl,F⟩
  ·rwa[⟨_,rfl,_,_,_,_,rfl,.int n,qf K,_,rfl,dP ?_⟩];rwa[⟨1211112,.int n,qR K,12,dP ?_⟩];rwa[⟨1211112,.int n,qS K,12,dP ?_⟩];rwa[12,k _ H (λ_ _ e=>e) M]
  ·rwa[⟨1211112,.str (tx l),qg K,12,dP ?_⟩];rwa[⟨1211112,.str (tx l),qT K,12,dP ?_⟩];rwa[⟨1211112,.str (tx l),qU K,12,dP ?_⟩];rwa[12,k _ H (λ_ _ e=>e) M]
  ·let⟨o,N,L⟩:=F;obtain⟨hz,r⟩:⇑ds<=100000/\∀x∈ds,lZ x:=by cases z with|t a b=>exact⟨a,b⟩
   rwa[⟨1211112,.tup o,ui K "tuple",12,jF ?_⟩];erw[12,a,2,⟨_,bA.of o⟩];rwa[mY ⇑g (λi=>g.getD i .non) (λf v i=>∃x,ds[i]?\x/\lZ x/\bN f m v x) (λH1 f v i s ζ=>by let⟨x,e,hn,q⟩:=ζ;rwa[⟨x,e,hn,q.same s⟩]) ?_ (λi f s2 u=>P1 (bA.of (s2^o)) i u) (λi x f Z s2 u y=>?_) (λf s2=>Ji (bA.of (s2^o))) (λi f Rr u s2 kk=>?_) (λD f ys s2 Y hl J=>?_)]
   ·rwa[agz ∅ (show 100000<=sizeLine by decide)]
   ·let⟨e,F⟩:=Nc (bA.of (s2^o)) i x Z u y
    cbv
   ·let F:g[i]?\(g.getD i .non):=by rw[agq,agl u];rfl
    let B:ds[i]?\(ds[i]'∅):=agl ∅
    rwa[⟨12112,(L i _ _ F B).same s2,r _ (agh B),λU H' S q'=>kk U H' S ⟨_,B,r _ (agh B),q'⟩⟩]
   ·rwa[⟨D,ys,2,.inl ⟨aF.of ah,λl G=>?_⟩⟩];let O:aq f (upd f D (.lst ys)):=aq.upd Y;let R:aq (upd f D (.lst ys)) (upd (upd f D (.lst ys)) l (.tup ys)):=aq.upd G;rwa[k _ _ (s2.trans (O.trans R)) (.t ah ∅ λc v x e1 e2=>?_)];obtain⟨y,e3,-,q⟩:=J c v e1;obtain rfl:y=x:=Za0 (e3.symm.trans e2);rwa[q.same (O.trans R)]
def HM (T:Txt K mg A):di P w K mg base (cZ P w) 3 A.sV A.sW ["value"] (wm 1):=Bl T (HL T)
def yM (T:Txt K mg A):di P w K mg base (cZ P w) 4 A.sV A.sW ["value"] (wm 2):=Bl T (HM T)
def tU (T:Txt K mg A):T.pR.Ok P w base 1 Ku:=by
 rwa[T.pR.on nL (λu B f s H z Q E C h=>?_) (len:=by rintro _ _ _ _ ⟨L,rfl,_⟩;rfl)]
 ·let⟨L,rfl,t,y,k⟩:=h
  erw[_,(ai (bI 1 nL.nd (b9 aj))
   (ai (cS agN rfl (mV rfl T.hH (ae av (ae (aO dg (pv 0) av) aj))) (dA 2 nL.nd)
    (ai (aV (cQ agw agG agH bP (pv 1) (ae (pv 2) aj)))
    (au (aV (cQ agw agG agH bP (pv 1) (ae (fy dO (pv 2)) aj))))))
   (au (bj (pv 1)))))]
  rwa[eQ ?_];intro x q;rwa[⟨agP _,λl g=>?_⟩];let p:aq H (upd H l (.lst [])):=aq.upd g;let m:upd H l (.lst []) l\(.lst (ao (bq (2* 0)))):=ah;generalize upd H l (.lst [])=H0 at p m ⊢;erw[121122,(1),(L:Int)+ 1,2,⟨3333⟩];rwa[mW (lo:=1) (n:=((L:Int)+ 1 - 1).toNat) (λi j c=>∃v:Zc,j=#v[.int L,↑l,v]/\aq H c/\c l\.lst (ao (bq (2* i)))) ⟨none,2,p,m⟩ ?_ ?_]
  ·rintro i j c D ⟨v,rfl,d,a⟩;let r:i<L:=∅
   erw[12,.inl ⟨21,aF.of a⟩,12,l,1122,a,5]
   ·rw[aM,sX];rwa[agu (show 2* i<=400 by omega) ⋯]
   erw[12,.inl ⟨21,aF.of ah⟩,1212,l,1122,ah,5]
   ·rw[agk,aM,sX];rwa[agu (show 2* i+ 1<=400 by omega) ⋯]
   erw[12,λb o e=>?_]
   ·rw[ak (aw e g),ak (aw e g)];rwa[d^e]
   ·rw[ah,<-Oj,ints_app,ints_app];rfl
  ·rintro j c ⟨v,rfl,d,a⟩;rw[show ((L:Int)+ 1 - 1).toNat=L by ext]at a;rwa[12,k l c d a]
def tV (T:Txt K mg A):T.pT.Ok P w base 2 RP:=by
 rwa[T.pT.on CQ (λY AA n s H vs Q E B h=>?_) (len:=by rintro _ _ _ _ ⟨L,rfl,_⟩;rfl)]
 ·let⟨L,rfl,o,G,k⟩:=h;erw[_,(au (bj (eJ (vk rfl) rfl T.A8 ajL (ae (jb (fns:=[]) (ixs:=[]) (cl:=[]) rfl (cX (pc T.pR (tU T) B (ae (pv 0) aj))) (lC ⋯ ⋯ rfl ⋯ rfl) (λC s H ex=>(cE (ae (pv 0) (ae kb aj))))) aj))))];rwa[⟨12,L,2,o,G,λl Z s1 j=>⟨l,2,⟨_,aF.of j⟩,5⟩⟩];let hn:⇑(ao ((List.range (2* L)).map M12.st))=2* L:=by rw[aM,agm,agZ]
  rwa[mY (2* L) (λi=>.int (M12.st i)) (λc v i=>∃p,v=↑p/\c p\.tup [.int (M12.st i),.bl true]) (λZ c v i s ζ=>by let⟨p,e,q⟩:=ζ;rwa[⟨p,e,s^q⟩]) ?_ (λi c s2 f=>kB (aF.of (s2^j)) i ∅) (λi x c U s2 f y=>?_) (λc s2=>?_) (λi c Rr f s2 X=>?_) (λD c ys s2 S u B=>?_)]
  ·rwa[agz (show 2* L<=400 by omega) ⋯]
  ·let⟨e,hx⟩:=ji (aF.of (s2^j)) i x U ∅ y;erw[e];rw[show (ao ((List.range (2* L)).map M12.st))[i]?=some (.int (M12.st i)) from bW (rZ f)]at hx
   cbv
  ·have:=ib (aF.of (K:=K) (s2^j));rw[hn]at this;rwa[this]
  ·rwa[⟨12,(Za4 2),λt R=>X _ _ (aq.upd R) ⟨t,2,ah⟩⟩]
  ·let⟨g,rfl,F⟩:=sS (P:=λi p=>c p\.tup [.int (M12.st i),.bl true]) ys 0 (λi v hv=>[ajS]▸B i v hv);let J:aq c (upd c D (.lst (g.map V.ref))):=aq.upd S;rw[agm]at u;rwa[⟨D,g,gK (bq (2* L)),2,ah,by rw[Qy,sX,u],λi p kv M r=>?_,λd I=>?_⟩]
   ·let f:i<2* L:=by rw[<-u];rwa[(agj.mp M).1]
    have:=F i p M;rw[ajS]at this;unfold gK at r;rw[agx,rZ f]at r;rw[<-Za0 r];rwa[J^this]
   ·let e:iP [] (gK (bq (2* L)))=gK (bq (2* L)):=by
     rw[yp _ _ ?_,ai5];rw[ai5];unfold gK;rw[ag6];rwa[ah4.mpr (List.Pairwise.imp (λ{a b} m z=>m (Sum.inl.inj z)) (HG _))]
    rw[e];let O:aq (upd c D (.lst (g.map V.ref))) (upd (upd c D (.lst (g.map V.ref))) d (.dK (gK (bq (2* L))))):=aq.upd I;let N:=s1.trans (s2.trans J);rwa[k d _ (N.trans O) (N.free I) ah]
def hM (T:Txt K mg A):T.ik.Ok mg P w base 1 (L1 A.az):=by
 rwa[T.ik.on CT (λf n d s H m Q E j h=>?_)]
 ·let⟨r,S,a,c,z,rfl,h,l,k⟩:=h;let b:=iU j;erw[_,(au (bj (Jr b (aY bu (aH (pv 0) rfl) (pv 1) (λ_ _=>rfl)) (pv 2) ⟨2222⟩)))];let i:S.ways[c]?\(S.way c):=by unfold RS.way;rw[agq,agl l];rfl
  let⟨p,g,e⟩:=h.rW.at i;erw[12,r,_,a.dx,112,h.ins,aI T,T.iR,iB^_,12,a.aW,11122,aF.of h.hW,dB g,p,2,.inl ⟨_,.inl e⟩,121,fY.k (k:=Sum.inl z) e];rw[kD];rwa[k]
def iH (T:Txt K mg A):T.g9.Ok mg P w base 1 (DT A.az):=by
 rwa[T.g9.on xN (λd j b s H g Q E i h=>?_)]
 ·let⟨r,S,a,c,e,rfl,h,f,k⟩:=h;erw[_,(au (bj (aY bu (aH (pv 0) rfl) (pv 1) (λ_ _=>rfl))))];rwa[12,r,_,a.dx,112,h.ins,aI T,T.jd,jj^_,12,a.aE,11122,aF.of h.hE,bO (bW (fZ f)),k]
def oR {c:Nat}(h:c<⇑S.ways):S.ways[c]?\(S.way c):=by unfold RS.way;cbv
def wq {c:Nat}(h:c<⇑S.gaps):S.gaps[c]?\(S.gap c):=by unfold RS.gap;cbv
def Bm (h:∀l∈S.ways,⇑l<=m):⇑(S.way n)<=m:=by
 unfold RS.way;rw[agq]
 cases e:S.ways[n]? with
 |none=>exact agP _
 |some l=>exact h l (agh e)
def L3 (h:O.ws[i]?\b):O.own a b:=.inr (.inr (du (agh h)))
def Vl (h:O.gs[i]?\b):O.own a b:=.inr (.inr (gf (agh h)))
def cY.upd {o:HO}(h:O.own a b):cY O a H (upd H b o):=λc u d e=>[ak (λz=>d ([z]▸h))]▸e
def cY.trans (h:cY O a H I)(d:cY O a I J):cY O a H J:=λb u c e=>d b u c (h b u c e)
def qx (T:Txt K mg A):T.lH.Ok mg P w base 1 (HJ A.az):=by
 rwa[T.lH.on zo (λcC AA F s H vs Q E hr h=>?_)]
 ·let⟨r,S,a,c,d,z,rfl,h,hw,hc,M,Y,k⟩:=h;let j:=iU hr
  erw[_,(ai (sJ j (aY bu (aH (pv 0) rfl) (pv 1) (λ_ _=>rfl)) (pv 2) (pv 3) rfl)
   (ai (sJ j (aY bu (aH (pv 0) rfl) (pv 3) (λ_ _=>rfl)) (fy dO (pv 2)) (pv 1) rfl)
   (ai (aV (uk (aY bu (aH (pv 0) rfl) (pv 1) (λ_ _=>rfl)) (pv 2) cO ⟨2222⟩))
   (au (aV (uk (aY bu (aH (pv 0) rfl) (pv 3) (λ_ _=>rfl)) (fy dO (pv 2)) cO ⟨2222⟩))))))]
  rwa[gM ?_];intro jP fS gy;let⟨p,b,J⟩:=h.rW.at (oR (S:=S) (c:=c) ([hw.w]▸hc));let b1:⇑(S.way c)<=100000:=Bm Y;erw[1212,r,_,a.dx,112,h.ins,aI T,T.iR,iB^_,12,a.aW,11122,aF.of h.hW,dB b,12,p,12,qN.k (k:=Sum.inl z) J ([Ai]▸agu b1 ⋯)];rw[Aj];let n:ay A.az _ r (S.cj c z d) a:=h.Al b (iO (S.way c) z d);let X:cY a r H (upd H p (.dK (wK (iO (S.way c) z d)))):=cY.upd (L3 b);generalize upd H p (.dK (wK (iO (S.way c) z d)))=G at n X ⊢;let w1:(S.cj c z d).ways.length=S.made:=by show ⇑(S.ways.set c _)=_;rw[agK,hw.w]
  let⟨q,D,B⟩:=n.rW.at (oR (S:=S.cj c z d) (c:=d) ([w1]▸M))
  let b2:⇑((S.cj c z d).way d)<=100001:=Bm λl g=>by
   rcases aix g with g|rfl
   ·rwa[Nat.le_succ_of_le (Y l g)]
   ·rwa[agz (JA^_) (by omega)]
  rwa[⟨_,rfl,_,rfl,r,_,a.dx,_,_,rfl,n.ins,aI T,T.iR,iB^_,_,rfl,a.aW,_,_,_,rfl,rfl,aF.of n.hW,dB D,_,rfl,_,rfl,q,_,rfl,qN.k (k:=Sum.inl (-z)) B (by rw[Ai];rwa[agu b2 (by decide)]),?_⟩];rw[Aj];let f:ay A.az _ r ((S.cj c z d).cj d (-z) c) a:=n.Al D (iO ((S.cj c z d).way d) (-z) c);let O:cY a r G (upd G q (.dK (wK (iO ((S.cj c z d).way d) (-z) c)))):=cY.upd (L3 D);generalize upd G q (.dK (wK (iO ((S.cj c z d).way d) (-z) c)))=H2 at f O ⊢;generalize U:(S.cj c z d).cj d (-z) c=C at f ⊢;let N:⇑C.gaps=S.made:=by rw[<-U];rwa[hw.g]
  let⟨p3,o,m⟩:=f.rG.at (wq (S:=C) (c:=c) ([N]▸hc))
  let pop:∀{H:Hp} {S:RS} {c:Nat} {z:Int} {p:Zs},ay A.az H r S a->a.gs[c]?\p->H p\.dK (gK (S.gap c))->∀{Q:V->Hp->Prop},(∀v L,cY a r H L->ay A.az L r (S.lD c z) a->Q v L)->
   Jq p (.int z) .non H Q:=by
   intro H S c z p h b J Q B
   suffices q:(∀v,bB (gK (S.gap c)) (Sum.inl z)\v->Q v (upd H p (.dK (eX (gK (S.gap c)) (Sum.inl z)))))/\(bB (gK (S.gap c)) (Sum.inl z)=none->Q .non H) from ⟨_,Sum.inl z,J,2,q.1,q.2⟩
   rw[GP,Nu];by_cases I:z∈S.gap c
   ·rw[agI I];rwa[λv _=>B _ _ (cY.upd (Vl b)) (h.QD b _),λz=>by ext z]
   ·rw[agF I];rwa[⟨λv z=>(by ext z),λ_=>B _ _ (λ_ _ _ e=>e) ?_⟩];let e:(S.gap c).filter (λx=>decide (x≠z))=S.gap c:=List.filter_eq_self.mpr λx hx=>agW λz=>I (z ▸ hx)
    let g:c<⇑S.gaps:=by rw[<-h.rG.1];rwa[(agj.mp b).1]
    have:S.lD c z=S:=by
     unfold RS.lD RS.setG;rw[e]
     let es:S.gaps.set c (S.gap c)=S.gaps:=ah3 λi=>by
      by_cases Z:c=i
      ·subst Z;rw[ag9 g,wq g]
      ·rw[ahI Z]
     rw[es]
    rw[this];rwa[h]
  rwa[⟨12,r,_,a.dx,112,f.ins,aI T,T.rT,sP^_,12,a.aG,11122,aF.of f.hG,dB o,p3,2,.inl ⟨_,.inl m⟩,12,pop f o m λv H3 u3 t=>?_⟩];generalize e3:C.lD c z=S3 at t;let g3:⇑S3.gaps=S.made:=by rw[<-e3];show ⇑(C.gaps.set c _)=_;rw[agK,N]
  let⟨p4,y,u⟩:=t.rG.at (wq (S:=S3) (c:=d) ([g3]▸M));rwa[⟨12,r,_,a.dx,112,t.ins,aI T,T.rT,sP^_,12,a.aG,11122,aF.of t.hG,dB y,p4,2,.inl ⟨_,.inl u⟩,1212,pop t y u λv H4 u4 R=>?_⟩];rwa[k H4 (X.trans (O.trans (u3.trans u4))) ?_];rw[<-e3,<-U]at R;rwa[R]
def tD (T:Txt K mg A):T.gq.Ok mg P w base 3 (L0 A.az):=by
 rwa[T.gq.on tq (λcC AA outer s H vs Q E hr h=>?_)]
 ·let⟨x,j,L,rfl,hx,lj,r0,k⟩:=h
  erw[_,(ai (b8 (pv 0) (pv 1) rfl)
   (ai (b8 (pv 0) av rfl)
   (ai (b8 (pv 0) (b9 aj) rfl)
   (ai (b8 (pv 0) (b9 (ae fK aj)) rfl)
   (ai (b8 (pv 0) (b9 (ae (pc T.pT (tV T) hr (ae (pv 1) aj)) aj)) rfl)
   (ai (b8 (pv 0) (b9 (ae av aj)) rfl)
   (ai (b8 (pv 0) (b9 (ae (b9 (ae av aj)) aj)) rfl)
   (au (b8 (pv 0) (b9 aj) rfl)))))))))]
  rwa[Ao ?_];intro L4 Bn qy oS jP fS gy
  let st:∀{H0:Hp} {fs:List (Str×V)} {f:Str} {v:V},H0 x\.ins A.az j fs->(∀b o,H b\o->b≠x->H0 b\o)->upd H0 x (.ins A.az j (bJ f v fs)) x\.ins A.az j (bJ f v fs)/\(∀b o,H b\o->b≠x->upd H0 x (.ins A.az j (bJ f v fs)) b\o)/\∀b o,b≠x->H0 b\o->upd H0 x (.ins A.az j (bJ f v fs)) b\o:=
   λ_ h=>⟨ah,λb o e n=>[ak n]▸h b o e n,λb o n e=>[ak n]▸e⟩
  erw[1212,x,_,j,12,hx,aI T,T.rQ,(by show 0<1000;decide)];obtain⟨x1,o1,-⟩:=st (f:="letters") (v:=.int L) hx (λb o e _=>e);generalize upd H x (.ins A.az j (bJ "letters" (.int L) []))=H1 at x1 o1 ⊢;let f1:⇑(bJ "letters" (.int L) ([]:List (Str×V)))<=1:=jl (n:=0) (agp _);erw[12,x,_,j,12,x1,aI T,T.oO,agu f1 ⋯];obtain⟨x2,o2,-⟩:=st (f:="made") (v:=.int 1) x1 o1;let f2:=jl (f:="made") (v:=.int 1) f1;generalize e2:bJ "made" (.int 1) (bJ "letters" (.int L) [])=V4 at x2 o2 f2 ⊢;generalize upd H1 x (.ins A.az j V4)=H2 at x2 o2 ⊢;rwa[⟨agP _,λF nR=>⟨12,x,_,j,12,aq.upd nR _ _ x2,aI T,T.rS,agu f2 ⋯,5⟩⟩];let V5:upd H2 F (.lst []) F\(.lst []):=ah;let J:F≠x:=(aw x2 nR).symm;let s3:=aq.upd (o:=.lst []) nR
  let n0:∀{b:Zs} {H0:Hp},(∀c o,H c\o->c≠x->H0 c\o)->H0 b=none->b≠x->H b=none:=λ{b H0} h n nx=>by
   cases e:H b with
   |none=>rfl
   |some o=>rw[h b o e nx]at n;ext n
  let kR:=n0 o2 nR J;generalize upd H2 F (.lst [])=H3 at V5 s3 ⊢;let⟨x4,o4,k4⟩:=st (f:="rows") (v:=↑F) (s3^x2) (λb o e n=>s3^o2 b o e n);let f4:=jl (f:="rows") (v:=↑F) f2;generalize e4:bJ "rows" ↑F V4=V6 at x4 o4 f4 k4 ⊢;let RV:=k4 _ _ J V5;generalize upd H3 x (.ins A.az j V6)=H4 at x4 o4 RV ⊢;intro wd RW;let q:wd≠x:=(aw x4 RW).symm;let V7:=n0 o4 RW q;let s5:=aq.upd (o:=.dK []) RW;let RX:upd H4 wd (.dK []) wd\(.dK []):=ah;generalize upd H4 wd (.dK [])=H5 at s5 RX ⊢;rwa[⟨(Za4 1),λB nW=>⟨12,x,_,j,12,aq.upd nW _ _ (s5^x4),aI T,T.iR,agu f4 ⋯,5⟩⟩];let Y:B≠x:=(aw (s5^x4) nW).symm;let kW:=n0 (λb o e n=>s5^o4 b o e n) nW Y;let nWR:B≠F:=(aw (s5^RV) nW).symm;let s6:=aq.upd (o:=.lst [↑wd]) nW;let V8:upd H5 B (.lst [↑wd]) B\(.lst [↑wd]):=ah;generalize upd H5 B (.lst [↑wd])=H6 at s6 V8 ⊢;let⟨x7,o7,k7⟩:=st (f:="ways") (v:=↑B) (s6^s5^x4) (λb o e n=>s6^s5^o4 b o e n);let f7:=jl (f:="ways") (v:=↑B) f4;generalize e7:bJ "ways" ↑B V6=V9 at x7 o7 f7 k7 ⊢;let RZ:=k7 _ _ J (s6^s5^RV);let R6:=k7 _ _ Y V8;let Kv:=k7 _ _ q (s6^RX);generalize upd H6 x (.ins A.az j V9)=H7 at x7 o7 RZ R6 Kv ⊢;rwa[⟨12,L,2,lj,r0,λgd H8 s8 R7 YC=>?_⟩];let y:gd≠x:=(aw x7 R7).symm;let kgd:=n0 o7 R7 y;let ngw:gd≠wd:=(aw Kv R7).symm;rwa[⟨(Za4 1),λG nG=>⟨12,x,_,j,12,aq.upd nG _ _ (s8^x7),aI T,T.rT,agu f7 ⋯,5⟩⟩];let HN:G≠x:=(aw (s8^x7) nG).symm;let kG:=n0 (λb o e n=>s8^o7 b o e n) nG HN;let nGR:G≠F:=(aw (s8^RZ) nG).symm;let nGW:G≠B:=(aw (s8^R6) nG).symm;let s9:=aq.upd (o:=.lst [↑gd]) nG;let Wa:upd H8 G (.lst [↑gd]) G\(.lst [↑gd]):=ah;generalize upd H8 G (.lst [↑gd])=H9 at s9 Wa ⊢;let⟨x10,L5,DV⟩:=st (f:="gaps") (v:=↑G) (s9^s8^x7) (λb o e n=>s9^s8^o7 b o e n);let HP:=jl (f:="gaps") (v:=↑G) f7;generalize e10:bJ "gaps" ↑G V9=R8 at x10 L5 HP DV ⊢;let Kw:=DV _ _ J (s9^s8^RZ);let Kx:=DV _ _ Y (s9^s8^R6);let L6:=DV _ _ q (s9^s8^Kv);let Ky:=DV _ _ HN Wa;let L7:=DV _ _ y (s9^YC);generalize upd H9 x (.ins A.az j R8)=HQ at x10 L5 Kw Kx L6 Ky L7 ⊢;rwa[⟨4,λC nE=>⟨12,x,_,j,12,aq.upd nE _ _ x10,aI T,T.jd,agu HP ⋯,5⟩⟩];let L8:C≠x:=(aw x10 nE).symm;let kE:=n0 L5 nE L8;let nER:C≠F:=(aw Kw nE).symm;let nEW:C≠B:=(aw Kx nE).symm;let nEG:C≠G:=(aw Ky nE).symm;let u:=aq.upd (o:=.lst [.int 0]) nE;let Sb:upd HQ C (.lst [.int 0]) C\(.lst [.int 0]):=ah;generalize upd HQ C (.lst [.int 0])=Sd at u Sb ⊢;let⟨Z,HR,O⟩:=st (f:="elders") (v:=↑C) (u^x10) (λb o e n=>u^L5 b o e n);let Se:=jl (f:="elders") (v:=↑C) HP;generalize e12:bJ "elders" ↑C R8=Sf at Z HR Se O ⊢;let U:=O _ _ J (u^Kw);let R:=O _ _ Y (u^Kx);let L9:=O _ _ q (u^L6);let X:=O _ _ HN (u^Ky);let Ma:=O _ _ y (u^L7);let S:=O _ _ L8 Sb;generalize upd Sd x (.ins A.az j Sf)=Wb at Z HR U R L9 X Ma S ⊢;rwa[⟨4,λz t=>⟨(Za4 1),λD nC=>⟨12,x,_,j,12,aq.upd nC _ _ (aq.upd t _ _ Z),aI T,T.mH,agu Se ⋯,5⟩⟩⟩];let Kz:z≠x:=(aw Z t).symm;let kcl:=n0 HR t Kz;let ncR:z≠F:=(aw U t).symm;let ncW:z≠B:=(aw R t).symm;let ncG:z≠G:=(aw X t).symm;let ncE:z≠C:=(aw S t).symm;let a:=aq.upd (o:=.lst [.int 0]) t;let I:upd Wb z (.lst [.int 0]) z\(.lst [.int 0]):=ah;generalize upd Wb z (.lst [.int 0])=Wc at a I nC ⊢;let Sg:D≠x:=(aw (a^Z) nC).symm;let kC:=n0 (λb o e n=>a^HR b o e n) nC Sg;let nCR:D≠F:=(aw (a^U) nC).symm;let nCW:D≠B:=(aw (a^R) nC).symm;let nCG:D≠G:=(aw (a^X) nC).symm;let nCE:D≠C:=(aw (a^S) nC).symm;let nCc:D≠z:=(aw I nC).symm;let l:=aq.upd (o:=.lst [↑z]) nC;let Sh:upd Wc D (.lst [↑z]) D\(.lst [↑z]):=ah;generalize upd Wc D (.lst [↑z])=H14 at l Sh ⊢;let⟨HS,Mb,r⟩:=st (f:="called") (v:=↑D) (l^a^Z) (λb o e n=>l^a^HR b o e n);let Md:=jl (f:="called") (v:=↑D) Se;generalize e15:bJ "called" ↑D Sf=Si at HS Mb Md r ⊢;let KC:=r _ _ J (l^a^U);let KD:=r _ _ Y (l^a^R);let Mf:=r _ _ q (l^a^L9);let KG:=r _ _ HN (l^a^X);let Mg:=r _ _ y (l^a^Ma);let KH:=r _ _ L8 (l^a^S);let N:=r _ _ Kz (l^I);let KJ:=r _ _ Sg Sh;generalize upd H14 x (.ins A.az j Si)=Wd at HS Mb KC KD Mf KG Mg KH N KJ ⊢;rwa[⟨agP _,λM nN=>⟨12,x,_,j,12,aq.upd nN _ _ HS,aI T,T.rV,agu Md ⋯,5⟩⟩];let Wg:M≠x:=(aw HS nN).symm;let kN:=n0 Mb nN Wg;let nNR:M≠F:=(aw KC nN).symm;let nNW:M≠B:=(aw KD nN).symm;let nNG:M≠G:=(aw KG nN).symm;let nNE:M≠C:=(aw KH nN).symm;let nNC:M≠D:=(aw KJ nN).symm;let nNc:M≠z:=(aw N nN).symm;let g:=aq.upd (o:=.lst []) nN;let Sj:upd Wd M (.lst []) M\(.lst []):=ah;generalize upd Wd M (.lst [])=H16 at g Sj ⊢;let⟨Wh,Wi,m⟩:=st (f:="went") (v:=↑M) (g^HS) (λb o e n=>g^Mb b o e n)
  let ef:bJ "went" ↑M Si=fk (L:Int) 1 ⟨j,F,B,G,C,D,M,[],[wd],[gd],[z]⟩:=by
   rw[<-e15,<-e12,<-e10,<-e7,<-e4,<-e2]
   kernel_rfl
  rw[ef]at Wh Wi m ⊢;rwa[k ⟨j,F,B,G,C,D,M,[],[wd],[gd],[z]⟩ _ Wi ⟨Wh,m _ _ J (g^KC),m _ _ Y (g^KD),m _ _ HN (g^KG),m _ _ L8 (g^KH),m _ _ Sg (g^KJ),m _ _ Wg Sj,⟨2,(λi p d h=>by simp at h)⟩,555,(λd hd=>by ext hd),55⟩ ?_]
  ·rwa[Each.snoc (ps:=[]) (xs:=[]) ⟨2,λi p d h=>by simp at h⟩ (m _ _ q (g^Mf))]
  ·rwa[Each.snoc (ps:=[]) (xs:=[]) ⟨2,λi p d h=>by simp at h⟩ (m _ _ y (g^Mg))]
  ·rwa[Each.snoc (ps:=[]) (xs:=[]) ⟨2,λi p d h=>by simp at h⟩ (m _ _ Kz (g^N))]
  ·show [F,B,G,C,D,M,z].Nodup;simp only[agX,agB,ag4,ait,not_or,ah6,and_true,aiL]
   cbv
  ·show [wd,gd].Nodup;simp only[agX,agB,ag4,ait,ah6,and_true,aiL];rwa[ngw.symm]
  ·intro b hb;rcases hb with rfl|hb|hb
   ·rwa[.inl rfl]
   ·simp only[RA.lists,agB,ag4,ait]at hb
    cbv
   ·simp only[RA.eD,agv,agB,ag4,ait]at hb
    cbv
def _root_.Lake.L2.ay.Bo (h:ay a H b S O){p:Zs}(c:H p=none):¬O.own b p:=λz=>by
 let⟨o,e⟩:=h.there z
 cbv
def zp (T:Txt K mg A):T.pX.Ok mg P w base 3 (HK A.az):=by
 rwa[T.pX.on qw (λcC AA outer s H vs Q E hr h=>?_)]
 ·let⟨r,S,a,c,z,rfl,h,hw,lj,r0,hc,hm,yN,hz,k⟩:=h
  erw[_,(ai (bI 3 qw.nd (aH (pv 0) rfl))
   (ai (b8 (pv 0) (aO dg (pv 3) av) rfl)
   (ai (aV (cQ agw agG agH bP (aH (pv 0) rfl) (ae (cE (ae (dD (l:=[110,101,119]) rfl) (ae (pv 1) (ae (pv 2) (ae (pv 3) aj))))) aj)))
   (ai (aV (cQ agw agG agH bP (aH (pv 0) rfl) (ae fK aj)))
   (ai (aV (cQ agw agG agH bP (aH (pv 0) rfl) (ae (pc T.pT (tV T) hr (ae (aH (pv 0) rfl) aj)) aj)))
   (ai (aV (cQ agw agG agH bP (aH (pv 0) rfl) (ae (pv 3) aj)))
   (ai (aV (cQ agw agG agH bP (aH (pv 0) rfl) (ae (b9 (ae (pv 3) aj)) aj)))
   (ai (aV (pm (pv 0) (aI T) T.lH (qx T) hr (ae (pv 1) (ae (pv 2) (ae (pv 3) aj)))))
   (au (bj (pv 3)))))))))))]
  rwa[JB ?_];intro Wj L4 Bn qy oS jP fS gy;erw[12,r,_,a.dx,112,h.ins,aI T,T.oO,sN^_];erw[12112212,r,_,a.dx,12,h.ins,aI T,T.oO,(by show 8<1000;decide)];rw[GQ,show (S.made:Int)+ 1=((S.made+ 1:Nat):Int) by ext];let h1:=h.Nv (S.made+ 1);let u1:cY a r H (upd H r (.ins A.az a.dx (fk S.L ((S.made+ 1:Nat):Int) a))):=cY.upd (.inl rfl);generalize upd H r (.ins A.az a.dx (fk S.L ((S.made+ 1:Nat):Int) a))=H1 at h1 u1 ⊢;let lR:⇑(a.rs.map V.ref)<sizeLine:=by rw[agm,h.rR.1];rwa[agu yN ⋯]
  rwa[⟨12,r,_,a.dx,112,h1.ins,aI T,T.rS,sO^_,.inl ⟨21,aF.of h1.hR⟩,121212,(Za4 4),λt ht=>⟨a.aR,1122,aq.upd ht _ _ h1.hR,lR,5⟩⟩];let s2:=aq.upd (o:=.tup [.str (tx [110,101,119]),.int c,.int z,.int S.made]) ht;let Wk:upd H1 t (.tup [.str (tx [110,101,119]),.int c,.int z,.int S.made]) t\(.tup [.str (tx [110,101,119]),.int c,.int z,.int S.made]):=ah;generalize upd H1 t (.tup [.str (tx [110,101,119]),.int c,.int z,.int S.made])=H2 at s2 Wk ⊢
  let hd2:bN H2 4 ↑t (kF c z S.made):=by
   rwa[.t Wk rfl λj v d y J=>?_]
   rcases j with _|_|_|_|j
   ·simp at y J;subst y J;rwa[.s]
   ·simp at y J;subst y J;rwa[.i]
   ·simp at y J;subst y J;rwa[.i]
   ·simp at y J;subst y J;rwa[.i]
   ·simp at y
  let nl:lZ (kF c z S.made):=.t (by show 4<=100000;decide) λd hd=>by
   simp only[agB,ag4,ait]at hd;rcases hd with rfl|rfl|rfl|rfl
   ·rwa[.s]
   ·rwa[.i]
   ·rwa[.i]
   ·rwa[.i]
  let D:=(h1.same s2).Ak hd2 nl;let u3:cY a r H2 (upd H2 a.aR (.lst (a.rs.map V.ref++[↑t]))):=cY.upd (.inr (.inl fU));generalize upd H2 a.aR (.lst (a.rs.map V.ref++[↑t]))=H3 at D u3 ⊢;generalize U:({ a with rs:=a.rs++[t] }:RA)=n at D;let Z:∀b,n.own r b->a.own r b:=λb f=>by rw[<-U]at f;rwa[f]
  let aeT:∀b,a.own r b->n.own r b:=λb f=>by rw[<-U];rwa[f]
  let ewG:n.dx=a.dx:=by rw[<-U]
  let U3:cY a r H H3:=u1.trans (λb o f e=>u3 b o f (s2^e));erw[12,r,_,n.dx,112,D.ins,aI T,T.iR,iB^_,.inl ⟨21,aF.of D.hW⟩];intro i B;let hdW:⇑(n.ws.map V.ref)<sizeLine:=by rw[agm,D.rW.1];show ⇑S.ways<sizeLine;rw[hw.w];rwa[agu hm ⋯]
  let s4:=aq.upd (o:=.dK []) B;let M:upd H3 i (.dK []) i\(.dK (wK [])):=ah;let YD:=D.Bo B;erw[n.aW,1122,s4^D.hW,hdW];generalize upd H3 i (.dK [])=H4 at s4 M ⊢;let G:=(D.same s4).QB M (λz=>YD (.inr (.inr z)));let u5:cY n r H4 (upd H4 n.aW (.lst (n.ws.map V.ref++[↑i]))):=cY.upd (.inr (.inl fV));generalize upd H4 n.aW (.lst (n.ws.map V.ref++[↑i]))=H5 at G u5 ⊢;generalize ea5:({ n with ws:=n.ws++[i] }:RA)=m at G
  let ae2:∀b,m.own r b->n.own r b\/b=i:=λb f=>by
   rw[<-ea5]at f;rcases f with f|f|f
   ·rwa[.inl (.inl f)]
   ·rwa[.inl (.inr (.inl f))]
   ·simp only[RA.eD,agv,ago]at f;rcases f with (f|f)|f
    ·rwa[.inl (.inr (.inr (agJ _ f)))]
    ·rwa[.inr f]
    ·rwa[.inl (.inr (.inr (agr _ f)))]
  let V7:H i=none\/a.own r i:=by
   by_cases C:a.own r i
   ·rwa[.inr C]
   ·rwa[.inl ?_]
    cases e:H i with
    |none=>rfl
    |some o=>rw[U3 i o C e]at B;ext B
  let U5:cY a r H H5:=U3.trans λb o f e=>u5 b o (λz=>f (Z b z)) (s4^e)
  rwa[⟨12,r,_,m.dx,112,G.ins,aI T,T.rT,sP^_,.inl ⟨21,aF.of G.hG⟩,12,r,_,m.dx,112,G.ins,aI T,T.rQ,vl^_,S.L,2,lj,r0,λx H6 s6 O Y=>?_⟩];let hdG:⇑(m.gs.map V.ref)<sizeLine:=by rw[agm,G.rG.1];show ⇑S.gaps<sizeLine;rw[hw.g];rwa[agu hm ⋯]
  let h6:=G.same s6;let YF:=G.Bo O;erw[m.aG,1122,h6.hG,hdG];let X:=h6.QC Y (λz=>YF (.inr (.inr z)));let u7:cY m r H6 (upd H6 m.aG (.lst (m.gs.map V.ref++[↑x]))):=cY.upd (.inr (.inl iW));generalize upd H6 m.aG (.lst (m.gs.map V.ref++[↑x]))=H7 at X u7 ⊢;generalize ea7:({ m with gs:=m.gs++[x] }:RA)=g at X
  let ae3:∀b,g.own r b->m.own r b\/b=x:=λb f=>by
   rw[<-ea7]at f;rcases f with f|f|f
   ·rwa[.inl (.inl f)]
   ·rwa[.inl (.inr (.inl f))]
   ·simp only[RA.eD,agv,ago]at f;rcases f with f|f|f
    ·rwa[.inl (.inr (.inr (agJ _ f)))]
    ·rwa[.inl (.inr (.inr (agr _ f)))]
    ·rwa[.inr f]
  let w5:H i=none\/a.own r i:=V7
  let YG:∀b o,¬a.own r b->H b\o->¬m.own r b:=λb o f e z=>by
   cbv
  let U7:cY a r H H7:=λb o f e=>u7 b o (YG b o f e) (s6^U5 b o f e)
  let kgd:H x=none\/a.own r x:=by
   by_cases C:a.own r x
   ·rwa[.inr C]
   ·rwa[.inl ?_]
    cases e:H x with
    |none=>rfl
    |some o=>rw[U5 x o C e]at O;ext O
  erw[12,r,_,g.dx,112,X.ins,aI T,T.jd,jj^_,.inl ⟨21,aF.of X.hE⟩,12,g.aE,1122,X.hE,5]
  ·rw[aM,bV];show ⇑S.aS<sizeLine;rw[hw.e];rwa[agu hm ⋯]
  let eE:ao (nI S.aS)++[V.int (S.made:Int)]=ao (nI (S.aS++[S.made])):=by rw[ie,ints_app];rfl
  show _;let L:=X.yq (S.aS++[S.made]);rw[<-eE]at L;let u8:cY g r H7 (upd H7 g.aE (.lst (ao (nI S.aS)++[V.int (S.made:Int)]))):=cY.upd (.inr (.inl gL));generalize upd H7 g.aE (.lst (ao (nI S.aS)++[V.int (S.made:Int)]))=H8 at L u8 ⊢
  let I:∀b o,¬a.own r b->H b\o->¬g.own r b:=λb o f e z=>by
   cbv
  let U8:cY a r H H8:=λb o f e=>u8 b o (I b o f e) (U7 b o f e)
  rwa[⟨12,r,_,g.dx,112,L.ins,aI T,T.mH,mX^_,.inl ⟨21,aF.of L.hC⟩,12,(Za4 1),λq u=>⟨g.aC,1122,aq.upd u _ _ L.hC,55⟩⟩]
  ·rw[agm,L.rC.1];show ⇑S.called<sizeLine;rw[hw.c];rwa[agu hm ⋯]
  let s9:=aq.upd (o:=.lst [.int (S.made:Int)]) u;let F:upd H8 q (.lst [.int (S.made:Int)]) q\(.lst (ao (nI [S.made]))):=ah;let YH:=L.Bo u;generalize upd H8 q (.lst [.int (S.made:Int)])=H9 at s9 F ⊢;let R:=(L.same s9).GR F (λz=>YH (.inr (.inl z)));let Wm:cY g r H9 (upd H9 g.aC (.lst (g.cs.map V.ref++[↑q]))):=cY.upd (.inr (.inl iC));generalize upd H9 g.aC (.lst (g.cs.map V.ref++[↑q]))=HQ at R Wm ⊢;generalize YJ:({ g with cs:=g.cs++[q] }:RA)=p at R
  let aeU:∀b,p.own r b->g.own r b\/b=q:=λb f=>by
   rw[<-YJ]at f;rcases f with f|f|f
   ·rwa[.inl (.inl f)]
   ·let Ax:b∈g.lists++[q]:=f;rcases agv.mp Ax with f|f
    ·rwa[.inl (.inr (.inl f))]
    cbv
   ·rwa[.inl (.inr (.inr f))]
  let kcl:H q=none\/a.own r q:=by
   by_cases C:a.own r q
   ·rwa[.inr C]
   ·rwa[.inl ?_]
    cases e:H q with
    |none=>rfl
    |some o=>rw[U8 q o C e]at u;ext u
  let N:∀b o,¬a.own r b->H b\o->¬p.own r b:=λb o f e z=>by
   cbv
  let U10:cY a r H HQ:=λb o f e=>Wm b o (I b o f e) (s9^U8 b o f e)
  let hS:ay A.az HQ r (S.grown c z (bq (2* S.L))) p:=R;rwa[⟨12,r,p.dx,12,hS.ins,cK _ _ _ ⋯,121212,r,S.grown c z (bq (2* S.L)),p,c,S.made,z,2,hS,⟨5555⟩,555,λSd u11 h11=>?_⟩]
  ·show ⇑(S.ways++[[]])=S.made+ 1;rw[agk,hw.w];rfl
  ·show ⇑(S.gaps++[_])=S.made+ 1;rw[agk,hw.g];rfl
  ·show ⇑(S.aS++[_])=S.made+ 1;rw[agk,hw.e];rfl
  ·show ⇑(S.called++[_])=S.made+ 1;rw[agk,hw.c];rfl
  ·show c<S.made+ 1;ext
  ·show S.made<S.made+ 1;ext
  ·intro l hl;rcases agv.mp hl with hl|hl
   ·rwa[hz l hl]
   cbv
  ·rwa[⟨_,rfl,k p Sd (λb o f e=>u11 b o (N b o f e) (U10 b o f e)) h11 λb f=>?_⟩]
   cbv
def fX (T:Txt K mg A):T.eK.Ok mg P w base 1 (wj A.az):=by
 rwa[T.eK.on tu (λo v g s H u Q E y h=>?_)]
 ·let⟨r,S,a,rfl,h,hw,q,k⟩:=h;erw[_,(au (bj (Fb (fns:=["self"]) (ixs:=[0]) (cl:=_) rfl (mU rfl T.hH (ae (aH (pv 0) rfl) aj)) (pz rfl rfl ⋯ rfl ⋯ rfl ⋯ ⋯ rfl rfl rfl rfl) (λC s H ex=>(aX eB (aY (Af (K:=K) rfl) (Nx (K:=K) rfl (pv 1) rfl) (pv 0) (λ_ _=>rfl)) (pv 0) (bf _))) (λC s H ex=>(pv 0)))))];erw[12,r,_,a.dx,112,h.ins,aI T,T.oO,sN^_,(S.made:Int),233];rw[agT];erw[λi m ys j=>m=S.made - i/\i<=S.made/\ys=ao (nI ((List.range i).filter λc=>decide (S.aS[c]?\c)))/\j=H,⟨S.made,by simp,agP _,22⟩];rintro i m ys j ⟨rfl,B,rfl,rfl⟩
  let hlen:⇑(ao (nI ((List.range i).filter λc=>decide (S.aS[c]?\c))))<=i:=by
   rw[aM,bV];rwa[agz (aiq _ _) (by cbv)]
  by_cases b:i<S.made
  ·rwa[.inr ⟨b,5,λx t f=>?_⟩]
   ·rwa[agu (agz hlen (show i<=100000 by omega)) ⋯]
   let⟨rfl,rfl⟩:=f;let l:S.aS[i]?\(S.aS[i]'([hw.e]▸b)):=agl _
   generalize S.aS[i]'(by cbv)=e at l;erw[12,r,_,a.dx,112,h.ins,aI T,T.jd,jj^_,12,a.aE,11122,aF.of h.hE,([Int.zero_add]▸bO (bW (fZ l)))];erw[12212];by_cases d:e=i
   ·subst d;rw[show decide (V.int (e:Int)=V.int (0+ (e:Int)))=true from agW (by rw[Int.zero_add])];rwa[⟨12,S.made - (e+ 1),32,b,52⟩];rw[ahD,List.filter_append,ajE (by cbv),List.filter_nil,ie,ints_app,Int.zero_add];rfl
   ·rw[show decide (V.int (e:Int)=V.int (0+ (i:Int)))=false from ahm (λz=>d (by injection z with z;omega))];rwa[⟨S.made - (i+ 1),32,b,52⟩];rw[ahD,List.filter_append,List.filter_cons_of_neg (by cbv),List.filter_nil,agQ]
  ·let e:i=S.made:=∅
   subst e;rwa[.inl ⟨agp _,agz hlen (agz q ⋯),λD n=>k D n⟩]
def oT (T:Txt K mg A):T.kj.Ok mg P w base 5 (DU 2 A.az):=by
 rwa[T.kj.on xO (λcC AA m s H vs Q E X h=>?_)]
 ·let⟨r,S,a,rfl,h,B,u,k⟩:=h;erw[_,(au (bj (jb (fns:=[]) (ixs:=[]) (cl:=[]) rfl (cX (aH (pv 0) rfl)) (lC ⋯ ⋯ rfl ⋯ rfl) (λC s H ex=>(pc T.own (yM T) X (ae (pv 0) aj))))))];erw[12,r,_,a.dx,112,h.ins,aI T,T.rS,sO^_,a.aR,2,⟨_,aF.of h.hR⟩];let j:⇑(a.rs.map V.ref)=⇑S.rows:=by rw[agm,h.rR.1]
  let L:∀i,i<⇑S.rows->∃p d,a.rs[i]?\p/\S.rows[i]?\d/\d∈S.rows/\bN H 4 ↑p d:=λi f=>by
   let c:=agl f;let⟨p,o,q⟩:=h.rR.at c;rwa[p,_,o,c,agh c,q]
  rwa[mY ⇑S.rows (λi=>(a.rs.map V.ref).getD i .non) (λb v i=>∃p d,v=↑p/\S.rows[i]?\d/\lZ d/\bN b 4 ↑p d) (λH1 b v i s q0=>by let⟨p,x,e,n,hn,q⟩:=q0;rwa[p,x,e,n,hn,q.same s]) ?_ (λi b s2 f=>kB (aF.of (s2^h.hR)) i ∅) (λi x b H3 s2 f y=>?_) (λb s2=>?_) (λi b Rr f s2 kk=>?_) (λD b ys s2 N U X=>?_)]
  ·rwa[agz B ⋯]
  ·let⟨e,F⟩:=ji (aF.of (s2^h.hR)) i x H3 ∅ y;erw[e];rw[agq,F];rfl
  ·have:=ib (aF.of (K:=K) (s2^h.hR));rw[j]at this;rwa[this]
  ·let⟨p,d,o,c,g,q⟩:=L i f;let F:(a.rs.map V.ref).getD i .non=↑p:=by rw[agq,agx,o];rfl
   let q1:=(u p d g q).same s2;rw[F];rwa[⟨12,↑p,d,2,q1,h.flat d g,λv' H' s' Z=>?_⟩]
   have:∃J,v'=↑J:=by
    let I:∃R,d=.t R:=by
     cases q with
     |t=>cbv
     |l=>exact absurd (h.flat _ g) (λz=>by ext z)
    let⟨R,rfl⟩:=I
    cases Z with
    |t=>cbv
   let⟨J,rfl⟩:=this;rwa[kk _ H' s' ⟨J,d,2,c,h.flat d g,Z.le ⋯⟩]
  ·let⟨O,rfl,G⟩:=sS (P:=λi p=>∃d,S.rows[i]?\d/\bN b 4 ↑p d) ys 0 (λi v hv=>by
    cbv)
   let M:aq b (upd b D (.lst (O.map V.ref))):=aq.upd N;rw[agm]at U;rwa[k D O _ (s2.trans M) (s2.free N) ah ⟨U,λi p d e1 n=>?_⟩];let⟨d',Y,q⟩:=G i p e1;rw[ajS]at Y;obtain rfl:d'=d:=Za0 (Y.symm.trans n);rwa[q.same M]
def da (H:Hp)(p:Zs)(a:Ze):Prop:=∃b:Zn,H p\.lst (b.map V.ref)/\Each (λq (w:Way)=>H q\.tup [.int (w.1:Int),.int w.2.1,.int (w.2.2:Int)]) b a
def p5 (a:RA)(r p:Zs)(H c:Hp):Prop:=∀b o,¬a.own r b->b≠p->H b\o->c b\o
def da.keep {c:Ze}(h:da H a c)(k:∀o,H a\o->I a\o)(f:∀b d,H b\.tup d->I b\.tup d):da I a c:=by
 let⟨g,j,i⟩:=h;rwa[g,k _ j,i.imp λq w _ _ e=>f^e]
structure Small (S:RS):Prop where
 m:S.made<=100000
 w:∀l∈S.ways,⇑l<=100000
 r:⇑S.rows<=1000000
 n:⇑S.aZ<=1000000
 c:∀l∈S.called,⇑l<=1000000
inductive Bp (C:Zs) (vs:Zb) (H:Hp) (Q:VK) (E_:XK):Prop
 |mk (r p:Zs) (S:RS) (a:RA) (c:Nat) (pend:Ze):vs=[↑r,.int c,↑p]->ay C H r S a->S.Wf->c<S.made->E4 S c->(∀l∈S.ways,⇑l<=100000)->da H p pend->¬a.own r p->⇑pend<=1000000->(∀a' H',p5 a r p H H'->ay C H' r (S.om c pend).1 a'->da H' p (S.om c pend).2->(∀b,a'.own r b->a.own r b\/H b=none)->Q .non H')->Bp C vs H Q E_
inductive DW (C:Zs) (vs:Zb) (H:Hp) (Q:VK) (E_:XK):Prop
 |mk (r p:Zs) (S:RS) (a:RA) (c x y:Nat) (z:Int) (pend:Ze):vs=[↑r,.int c,.int z,.int x,.int y,↑p]->ay C H r S a->S.Wf->x<S.made->y<S.made->x≠y->E4 S (max x y)->(∀n∈S.ck (max x y),n<S.made)->Small S->da H p pend->¬a.own r p->⇑pend<=1000000->(∀a' H',p5 a r p H H'->ay C H' r (S.meet c z x y pend).1 a'->da H' p (S.meet c z x y pend).2->(∀b,a'.own r b->a.own r b\/H b=none)->Q .non H')->DW C vs H Q E_
structure wu (S:RS):Prop where
 wf:S.Wf
 el:∀c,c<S.made->S.ax c<S.made
 bl:∀c z d,S.by c z=some d->d<S.made
 cl:∀c,∀n∈S.ck c,n<S.made
 off:∀c,c<S.made->E4 S c
 sm:Small S
inductive Bq (C:Zs) (vs:Zb) (H:Hp) (Q:VK) (E_:XK):Prop
 |mk (r t p:Zs) (S:RS) (a:RA) (w:Way) (pend:Ze):vs=[↑r,↑t,↑p]->ay C H r S a->H t\.tup [.int (w.1:Int),.int w.2.1,.int (w.2.2:Int)]->wu S->w.1<S.made->w.2.2<S.made->da H p pend->¬a.own r p->⇑pend<=1000000->(∀a' H',p5 a r p H H'->ay C H' r (S.takeIn pend w).1 a'->da H' p (S.takeIn pend w).2->(∀b,a'.own r b->a.own r b\/H b=none)->Q .non H')->Bq C vs H Q E_
inductive Mh (C:Zs) (vs:Zb) (H:Hp) (Q:VK) (E_:XK):Prop
 |mk (r q:Zs) (S:RS) (a:RA) (c d:Nat) (z:Int) (row:Dt) (I:RS->Ze->Prop) (μ:RS->Ze->Nat):vs=[↑r,.int c,.int z,.int d,↑q]->ay C H r S a->⇑S.rows<=1000000->bN H 2 ↑q row->lZ row->I { S with rows:=S.rows++[row] } [(c,z,d)]->(∀S pend w,I S (pend++[w])->wu S/\w.1<S.made/\w.2.2<S.made/\⇑pend<=1000000/\I (S.takeIn pend w).1 (S.takeIn pend w).2/\μ (S.takeIn pend w).1 (S.takeIn pend w).2 < μ S (pend++[w]))->(∀S' a' H',cY a r H H'->ay C H' r S' a'->I S' []->(∀b,a'.own r b->a.own r b\/H b=none)->Q .non H')->Mh C vs H Q E_
def oU (h:i<n):qI n (i:Int)\i:=by
 unfold qI;rw[agI ∅,agI ∅,agT]
def KL {l:List (Int×Nat)}(a:(l.map (·.1)).Nodup){q:Int×Nat}(h:q∈l):fj l q.1\q.2:=by
 induction l with
 |nil=>ext h
 |cons p l b=>
  unfold fj;rw[ahA,agX]at a;by_cases e:p.1=q.1
  ·cbv
  ·rw[ai1 (by simpa using e)];rcases agB.mp h with rfl|h
   ·rwa[absurd rfl e]
   ·rwa[b a.2 h]
def uN (T:Txt K mg A):T.k8.Ok mg P w base 1 (Bp A.az):=by
 rwa[T.k8.on gP (λcC AA outer s H vs Q E hr h=>?_)]
 ·let⟨r,p,S,a,c,d,rfl,h,hw,hc,ok,sm,hP,np,kH,k⟩:=h;let tW:=iU hr
  erw[_,(ai (bI 3 gP.nd (aY bu (aH (pv 0) rfl) (pv 1) (λ_ _=>rfl)))
   (ai (jA fK (nT (aH (pv 0) rfl) (pv 1) set_list))
   (au (cS agN rfl (cX (eJ (jI rfl) rfl T.ip ahy (ae (pv 3) aj))) (dA 4 gP.nd)
    (ai (bI 5 gP.nd (Dl tW (pv 3) (pv 4) (λ_ _=>rfl)))
    (ai (bM (bD (aX jB (pv 5) (pv 1) (bf _))
     (au (aV (Js (aY bu (aH (pv 0) rfl) (pv 5) (λ_ _=>rfl)) (fy dO (pv 4)) ⟨2222⟩)))
     bp))
    (au (aV (cQ agw agG agH bP (pv 2) (ae (cE (ae (pv 1) (ae (pv 4) (ae (pv 5) aj)))) aj))))))))))]
  rwa[eQ ?_];intro fS gy;let X:c<⇑S.ways:=by rw[hw.w];rwa[hc]
  let⟨u,v,Wn⟩:=h.rW.at (oR X);let Wo:⇑(S.way c)<=100000:=Bm sm;erw[12,r,_,a.dx,112,h.ins,aI T,T.iR,iB^_,12,a.aW,11122,aF.of h.hW,dB v];intro G F;let s1:=aq.upd (o:=.dK []) F;let U:upd H G (.dK []) G\(.dK (wK [])):=ah;let nn:=h.Bo F;let nnp:G≠p:=λz=>by let⟨L,q1,_⟩:=hP;cbv
  generalize upd H G (.dK [])=H1 at s1 U ⊢;let h1:=h.same s1;let hi:c<⇑a.ws:=by rw[h.rW.1];rwa[X]
  erw[12,r,_,a.dx,112,h1.ins,aI T,T.iR,iB^_,12,a.aW,11,c,22,h1.hW,oU ([agm]▸hi)];let h2:=h1.QF hi U (λz=>nn (.inr (.inr z)));let u2:∀b o,b≠a.aW->H1 b\o->upd H1 a.aW (.lst ((a.ws.map V.ref).set c ↑G)) b\o:=λb o y e=>by rw[ak y];rwa[e]
  generalize upd H1 a.aW (.lst ((a.ws.map V.ref).set c ↑G))=H2 at h2 u2 ⊢;let npW:p≠a.aW:=λz=>np (.inr (.inl ([z]▸fV)))
  let wdW:u≠a.aW:=(h.ld fV (du (agh v))).symm;let O:H2 u\(.dK (wK (S.way c))):=u2 _ _ wdW (s1^Wn);generalize DX:({ a with ws:=a.ws.set c G }:RA)=a2 at h2;let Wq:ay A.az H2 r (cV c S d []).1 a2:=h2
  let YK:¬a2.own r u:=λz=>by
   rw[<-DX]at z;rcases z with z|z|z
   ·rwa[(h.rd (du (agh v))) z.symm]
   ·rwa[h.ld z (du (agh v)) rfl]
   ·let Wr:=ahf.mp h.l0;let z':u∈a.ws.set c G++a.gs:=z;rcases agv.mp z' with z|z
    ·let⟨j,N⟩:=ag8 z;by_cases e:c=j
     ·subst e;rw[ag9 hi]at N;have:G=u:=Za0 N;rw[this,Wn]at F;ext F
     ·rw[ahI e]at N;rwa[e ((List.getElem?_inj hi Wr.1).mp (v.trans N.symm))]
    ·rwa[Wr.2.2 u (agh v) u z rfl]
  let M:∀b,a2.own r b->a.own r b\/H b=none:=λb f=>by
   rw[<-DX]at f;rcases f with f|f|f
   ·rwa[.inl (.inl f)]
   ·rwa[.inl (.inr (.inl f))]
   ·let Ax:b∈a.ws.set c G++a.gs:=f;rcases agv.mp Ax with f|f
    ·rcases aix f with f|rfl
     ·rwa[.inl (.inr (.inr (agJ _ f)))]
     ·rwa[.inr F]
    ·rwa[.inl (.inr (.inr (agr _ f)))]
  let wx:¬a2.own r p:=λz=>by
   rcases M p z with q|q
   ·rwa[np q]
   ·let⟨L,q1,_⟩:=hP;cbv
  let DF:da H2 p (cV c S d []).2:=hP.keep (λo e=>u2 _ _ npW (s1^e)) (λb Y e=>u2 _ _ (h.tl e fV) (s1^e));let B2:p5 a r p H H2:=λb o y _ e=>u2 _ _ (λz=>y (.inr (.inl ([z]▸fV)))) (s1^e)
  rwa[⟨12,u,12,O,λl nl=>?_⟩];let s3:=aq.upd (o:=.lst ((wK (S.way c)).map λC=>kV C.1)) nl;let Z:upd H2 l (.lst ((wK (S.way c)).map λC=>kV C.1)) l\(.lst ((wK (S.way c)).map λC=>kV C.1)):=ah;let DY:=Wq.Bo nl;let Wt:l≠p:=λz=>by let⟨L,q1,_⟩:=DF;cbv
  let nlw:l≠u:=λz=>by cbv
  let nlH:H l=none\/a.own r l:=by
   by_cases ho:a.own r l
   ·rwa[.inr ho]
   ·rwa[.inl ?_]
    cases e:H l with
    |none=>rfl
    |some o=>rw[B2 l o ho Wt e]at nl;ext nl
  generalize upd H2 l (.lst ((wK (S.way c)).map λC=>kV C.1))=H3 at s3 Z ⊢;erw[l,2,⟨_,aF.of Z⟩];let hlen:⇑((wK (S.way c)).map λC=>kV C.1)=⇑(S.way c):=by rw[agm,Ai]
  rwa[eP (xs:=(wK (S.way c)).map λC=>kV C.1) (λi σ J=>∃v4 v5,σ=#v[↑r,.int (c:Int),↑p,↑u,v4,v5]/\ay A.az J r (cV c S d ((S.way c).take i)).1 a2/\da J p (cV c S d ((S.way c).take i)).2/\(∀b o,¬a2.own r b->b≠p->H3 b\o->J b\o)) ⟨none,none,2,Wq.same s3,DF.keep (λo e=>s3^e) (λb Y e=>s3^e),λb o _ _ e=>e⟩ (λi σ J _ q0=>by let⟨_,_,_,_,_,kk⟩:=q0;rwa[aF.of (kk _ _ DY Wt Z)]) ?_ ?_]
  ·rintro i x σ J hx ⟨v4,v5,rfl,R,B,kk⟩;let I:i<⇑(S.way c):=by rw[<-hlen];rwa[(agj.mp hx).1]
   let hg:(S.way c)[i]?\((S.way c)[i]'I):=agl I
   generalize (S.way c)[i]'I=w at hg
   let ex:x=.int w.1:=by
    unfold wK at hx;rw[agx,agx,hg]at hx;rwa[(Za0 hx).symm]
   subst ex;let hm:=agh hg;let HV:(S.way c).take (i+ 1)=(S.way c).take i++[w]:=by rw[aij,hg];rfl
   let YL:J u\(.dK (wK (S.way c))):=kk _ _ YK (λz=>by let⟨L,q1,_⟩:=DF;cbv) (s3^O);let hv:bB (wK (S.way c)) (Sum.inl w.1)\(.int (w.2:Int)):=by rw[kD,KL ok.nd hm];rfl
   let nV:=ok.lt w hm;let Q7:=(gG c S d ((S.way c).take i)).1;erw[1212,u,12,(by have:=fY.k (k:=Sum.inl w.1) YL;rw[hv]at this;rwa[this])];erw[λ fx H'=>fx=#v[↑r,.int (c:Int),↑p,↑u,.int w.1,.int (w.2:Int)]/\ay A.az H' r (cV c S d ((S.way c).take (i+ 1))).1 a2/\da H' p (cV c S d ((S.way c).take i)).2/\(∀b o,¬a2.own r b->b≠p->H3 b\o->H' b\o),5]
   ·rwa[⟨1212212,bS (λtL=>?_) (λtL=>?_)⟩]
    ·let n:w.2≠c:=λz=>by cbv
     let hd2:w.2<(cV c S d ((S.way c).take i)).1.ways.length:=by rw[Q7,hw.w];rwa[nV]
     let⟨pd,D,Wu⟩:=R.rW.at (oR hd2)
     let QG:((cV c S d ((S.way c).take i)).1.by w.2 (-w.1)).isSome=true:=by
      rw[xm X _ (λq hq=>[hw.w]▸ok.lt q (List.mem_of_mem_take hq)),agF]
      ·rwa[ok.bk w hm n]
      ·rintro (q|⟨q,hq,q1,q2⟩)
       ·rwa[n q]
       ·let⟨j,N⟩:=ag8 hq
        let hji:j<i:=by
         have:=(agj.mp N).1;rw[agV]at this;ext
        rw[ajt hji]at N;let e1:((S.way c).map (·.1))[j]?\q.1:=by rw[agx,N];rfl
        let e2:((S.way c).map (·.1))[i]?\w.1:=by rw[agx,hg];rfl
        let e3:q.1=w.1:=∅
        rw[e3]at e1;have:=(List.getElem?_inj ([agm]▸I) ok.nd).mp (e2.trans e1.symm);ext
     let⟨m,Mi⟩:=ajs.mp QG;erw[12,r,_,a2.dx,112,R.ins,aI T,T.iR,iB^_,12,a2.aW,11122,aF.of R.hW,dB D,pd,2,.inl ⟨_,.inl Wu⟩,12121,Sum.inl (-w.1),.int (m:Int),Wu,25]
     ·rw[kD];show ((cV c S d ((S.way c).take i)).1.by w.2 (-w.1)).map _=_;rw[Mi];rfl
     ·rw[Ny];rwa[⟨25,B.keep (λo e=>?_) (λb Y e=>?_),λb o y g e=>?_⟩]
      ·rw[HV,ig];unfold jm;simp only[n,ajM,aiL,ne_eq];rwa[R.Al D _]
      ·rw[ak (λz=>wx (.inr (.inr (du ([z]▸agh D)))))];rwa[e]
      ·rw[ak (R.td e (du (agh D)))];rwa[e]
      ·rw[ak (λz=>y (.inr (.inr (du ([z]▸agh D)))))];rwa[kk b o y g e]
    ·let n:w.2=c:=by
      by_cases e:w.2=c
      ·rwa[e]
      ·cbv
     rwa[⟨25,B,kk⟩];rw[HV,ig];unfold jm
     cbv
   rintro fx H5 ⟨rfl,h5,hP5,kk5⟩;let⟨L,HW,Br⟩:=hP5
   let Bs:⇑(L.map V.ref)<sizeLine:=by
    rw[agm,Br.1,yr,agk,agm,agV];rwa[agu (show _<=1100000 by omega) ⋯]
   rwa[⟨12,.inl ⟨21,aF.of HW⟩,121212,(Za4 3),λt nt=>?_⟩];let s6:=aq.upd (o:=.tup [.int (c:Int),.int w.1,.int (w.2:Int)]) nt;let Wv:upd H5 t (.tup [.int (c:Int),.int w.1,.int (w.2:Int)]) t\(.tup [.int (c:Int),.int w.1,.int (w.2:Int)]):=ah;generalize upd H5 t (.tup [.int (c:Int),.int w.1,.int (w.2:Int)])=H6 at s6 Wv ⊢;erw[p,1122,s6^HW,Bs];let kp:∀b o,b≠p->H6 b\o->upd H6 p (.lst (L.map V.ref++[↑t])) b\o:=λb o y e=>by rw[ak y];rwa[e]
   let Sl:∀b Y,H6 b\.tup Y->upd H6 p (.lst (L.map V.ref++[↑t])) b\(.tup Y):=λb Y e=>kp _ _ (bZ e (s6^HW) (by cbv)) e
   rwa[⟨112,(h5.same s6).keep (λb o f e=>kp b o (λz=>wx (z ▸ f)) e) Sl,⟨L++[t],55⟩,λb o y g e=>kp b o g (s6^kk5 b o y g e)⟩]
   ·rw[ah,agR];rfl
   ·rw[HV,ig];rwa[(Br.imp λq w' _ _ e=>Sl^s6^e).snoc (Sl^Wv)]
  ·rintro σ J ⟨v4,v5,rfl,R,B,kk⟩;rw[hlen,ahZ]at R B;rwa[k a2 J (λb o y g e=>?_) R B M];let e2:=B2 b o y g e;rwa[kk b o (λz=>by cbv) g (s3^e2)]
def wy (h:n<⇑S.called):S.called[n]?\(S.ck n):=by unfold RS.ck;cbv
def oV (h:n<⇑S.aS):S.aS[n]?\(S.ax n):=by unfold RS.ax;cbv
def HX (h:∀l∈S.called,⇑l<=m):⇑(S.ck n)<=m:=by
 unfold RS.ck;rw[agq]
 cases e:S.called[n]? with
 |none=>exact agP _
 |some l=>exact h l (agh e)
theorem uO (x:Nat):∀(l a:Zh),⇑(l.foldl (λa n=>a.set n x) a)=⇑a
 |[],_=>rfl
 |n::l,a=>by rw[List.foldl_cons,uO x l,agK]
def ints_set (ns:Zg)(i:Nat)(z:Int):(ao ns).set i (.int z)=ao (ns.set i z):=by
 unfold ao;rw[List.map_set]
def jz (T:Txt K mg A):T.fF.Ok mg P w base 2 (DW A.az):=by
 rwa[T.fF.on dX (λcC AA outer s H vs Q E hr h=>?_)]
 ·let⟨r,p,S,a,c,x,y,z,f,rfl,h,hw,hx,hy,hxy,ok,ou,sm,hP,np,kH,k⟩:=h
  erw[_,(ai (bI 6 dX.nd (bF (Ga rfl) rfl T.LY PyProof.Rows.boot_min (ae (pv 3) (ae (pv 4) aj))))
   (ai (bI 7 dX.nd (bF (F9 rfl) rfl T.Vj PyProof.Rows.boot_max (ae (pv 3) (ae (pv 4) aj))))
   (ai (aV (cQ agw agG agH bP (aH (pv 0) rfl) (ae (cE (ae (dD (l:=[109,101,101,116]) rfl) (ae (pv 1) (ae (pv 2) (ae (pv 6) (ae (pv 7) aj)))))) aj)))
   (ai (aV (cQ agw agG agH bP (aH (pv 0) rfl) (ae (pv 7) aj)))
   (ai (cS agN rfl (cX (aY bu (aH (pv 0) rfl) (pv 7) (λ_ _=>rfl))) (dA 8 dX.nd)
    (au (jA (pv 6) (nT (aH (pv 0) rfl) (pv 8) set_list))))
   (ai (aV (cQ agw PySem.F.slot_list_extend PySem.F.type_list_extend yi (aY bu (aH (pv 0) rfl) (pv 6) (λ_ _=>rfl)) (ae (aY bu (aH (pv 0) rfl) (pv 7) (λ_ _=>rfl)) aj)))
   (au (aV (pm (pv 0) (aI T) T.k8 (uN T) hr (ae (pv 7) (ae (pv 5) aj)))))))))))]
  rwa[pG ?_];intro Bn qy oS jP fS gy;let C:(if (y:Int)<(x:Int) then (y:Int) else (x:Int))=((min x y:Nat):Int):=by split <;> ext
  let F:(if (y:Int) > (x:Int) then (y:Int) else (x:Int))=((max x y:Nat):Int):=by split <;> ext
  let Ww:min x y<max x y:=∅
  let I:max x y<S.made:=∅
  generalize ev:min x y=u at C Ww;let ek:∀a' O,p5 a r p H O->ay A.az O r ((S.joined c z u (max x y)).om (max x y) f).1 a'->da O p ((S.joined c z u (max x y)).om (max x y) f).2->(∀b,a'.own r b->a.own r b\/H b=none)->Q .non O:=λa' O h1 N M g=>k a' O h1 (by unfold RS.meet;rw[ev];rwa[N]) (by unfold RS.meet;rw[ev];rwa[M]) g
  clear k;generalize max x y=v at F Ww I ok ou ek;erw[1212112];rw[C];erw[1212112];rw[F];let lR:⇑(a.rs.map V.ref)<sizeLine:=by rw[agm,h.rR.1];rwa[agu sm.r ⋯]
  rwa[⟨12,r,_,a.dx,112,h.ins,aI T,T.rS,sO^_,.inl ⟨21,aF.of h.hR⟩,12121212,(Za4 5),λt nt=>⟨a.aR,1122,aq.upd nt _ _ h.hR,lR,5⟩⟩];let s1:=aq.upd (o:=.tup [.str (tx [109,101,101,116]),.int (c:Int),.int z,.int (u:Int),.int (v:Int)]) nt;let Wx:upd H t (.tup [.str (tx [109,101,101,116]),.int (c:Int),.int z,.int (u:Int),.int (v:Int)]) t\(.tup [.str (tx [109,101,101,116]),.int (c:Int),.int z,.int (u:Int),.int (v:Int)]):=ah;generalize upd H t (.tup [.str (tx [109,101,101,116]),.int (c:Int),.int z,.int (u:Int),.int (v:Int)])=H1 at s1 Wx ⊢
  let GH:bN H1 4 ↑t (fq c z u v):=by
   rwa[.t Wx rfl λj w d C F=>?_]
   rcases j with _|_|_|_|_|j
   ·simp at C F;subst C F;rwa[.s]
   ·simp at C F;subst C F;rwa[.i]
   ·simp at C F;subst C F;rwa[.i]
   ·simp at C F;subst C F;rwa[.i]
   ·simp at C F;subst C F;rwa[.i]
   ·simp at C
  let nl:lZ (fq c z u v):=.t (by show 5<=100000;decide) λd hd=>by
   simp only[agB,ag4,ait]at hd;rcases hd with rfl|rfl|rfl|rfl|rfl
   ·rwa[.s]
   ·rwa[.i]
   ·rwa[.i]
   ·rwa[.i]
   ·rwa[.i]
  let N:=(h.same s1).Ak GH nl;let B2:p5 a r p H (upd H1 a.aR (.lst (a.rs.map V.ref++[↑t]))):=λb o D _ e=>by rw[ak (λz=>D (.inr (.inl ([z]▸fU))))];rwa[s1^e]
  let npl:∀{b},b∈a.lists->p≠b:=λhb z=>np (.inr (.inl ([z]▸hb)))
  let P2:da (upd H1 a.aR (.lst (a.rs.map V.ref++[↑t]))) p f:=hP.keep (λo e=>[ak (npl fU)]▸s1^e) (λb xs e=>[ak (h.tl e fU)]▸s1^e);generalize upd H1 a.aR (.lst (a.rs.map V.ref++[↑t]))=H2 at N B2 P2 ⊢;generalize DX:({ a with rs:=a.rs++[t] }:RA)=a2 at N;let Y:∀b,a2.own r b↔a.own r b:=λb=>by rw[<-DX];rwa[Iff.rfl]
  let wx:¬a2.own r p:=λz=>np ((Y p).mp z)
  let G:∀{b},b∈a2.lists->p≠b:=λhb z=>wx (.inr (.inl ([z]▸hb)))
  let lN:⇑(ao (nI S.aZ))<sizeLine:=by rw[aM,bV];rwa[agu sm.n ⋯]
  erw[12,r,_,a2.dx,112,N.ins,aI T,T.rV,sQ^_,.inl ⟨21,aF.of N.hN⟩,12,a2.aN,1122,N.hN,lN];let eN:ao (nI S.aZ)++[V.int (v:Int)]=ao (nI (S.aZ++[v])):=by rw[ie,ints_app];rfl
  let M:=N.Nw (S.aZ++[v]);rw[<-eN]at M;let B3:p5 a r p H (upd H2 a2.aN (.lst (ao (nI S.aZ)++[V.int (v:Int)]))):=λb o D B e=>by rw[ak (λz=>D ((Y b).mp (.inr (.inl ([z]▸hU)))))];rwa[B2 b o D B e]
  let P3:da (upd H2 a2.aN (.lst (ao (nI S.aZ)++[V.int (v:Int)]))) p f:=P2.keep (λo e=>[ak (G hU)]▸e) (λb xs e=>[ak (N.tl e hU)]▸e);show _;generalize upd H2 a2.aN (.lst (ao (nI S.aZ)++[V.int (v:Int)]))=H3 at M B3 P3 ⊢;let⟨pv,J,hPV⟩:=M.rC.at (show S.called[v]?=some (S.ck v) from wy ([hw.c]▸I));let mpv:=agh J;erw[12,r,_,a2.dx,112,M.ins,aI T,T.mH,mX^_,12,a2.aC,11122,aF.of M.hC,dB J,pv,2,⟨_,aF.of hPV⟩];obtain⟨-,-,-,-,-,nc⟩:=vm M.iJ;let npE:pv≠a2.aE:=(nc pv mpv).2.2.2.1;rwa[eP (xs:=ao (nI (S.ck v))) (λi σ L=>∃v8,σ=#v[↑r,.int (c:Int),.int z,.int (x:Int),.int (y:Int),↑p,.int (u:Int),.int (v:Int),v8]/\ay A.az L r { S with rows:=S.rows++[fq c z u v],aZ:=S.aZ++[v],aS:=((S.ck v).take i).foldl (λU n=>U.set n u) S.aS } a2/\p5 a r p H L/\da L p f) ⟨none,2,M,B3,P3⟩ (λi σ L _ ⟨11,g,11⟩=>aF.of (g.rC.2 v pv _ J (show S.called[v]?=some (S.ck v) from wy ([hw.c]▸I)))) ?_ ?_]
  ·rintro i w σ L Wy ⟨v8,rfl,g,B4,P4⟩;let⟨m,rfl,Z⟩:=cI Wy;unfold nI at Z;rw[agx]at Z
   cases hn:(S.ck v)[i]? with
   |none=>rw[hn]at Z;ext Z
   |some n=>
    rw[hn]at Z;obtain rfl:(n:Int)=m:=Za0 Z;let HY:=ou n (agh hn);let Dw:⇑(((S.ck v).take i).foldl (λU n=>U.set n u) S.aS)=S.made:=by rw[uO,hw.e]
    erw[1212,r,_,a2.dx,112,g.ins,aI T,T.jd,jj^_,12,a2.aE,11,n,22,g.hE,oU ([aM,bV,Dw]▸HY)];rw[ints_set,Qx];let h5:=g.yq ((((S.ck v).take i).foldl (λU n=>U.set n u) S.aS).set n u);rwa[⟨125,λb o D B e=>?_,P4.keep (λo e=>?_) (λb xs e=>?_)⟩]
    ·let HV:(S.ck v).take (i+ 1)=(S.ck v).take i++[n]:=by rw[aij,hn];rfl
     rw[HV,aiK];rwa[h5]
    ·rw[ak (λz=>D ((Y b).mp (.inr (.inl ([z]▸gL)))))];rwa[B4 b o D B e]
    ·rw[ak (G gL)];rwa[e]
    ·rw[ak (g.tl e gL)];rwa[e]
  ·rintro σ L ⟨v8,rfl,g,B4,P4⟩;rw[aM,bV,ahZ]at g;let hul:u<⇑S.called:=by rw[hw.c];ext
   let Q5:v<⇑S.called:=by rw[hw.c];rwa[I]
   let⟨pu,X,Wz⟩:=g.rC.at (show S.called[u]?=some (S.ck u) from wy hul);let YM:=g.rC.2 v pv _ J (show S.called[v]?=some (S.ck v) from wy Q5);let b1:⇑(S.ck u)<=1000000:=HX sm.c;let b2:⇑(S.ck v)<=1000000:=HX sm.c;erw[12,r,_,a2.dx,112,g.ins,aI T,T.mH,mX^_,12,a2.aC,11122,aF.of g.hC,dB X,.inl ⟨21,aF.of Wz⟩];erw[12,r,_,a2.dx,112,g.ins,aI T,T.mH,mX^_,12,a2.aC,11122,aF.of g.hC,dB J,pu,pv,1122,Wz,YM,5]
   ·rw[aM,aM,bV,bV];rwa[agz (show _<=2000000 by omega) ⋯]
   let eC:ao (nI (S.ck u))++ao (nI (S.ck v))=ao (nI (S.ck u++S.ck v)):=by rw[ie,ints_app]
   rw[eC];let h5:=g.GU X (S.ck u++S.ck v);let R:=gb (agh X);let B5:p5 a r p H (upd L pu (.lst (ao (nI (S.ck u++S.ck v))))):=λb o D B e=>by rw[ak (λz=>D ((Y b).mp (.inr (.inl ([z]▸R)))))];rwa[B4 b o D B e]
   let P5:da (upd L pu (.lst (ao (nI (S.ck u++S.ck v))))) p f:=P4.keep (λo e=>[ak (G R)]▸e) (λb xs e=>[ak (g.tl e R)]▸e);generalize upd L pu (.lst (ao (nI (S.ck u++S.ck v))))=H5 at h5 B5 P5 ⊢;let WB:ay A.az H5 r (S.joined c z u v) a2:=h5;rwa[⟨12,r,a2.dx,12,WB.ins,cK _ _ _ ⋯,1212,r,p,S.joined c z u v,a2,v,f,2,WB,⟨hw.w,hw.g,55⟩,I,⟨ok.nd,ok.lt,ok.bk⟩,sm.w,P5,wx,kH,λa' O b' r' p' o'=>ek a' O (λb o D B e=>b' b o (λz=>D ((Y b).mp z)) B (B5 b o D B e)) r' p' (λb hb=>?_)⟩]
   ·show ⇑((S.ck v).foldl (λU n=>U.set n u) S.aS)=S.made;rw[uO];rwa[hw.e]
   ·show ⇑(S.called.set u (S.ck u++S.ck v))=S.made;rw[agK];rwa[hw.c]
   ·rcases o' b hb with q|q
    ·rwa[.inl ((Y b).mp q)]
    ·by_cases ho:a.own r b
     ·rwa[.inl ho]
     ·rwa[.inr ?_]
      cases e:H b with
      |none=>rfl
      |some o=>
       by_cases hbp:b=p
       ·let⟨qs,q1,_⟩:=P5
        cbv
       ·rw[B5 b o ho hbp e]at q;ext q
def uP (T:Txt K mg A):T.kZ.Ok mg P w base 3 (Bq A.az):=by
 rwa[T.kZ.on dJ (λcC AA O s H vs Q E L h=>?_)]
 ·let⟨r,t,p,S,a,w,i,rfl,h,ht,ok,G,y,hP,M,x,k⟩:=h;let B:=iU L
  erw[_,(ai (bI 3 dJ.nd (aY bu (aH (pv 0) rfl) (aY bU (pv 1) av (λ_ _=>rfl)) (λ_ _=>rfl)))
   (ai (bI 4 dJ.nd (aY bU (pv 1) av (λ_ _=>rfl)))
   (ai (bI 5 dJ.nd (aY bu (aH (pv 0) rfl) (aY bU (pv 1) av (λ_ _=>rfl)) (λ_ _=>rfl)))
   (ai (bI 6 dJ.nd (lX B (aY bu (aH (pv 0) rfl) (pv 3) (λ_ _=>rfl)) (pv 4) (pv 5) ⟨2222⟩))
   (ai (bI 7 dJ.nd (lX B (aY bu (aH (pv 0) rfl) (pv 5) (λ_ _=>rfl)) (fy dO (pv 4)) (pv 3) ⟨2222⟩))
   (au (bM (bD (aX jB (pv 6) (pv 5) (bf _))
    (au (aV (pm (pv 0) (aI T) T.fF (jz T) L (ae (pv 3) (ae (pv 4) (ae (pv 6) (ae (pv 5) (ae (pv 2) aj))))))))
    (au (bM (bD (aX jB (pv 7) (pv 3) (bf _))
     (au (aV (pm (pv 0) (aI T) T.fF (jz T) L (ae (pv 5) (ae (fy dO (pv 4)) (ae (pv 7) (ae (pv 3) (ae (pv 2) aj))))))))
     (au (aV (pm (pv 0) (aI T) T.lH (qx T) L (ae (pv 3) (ae (pv 4) (ae (pv 5) aj)))))))))))))))))]
  rwa[pF ?_];intro qy oS jP fS gy;let R:bA K H t [.int (w.1:Int),.int w.2.1,.int (w.2.2:Int)]:=bA.of ht;let C:∀{c:Nat},c<S.made->S.aS[c]?\(S.ax c):=λ{c} j=>oV ([ok.wf.e]▸j)
  let j:=ok.el _ G;let u:=ok.el _ y;erw[12,r,_,a.dx,112,h.ins,aI T,T.jd,jj^_,12,t,11122,R,(rfl:jE _ (0:Int)=_),a.aE,11122,aF.of h.hE,bO (bW (fZ (C G)))];erw[12,t,11122,R,(rfl:jE _ (1:Int)=_)];erw[12,r,_,a.dx,112,h.ins,aI T,T.jd,jj^_,12,t,11122,R,(rfl:jE _ (2:Int)=_),a.aE,11122,aF.of h.hE,bO (bW (fZ (C y)))];let g:=k;clear k;unfold RS.takeIn at g;generalize S.ax w.1=c at j g ⊢;generalize S.ax w.2.2=d at u g ⊢;generalize w.2.1=z at g ⊢;let⟨pc,X,I⟩:=h.rW.at (oR (S:=S) (c:=c) ([ok.wf.w]▸j));let⟨pd,hpd,F⟩:=h.rW.at (oR (S:=S) (c:=d) ([ok.wf.w]▸u));let gd:∀(o:Zi) (n:Nat),(o.map λr:Nat=>V.int (r:Int)).getD (.int (n:Int))=V.int ((o.getD n:Nat):Int):=λo n=>by cases o <;> rfl
  erw[12,r,_,a.dx,112,h.ins,aI T,T.iR,iB^_,12,a.aW,11122,aF.of h.hW,dB X,pc,2,.inl ⟨_,.inl I⟩,12121,fY.k (k:=Sum.inl z) I];rw[kD,gd];show _;erw[12,r,_,a.dx,112,h.ins,aI T,T.iR,iB^_,12,a.aW,11122,aF.of h.hW,dB hpd,pd,2,.inl ⟨_,.inl F⟩,1212121,fY.k (k:=Sum.inl (-z)) F];rw[kD,gd];let e1:fj (S.way c) z=S.by c z:=rfl;let e2:fj (S.way d) (-z)=S.by d (-z):=rfl;rw[e1,e2]
  let hl:(S.by c z).getD d<S.made:=by
   cases e:S.by c z with
   |none=>exact u
   |some m=>exact ok.bl _ _ _ e
  let hf:(S.by d (-z)).getD c<S.made:=by
   cases e:S.by d (-z) with
   |none=>exact j
   |some m=>exact ok.bl _ _ _ e
  generalize (S.by c z).getD d=l at hl g ⊢;generalize (S.by d (-z)).getD c=f at hf g ⊢
  let ne:∀{m n:Nat},m≠n->(!decide (V.int (m:Int)=V.int (n:Int)))=true:=λ{m n} q=>by
   cbv
  rwa[⟨λ_ J=>Q .non J,5,λ_ _ q=>q⟩];by_cases D:l≠d
  ·rw[agI D]at g;erw[1212212];rw[ne D];rwa[jF ?_];rwa[12,r,a.dx,12,h.ins,cK _ _ _ ⋯,1212121212,r,p,S,a,c,l,d,z,i,2,h,ok.wf,hl,u,D,ok.off _ ∅,λn Z=>ok.cl _ n Z,ok.sm,hP,M,x,g]
  ·let Y:l=d:=ajg.mp D;rw[agF D]at g;rwa[⟨1212212,iV (by rw[Y]) ?_⟩];rwa[⟨λ_ J=>Q .non J,5,λ_ _ q=>q⟩];by_cases v:f≠c
   ·rw[agI v]at g;erw[1212212];rw[ne v];rwa[jF ?_];rwa[12,r,a.dx,12,h.ins,cK _ _ _ ⋯,121212121212,r,p,S,a,d,f,c,-z,i,2,h,ok.wf,hf,j,v,ok.off _ ∅,λn Z=>ok.cl _ n Z,ok.sm,hP,M,x,g]
   ·let U:f=c:=ajg.mp v;rw[agF v]at g;rwa[⟨1212212,iV (by rw[U]) ?_⟩];rwa[⟨12,r,a.dx,12,h.ins,cK _ _ _ ⋯,121212,r,S,a,c,d,z,2,h,ok.wf,j,u,ok.sm.w,λJ N r'=>g a J (λb o nb _ e=>N b o nb e) r' (hP.keep (λo e=>N _ _ M e) (λb xs e=>N _ _ (h.sR e) e)) λb hb=>.inl hb⟩]
def Bu (T:Txt K mg A):T.rP.Ok mg P w base 5 (Mh A.az):=by
 rwa[T.rP.on rY (λcC AA outer s H vs Q E hr h=>?_)]
 ·let⟨r,q,S,a,c,d,z,row,I,μ,rfl,h,yN,hq,v,hI,step,k⟩:=h
  erw[_,(ai (aV (cQ agw agG agH bP (aH (pv 0) rfl) (ae (pc T.own (yM T) hr (ae (pv 4) aj)) aj)))
   (ai (bI 5 rY.nd (b9 (ae (cE (ae (pv 1) (ae (pv 2) (ae (pv 3) aj)))) aj)))
   (au (bM (gJ agN (zL (pv 5) (λ_=>rfl))
    (au (aV (pm (pv 0) (aI T) T.kZ (uP T) hr (ae (Gj agw PySem.F.slot_list_pop PySem.F.type_list_pop Gk (pv 5)) (ae (pv 5) aj))))))))))]
  rwa[eQ ?_];intro fS gy;let lR:⇑(a.rs.map V.ref)<sizeLine:=by rw[agm,h.rR.1];rwa[agu yN ⋯]
  obtain⟨ds,rfl⟩:∃ds,row=.t ds:=by
   cases hq with
   |t=>cbv
   |l=>ext v
  rwa[⟨12,r,_,a.dx,112,h.ins,aI T,T.rS,sO^_,.inl ⟨21,aF.of h.hR⟩,12,↑q,.t ds,2,hq,v,λv' H1 s1 HZ=>?_⟩];obtain⟨Z,rfl⟩:∃Z,v'=↑Z:=by cases HZ with|t=>cbv
  erw[a.aR,1122,s1^h.hR,lR];let h2:=(h.same s1).Ak (HZ.le ⋯) v;let B2:cY a r H (upd H1 a.aR (.lst (a.rs.map V.ref++[↑Z]))):=λb o n e=>by rw[ak (λz=>n (.inr (.inl ([z]▸fU))))];rwa[s1^e]
  generalize upd H1 a.aR (.lst (a.rs.map V.ref++[↑Z]))=H2 at h2 B2 ⊢;generalize DX:({ a with rs:=a.rs++[Z] }:RA)=a2 at h2;let eo:∀b,a2.own r b↔a.own r b:=λb=>by rw[<-DX];rwa[Iff.rfl]
  rwa[⟨121212,(Za4 3),λt nt=>?_⟩];let s3:=aq.upd (o:=.tup [.int (c:Int),.int z,.int (d:Int)]) nt;let WC:upd H2 t (.tup [.int (c:Int),.int z,.int (d:Int)]) t\(.tup [.int (c:Int),.int z,.int (d:Int)]):=ah;generalize upd H2 t (.tup [.int (c:Int),.int z,.int (d:Int)])=H3 at s3 WC ⊢;rwa[⟨(Za4 1),λp WD=>?_⟩];let s4:=aq.upd (o:=.lst [↑t]) WD;let Y:upd H3 p (.lst [↑t]) p\(.lst [↑t]):=ah;let U:¬a2.own r p:=(h2.same s3).Bo WD;generalize upd H3 p (.lst [↑t])=H4 at s4 Y ⊢
  let npH:H p=none:=by
   cases e:H p with
   |none=>rfl
   |some o=>have:=s3^(B2 p o (λz=>U ((eo p).mpr z)) e);cbv
  let B4:cY a r H H4:=λb o n e=>s4^s3^B2 b o n e
  let P4:da H4 p [(c,z,d)]:=⟨[t],Y,Each.snoc (ps:=[]) (xs:=[]) ⟨2,λi p d h=>by simp at h⟩ (s4^WC)⟩;rwa[⟨λ_ R=>Q .non R,5,λ_ _ q=>q⟩];erw[λm σ j=>∃B G pend,m=μ B pend/\σ=#v[↑r,.int (c:Int),.int z,.int (d:Int),↑q,↑p]/\ay A.az j r B G/\da j p pend/\I B pend/\¬G.own r p/\(∀b o,¬a.own r b->b≠p->H b\o->j b\o)/\∀b,G.own r b->a.own r b\/H b=none,⟨11,a2,[(c,z,d)],22,(h2.same s3).same s4,P4,hI,U,λb o n _ e=>B4 b o n e,λb F=>.inl ((eo b).mp F)⟩];rintro m σ j ⟨B,G,pend,rfl,rfl,h5,P5,I5,M,B5,O5⟩;let⟨O,y,x⟩:=id P5;erw[12,!(O.map V.ref).isEmpty,.inl ⟨_,aF.of y,2⟩];by_cases D:pend=[]
  ·subst D;let eq0:O=[]:=ahM x.1;subst eq0;rwa[dP ?_];rwa[k B G j (λb o n e=>B5 b o n (λz=>by cbv) e) h5 I5 O5]
  ·let J:=aif D;generalize pend.getLast D=w at J;generalize pend.dropLast=pre at J;subst J;let L:⇑O=⇑pre+ 1:=by rw[x.1,agk];rfl
   let WG:O≠[]:=λz=>by rw[z]at L;ext L
   let u:=aif WG;generalize O.getLast WG=C at u;generalize O.dropLast=f at u;subst u;let kH:⇑f=⇑pre:=by rw[agk]at L;have:⇑([C]:Zn)=1:=rfl;ext
   let⟨ok,Sn,WH,F,hI2,Mj⟩:=step B pre w I5;let htq:j C\(.tup [.int (w.1:Int),.int w.2.1,.int (w.2.2:Int)]):=x.2 ⇑pre C w (by rw[<-kH,agt (agp _),ah9];rfl) (by cbv);let ht:(!((f++[C]).map V.ref).isEmpty)=true:=by simp
   rw[ht];rwa[jF ?_];erw[λ fx R=>∃X a6 g,μ X g < μ B (pre++[w])/\fx=#v[↑r,.int (c:Int),.int z,.int (d:Int),↑q,↑p]/\ay A.az R r X a6/\da R p g/\I X g/\¬a6.own r p/\(∀b o,¬a.own r b->b≠p->H b\o->R b\o)/\∀b,a6.own r b->a.own r b\/H b=none,λ fx R ζ=>by let⟨X,a6,g,lt,e1,e2,e3,e4,e5,e6,e7⟩:=ζ;rwa[⟨_,lt,X,a6,g,2,e1,e2,e3,e4,e5,e6,e7⟩]];erw[12,r,G.dx,12,h5.ins,cK _ _ _ ⋯,12,.inl ⟨21,aF.of y⟩,p,_,↑C,22,y,5]
   ·rw[agR,agk];show ((f.map V.ref)++[V.ref C])[⇑(f.map V.ref)+ 1 - 1]?=_
    rw[Nat.add_sub_cancel,agt (agp _),ah9];rfl
   let Sq:((f++[C]).map V.ref).dropLast=f.map V.ref:=by rw[agR];rwa[List.dropLast_concat]
   rw[Sq];let kp:∀b o,b≠p->j b\o->upd j p (.lst (f.map V.ref)) b\o:=λb o n e=>by rw[ak n];rwa[e]
   let kt:∀b xs,j b\.tup xs->upd j p (.lst (f.map V.ref)) b\(.tup xs):=λb xs e=>kp b _ (bZ e y (by cbv)) e
   let h6:=h5.keep (λb o F e=>kp b o (λz=>M (z ▸ F)) e) kt;let P6:da (upd j p (.lst (f.map V.ref))) p pre:=⟨f,ah,kH,λi t' w' e1 e2=>kt^(x.2 i t' w' ([ags (agj.mp e1).1]▸e1) ([ags (agj.mp e2).1]▸e2))⟩;generalize upd j p (.lst (f.map V.ref))=H6 at kp kt h6 P6 ⊢;rwa[⟨12,r,C,p,B,G,w,pre,2,h6,kt^htq,ok,Sn,WH,P6,M,F,λa7 H7 b7 h7 P7 o7=>?_⟩];rwa[⟨_,a7,_,Mj,2,h7,P7,hI2,λz=>?_,λb o n N e=>b7 b o (λz=>?_) N (kp b o N (B5 b o n N e)),λb F=>?_⟩]
   ·rcases o7 p z with q1|q1
    ·rwa[M q1]
    ·let⟨_,q2,_⟩:=P6;cbv
   ·cbv
   ·rcases o7 b F with q1|q1
    ·rwa[O5 b q1]
    ·by_cases ho:a.own r b
     ·rwa[.inl ho]
     ·rwa[.inr ?_]
      cases e:H b with
      |none=>rfl
      |some o=>
       cbv
def Ol {a:Type}{ws:List a}{z:a}(h:ws[i]?\z):ws.drop i=z::ws.drop (i+ 1):=by
 let b:=(agj.mp h).1;rw[aiz b,(agj.mp h).2]
inductive Bv (C:Zs) (vs:Zb) (H:Hp) (Q:VK) (E_:XK):Prop
 |mk (r:Zs) (S:RS) (a:RA) (c:Nat) (t:Zs) (ws:Zg):vs=[↑r,.int c,↑t]->ay C H r S a->S.Wf->c<S.made->(∀c z d,S.by c z=some d->d<S.made)->H t\.tup (ao ws)->⇑ws<=1000->(∀l H',aq H H'->H' l\.lst (ao (nI (c::cu S.by c ws)))->Q ↑l H')->Bv C vs H Q E_
def yO (T:Txt K mg A):T.walked.Ok P w base 2 (Bv A.az):=by
 rwa[T.walked.on nj (λcC AA F s H vs Q E hr h=>?_)]
 ·let⟨r,S,a,c,t,ws,rfl,h,hw,hc,D,N,X,k⟩:=h
  refine⟨_,(ai (bI 3 nj.nd (b9 (ae (pv 1) aj)))
   (ai (cS agN rfl (zJ (pv 2)) (dA 4 nj.nd)
    (ai (bI 1 nj.nd (pm (pv 0) (aI T) T.ik (hM T) hr (ae (pv 1) (ae (pv 4) aj))))
    (ai (bD (aX nU (pv 1) cO (bf _))
     (au uf)
     bp)
    (au (aV (cQ agw agG agH bP (pv 3) (ae (pv 1) aj)))))))
   (au (bj (pv 3))))),?_⟩
  rwa[eQ ?_];intro fS Y;rwa[⟨12,(Za4 1),λl C=>?_⟩];let y:=aq.upd (o:=.lst [.int (c:Int)]) C;let p:upd H l (.lst [.int (c:Int)]) l\(.lst (ao (nI [c]))):=ah;let L:¬a.own r l:=h.Bo C;generalize upd H l (.lst [.int (c:Int)])=R at y p ⊢;let v:=y^N;let G:t≠l:=aw N C;erw[12,t,2,⟨_,bA.of v⟩]
  let fin:∀{f:Hp} {pre:Zh},(∀b o,b≠l->R b\o->f b\o)->f l\.lst (ao (nI (c::pre)))->cu S.by c ws=pre->Q ↑l f:=λ{f pre} g d e=>by
   subst e;rwa[k l f (λb o e=>g b o (aw e C) (y^e)) d]
  rwa[C4 (xs:=ao ws) (λi B f=>∃cur:Nat,∃pre J,B=#v[↑r,.int (cur:Int),↑t,↑l,J]/\cur<S.made/\⇑pre=i/\cu S.by c ws=pre++cu S.by cur (ws.drop i)/\(∀b o,b≠l->R b\o->f b\o)/\f l\.lst (ao (nI (c::pre)))) ⟨c,[],none,2,hc,22,λ_ _ _ e=>e,p⟩ (λi B f _ U=>by let⟨_,_,_,_,_,_,_,g,_⟩:=U;rwa[bA.of (g _ _ G v)]) ?_ ?_]
  ·rintro i x B f hx ⟨cur,pre,J,rfl,u,m,j,g,d⟩;let⟨z,rfl,O⟩:=cI hx;let hi:i<⇑ws:=(agj.mp O).1;let M:ay A.az f r S a:=(h.same y).keep (λb o Z e=>g b o (λq=>L (q ▸ Z)) e) (λb xs e=>g b _ (bZ e p (by cbv)) e);rw[Ol O]at j;erw[12,r,a.dx,12,M.ins,cK _ _ _ ⋯,1212,r,S,a,cur,z,2,M,by rw[hw.w];ext]
   cases I:S.by cur z with
   |none=>
    rwa[⟨12212,jF ?_⟩];rw[yB I,agQ]at j;rwa[12,fin g d j]
   |some b=>
    rw[show (Option.map (λn:Nat=>V.int (n:Int)) (some b)).getD V.non=V.int (b:Int) from rfl];rwa[⟨12212,dP ?_⟩];rw[m3 I]at j;erw[12,.inl ⟨21,aF.of d⟩,12,l,1122,d,5]
    ·rw[aM,bV,agL,m];rwa[agu (show i+ 1<=1001 by omega) ⋯]
    erw[b,pre++[b],12,D _ _ _ I,by rw[agk,m];rfl,by rw[j,ahe];rfl,λx o n e=>[ak n]▸g x o n e];rw[ah,<-aiU,ie,ints_app];rfl
  ·rintro B f ⟨cur,pre,J,rfl,u,m,j,g,d⟩;rw[aM,List.drop_length]at j;rwa[12,fin g d ([j]▸agQ _)]
def gA (g:Gg)(a:Zs):List (Str×V):=[("which",.int g.which),("word",↑a),("start",.int g.start),("front",.int g.front),("first",.int g.first),("rear",.int g.bx),("last",.int g.last)]
def KN (g:Gg)(a:Zs):(gA g a).lookup ("which":Str)\(.int g.which):=by kernel_rfl
def j6 (g:Gg)(a:Zs):(gA g a).lookup ("word":Str)\↑a:=by kernel_rfl
def uQ (g:Gg)(a:Zs):(gA g a).lookup ("start":Str)\(.int g.start):=by kernel_rfl
def j7 (g:Gg)(a:Zs):(gA g a).lookup ("front":Str)\(.int g.front):=by kernel_rfl
def gQ (g:Gg)(a:Zs):(gA g a).lookup ("first":Str)\(.int g.first):=by kernel_rfl
def j8 (g:Gg)(a:Zs):(gA g a).lookup ("rear":Str)\(.int g.bx):=by kernel_rfl
def j9 (g:Gg)(a:Zs):(gA g a).lookup ("last":Str)\(.int g.last):=by kernel_rfl
def Ml {g:Gg}(h:x∉(["which","word","start","front","first","rear","last"]:Zp)):(gA g a).lookup x=none:=by
 simp only[agB,ag4,ait,not_or]at h;let⟨e,c,j,d,i,b,f⟩:=h;unfold gA;simp only[List.lookup,agE.mpr e,agE.mpr c,agE.mpr j,agE.mpr d,agE.mpr i,agE.mpr b,agE.mpr f]
def Bw (g:Gg)(a:Zs)(n:Nat):bJ "front" (.int n) (gA g a)=gA { g with front:=n } a:=by kernel_rfl
def KP (g:Gg)(a:Zs)(n:Nat):bJ "first" (.int n) (gA g a)=gA { g with first:=n } a:=by kernel_rfl
def DZ (g:Gg)(a:Zs)(n:Nat):bJ "rear" (.int n) (gA g a)=gA { g with bx:=n } a:=by kernel_rfl
def Om (g:Gg)(a:Zs)(n:Nat):bJ "last" (.int n) (gA g a)=gA { g with last:=n } a:=by kernel_rfl
structure dU (CG:Zs) (H:Hp) (p dx wa:Zs) (g:Gg):Prop where
 ins:H p\(.ins CG dx (gA g wa))
 wo:H wa\(.tup (ao g.word))
def dU.same {dx:Zs}{g:Gg}(h:dU a H b dx c g)(s:aq H I):dU a I b dx c g:=⟨s^h.ins,s^h.wo⟩
def dU.set {dx:Zs}{g g':Gg}(h:dU a H b dx c g)(e:g'.word=g.word):dU a (upd H b (.ins a dx (gA g' c))) b dx c g':=⟨ah,[ak (bZ h.wo h.ins (by cbv)),e]▸h.wo⟩
def iK (a:List (Zg×Nat)):List (Zd×V):=a.map λp=>(p.1.map Sum.inl,V.int p.2)
structure xP (rs:Za3) (fp:List (Zg×Nat)):Prop where
 a:∀p∈fp,rs[p.2]?\p.1
 b:∀w∈rs,∃n,(w,n)∈fp
 n:(fp.map (·.1)).Nodup
def Bx {c:List (Zg×Nat)}(w:Zg):bB (iK c) (w.map Sum.inl)=((c.find? λp=>decide (p.1=w)).map λp=>V.int p.2):=by
 induction c with
 |nil=>rfl
 |cons p l d=>
  by_cases h:p.1=w
  ·rw[List.find?_cons_of_pos (by cbv)];rwa[cU (p:=(p.1.map Sum.inl,V.int p.2)) (by rw[h])]
  ·rw[ai1 (by simpa using h)];rwa[(cM (p:=(p.1.map Sum.inl,V.int p.2)) (λz=>h ?_)).trans d]
   let inj:∀{a b:Zg},a.map (Sum.inl:Int->Key)=b.map Sum.inl->a=b:=λ{a b} e=>by
    induction a generalizing b with
    |nil=>cases b with|nil=>rfl|cons=>ext e
    |cons x a d=>cases b with
     |nil=>ext e
     |cons y b=>cbv
   rwa[inj z]
def KQ:Sp:=λc H Q _=>∃(l:Zs) (rs:Za3),c=[↑l]/\bR H l rs/\⇑rs<=1000/\∀d b a,aq H a->H d=none->a d\.dT (iK b)->xP rs b->Q ↑d a
def wz (T:Txt K mg A):T.mC.Ok P w base 1 KQ:=by
 rwa[T.mC.on hV (λcC AA X s H vs Q E hr h=>?_) (len:=by rintro _ _ _ _ ⟨l,rs,rfl,_⟩;rfl)]
 ·let⟨l,rs,rfl,hW,hl,k⟩:=h;let O:=iU hr
  erw[_,(ai (bI 1 hV.nd Jo)
   (ai (cS agN rfl (uo rfl T.kl (pv 0)) (ku rfl (cG (dA 2 hV.nd) (cG (dA 3 hV.nd) jh)))
    (au (aV (JG O (pv 1) (pv 3) (pv 2) ⟨2222⟩))))
   (au (bj (pv 1)))))]
  rwa[eQ ?_];intro fS gy;let⟨C,y,x⟩:=id hW;rwa[λd J=>?_]
  let s1:=aq.upd (o:=.dT []) J;let q1:upd H d (.dT []) d\(.dT (iK [])):=ah;generalize upd H d (.dT [])=H1 at s1 q1 ⊢;let ndl:l≠d:=aw y J;erw[12,l,2,⟨_,aF.of (s1^y)⟩]
  refine qQ (K:=K) (a:=l) (xs:=C.map V.ref) (λi L B=>∃c v2 N,L=#v[↑l,↑d,v2,N]/\aq H B/\B d\.dT (iK c)/\(∀p∈c,rs[p.2]?\p.1/\p.2<i)/\(∀(j:Nat) (w:Zg),j<i->rs[j]?\w->∃n,(w,n)∈c)/\(c.map (·.1)).Nodup/\⇑c<=i)
   ⟨[],none,none,2,s1,q1,(λp f=>by ext f),λj w D=>absurd D ∅,ah6,agp _⟩ (λi L B _ q0=>by let⟨_,_,_,_,s2,_⟩:=q0;rwa[aF.of (s2^y)]) ?_ ?_
  ·rintro i v L B t hi nt ⟨c,v2,N,rfl,s2,M,F,R,hn,hlen⟩
   let g:i<⇑C:=by
    have:=(agj.mp hi).1;rw[agm]at this;rwa[this]
   let r:i<⇑rs:=by rw[<-x.1];rwa[g]
   let Z:C[i]?\(C[i]'g):=agl g
   let S:rs[i]?\(rs[i]'r):=agl r
   rw[agx,Z]at hi;obtain rfl:V.ref (C[i]'g)=v:=Za0 hi;generalize C[i]'g=q at Z;generalize rs[i]'r=w at S;let I:=aq.upd (o:=.tup [.int (i:Int),↑q]) nt;erw[t,12,bA.of ah,21121122];generalize upd B t (.tup [.int (i:Int),↑q])=H3 at I ⊢;let m:=I^M;let hq:H3 q\(.tup ((w.map (Sum.inl:Int->Key)).map kV)):=by rw[ag6];rwa[(s2.trans I) _ _ (x.2 i q w Z S)]
   rwa[⟨12,d,2,.inr ⟨_,.inl m⟩,1212,iK c,w.map Sum.inl,q,m,2,hq,5,λv G=>?_,λG=>?_⟩]
   ·unfold iK;rw[agm];rwa[agu (show ⇑c<=1000 by omega) ⋯]
   ·rw[Bx]at G;let⟨p,f,rfl⟩:=ahx.mp G;let e:p.1=w:=by let h9:=List.find?_some f;simpa using h9
    let hm:=List.mem_of_find?_eq_some f;rwa[⟨c,112,s2.trans I,m,λp f=>⟨(F p f).1,by have:=(F p f).2;ext⟩,λj u D eu=>?_,hn,3⟩];by_cases U:j<i
    ·rwa[R j u U eu]
    ·cbv
   ·rw[Bx]at G
    let hno:∀p∈c,p.1≠w:=λp f e=>by
     have:=List.find?_eq_none.mp (ajJ.mp G) p f
     cbv
    let ep:putK (iK c) (w.map Sum.inl) (V.int (i:Int))=iK (c++[(w,i)]):=by
     rw[zZ _ ([Bx]▸G)];unfold iK;rw[agR];rfl
    rw[ep];let Y:H d=none:=J;rwa[⟨c++[(w,i)],112,λb o e=>[ak (aw e Y)]▸(s2.trans I) _ _ e,ah,λp f=>?_,λj u D eu=>?_,5,by rw[agk];show _+ 1<=_;ext⟩]
    ·rcases agv.mp f with z|z
     ·rwa[⟨(F p z).1,by have:=(F p z).2;ext⟩]
     ·rw[ago.mp z];rwa[S,by show i<i+ 1;ext]
    ·cbv
    cbv
  ·rintro L B ⟨c,v2,N,rfl,s2,M,F,R,hn,hlen⟩;rwa[⟨12,k d c B s2 J M ⟨λp f=>(F p f).1,λw hw=>?_,hn⟩⟩];let⟨j,D⟩:=ag8 hw;rwa[R j w ([agm,x.1]▸(agj.mp D).1) D]
def yP (a:Nat)(word:Zg)(start:Nat):Gg:=⟨a,word,start,start,(0),start,⇑word - 1⟩
inductive Ia (CG:Zs) (vs:Zb) (H:Hp) (Q:VK) (E_:XK):Prop
 |mk (x dx wa:Zs) (which start:Nat) (word:Zg):vs=[↑x,.int which,↑wa,.int start]->H x\.ins CG dx []->H wa\.tup (ao word)->1<=⇑word->⇑word<=1000->(∀H',(∀b o,H b\o->b≠x->H' b\o)->dU CG H' x dx wa (yP which word start)->Q .non H')->Ia CG vs H Q E_
def Mm (a start:Nat)(b:Zs)(l:Int):List (Str×V):=[("which",.int a)]
def Mp (a start:Nat)(b:Zs)(l:Int):List (Str×V):=[("which",.int a),("word",↑b)]
def Mq (a start:Nat)(b:Zs)(l:Int):List (Str×V):=[("which",.int a),("word",↑b),("start",.int start)]
def Mr (a start:Nat)(b:Zs)(l:Int):List (Str×V):=[("which",.int a),("word",↑b),("start",.int start),("front",.int start)]
def Ms (a start:Nat)(b:Zs)(l:Int):List (Str×V):=[("which",.int a),("word",↑b),("start",.int start),("front",.int start),("first",.int 0)]
def Mt (a start:Nat)(b:Zs)(l:Int):List (Str×V):=[("which",.int a),("word",↑b),("start",.int start),("front",.int start),("first",.int 0),("rear",.int start)]
def Sr (a start:Nat)(b:Zs)(l:Int):List (Str×V):=[("which",.int a),("word",↑b),("start",.int start),("front",.int start),("first",.int 0),("rear",.int start),("last",.int l)]
def gy2 (a start:Nat)(b:Zs)(l:Int):bJ "word" ↑b (Mm a start b l)=Mp a start b l:=dE (by kernel_rfl)
def gy3 (a start:Nat)(b:Zs)(l:Int):bJ "start" (.int start) (Mp a start b l)=Mq a start b l:=dE (by kernel_rfl)
def gy4 (a start:Nat)(b:Zs)(l:Int):bJ "front" (.int start) (Mq a start b l)=Mr a start b l:=dE (by kernel_rfl)
def gy5 (a start:Nat)(b:Zs)(l:Int):bJ "first" (.int 0) (Mr a start b l)=Ms a start b l:=dE (by kernel_rfl)
def gy6 (a start:Nat)(b:Zs)(l:Int):bJ "rear" (.int start) (Ms a start b l)=Mt a start b l:=dE (by kernel_rfl)
def gy7 (a start:Nat)(b:Zs)(l:Int):bJ "last" (.int l) (Mt a start b l)=Sr a start b l:=dE (by kernel_rfl)
def tE (T:Txt K mg A):T.gn.Ok mg P w base 1 (Ia A.aJ):=by
 rwa[T.gn.on tj (λU AA m s H vs Q E hr h=>?_)]
 ·let⟨x,c,d,a,start,word,rfl,r,f,yQ,O,k⟩:=h
  refine⟨_,(ai (b8 (pv 0) (pv 1) rfl)
   (ai (b8 (pv 0) (pv 2) rfl)
   (ai (b8 (pv 0) (pv 3) rfl)
   (ai (b8 (pv 0) (pv 3) rfl)
   (ai (b8 (pv 0) av rfl)
   (ai (b8 (pv 0) (pv 3) rfl)
   (au (b8 (pv 0) (aO gW (bF bH rfl T.eI aha (ae (pv 2) aj)) av) rfl)))))))),?_⟩
  rwa[pG ?_];intro S qy Y X fS L;let st:∀{H0:Hp} {fs gs:List (Str×V)},H0 x\.ins A.aJ c fs->(∀b o,H b\o->b≠x->H0 b\o)->upd H0 x (.ins A.aJ c gs) x\.ins A.aJ c gs/\∀b o,H b\o->b≠x->upd H0 x (.ins A.aJ c gs) b\o:=λ_ h=>⟨ah,λb o e n=>[ak n]▸h b o e n⟩
  let g:d≠x:=bZ f r f!"";let o0:∀b o,H b\o->b≠x->H b\o:=λb o e _=>e
  erw[1212,x,_,c,12,r,aU T,T.A9,(by show 0<1000;decide)];rw[show bJ "which" (.int a) []=Mm a start d (((⇑word - 1:Nat):Int)) from rfl];let⟨v,D⟩:=st (gs:=Mm a start d (((⇑word - 1:Nat):Int))) r o0;generalize upd H x (.ins A.aJ c (Mm a start d (((⇑word - 1:Nat):Int))))=Z at v D ⊢;erw[1212,x,_,c,12,v,aU T,T.jx,(by show 1<1000;decide)];rw[gy2];let⟨q,C⟩:=st (gs:=Mp a start d (((⇑word - 1:Nat):Int))) v D;generalize upd Z x (.ins A.aJ c (Mp a start d (((⇑word - 1:Nat):Int))))=H2 at q C ⊢;erw[1212,x,_,c,12,q,aU T,T.pY,(by show 2<1000;decide)];rw[gy3];let⟨l,F⟩:=st (gs:=Mq a start d (((⇑word - 1:Nat):Int))) q C;generalize upd H2 x (.ins A.aJ c (Mq a start d (((⇑word - 1:Nat):Int))))=M at l F ⊢;erw[1212,x,_,c,12,l,aU T,T.gO,(by show 3<1000;decide)];rw[gy4];let⟨j,G⟩:=st (gs:=Mr a start d (((⇑word - 1:Nat):Int))) l F;generalize upd M x (.ins A.aJ c (Mr a start d (((⇑word - 1:Nat):Int))))=R at j G ⊢;erw[12,x,_,c,12,j,aU T,T.eU,(by show 4<1000;decide)];rw[gy5];let⟨t,B⟩:=st (gs:=Ms a start d (((⇑word - 1:Nat):Int))) j G;generalize upd R x (.ins A.aJ c (Ms a start d (((⇑word - 1:Nat):Int))))=N at t B ⊢;erw[1212,x,_,c,12,t,aU T,T.hJ,(by show 5<1000;decide)];rw[gy6];let⟨u,i⟩:=st (gs:=Mt a start d (((⇑word - 1:Nat):Int))) t B;generalize upd N x (.ins A.aJ c (Mt a start d (((⇑word - 1:Nat):Int))))=I at u i ⊢;erw[12,d,12,.inr (bA.of (i _ _ f g)),112212,x,_,c,12,u,aU T,T.iG,(by show 6<1000;decide)];rw[show V.int ((⇑(ao word):Int) - 1)=V.int (((⇑word - 1:Nat):Int)) by show V.int ((⇑(ao word):Int) - 1)=_;rw[aM];congr 1;ext];rw[gy7];let⟨y,p⟩:=st (gs:=Sr a start d (((⇑word - 1:Nat):Int))) u i;generalize upd I x (.ins A.aJ c (Sr a start d (((⇑word - 1:Nat):Int))))=J at y p ⊢;rwa[k J p ⟨y,p _ _ f g⟩]
structure r6 (S:RS) (g g':Gg):Prop where
 wh:g'.which=g.which
 wo:g'.word=g.word
 st:g'.start=g.start
 gi:GI S g'
 ef:S.ax g'.front=g'.front
 er:S.ax g'.bx=g'.bx
 k1:S.ax g.front=g.front->S.by g.front g.z1=none->g'.front=g.front/\g'.first=g.first
 k2:S.ax g.bx=g.bx->S.by g.bx g.z2=none->g'.bx=g.bx/\g'.last=g.last
def r6.fwd {g g1:Gg}(h:r6 S g g1)(i:Good S [] R)(a:g1.first<g1.last){c:Nat}(hc:S.by g1.front g1.z1=some c):r6 S g { g1 with front:=c,first:=g1.first+ 1 }:=by
 let⟨_,b,_,e⟩:=i.st _ _ _ hc;let ll:=h.gi.ll;let hz:=Gg.qh (g:=g1) ∅;rwa[⟨h.wh,h.wo,h.st,⟨a,ll,h.gi.s,b,h.gi.r,5,h.gi.wr⟩,e,h.er,λf d=>?_,h.k2⟩]
 ·have:=h.gi.wf;rw[h.ef]at this;show wk S.by _ (g1.word.take (g1.first+ 1))=some (S.ax c);rw[take_snoc hz,vq this,QP hc,e]
 ·let⟨j,k⟩:=h.k1 f d;unfold Gg.z1 at hc d;rw[j,k,h.wo,d]at hc;ext hc
def r6.bwd {g g1:Gg}(h:r6 S g g1)(d:Good S [] R)(f:g1.first<g1.last){c:Nat}(hc:S.by g1.bx g1.z2=some c):r6 S g { g1 with bx:=c,last:=g1.last - 1 }:=by
 let⟨_,a,_,e⟩:=d.st _ _ _ hc;let ll:=h.gi.ll;let hz:=Gg.at2 (g:=g1) ll;rwa[⟨h.wh,h.wo,h.st,⟨by show g1.first<=g1.last - 1;ext,by show g1.last - 1<⇑g1.word;ext,h.gi.s,h.gi.f,a,h.gi.wf,5⟩,h.ef,e,h.k1,λi b=>?_⟩]
 ·have:=h.gi.wr;rw[h.er]at this;show wk S.by (S.ax c) (g1.word.drop (g1.last - 1+ 1))=some (S.ax g1.start);rw[show g1.last - 1+ 1=g1.last by ext,drop_cons hz,e,j1 (d.sy _ _ _ hc)];ext
 ·let⟨j,k⟩:=h.k2 i b;unfold Gg.z2 at hc b;rw[j,k,h.wo,b]at hc;ext hc
inductive Mu (CR CG:Zs) (vs:Zb) (H:Hp) (Q:VK) (E_:XK):Prop
 |mk (p dx wa r:Zs) (g:Gg) (S:RS) (a:RA) (R:Za2):vs=[↑p,↑r]->dU CG H p dx wa g->ay CR H r S a->Good S [] R->GI S g->¬a.own r p->⇑g.word<=1000->(∀g' H',(∀b o,b≠p->H b\o->H' b\o)->dU CG H' p dx wa g'->VH S g g'->Q .non H')->Mu CR CG vs H Q E_
def uR (T:Txt K mg A):T.kX.Ok mg P w base 2 (Mu A.az A.aJ):=by
 rwa[T.kX.on je (λcC AA outer s H vs Q E X h=>?_)]
 ·let⟨p,d,t,r,g,S,a,R,rfl,O,hR,C,y,Y,G,k⟩:=h
  refine⟨_,(ai (b8 (pv 0) (pm (pv 1) (aI T) T.g9 (iH T) X (ae (aH (pv 0) rfl) aj)) rfl)
   (ai (b8 (pv 0) (pm (pv 1) (aI T) T.g9 (iH T) X (ae (aH (pv 0) rfl) aj)) rfl)
   (ai (bM (gJ agN (aX sE (aH (pv 0) rfl) (aH (pv 0) rfl) (bf _))
    (ai (bI 2 je.nd (pm (pv 1) (aI T) T.ik (hM T) X (ae (aH (pv 0) rfl) (ae (aY bU (aH (pv 0) rfl) (aH (pv 0) rfl) (λ_ _=>rfl)) aj))))
    (ai (bD (aX nU (pv 2) cO (bf _))
     (au uf)
     bp)
    (ai (b8 (pv 0) (pv 2) rfl)
    (au (b8 (pv 0) (aO dg (aH (pv 0) rfl) av) rfl)))))))
   (au (bM (gJ agN (aX sE (aH (pv 0) rfl) (aH (pv 0) rfl) (bf _))
    (ai (bI 2 je.nd (pm (pv 1) (aI T) T.ik (hM T) X (ae (aH (pv 0) rfl) (ae (fy dO (aY bU (aH (pv 0) rfl) (aH (pv 0) rfl) (λ_ _=>rfl))) aj))))
    (ai (bD (aX nU (pv 2) cO (bf _))
     (au uf)
     bp)
    (ai (b8 (pv 0) (pv 2) rfl)
    (au (b8 (pv 0) (aO gW (aH (pv 0) rfl) av) rfl))))))))))),?_⟩
  rwa[gM ?_];intro jP fS gy;let eo:∀{c:Nat},c<S.made->S.aS[c]?\(S.ax c):=λ{c} hc=>oV ([C.wf.e]▸hc)
  let kp:∀{F:Hp},(∀b o,b≠p->H b\o->F b\o)->ay A.az F r S a:=λ{F} f=>hR.keep (λb o hb e=>f b o (λz=>Y (z ▸ hb)) e) (λb xs e=>f b _ (bZ e O.ins f!"") e)
  let up:∀{F:Hp} {o2:HO},(∀b o,b≠p->H b\o->F b\o)->∀b o,b≠p->H b\o->upd F p o2 b\o:=λf b o n e=>by rw[ak n];rwa[f b o n e]
  erw[12,r,a.dx,12,hR.ins,cK _ _ _ ⋯,12,p,_,d,112,O.ins,aU T,T.gO,j7 _ _,r,S,a,g.front,S.ax g.front,2,hR,eo y.f,12,p,_,d,12,O.ins,aU T,T.gO,(by show 7<1000;decide)];rw[Bw];let U:=O.set (g':={ g with front:=S.ax g.front }) rfl;let Z:=up (o2:=.ins A.aJ d (gA { g with front:=S.ax g.front } t)) (λb o _ e=>e);generalize upd H p (.ins A.aJ d (gA { g with front:=S.ax g.front } t))=H1 at U Z ⊢;let R1:=kp Z;erw[12,r,a.dx,12,R1.ins,cK _ _ _ ⋯,12,p,_,d,112,U.ins,aU T,T.hJ,j8 _ _,r,S,a,g.bx,S.ax g.bx,2,R1,eo y.r,12,p,_,d,12,U.ins,aU T,T.hJ,(by show 7<1000;decide)];rw[DZ];let p2:=U.set (g':={ g with front:=S.ax g.front,bx:=S.ax g.bx }) rfl;let f2:=up (o2:=.ins A.aJ d (gA { g with front:=S.ax g.front,bx:=S.ax g.bx } t)) Z;generalize upd H1 p (.ins A.aJ d (gA { g with front:=S.ax g.front,bx:=S.ax g.bx } t))=F at p2 f2 ⊢;let e1:=(C.el _ y.f).2;let e2:=(C.el _ y.r).2;let D:r6 S g { g with front:=S.ax g.front,bx:=S.ax g.bx }:=⟨222,⟨y.fl,y.ll,y.s,C.lt y.f,C.lt y.r,by show wk _ _ _\S.ax (S.ax g.front);rw[e1];rwa[y.wf],by show wk _ (S.ax (S.ax g.bx)) _=_;rw[e2];rwa[y.wr]⟩,e1,e2,λe _=>⟨e,2⟩,λe _=>⟨e,2⟩⟩;erw[λ x l=>∃g1 u,x=#v[↑p,↑r,u]/\(∀b o,b≠p->H b\o->l b\o)/\dU A.aJ l p d t g1/\r6 S g g1/\(g1.first<g1.last->S.by g1.front g1.z1=none),5]
  ·erw[λm J l=>∃g1 u,m=g1.last - g1.first/\J=#v[↑p,↑r,u]/\(∀b o,b≠p->H b\o->l b\o)/\dU A.aJ l p d t g1/\r6 S g g1,⟨11,none,22,f2,p2,D⟩];rintro m J l ⟨g1,u,rfl,rfl,v,j,ad⟩;let M:=kp v;let ll:=ad.gi.ll;let fl:=ad.gi.fl;let lw:⇑g1.word<=1000:=by rw[ad.wo];rwa[G]
   erw[12,p,_,d,112,j.ins,aU T,T.eU,gQ _ _,12,p,_,d,112,j.ins,aU T,T.iG,j9 _ _,112212];rwa[bS (λq=>?_) (λq=>?_)]
   ·let q:(g1.first:Int)<(g1.last:Int):=agU q;erw[_,λ_ _ z=>z];let hz:=Gg.qh (g:=g1) ∅;erw[12,r,a.dx,12,M.ins,cK _ _ _ ⋯,12,p,_,d,112,j.ins,aU T,T.gO,j7 _ _,12,p,_,d,112,j.ins,aU T,T.jx,j6 _ _,12,p,_,d,112,j.ins,aU T,T.eU,gQ _ _,t,11,.int g1.z1,22,bA.of j.wo,bO (bW hz),r,S,a,g1.front,g1.z1,2,M,[C.wf.w]▸ad.gi.f]
    cases I:S.by g1.front g1.z1 with
    |none=>rwa[12212,jF ⟨g1,12,v,j,ad,λ_=>I⟩]
    |some c=>
     rw[show (Option.map (λn:Nat=>V.int (n:Int)) (some c)).getD V.non=V.int (c:Int) from rfl];rwa[⟨12212,dP ?_⟩];erw[1212,p,_,d,12,j.ins,aU T,T.gO,(by show 7<1000;decide)];rw[Bw];let B:=j.set (g':={ g1 with front:=c }) rfl;let L:=up (o2:=.ins A.aJ d (gA { g1 with front:=c } t)) v;generalize upd l p (.ins A.aJ d (gA { g1 with front:=c } t))=H3 at B L ⊢;erw[12,p,_,d,112,B.ins,aU T,T.eU,gQ _ _,112212,p,_,d,12,B.ins,aU T,T.eU,(by show 7<1000;decide)];rw[show V.int ((({ g1 with front:=c }:Gg).first:Int)+ 1)=V.int ((g1.first+ 1:Nat):Int) from rfl,KP];rwa[_,by show g1.last - (g1.first+ 1)<_;ext,1122,up L,B.set rfl,ad.fwd C ∅ I]
   ·rwa[g1,u,2,v,j,ad,λz=>absurd (agW (show (g1.first:Int)<(g1.last:Int) by omega)) q]
  rintro x l ⟨g0,v0,rfl,f0,p0,D,n0⟩;erw[λ x l=>∃g1 u,x=#v[↑p,↑r,u]/\(∀b o,b≠p->H b\o->l b\o)/\dU A.aJ l p d t g1/\r6 S g g1/\(g1.first<g1.last->S.by g1.front g1.z1=none)/\(g1.first<g1.last->S.by g1.bx g1.z2=none),5]
  ·erw[λm J l=>∃g1 u,m=g1.last - g1.first/\J=#v[↑p,↑r,u]/\(∀b o,b≠p->H b\o->l b\o)/\dU A.aJ l p d t g1/\r6 S g g1/\(g1.first<g1.last->S.by g1.front g1.z1=none),⟨11,v0,22,f0,p0,D,n0⟩];rintro m J l ⟨g1,u,rfl,rfl,v,j,ad,N⟩;let M:=kp v;let ll:=ad.gi.ll;let fl:=ad.gi.fl;let lw:⇑g1.word<=1000:=by rw[ad.wo];rwa[G]
   erw[12,p,_,d,112,j.ins,aU T,T.eU,gQ _ _,12,p,_,d,112,j.ins,aU T,T.iG,j9 _ _,112212];rwa[bS (λq=>?_) (λq=>?_)]
   ·let q:(g1.first:Int)<(g1.last:Int):=agU q;erw[_,λ_ _ z=>z];let hz:=Gg.at2 (g:=g1) ll;erw[12,r,a.dx,12,M.ins,cK _ _ _ ⋯,12,p,_,d,112,j.ins,aU T,T.hJ,j8 _ _,12,p,_,d,112,j.ins,aU T,T.jx,j6 _ _,12,p,_,d,112,j.ins,aU T,T.iG,j9 _ _,t,11,.int (-g1.z2),22,bA.of j.wo,bO (bW hz),12,r,S,a,g1.bx,g1.z2,(by show [V.ref r,V.int (g1.bx:Int),V.int (- -g1.z2)]=_;rw[aid]),M,[C.wf.w]▸ad.gi.r]
    cases I:S.by g1.bx g1.z2 with
    |none=>rwa[12212,jF ⟨g1,12,v,j,ad,N,λ_=>I⟩]
    |some c=>
     rw[show (Option.map (λn:Nat=>V.int (n:Int)) (some c)).getD V.non=V.int (c:Int) from rfl];rwa[⟨12212,dP ?_⟩];erw[1212,p,_,d,12,j.ins,aU T,T.hJ,(by show 7<1000;decide)];rw[DZ];let B:=j.set (g':={ g1 with bx:=c }) rfl;let L:=up (o2:=.ins A.aJ d (gA { g1 with bx:=c } t)) v;generalize upd l p (.ins A.aJ d (gA { g1 with bx:=c } t))=H3 at B L ⊢;erw[12,p,_,d,112,B.ins,aU T,T.iG,j9 _ _,112212,p,_,d,12,B.ins,aU T,T.iG,(by show 7<1000;decide)];rw[show V.int ((({ g1 with bx:=c }:Gg).last:Int) - 1)=V.int ((g1.last - 1:Nat):Int) by show V.int ((g1.last:Int) - 1)=_;congr 1;ext,Om];rwa[_,by show (g1.last - 1) - g1.first<_;ext,1122,up L,B.set rfl,ad.bwd C ∅ I,λz=>N (by let z:g1.first<g1.last - 1:=z;omega)]
   ·rwa[g1,u,2,v,j,ad,N,λz=>absurd (agW (show (g1.first:Int)<(g1.last:Int) by omega)) q]
  rintro x l ⟨g1,u,rfl,v,j,ad,N,n2⟩;rwa[k g1 l v j ⟨ad.wh,ad.wo,ad.st,ad.gi,ad.ef,ad.er,N,n2,ad.k1,ad.k2⟩]
def Vm (ns:Zg)(j:Nat):fJ (ao ns) none (some (j:Int))=ao (ns.take j):=by
 rw[pA,HT.wX];show ao ((List.drop 0 ns).take (min j ⇑ns - 0))=_
 cbv
def Oo (ns:Zg)(j:Nat)(h:j<=⇑ns):fJ (ao ns) (some (j:Int)) none=ao (ns.drop j):=by
 rw[pA,HT.wX,aiN h];show ao ((ns.drop j).take (⇑ns - j))=_;rw[ai0 ([ahh]▸agp _)]
theorem oW {by_:Nat->Int->Zi}:∀{ws:Zg} {r:Nat},⇑(cu by_ r ws)<=⇑ws
 |[],_=>agp _
 |z::ws,r=>by
  cases q:by_ r z with
  |none=>rw[yB q];rwa[agP _]
  |some d=>rw[m3 q,agL,agL];rwa[Nat.succ_le_succ oW]
inductive Ib (CR CG:Zs) (vs:Zb) (H:Hp) (Q:VK) (E_:XK):Prop
 |mk (p dx wa r:Zs) (g:Gg) (S:RS) (a:RA) (R:Za2):vs=[↑p,↑r]->dU CG H p dx wa g->ay CR H r S a->Good S [] R->g.start<S.made->g.bx<S.made->g.last<⇑g.word->⇑g.word<=1000->(∀q H',aq H H'->bN H' 2 ↑q (jr g.which ((g.start::cu S.by g.start (g.word.take g.first))++(g.bx::cu S.by g.bx (g.word.drop (g.last+ 1)))) g.first)->Q ↑q H')->Ib CR CG vs H Q E_
theorem By (T:Txt K mg A):T.rO.Ok mg P w base 3 (Ib A.az A.aJ):=by
 rwa[T.rO.on mJ (λcC AA O s H vs Q E hr h=>?_)]
 ·let⟨p,m,wa,r,g,S,a,R,rfl,t,hR,I,hs,U,WK,Bz,k⟩:=h
  refine⟨_,(ai (bI 2 mJ.nd (pc T.walked (yO T) hr (ae (pv 1) (ae (aH (pv 0) rfl) (ae (lT zW (aH (pv 0) rfl) sG (lM (aH (pv 0) rfl))) aj)))))
   (ai (bI 3 mJ.nd (pc T.walked (yO T) hr (ae (pv 1) (ae (aH (pv 0) rfl) (ae (lT zW (aH (pv 0) rfl) (lM (aO dg (aH (pv 0) rfl) av)) sG) aj)))))
   (au (bj (cE (ae (dD (l:=[114,117,108,101]) rfl) (ae (aH (pv 0) rfl) (ae (eJ qc rfl T.oN aii (ae (aO qJ (pv 2) (pv 3)) aj)) (ae (aH (pv 0) rfl) aj))))))))),?_⟩
  rwa[eQ ?_];intro fS gy;let B:∀c z d,S.by c z=some d->d<S.made:=λc z d e=>(I.st c z d e).2.1
  rwa[⟨1212,p,_,m,112,t.ins,aU T,T.pY,uQ _ _,12,p,_,m,112,t.ins,aU T,T.jx,j6 _ _,12,p,_,m,112,t.ins,aU T,T.eU,gQ _ _,12,wa,12,t.wo,λt1 H1 s1 X=>?_⟩];rw[Vm]at X;rwa[⟨r,S,a,g.start,t1,g.word.take g.first,2,hR.same s1,I.wf,hs,B,X,by rw[agV];ext,λl1 H2 s2 h2=>?_⟩];let C:=s1.trans s2;let F:=t.same C;rwa[⟨1212,p,_,m,112,F.ins,aU T,T.hJ,j8 _ _,12,p,_,m,112,F.ins,aU T,T.jx,j6 _ _,12,p,_,m,112,F.ins,aU T,T.iG,j9 _ _,112212,wa,12,F.wo,λt2 H3 s3 e3=>?_⟩];rw[show (g.last:Int)+ 1=((g.last+ 1:Nat):Int) by ext,Oo _ _ ∅]at e3;let D:=C.trans s3;rwa[⟨r,S,a,g.bx,t2,g.word.drop (g.last+ 1),2,hR.same D,I.wf,U,B,e3,by rw[ahh];ext,λl2 V s4 h4=>?_⟩];let y:=D.trans s4;let Y:=t.same y;let lx:=oW (by_:=S.by) (ws:=g.word.take g.first) (r:=g.start);let ly:=oW (by_:=S.by) (ws:=g.word.drop (g.last+ 1)) (r:=g.bx);rw[agV]at lx;rw[ahh]at ly;rwa[⟨12,p,_,m,112,Y.ins,aU T,T.A9,KN _ _,1212,l1,l2,1122,(s3.trans s4) _ _ h2,h4,5,λL n3=>?_⟩]
  ·rw[aM,aM,bV,bV,agL,agL];rwa[agz (show _<=100000 by omega) ⋯]
  rwa[⟨L,12,.inl ⟨aF.of ah,λG n4=>?_⟩⟩];rw[<-ints_app,<-ie]at n4 ⊢;let s5:=aq.upd (o:=.lst (ao (nI ((g.start::cu S.by g.start (g.word.take g.first))++(g.bx::cu S.by g.bx (g.word.drop (g.last+ 1))))))) n3;generalize (g.start::cu S.by g.start (g.word.take g.first))++(g.bx::cu S.by g.bx (g.word.drop (g.last+ 1)))=path at *;let N:=s5.trans (aq.upd (o:=.tup (ao (nI path))) n4);let e6:upd (upd V L (.lst (ao (nI path)))) G (.tup (ao (nI path))) G=_:=ah;generalize upd (upd V L (.lst (ao (nI path)))) G (.tup (ao (nI path)))=H6 at N e6 ⊢;rwa[⟨12,p,_,m,112,(N^Y.ins),aU T,T.eU,gQ _ _,(Za4 4),λq nq=>?_⟩];let Z:=aq.upd (o:=.tup [.str (tx [114,117,108,101]),.int (g.which:Int),↑G,.int (g.first:Int)]) nq;rwa[k q _ (y.trans (N.trans Z)) (.t ah rfl λj v d b f=>?_)]
  match j,b,f with
  |0,b,f=>ext b;ext f;rwa[.s]
  |1,b,f=>ext b;ext f;rwa[.i]
  |2,b,f=>
   ext b;ext f;rwa[.t (Z^e6) (by rw[aM,bV,agm]) λi u x f1 M=>?_]
   let⟨z,rfl,n⟩:=cI f1;unfold nI at n;rw[agx]at n M
   cases q1:path[i]? with
   |none=>rw[q1]at n;ext n
   |some c=>
    rw[q1]at n M;ext n;ext M;rwa[.i]
  |3,b,f=>ext b;ext f;rwa[.i]
  |j+ 4,b,f=>simp at b
def same_none (s:aq H I){b:Zs}(h:I b=none):H b=none:=by
 cases e:H b with
 |none=>rfl
 |some o=>rw[s^e]at h;ext h
structure KA where
 dx:Zs
 aQ:Zs
 aG:Zs
 aA:Zs
 aW:Zs
noncomputable def oX (r:Zs)(c:KA)(a:Nat):List (Str×V):=[("rooms",↑r),("rules",↑c.aQ),("goings",↑c.aG),("agenda",↑c.aA),("waiting",↑c.aW),("heard",.int a)]
def fQ (r:Zs)(c:KA)(a:Nat):(oX r c a).lookup ("rooms":Str)\↑r:=by kernel_rfl
def KR (r:Zs)(c:KA)(a:Nat):(oX r c a).lookup ("rules":Str)\↑c.aQ:=by kernel_rfl
def kP (r:Zs)(c:KA)(a:Nat):(oX r c a).lookup ("goings":Str)\↑c.aG:=by kernel_rfl
def nk (r:Zs)(c:KA)(a:Nat):(oX r c a).lookup ("agenda":Str)\↑c.aA:=by kernel_rfl
def lI (r:Zs)(c:KA)(a:Nat):(oX r c a).lookup ("waiting":Str)\↑c.aW:=by kernel_rfl
def uS (r:Zs)(c:KA)(a:Nat):(oX r c a).lookup ("heard":Str)\(.int a):=by kernel_rfl
def fe {c:KA}(h:x∉(["rooms","rules","goings","agenda","waiting","heard"]:Zp)):(oX a c n).lookup x=none:=by
 simp only[agB,ag4,ait,not_or]at h;let⟨f,d,i,e,g,b⟩:=h;unfold oX;simp only[List.lookup,agE.mpr f,agE.mpr d,agE.mpr i,agE.mpr e,agE.mpr g,agE.mpr b]
def KS (r:Zs)(c:KA)(a n:Nat):bJ "heard" (.int n) (oX r c a)=oX r c n:=by kernel_rfl
structure p6 (CG:Zs) (H:Hp) (gv:Zb) (gs:Zf) (O:Zs->Prop):Prop where
 l:⇑gv=⇑gs
 n:∀(i:Nat) (v:V),gv[i]?\v->gs[i]?\none->v=.non
 s:∀(i:Nat) (v:V) (g:Gg),gv[i]?\v->gs[i]?\some g->∃p dx wa,v=↑p/\dU CG H p dx wa g/\O p
 i:∀(i j:Nat) (p:Zs),gv[i]?\↑p->gv[j]?\↑p->i=j
structure cw (CG CC:Zs) (H:Hp) (x r:Zs) (c:KA) (gs:Zf) (ag:Zh) (W:bG) (hd:Nat) (fp:List (Zg×Nat)) (O:Zs->Prop):Prop where
 ins:H x\(.ins CC c.dx (oX r c hd))
 hG:∃gv,H c.aG\.lst gv/\p6 CG H gv gs O
 hA:H c.aA\(.lst (ao (nI ag)))
 wt:oq H c.aW W O
 ne:c.aG≠c.aA
 ox:O x
 oG:O c.aG
 oA:O c.aA
 th:∀b,O b->∃o,H b\o/\(∀xs,o≠.tup xs)/\(∀kv,o≠.dT kv)/\(∀u v,o≠.cR u v)/\∀ps,o≠.fw ps
section
variable {CG CC:Zs}{H H':Hp}{x r:Zs}{c:KA}{gs:Zf}{ag:Zh}{W:bG}{hd:Nat}{fp:List (Zg×Nat)}{O:Zs->Prop}
def p6.keep (h:p6 CG H L gs O)(f:∀b o,O b->H b\o->H' b\o)(ft:∀b a,H b\.tup a->H' b\.tup a):p6 CG H' L gs O:=by
 rwa[⟨h.l,h.n,λi v g d k=>?_,h.i⟩];let⟨p,dx,j,e,q,o⟩:=h.s i v g d k;rwa[p,dx,j,e,⟨f _ _ o q.ins,ft^q.wo⟩,o]
def cw.keep (h:cw CG CC H x r c gs ag W hd fp O)(f:∀b o,O b->H b\o->H' b\o)(ft:∀b a,H b\.tup a->H' b\.tup a):cw CG CC H' x r c gs ag W hd fp O:=by
 let⟨i,g,g2⟩:=h.hG;rwa[⟨f _ _ h.ox h.ins,⟨i,f _ _ h.oG g,g2.keep f ft⟩,f _ _ h.oA h.hA,h.wt.keep f,h.ne,h.ox,h.oG,h.oA,λb d=>?_⟩];let⟨o,e,q⟩:=h.th b d;rwa[o,f _ _ d e,q]
def cw.same (h:cw CG CC H x r c gs ag W hd fp O)(s:aq H H'):cw CG CC H' x r c gs ag W hd fp O:=h.keep (λb o _ e=>s b o e) (λb o e=>s^e)
def cw.i3 (h:cw CG CC H x r c gs ag W hd fp O){b:Zs}{a:Zb}(e:H b\.tup a):¬O b:=λz=>by
 let⟨o,q,n,_⟩:=h.th b z
 cbv
def cw.Ic (h:cw CG CC H x r c gs ag W hd fp O){b:Zs}{a:List (Zd×V)}(e:H b\.dT a):¬O b:=λz=>by
 let⟨o,q,_,n,_⟩:=h.th b z
 cbv
def cw.waits (h:cw CG CC H x r c gs ag W hd fp O){k:bG}{a:Zs->Prop}(f:∀b o,(∀j,o≠.dK j)->H b\o->H' b\o)(d:∀b,O b->a b)(w:oq H' c.aW k a)(th:∀b,a b->∃o,H' b\o/\(∀t,o≠.tup t)/\(∀j,o≠.dT j)/\(∀u v,o≠.cR u v)/\∀m,o≠.fw m):cw CG CC H' x r c gs ag k hd fp a:=by
 let⟨l,s,g2⟩:=h.hG;rwa[⟨f _ _ (by cbv) h.ins,⟨l,f _ _ (by cbv) s,g2.l,g2.n,λi v g y n=>?_,g2.i⟩,f _ _ (by cbv) h.hA,w,h.ne,d _ h.ox,d _ h.oG,d _ h.oA,th⟩];let⟨p,dx,z,e,q,o⟩:=g2.s i v g y n;rwa[p,dx,z,e,⟨f _ _ (by cbv) q.ins,f _ _ (by cbv) q.wo⟩,d _ o]
def cw.agenda (h:cw CG CC H x r c gs ag W hd fp O)(a:Zh):cw CG CC (upd H c.aA (.lst (ao (nI a)))) x r c gs a W hd fp O:=by
 let⟨f,l,g2⟩:=h.hG;let k:∀b o,b≠c.aA->H b\o->upd H c.aA (.lst (ao (nI a))) b\o:=λb o n e=>by rw[ak n];rwa[e]
 let kn:∀b o,(∀m,o≠.lst m)->H b\o->upd H c.aA (.lst (ao (nI a))) b\o:=λb o n e=>k b o (λz=>by rw[z,h.hA]at e;cbv) e
 rwa[⟨kn _ _ (by cbv) h.ins,⟨f,k _ _ h.ne l,g2.l,g2.n,λi v g s j=>?_,g2.i⟩,ah,5,h.ne,h.ox,h.oG,h.oA,λb d=>?_⟩]
 ·let⟨p,dx,t,e,q,o⟩:=g2.s i v g s j;rwa[p,dx,t,e,⟨kn _ _ (by cbv) q.ins,kn _ _ (by cbv) q.wo⟩,o]
 ·let⟨D,E,k1,k2⟩:=h.wt;rwa[D,E,k1.keep λb o d e=>by let⟨u,q⟩:=k1.there d;cbv,k2]
 ·by_cases e:b=c.aA
  ·rwa[_,[e]▸ah,(by cbv),(by cbv),(by cbv),by cbv]
  ·let⟨o,q,n⟩:=h.th b d;rwa[o,k _ _ e q,n]
end
def Bt (O:Zs->Prop)(H a:Hp):Prop:=∀b o,¬O b->H b\o->a b\o
def Bt.trans {O a:Zs->Prop}(h:Bt O H I)(c:Bt a I J)(f:∀b,a b->O b\/H b=none):Bt O H J:=λb o n e=>c b o (λz=>(f b z).elim n λq=>by cbv) (h b o n e)
def Bt.of {O:Zs->Prop}(s:aq H I):Bt O H I:=λb o _ e=>s b o e
inductive Ie (CR CG CC:Zs) (vs:Zb) (H:Hp) (Q:VK) (E_:XK):Prop
 |mk (x r:Zs) (c:KA) (gs:Zf) (ag:Zh) (W:bG) (hd:Nat) (fp:List (Zg×Nat)) (O:Zs->Prop) (n m:Nat) (s:Int):vs=[↑x,.int n,.int m,.int s]->cw CG CC H x r c gs ag W hd fp O->m<100000->n<100000->(-1000<=s/\s<=1000)->(∀O' H',Bt O H H'->(∀b o,(∀kv,o≠.dK kv)->H b\o->H' b\o)->(∀b,O b->O' b)->(∀b,O' b->O b\/H b=none)->cw CG CC H' x r c gs ag (addW W m s n) hd fp O'->Q .non H')->Ie CR CG CC vs H Q E_
structure jQ (H:Hp) (O:Zs->Prop) (H1:Hp) (O1:Zs->Prop):Prop where
 f:∀b o,(∀kv,o≠.dK kv)->H b\o->H1 b\o
 bt:Bt O H H1
 le:∀b,O b->O1 b
 nw:∀b,O1 b->O b\/H b=none
 th:∀b,O1 b->∃o,H1 b\o/\(∀xs,o≠.tup xs)/\(∀kv,o≠.dT kv)/\(∀u v,o≠.cR u v)/\∀ps,o≠.fw ps
def jQ.new {O a:Zs->Prop}(h:jQ H O I a){p:Zs}{c:List (Key×V)}(d:I p=none):jQ H O (upd I p (.dK c)) a:=by
 let s:=aq.upd (o:=.dK c) d;rwa[⟨λb o n e=>s^h.f b o n e,λb o n e=>s^h.bt b o n e,h.le,h.nw,λb f=>?_⟩];let⟨o,e,q⟩:=h.th b f;rwa[o,s^e,q]
def jQ.put {O a:Zs->Prop}(h:jQ H O I a){d:Zs}(hd:a d){f kv':List (Key×V)}(ed:I d\.dK f):jQ H O (upd I d (.dK kv')) a:=by
 let k:∀b o,b≠d->I b\o->upd I d (.dK kv') b\o:=λb o n e=>by rw[ak n];rwa[e]
 rwa[⟨λb o n e=>k _ _ (λz=>by have:=h.f b o n e;cbv) (h.f b o n e),λb o n e=>k _ _ (λz=>?_) (h.bt b o n e),h.le,h.nw,λb c=>?_⟩]
 ·rcases h.nw d hd with q|q
  ·cbv
  cbv
 ·by_cases e:b=d
  ·rwa[⟨_,by rw[e];rwa[ah],(by cbv),(by cbv),(by cbv),by cbv⟩]
  ·let⟨o,q,m⟩:=h.th b c;rwa[o,k _ _ e q,m]
def jQ.WL {O a:Zs->Prop}(h:jQ H O I a){p:Zs}(d:H p=none){o:HO}(l:I p\o)(g:∀i,o≠.tup i)(c:∀k,o≠.dT k)(j:∀u v,o≠.cR u v)(f:∀e,o≠.fw e):jQ H O I (G7 a p):=by
 rwa[⟨h.f,h.bt,λb z=>.inl (h.le b z),λb z=>z.elim (h.nw b) λq=>.inr ([q]▸d),λb z=>?_⟩];rcases z with z|z
 ·rwa[h.th b z]
 ·rw[z];rwa[o,l,g,c,j,f]
def jQ.no {O b:Zs->Prop}(h:jQ H O I b){p:Zs}(a:I p=none):H p=none:=by
 cases e:H p with
 |none=>rfl
 |some o=>
  by_cases q:O p
  ·let⟨d,c,_⟩:=h.th p (h.le p q);cbv
  ·rw[h.bt p o q e]at a;ext a
def cw.mid {x:Zs}{d:KA}{gs:Zf}{W:bG}{hd:Nat}{f:List (Zg×Nat)}{O:Zs->Prop}(h:cw a b H x c d gs B W hd f O):jQ H O H O:=⟨λ_ _ _ e=>e,λ_ _ _ e=>e,λ_ z=>z,λ_ z=>.inl z,h.th⟩
def ny (T:Txt K mg A):T.jM.Ok mg P w base 1 (Ie A.az A.aJ A.aD):=by
 rwa[T.jM.on jO (λU AA G s H vs Q E V h=>?_)]
 ·let⟨x,r,c,gs,ag,W,B,fp,O,n,m,s,rfl,h,hm,hn,Y,k⟩:=h;let F:=iU V
  erw[_,(ai (bM (bI 4 jO.nd (m2 (aH (pv 0) rfl) (pv 2) fK ⟨2222⟩)))
   (ai (bM (bI 5 jO.nd (m2 (pv 4) (pv 3) fK ⟨2222⟩)))
   (au (sJ F (pv 5) (pv 1) kb rfl))))]
  rwa[eQ ?_];intro Z S;erw[λ f J=>∃d y,f=#v[↑x,.int (n:Int),.int (m:Int),.int s,↑d,none]/\jQ H O J y/\fB J c.aW W y m d,5]
  ·rwa[⟨12,x,_,c.dx,112,h.ins,aK T,T.jN,lI^_,c.aW,2,h.wt.qe,12,λp b=>?_⟩];let⟨a,g,q,l,I⟩:=h.wt.room b (c:=(m:Int)) ∅;rwa[⟨a,Sum.inl (m:Int),g,2,q,λv j=>?_,λj=>?_⟩]
   ·let⟨d,rfl,w⟩:=l v j;rwa[d,O,2,h.mid.new b,w]
   ·let w:=I j;let M:O c.aW:=by let⟨D,E,_,z⟩:=h.wt;rwa[z.o _ (.inl rfl)]
    rwa[p,12,((h.mid.new b).put M g).WL b ([ak (λz=>by rw[z]at b;let⟨o,e,_⟩:=h.th _ M;cbv)]▸ah) (by cbv) (by cbv) (by cbv) (by cbv),w]
  rintro f J ⟨d,y,rfl,u,C⟩;erw[λ f L=>∃e t,f=#v[↑x,.int (n:Int),.int (m:Int),.int s,↑d,↑e]/\jQ H O L t/\pK L c.aW W t m s e,5]
  ·rwa[⟨12,d,2,C.qe,12,λp b=>?_⟩];let⟨a,g,q,l,I⟩:=C.cell b Y;rwa[⟨a,Sum.inl s,g,2,q,λv j=>?_,λj=>?_⟩]
   ·let⟨e,rfl,w⟩:=l v j;rwa[e,y,2,u.new b,w]
   ·let w:=I j;let B:=C.own;rwa[p,12,((u.new b).put B g).WL (u.no b) ([ak (λz=>by rw[z]at b;let⟨o,e,_⟩:=u.th _ B;cbv)]▸ah) (by cbv) (by cbv) (by cbv) (by cbv),w]
  rintro f L ⟨e,t,rfl,R,N⟩;let⟨a,g,q,l⟩:=N.put (n:=(n:Int)) ∅;erw[1212,e,12,qN.k (k:=Sum.inl (n:Int)) g q];let i:=R.put (kv':=putK a (Sum.inl (n:Int)) (.bl true)) N.own g;rwa[k t _ i.bt i.f i.le i.nw (h.waits i.f i.le l i.th)]
inductive Ig (CR CG CC:Zs) (vs:Zb) (H:Hp) (Q:VK) (E_:XK):Prop
 |mk (x r:Zs) (c:KA) (gs:Zf) (ag:Zh) (W:bG) (hd:Nat) (fp:List (Zg×Nat)) (O:Zs->Prop) (m:Nat) (s:Int):vs=[↑x,.int m,.int s]->cw CG CC H x r c gs ag W hd fp O->(∀ns:Zh,ns.Nodup->(∀n:Nat,n∈ns↔W m s n=true)->⇑ag+ ⇑ns<=1000000)->(∀ns H',Bt O H H'->ns.Nodup->(∀n:Nat,n∈ns↔W m s n=true)->cw CG CC H' x r c gs (ag++ns) (gj W m s) hd fp O->Q .non H')->Ig CR CG CC vs H Q E_
def fH (T:Txt K mg A):T.eT.Ok mg P w base 1 (Ig A.az A.aJ A.aD):=by
 rwa[T.eT.on wc (λcC AA G s H vs Q E hr h=>?_)]
 ·let⟨x,r,c,gs,Z,W,hd,fp,O,m,s,rfl,h,hz,k⟩:=h;let D:=iU hr;erw[_,(au (aV (cQ agw PySem.F.slot_list_extend PySem.F.type_list_extend yi (aH (pv 0) rfl) (ae (eJ (jI rfl) rfl T.ip ahy (ae (uk (lX D (aH (pv 0) rfl) (pv 1) fK ⟨2222⟩) (pv 2) fK ⟨2222⟩) aj)) aj))))]
  let rest:∀{i:Hp} {R:bG} {l:Zs} {ns:Zh},cw A.aJ A.aD i x r c gs Z R hd fp O->Bt O H i->i l=none->ns.Nodup->(∀n:Nat,n∈ns↔W m s n=true)->R=gj W m s->w9 (V.ref c.aA) [V.ref l] (upd i l (.lst (ao (nI ns)))) (λ_ H'=>Q .non H'):=λ{i R l ns} p b2 g S X eW=>by
   subst eW;let N:=aq.upd (o:=.lst (ao (nI ns))) g;erw[c.aA,l,1122,N^p.hA,ah,5]
   ·rw[aM,aM,bV,bV];rwa[agz (hz ns S X) ⋯]
   ·rw[<-ints_app,<-ie];rwa[k ns _ (λb o n e=>[ak (λz=>n ([z]▸h.oA))]▸N^b2 b o n e) S X ((p.same N).agenda (Z++ns))]
  rwa[⟨12,x,_,c.dx,112,h.ins,aK T,T.kM,nk^_,.inl ⟨21,aF.of h.hA⟩,12,x,_,c.dx,112,h.ins,aK T,T.jN,lI^_,c.aW,2,h.wt.qe,12,λB M=>?_⟩];let s1:=aq.upd (o:=.dK []) M;let F:upd H B (.dK []) B\(.dK []):=ah;generalize upd H B (.dK [])=C at s1 F ⊢;let I:=h.same s1;let⟨o,g1,g2⟩:=I.wt.get (c:=(m:Int));erw[o,g1];rcases g2 with ⟨rfl,no⟩|⟨d,rfl,w⟩
  ·rwa[⟨B,rfl,.inl ⟨_,.inl F⟩,_,rfl,λf j=>?_⟩];let a:=aq.upd (o:=.dK []) j;let u:upd C f (.dK []) f\(.dK []):=ah;generalize upd C f (.dK [])=i at a u ⊢;rwa[⟨[],Sum.inl s,a^F,2,(λv q=>by ext q),λ_=>⟨f,[],2,u,λl g=>?_⟩⟩];rwa[rest (ns:=[]) (I.same a) (.of (s1.trans a)) g ah6 (λn=>⟨(λz=>by ext z),λz=>by rw[no]at z;ext z⟩) (xn (no s)).symm]
  ·rwa[⟨d,2,w.qe,12,λf j=>?_⟩];let a:=aq.upd (o:=.dK []) j;let u:upd C f (.dK []) f\(.dK []):=ah;generalize upd C f (.dK [])=i at a u ⊢;let p:=I.same a;let⟨t,Y,U,e3⟩:=(w.same a).pop s;rwa[⟨t,Sum.inl s,Y,2,λv q=>?_,λq=>⟨f,[],2,u,λl g=>?_⟩⟩]
   ·let⟨e,L,ns,rfl,J,f1,f2,f3,f4,f5⟩:=e3 v q;rwa[⟨e,L,2,[ak J]▸f1,λl g=>?_⟩];let y:=(p.mid.put (kv':=eX t (Sum.inl s)) w.own Y);rw[f2];rwa[rest (p.waits y.f y.le f5 y.th) (Bt.trans (.of (s1.trans a)) y.bt λb z=>.inl z) g f3 f4 rfl]
   ·rwa[rest (ns:=[]) p (.of (s1.trans a)) g ah6 (λn=>⟨(λz=>by ext z),λz=>by rw[U q]at z;ext z⟩) (xn (U q)).symm]
def _root_.Lake.L2.CI.Ss {bs:List (Nat×Zg×Nat)}{gs:Zf}{W:bG}{d:Nat->Int->Prop}{x:Zi}(h:CI S bs gs B W d x){m:Nat}{s:Int}{ns:Zh}(nd:ns.Nodup)(c:∀n:Nat,n∈ns↔W m s n=true):⇑ns+ vr S.made ⇑gs (gj W m s)<=vr S.made ⇑gs W:=by
 cases ns with
 |nil=>
  have:∀n,W m s n=false:=λn=>by
   cases q:W m s n with
   |false=>rfl
   |true=>
    let⟨_,b,_,e,_⟩:=h.en _ _ _ q
    cbv
  rw[xn this,ahU,ajS];rwa[agp _]
 |cons n r=>
  let⟨k,b,l,_,a,_,f,_⟩:=h.en _ _ _ ((c n).mp (agA ..));let a:m<S.made:=∅
  let i:=NR (G:=⇑gs) (W:=W) a f
  let g:=G8 (P:=λn:Nat=>W m s n) (G:=⇑gs) nd λn a=>by
   let w:=(c n).mp a;let⟨_,b,_,e,_,j,_⟩:=h.en _ _ _ w;rwa[3,w]
  ext
def _root_.Lake.L2.CI.two {bs:List (Nat×Zg×Nat)}{gs:Zf}{W:bG}{a:Nat->Int->Prop}{x:Zi}(h:CI S bs gs B W a x):vr S.made ⇑gs W<=2* ⇑gs:=NV λn=>by
 let⟨p,q,e,_⟩:=h.sl n;rwa[p,q,e]
def _root_.Lake.L2.fB.keys {k:Zs}{W:bG}{O:Zs->Prop}(h:fB H k W O z d):∃(a:List (Key×V)) (zs:Zg),H d\.dK a/\a.map (λb=>kV b.1)=ao zs/\⇑zs<=2001/\∀s n,W z s n=true->s∈zs:=by
 let⟨D,E,l,p,hd⟩:=h;let⟨a,j,o,c,f⟩:=l.JF hd
 let q:⇑a<=2001:=vn (n:=2001) (lo:=-1000) o c f λi v m=>by
  cases e:E z i with
  |none=>rw[e]at m;ext m
  |some x=>have:=p.e z i x e;ext
 let ex:∃zs:Zg,a.map (·.1)=zs.map Sum.inl:=by
  clear j o f q
  induction a with
  |nil=>rwa[[],2]
  |cons b r t=>
   let⟨zs,e⟩:=t λx g=>c x (agS _ g)
   let⟨i,u⟩:=c b (agA ..);rwa[i::zs,by cbv]
 let⟨zs,e⟩:=ex;rwa[⟨a,zs,j,55,λs n w=>?_⟩]
 ·rw[show (λb:Key×V=>kV b.1)=kV ∘ (·.1) from rfl,<-ag6,e,ag6];rfl
 ·have:=ahF List.length e;rw[agm,agm]at this;ext
 ·let⟨x,g⟩:=l.se _ _ _ w;have:Sum.inl s∈a.map (·.1):=DC (v:=↑x) (by rw[f,g];rfl)
  cbv
structure kQ (CG CC:Zs) (S:RS) (bs:List (Nat×Zg×Nat)) (gs:Zf) (W0:bG) (Ex:Nat->Int->Prop) (B:Nat) (x r:Zs) (c:KA) (hd:Nat) (fp:List (Zg×Nat)) (O:Zs->Prop) (H:Hp) (ag:Zh) (W:bG):Prop where
 c:cw CG CC H x r c gs ag W hd fp O
 i:CI S bs gs ag W Ex none
 s:∀r s n,W r s n=true->W0 r s n=true
 b:⇑ag+ vr S.made ⇑gs W<=B
def kQ.wake {bs:List (Nat×Zg×Nat)}{gs:Zf}{g:bG}{i:Nat->Int->Prop}{x:Zs}{e:KA}{hd:Nat}{f:List (Zg×Nat)}{O:Zs->Prop}{W:bG}(h:kQ a b S bs gs g i n x c e hd f O H B W){m:Nat}{s:Int}{ns:Zh}(nd:ns.Nodup)(j:∀d:Nat,d∈ns↔W m s d=true)(q:cw a b I x c e gs (B++ns) (gj W m s) hd f O):kQ a b S bs gs g i n x c e hd f O I (B++ns) (gj W m s):=
 ⟨q,h.i.wake j,λc s d w=>h.s _ _ _ (df.mp w).1,by have:=h.i.Ss nd j;have:=h.b;rw[agk];ext⟩
def kQ.fits {bs:List (Nat×Zg×Nat)}{gs:Zf}{f:bG}{g:Nat->Int->Prop}{x:Zs}{e:KA}{hd:Nat}{i:List (Zg×Nat)}{O:Zs->Prop}{W:bG}(h:kQ a b S bs gs f g n x c e hd i O H B W)(k:n<=1000000){m:Nat}{s:Int}:∀ns:Zh,ns.Nodup->(∀d:Nat,d∈ns↔W m s d=true)->⇑B+ ⇑ns<=1000000:=λns nd j=>by have:=h.i.Ss nd j;have:=h.b;ext
inductive D0 (CR CG CC:Zs) (vs:Zb) (H:Hp) (Q:VK) (E_:XK):Prop
 |mk (x r:Zs) (c:KA) (S:RS) (a:RA) (bs:List (Nat×Zg×Nat)) (gs:Zf) (ag:Zh) (W:bG) (Ex:Nat->Int->Prop) (B hd:Nat) (fp:List (Zg×Nat)) (O:Zs->Prop) (m:Nat):vs=[↑x,.int m]->kQ CG CC S bs gs W Ex B x r c hd fp O H ag W->B<=1000000->ay CR H r S a->S.Wf->(∀b,a.own r b->¬O b)->m<S.made->S.ax m<S.made->(∀iL W' H',Bt O H H'->kQ CG CC S bs gs W Ex B x r c hd fp O H' iL W'->(∀s n,W' m s n=false)->(∀s n,W' (S.ax m) s n=true->S.by (S.ax m) s=none)->Q .non H')->D0 CR CG CC vs H Q E_
def qD (T:Txt K mg A):T.jc.Ok mg P w base 2 (D0 A.az A.aJ A.aD):=by
 rwa[T.jc.on fb (λcC AA outer s H vs Q E hr h=>?_)]
 ·let⟨x,r,c,S,a,bs,Y,ag,W,Ex,B,hd,Z,O,m,rfl,h,hB,hR,wf,dj,hm,he,k⟩:=h;let tW:=iU hr
  erw[_,(ai (cS agN rfl (cX (eJ (jI rfl) rfl T.ip ahy (ae (lX tW (aH (pv 0) rfl) (pv 1) fK ⟨2222⟩) aj))) (dA 2 fb.nd)
   (au (aV (pm (pv 0) (aK T) T.eT (fH T) hr (ae (pv 1) (ae (pv 2) aj))))))
   (ai (bI 3 fb.nd (pm (aH (pv 0) rfl) (aI T) T.g9 (iH T) hr (ae (pv 1) aj)))
   (au (cS agN rfl (cX (eJ (jI rfl) rfl T.ip ahy (ae (lX tW (aH (pv 0) rfl) (pv 3) fK ⟨2222⟩) aj))) (dA 2 fb.nd)
    (au (bM (bD (aX lL (pm (aH (pv 0) rfl) (aI T) T.ik (hM T) hr (ae (pv 3) (ae (pv 2) aj))) cO (bf _))
     (au (aV (pm (pv 0) (aK T) T.eT (fH T) hr (ae (pv 3) (ae (pv 2) aj)))))
     bp)))))))]
  rwa[eQ ?_];intro fS gy;let rk:∀{D:Hp},Bt O H D->ay A.az D r S a:=λ{D} b=>hR.keep (λb' o hb e=>b b' o (dj b' hb) e) (λb' xs e=>b b' _ (h.c.i3 e) e)
  let get:∀{N:Hp} {WM:Zh} {W1:bG} (m1:Nat),kQ A.aJ A.aD S bs Y W Ex B x r c hd Z O N WM W1->∀L,N L=none->∃(o:Zc) (d:Zs) (u:List (Key×V)) (G:Zg),fY (upd N L (.dK [])) c.aW (.int (m1:Int)) o/\o.getD ↑L=↑d/\upd N L (.dK []) d\.dK u/\u.map (λkv=>kV kv.1)=ao G/\∀s n,W1 m1 s n=true->s∈G:=λ{N WM W1} m1 h1 L F=>by
   let s1:=aq.upd (o:=.dK []) F;let⟨o,U,g2⟩:=(h1.c.same s1).wt.get (c:=(m1:Int));rcases g2 with ⟨rfl,no⟩|⟨d,rfl,w⟩
   ·rwa[⟨none,L,[],[],U,rfl,ah,rfl,λs n z=>by cbv⟩]
   ·let⟨u,G,e1,e2,_,e4⟩:=w.keys;rwa[_,d,u,G,U,2,e1,e2,e4]
  rwa[⟨12,x,_,c.dx,112,h.c.ins,aK T,T.jN,lI^_,c.aW,2,h.c.wt.qe,12,λL F=>?_⟩];let⟨o,d,u,G,U,g2,g3,g4,WN⟩:=get m h L F;rwa[⟨o,U,d,u,(by rw[g2]),g3,λl nl=>?_⟩];rw[g4];let s1:=(aq.upd (o:=.dK []) F).trans (aq.upd (o:=.lst (ao G)) nl);let hl:upd (upd H L (.dK [])) l (.lst (ao G)) l\(.lst (ao G)):=ah;replace nl:=same_none (aq.upd (o:=.dK []) F) nl;generalize upd (upd H L (.dK [])) l (.lst (ao G))=N at s1 hl ⊢;clear U g2 g3 g4;let WO:¬O l:=λz=>by let⟨o,e,_⟩:=h.c.th l z;cbv
  let h1:kQ A.aJ A.aD S bs Y W Ex B x r c hd Z O N ag W:=⟨h.c.same s1,h.i,h.s,h.b⟩;erw[l,2,⟨_,aF.of hl⟩]
  refine eP (K:=K) (a:=l) (xs:=ao G) (λi M D=>∃t I v2,M=#v[↑x,.int (m:Int),v2,none]/\Bt O N D/\kQ A.aJ A.aD S bs Y W Ex B x r c hd Z O D t I/\∀(j:Nat) (s:Int),j<i->G[j]?\s->∀n,I m s n=false)
   ⟨ag,W,none,2,λ_ _ _ e=>e,h1,λj s C=>absurd C ∅⟩ (λi M D _ q0=>by let⟨_,_,_,_,b2,_⟩:=q0;rwa[aF.of (b2 _ _ WO hl)]) ?_ ?_
  ·rintro i v M D hi ⟨t,I,v2,rfl,b2,g,C⟩;let⟨s,rfl,hs⟩:=cI hi;rwa[⟨12,x,c.dx,12,g.c.ins,fe ⋯,1212,x,r,c,Y,t,I,hd,Z,O,m,s,2,g.c,g.fits hB,λns H3 b3 nd hn h3=>?_⟩];rwa[⟨1112,b2.trans b3 λb z=>.inl z,g.wake nd hn h3,λj s' f e n=>?_⟩]
   cases q:gj I m s m s' n with
   |false=>rfl
   |true=>
    let⟨q1,q2⟩:=df.mp q
    cbv
  rintro M D ⟨t,I,v2,rfl,b2,g,C⟩;rw[aM]at C;let Sv:Bt O H D:=Bt.trans (.of s1) b2 λb z=>.inl z
  let off:∀s n,I m s n=false:=λs n=>by
   cases q:I m s n with
   |false=>rfl
   |true=>
    let⟨j,f,e⟩:=aie.mp (WN s n (g.s _ _ _ q));rw[C j s f (by rw[agl f,e]) n]at q;ext q
  clear C WN hl WO h1;let R2:=rk Sv;erw[12,x,_,c.dx,112,g.c.ins,aK T,T.eV,fQ^_,r,a.dx,12,R2.ins,cK _ _ _ ⋯,12,r,S,a,m,S.ax m,2,R2,oV ([wf.e]▸hm)];generalize S.ax m=e at he k ⊢;rwa[⟨12,x,_,c.dx,112,g.c.ins,aK T,T.jN,lI^_,c.aW,2,g.c.wt.qe,12,λp2 wx=>?_⟩];let⟨o2,d2,YN,y,U,g2,g3,g4,YP⟩:=get e g p2 wx;rwa[⟨o2,U,d2,YN,(by rw[g2]),g3,λl2 DY=>?_⟩];rw[g4];let s3:=(aq.upd (o:=.dK []) wx).trans (aq.upd (o:=.lst (ao y)) DY);let DE:upd (upd D p2 (.dK [])) l2 (.lst (ao y)) l2\(.lst (ao y)):=ah;replace DY:=same_none (aq.upd (o:=.dK []) wx) DY;generalize upd (upd D p2 (.dK [])) l2 (.lst (ao y))=H3 at s3 DE ⊢;clear U g2 g3 g4;let YQ:¬O l2:=λz=>by let⟨o,e,_⟩:=g.c.th l2 z;cbv
  let h3:kQ A.aJ A.aD S bs Y W Ex B x r c hd Z O H3 t I:=⟨g.c.same s3,g.i,g.s,g.b⟩;erw[l2,2,⟨_,aF.of DE⟩]
  refine eP (K:=K) (a:=l2) (xs:=ao y) (λi M X=>∃J W4 v2,M=#v[↑x,.int (m:Int),v2,.int (e:Int)]/\Bt O H3 X/\kQ A.aJ A.aD S bs Y W Ex B x r c hd Z O X J W4/\(∀r s n,W4 r s n=true->I r s n=true)/\∀(j:Nat) (s:Int),j<i->y[j]?\s->∀n,W4 e s n=true->S.by e s=none)
   ⟨t,I,12,λ_ _ _ q=>q,h3,λ_ _ _ q=>q,λj s C=>absurd C ∅⟩ (λi M X _ q0=>by let⟨_,_,_,_,b4,_⟩:=q0;rwa[aF.of (b4 _ _ YQ DE)]) ?_ ?_
  ·rintro i v M X hi ⟨J,W4,v4,rfl,b4,R,p,C⟩;let⟨s,rfl,hs⟩:=cI hi;let b04:Bt O H X:=Sv.trans (Bt.trans (.of s3) b4 λb z=>.inl z) λb z=>.inl z
   let R4:=rk b04;rwa[⟨15,λ_ _ z=>z⟩];erw[12,x,_,c.dx,112,R.c.ins,aK T,T.eV,fQ^_,r,a.dx,12,R4.ins,cK _ _ _ ⋯,1212,r,S,a,e,s,2,R4,[wf.w]▸he]
   cases eb:S.by e s with
   |none=>
    erw[212];rwa[bS (λz=>absurd z ⋯) (λ_=>?_)];rwa[⟨1112,b4,R,p,λj s' f q n w=>?_⟩]
    cbv
   |some d=>
    rw[show (Option.map (λn:Nat=>V.int (n:Int)) (some d)).getD V.non=V.int (d:Int) from rfl];erw[212];rwa[bS (λ_=>?_) (λz=>absurd rfl z)];rwa[⟨12,x,c.dx,12,R.c.ins,fe ⋯,1212,x,r,c,Y,J,W4,hd,Z,O,e,s,2,R.c,R.fits hB,λns H5 b5 nd hn h5=>?_⟩];rwa[⟨1112,b4.trans b5 λb z=>.inl z,R.wake nd hn h5,λr s n w=>p _ _ _ (df.mp w).1,λj s' f q n w=>?_⟩];let⟨w1,w2⟩:=df.mp w
    cbv
  rintro M X ⟨J,W4,v4,rfl,b4,R,p,C⟩;rw[aM]at C;rwa[k J W4 X (Sv.trans (Bt.trans (.of s3) b4 λb z=>.inl z) λb z=>.inl z) R (λs n=>?_) λs n w=>?_]
  ·cbv
  ·let⟨j,f,q⟩:=aie.mp (YP s n (p _ _ _ w));rwa[C j s f (by rw[agl f,q]) n w]
def cw.Vn {x:Zs}{j:KA}{gs:Zf}{W:bG}{hd:Nat}{r:List (Zg×Nat)}{O:Zs->Prop}(h:cw a b H x c j gs B W hd r O)(F:∀(n:Nat) (g:Gg) (p dx k:Zs),gs[n]?\some g->dU a H p dx k g->p≠x)(n:Nat):cw a b (upd H x (.ins b j.dx (oX c j n))) x c j gs B W n r O:=by
 let kn:∀f o,(∀C d fs,o≠.ins C d fs)->H f\o->upd H x (.ins b j.dx (oX c j n)) f\o:=λf o q e=>by rw[ak (λz=>by rw[z,h.ins]at e;cbv)];rwa[e]
 let⟨t,u,g2⟩:=h.hG;rwa[⟨ah,⟨t,kn _ _ (by cbv) u,g2.l,g2.n,λi v g y s=>?_,g2.i⟩,kn _ _ (by cbv) h.hA,5,h.ne,h.ox,h.oG,h.oA,λf l=>?_⟩]
 ·let⟨p,dx,k,e,q,o⟩:=g2.s i v g y s;rwa[p,dx,k,e,⟨[ak (F i g p dx k s q)]▸q.ins,kn _ _ (by cbv) q.wo⟩,o]
 ·let⟨D,E,k1,k2⟩:=h.wt;rwa[D,E,k1.keep λf o l e=>by let⟨G,q⟩:=k1.there l;rw[q]at e;ext e;rwa[kn _ _ (by cbv) q],k2]
 ·by_cases e:f=x
  ·rwa[_,[e]▸ah,(by cbv),(by cbv),(by cbv),by cbv]
  ·let⟨o,q,m⟩:=h.th f l;rwa[o,[ak e]▸q,m]
def BD {x:Zs}{d:KA}{i:Zf}{W:bG}{f:List (Zg×Nat)}{O:Zs->Prop}(h:cw a b H x c d i B W n f O){p j k:Zs}{g:Gg}(q:dU a H p j k g):p≠x:=λz=>by
 have:=q.ins;rw[z,h.ins]at this;let e:=ahF (λo:Option HO=>match o with|some (.ins _ _ fs)=>⇑fs|_=>0) this;rwa[absurd (show 6=7 from e) ⋯]
def Mw (S:RS)(a:Nat):Nat->Int->Prop:=λr _=>∃m∈S.aZ.drop a,r=m\/r=S.ax m
inductive Ih (CR CG CC:Zs) (vs:Zb) (H:Hp) (Q:VK) (E_:XK):Prop
 |mk (x r:Zs) (c:KA) (S:RS) (a:RA) (R:Za2) (bs:List (Nat×Zg×Nat)) (gs:Zf) (ag:Zh) (W:bG) (B hd:Nat) (fp:List (Zg×Nat)) (O:Zs->Prop):vs=[↑x]->kQ CG CC S bs gs W (Mw S hd) B x r c hd fp O H ag W->B<=1000000->hd<=⇑S.aZ->ay CR H r S a->Good S [] R->(∀m∈S.aZ,m<S.made)->(∀b,a.own r b->¬O b)->(∀iL W' H',Bt O H H'->kQ CG CC S bs gs W fM B x r c ⇑S.aZ fp O H' iL W'->Q .non H')->Ih CR CG CC vs H Q E_
def wA (T:Txt K mg A):T.mG.Ok mg P w base 3 (Ih A.az A.aJ A.aD):=by
 rwa[T.mG.on wg (λcC AA J s H vs Q E M h=>?_)]
 ·let⟨x,r,c,S,a,R,bs,gs,ag,W,B,hd,Z,O,rfl,h,hB,X,hR,I,U,dj,k⟩:=h
  refine⟨_,(au (bM (gJ agN (aX sE (aH (pv 0) rfl) (bF bH rfl T.eI aha (ae (aH (aH (pv 0) rfl) rfl) aj)) (bf _))
   (ai (aV (pm (pv 0) (aK T) T.jc (qD T) M (ae (aY bu (aH (aH (pv 0) rfl) rfl) (aH (pv 0) rfl) (λ_ _=>rfl)) aj)))
   (au (b8 (pv 0) (aO dg (aH (pv 0) rfl) av) rfl)))))),?_⟩
  let rk:∀{v:Hp},Bt O H v->ay A.az v r S a:=λ{v} b=>hR.keep (λF o hb e=>b F o (dj F hb) e) (λF xs e=>b F _ (h.c.i3 e) e)
  rwa[⟨λ fx H'=>Q .non H',5,λ_ _ q=>q⟩];erw[λm σ v=>∃d l G,m=⇑S.aZ - d/\σ=#v[↑x]/\d<=⇑S.aZ/\Bt O H v/\kQ A.aJ A.aD S bs gs W (Mw S d) B x r c d Z O v l G,⟨_,hd,ag,W,22,X,λ_ _ _ e=>e,h⟩];rintro m σ v ⟨d,l,G,rfl,rfl,DE,N,i⟩;let R2:=rk N;let u:=R2.ins;erw[12,x,_,c.dx,112,i.c.ins,aK T,T.mI,uS^_,12,x,_,c.dx,112,i.c.ins,aK T,T.eV,fQ^_,r,_,a.dx,112,u,aI T,T.rV,sQ^_,a.aN,12,.inl (aF.of R2.hN),112212];rwa[bS (λq=>?_) (λq=>?_)]
  ·let q:(d:Int)<(⇑(ao (nI S.aZ)):Int):=agU q;rw[aM,bV]at q;let f:d<⇑S.aZ:=∅
   let D:S.aZ[d]?\(S.aZ[d]'f):=agl f
   generalize S.aZ[d]'f=m at D;let y:=U m (agh D);erw[_,λ_ _ z=>z];erw[12,x,c.dx,12,i.c.ins,fe ⋯,12,x,_,c.dx,112,i.c.ins,aK T,T.eV,fQ^_,r,_,a.dx,112,u,aI T,T.rV,sQ^_,12,x,_,c.dx,112,i.c.ins,aK T,T.mI,uS^_,a.aN,11,.int (m:Int),22,aF.of R2.hN,bO (bW (fZ D))];rwa[⟨x,r,c,S,a,bs,gs,l,G,Mw S d,B,d,Z,O,m,2,⟨i.c,i.i,λ_ _ _ z=>z,i.b⟩,hB,R2,I.wf,dj,y,I.lt y,λL W3 H3 b3 t w1 w2=>?_⟩];erw[12,x,_,c.dx,112,t.c.ins,aK T,T.mI,uS^_,112212,x,_,c.dx,12,t.c.ins,aK T,T.mI,(by show 6<1000;decide)];rw[show V.int ((d:Int)+ 1)=V.int ((d+ 1:Nat):Int) from rfl,KS];let c4:=t.c.Vn (λn g p dx wa _ z=>BD t.c z) (d+ 1);rwa[⟨⇑S.aZ - (d+ 1),3,d+ 1,L,W3,22,f,5,c4,t.i.ex λr' s n w M ex=>?_,λr s n w=>i.s _ _ _ (t.s _ _ _ w),t.b⟩]
   ·rwa[(N.trans b3 λb z=>.inl z).trans (λb o n e=>by rw[ak (λz=>n ([z]▸t.c.ox))];rwa[e]:Bt O H3 _) λb z=>.inl z]
   ·let⟨Y,j,C⟩:=ex;rw[aiz f]at j;rcases agB.mp j with z|z
    ·let em:Y=m:=by rw[z];rw[agl f]at D;rwa[Za0 D]
     subst em;rcases C with C|C
     ·rw[C,w1]at w;ext w
     ·subst C;rwa[.inl ⟨(I.el _ y).2,w2 s n w⟩]
    ·rwa[.inr ⟨Y,z,C⟩]
  ·let q:¬(d:Int)<(⇑(ao (nI S.aZ)):Int):=λz=>q (agW z)
   rw[aM,bV]at q;let e:d=⇑S.aZ:=∅
   subst e;rwa[k l G v N ⟨i.c,i.i.ex λr' s n w M ex=>?_,i.s,i.b⟩];let⟨Y,j,_⟩:=ex;rw[List.drop_length]at j;ext j
def yR {h:Ze}(g:Good S h R)(o:∀a z b,R a z b->z∈l)(r:S.made<=100000)(m:⇑l<=100000)(s:⇑S.rows<=1000000)(p:⇑S.aZ<=1000000):wu S:=by
 rwa[⟨g.wf,λc i=>g.lt i,λc z d e=>(g.st c z d e).2.1,λc n t=>g.cb c n t,λc _=>⟨g.kn c,λq j=>(g.st c q.1 q.2 (jo (g.kn c) j)).2.1,λq j _=>?_⟩,⟨r,λf k=>?_,s,p,λf k=>?_⟩⟩]
 ·rw[g.sy c q.1 q.2 (jo (g.kn c) j)];rfl
 ·let⟨c,i⟩:=ag8 k;have:S.way c=f:=by unfold RS.way;rw[agq,i];rfl
  rw[<-this];rwa[agz (g.GX o c) m]
 ·let⟨c,i⟩:=ag8 k;have:S.ck c=f:=by unfold RS.ck;rw[agq,i];rfl
  rw[<-this];rwa[agz (g.QH c) ∅]
def BE (S:RS):S.stand<=S.made:=by
 unfold RS.stand;rwa[agz List.countP_le_length (by cbv)]
noncomputable def Sw (R:Za2)(m L B f M:Nat)(e:Zg)(d:RS)(c:Ze)(S:RS)(a:Ze):Prop:=Good S a R/\S.made=m/\S.L=L/\⇑S.rows+ S.stand<=B/\⇑S.aZ+ S.stand<=f/\mu ⇑e S a<=M/\∀b,j2 S a b->j2 d c b
theorem KW {M:Nat}{r:Ze}(p:∀a z b,R a z b->z∈l)(J:m<=100000)(s:⇑l<=100000)(N:i<=1000000)(L:j<=1000000)(I:M<=1000000)(S:RS)(pend:Ze)(w:Way)(h:Sw R m n i j M l T r S (pend++[w])):
 wu S/\w.1<S.made/\w.2.2<S.made/\⇑pend<=1000000/\Sw R m n i j M l T r (S.takeIn pend w).1 (S.takeIn pend w).2/\mu ⇑l (S.takeIn pend w).1 (S.takeIn pend w).2<mu ⇑l S (pend++[w]):=by
 let⟨g,D,v,E,H,o,t⟩:=h;let⟨F,G,u,B,q⟩:=g.take p;let hw:=g.pl w (agr _ agA);rwa[⟨yR g p ∅ s ∅ ∅,hw.1,hw.2,5,⟨F,by rw[u,D],by rw[B,v],553,λC d=>t C (.take d)⟩,G⟩]
 ·unfold mu at o;rw[agk]at o;ext
 ·rcases q with ⟨e,k,f⟩|⟨e,c,z,x,y,_,_,_,_,_,k,f,_⟩
  ·rw[e,k];rwa[E]
  ·rw[k,agk];have:⇑([fq c z (min x y) (max x y)]:List Dt)=1:=rfl;ext
 ·rcases q with ⟨e,k,f⟩|⟨e,c,z,x,y,_,_,_,_,_,k,f,_⟩
  ·rw[e,f];rwa[H]
  ·rw[f,agk];have:⇑([max x y]:Zh)=1:=rfl;ext
def hO:z∈bq (2* n)↔z≠0/\z.natAbs<=n:=by
 unfold bq;rw[ahc];constructor
 ·rintro ⟨i,a,rfl⟩;rwa[M12.zA (ahl.mp a)]
 ·rintro ⟨d,c⟩;by_cases b:0<z
  ·erw[2* (z.toNat - 1),ahl.mpr ∅];unfold M12.st;rw[agI ∅];ext
  ·erw[2* (z.natAbs - 1)+ 1,ahl.mpr ∅];unfold M12.st;rw[agF ∅];ext
structure iM (CR:Zs) (H:Hp) (r:Zs) (S:RS) (a:RA) (R:Za2) (ks:Zg) (B:Nat):Prop where
 at_:ay CR H r S a
 g:Good S [] R
 w:gN S
 k:∀a z b,R a z b->z∈ks
 m:S.made<=2000
 l:⇑ks<=400
 rb:⇑S.rows+ S.stand<=B
 wb:⇑S.aZ+ S.stand<=900000
def iM.keep {CR:Zs}(h:iM CR H a S O R l n)(k:∀b o,O.own a b->H b\o->I b\o)(d:∀b c,H b\.tup c->I b\.tup c):iM CR I a S O R l n:=⟨h.at_.keep k d,h.g,h.w,h.k,h.m,h.l,h.rb,h.wb⟩
def iM.same {CR:Zs}(h:iM CR H a S O R l n)(s:aq H I):iM CR I a S O R l n:=h.keep (λb o _ e=>s^e) (λb o e=>s^e)
def xQ (h:ay a H b S O){c:Zs}{f:List (Zd×V)}(e:H c\.dT f):¬O.own b c:=λz=>by
 rcases z with z|z|z
 ·rw[z,h.ins]at e;ext e
 ·let⟨d,q⟩:=h.Lv z;cbv
 ·let⟨d,q⟩:=h.qe z;cbv
def KY (w:Nat)(p:Zh)(k:Nat)(h:⇑p<=100000):lZ (jr w p k):=by
 rwa[.t (by show 4<=100000;decide) λd a=>?_]
 simp only[agB,ag4,ait]at a;rcases a with rfl|rfl|rfl|rfl
 ·rwa[.s]
 ·rwa[.i]
 ·rwa[.t (by rw[agm];rwa[h]) λd a=>?_]
  let⟨c,_,rfl⟩:=ahc.mp a;rwa[.i]
 ·rwa[.i]
inductive Ii (CR CG CC:Zs) (vs:Zb) (H:Hp) (Q:VK) (E_:XK):Prop
 |mk (x r p dx wa:Zs) (c:KA) (S:RS) (a:RA) (R:Za2) (ks:Zg) (B:Nat) (ws:Za3) (nr:Nat) (bs:List (Nat×Zg×Nat)) (gs:Zf) (ag:Zh) (W:bG) (fp:List (Zg×Nat)) (O:Zs->Prop) (n:Nat) (g:Gg):vs=[↑x,↑p]->cw CG CC H x r c gs ag W ⇑S.aZ fp O->iM CR H r S a R ks B->B<900000->(∀b,a.own r b->¬O b)->CI S bs gs ag W fM (some n)->gs[n]?\none->bs[n]?\(g.which,g.word,g.start)->dU CG H p dx wa g->¬O p->¬a.own r p->GI S g->g.first=g.last->S.ax g.start=g.start->S.ax g.front=g.front->S.ax g.bx=g.bx->ws[g.which]?\g.word->(g.which<nr\/g.start=0)->(∀z∈g.word,z∈ks/\-z∈ks)->⇑g.word<=1000->⇑ag+ 2* ⇑gs<=1000000->(∀S' a' R' iL W' H',(∀b o,¬O b->¬a.own r b->H b\o->H' b\o)->cw CG CC H' x r c gs iL W' ⇑S'.aZ fp O->iM CR H' r S' a' R' ks (B+ 1)->(∀b,a'.own r b->a.own r b\/H b=none)->CI S' bs gs iL W' fM none->⇑iL<=⇑ag+ 2* ⇑gs->(∀a z b,R a z b->R' a z b)->S'.made=S.made->S'.L=S.L->Tr ws nr S S'->Q .non H')->Ii CR CG CC vs H Q E_
def xR (T:Txt K mg A):T.nK.Ok mg P w base 6 (Ii A.az A.aJ A.aD):=by
 rwa[T.nK.on oQ (λcC AA outer s H vs Q E U h=>?_)]
 ·let⟨x,r,p,t,wa,c,S,a,R,ks,B,ws,nr,bs,I,ag,W,fp,O,n,g,rfl,Z,f,hB,dj,ci,WQ,Ij,v,npO,npo,i,F,es,ef,er,Ea,hnr,hks,Bz,L,k⟩:=h
  refine⟨_,(ai (bI 2 oQ.nd (aY bU (aH (pv 1) rfl) (aH (pv 1) rfl) (λ_ _=>rfl)))
   (ai (bD (aX eB (pm (aH (pv 0) rfl) (aI T) T.ik (hM T) U (ae (aH (pv 1) rfl) (ae (pv 2) aj))) (aH (pv 1) rfl) (bf _))
    (au wQ)
    bp)
   (ai (aV (pm (aH (pv 0) rfl) (aI T) T.rP (Bu T) U (ae (aH (pv 1) rfl) (ae (pv 2) (ae (aH (pv 1) rfl) (ae (pm (pv 1) (aU T) T.rO (By T) U (ae (aH (pv 0) rfl) aj)) aj))))))
   (ai (aV (pm (pv 0) (aK T) T.eT (fH T) U (ae (aH (pv 1) rfl) (ae (pv 2) aj))))
   (ai (aV (pm (pv 0) (aK T) T.eT (fH T) U (ae (aH (pv 1) rfl) (ae (fy dO (pv 2)) aj))))
   (au (aV (vA (pv 0) (aK T) T.mG (wA T) U)))))))),?_⟩
  rwa[pF ?_];intro qy oS jP fS gy;let hz:=Gg.qh (g:=g) ([F]▸i.ll);let qh:jE (ao g.word) (g.first:Int)\(.int g.z1):=bO (bW hz);let gd:=f.g;erw[12,p,_,t,112,v.ins,aU T,T.jx,j6 _ _,12,p,_,t,112,v.ins,aU T,T.eU,gQ _ _,wa,11,.int g.z1,22,bA.of v.wo,qh];erw[12,x,_,c.dx,112,Z.ins,aK T,T.eV,fQ^_,r,a.dx,12,f.at_.ins,cK _ _ _ ⋯,12,p,_,t,112,v.ins,aU T,T.gO,j7 _ _,12,r,S,a,g.front,g.z1,2,f.at_,[gd.wf.w]▸i.f,12,p,_,t,112,v.ins,aU T,T.hJ,j8 _ _]
  let fin:S.by g.front g.z1=some g.bx->Q .non H:=λj=>by
   rwa[k S a R ag W H (λ_ _ _ _ e=>e) Z ⟨f.at_,f.g,f.w,f.k,f.m,f.l,by have:=f.rb;ext,f.wb⟩ (λb z=>.inl z) (ci.done WQ λb eb=>?_) ∅ (λ_ _ _ z=>z) rfl rfl (.refl S)];rw[Ij]at eb;obtain rfl:=Za0 eb;rwa[.inr (i.whole F es ef er j)]
  by_cases j:S.by g.front g.z1=some g.bx
  ·rw[j];erw[212];rwa[bS (λ_=>fin j) (λz=>absurd (agW rfl) z)]
  let N:I7 (((S.by g.front g.z1).map λn:Nat=>V.int (n:Int)).getD .non) (.int (g.bx:Int))=true/\decide ((((S.by g.front g.z1).map λn:Nat=>V.int (n:Int)).getD .non)=V.int (g.bx:Int))=false:=by
   cases q:S.by g.front g.z1 with
   |none=>rwa[2,ahm f!""]
   |some d=>rwa[2,ahm (λz=>j (by rw[q];have:=V.int.inj z;congr 1;omega))]
  erw[N.1,12];rw[N.2];rwa[dP ?_];clear fin N;rwa[⟨12,x,_,c.dx,112,Z.ins,aK T,T.eV,fQ^_,r,a.dx,12,f.at_.ins,cK _ _ _ ⋯,12,p,_,t,112,v.ins,aU T,T.gO,j7 _ _,1212,p,_,t,112,v.ins,aU T,T.hJ,j8 _ _,12,p,t,12,v.ins,Ml ⋯,12,x,_,c.dx,112,Z.ins,aK T,T.eV,fQ^_,p,t,wa,r,g,S,a,R,2,v,f.at_,gd,i.s,i.r,i.ll,Bz,λq H1 s1 dt=>?_⟩];let lx:=oW (by_:=S.by) (ws:=g.word.take g.first) (r:=g.start);let ly:=oW (by_:=S.by) (ws:=g.word.drop (g.last+ 1)) (r:=g.bx);rw[agV]at lx;rw[ahh]at ly;let f1:=i.wf;let f2:=i.wr;rw[es,ef]at f1;rw[es,er,<-F]at f2;rw[<-F]at dt ly;let ra:Av ws nr S g.which g.word g.start g.first g.front g.bx g.z1:=⟨Ea,hnr,⟨i.s,es⟩,hz,f1,f2,⟨i.f,ef⟩,⟨i.r,er⟩,j⟩
  let C:∀a y b,fL R g.front g.z1 g.bx a y b->y∈ks:=by
   have:=hks g.z1 (agh hz);rintro a y b (z|⟨_,e,_⟩|⟨_,e,_⟩)
   ·rwa[f.k _ _ _ z]
   ·rw[e];rwa[this.1]
   ·rw[e];rwa[this.2]
  let stl:=BE S
  let Mj:mu ⇑ks (pJ S g.which g.word g.start g.first g.bx) [(g.front,g.z1,g.bx)]<=1000000:=by
   unfold mu;let h1:(pJ S g.which g.word g.start g.first g.bx).stand=S.stand:=rfl;have:S.stand* (⇑ks+ 1)<=2000* 401:=ajl (by have:=f.m;omega) (by have:=f.l;omega);rw[h1];show S.stand* (⇑ks+ 1)+ 1<=_;ext
  let gl:=gd.lay g.z1 i.f i.r (pJ S g.which g.word g.start g.first g.bx).rows;rwa[⟨r,q,S,a,g.front,g.bx,g.z1,_,Sw (fL R g.front g.z1 g.bx) S.made S.L (B+ 1) 900000 1000000 ks (pJ S g.which g.word g.start g.first g.bx) [(g.front,g.z1,g.bx)],mu ⇑ks,2,f.at_.same s1,by have:=f.rb;ext,dt,KY _ _ _ (by rw[agk,agL,agL];omega),⟨gl,225,f.wb,Mj,λ_ z=>z⟩,KW C (by have:=f.m;omega) (by have:=f.l;omega) ∅ ⋯ ⋯,λu a' H2 b2 h2 i2 o2=>?_⟩]
  ·show ⇑(S.rows++[_])+ S.stand<=_;rw[agk];have:=f.rb;show _+ 1+ _<=_;ext
  let⟨g2,em,eL,rb2,wb2,_,re⟩:=i2;let lay:=re u (.nil u);let⟨_,w2,_,_,l,el⟩:=lay.all gl C (⟨f.w.a,f.w.b,f.w.c⟩:gN (pJ S g.which g.word g.start g.first g.bx));let el:u.aZ=S.aZ++l:=el;let D:∀b o,¬a.own r b->H b\o->H2 b\o:=λb o nb e=>b2 b o nb (s1^e)
  let WR:∀b,a'.own r b->a.own r b\/H b=none:=λb z=>(o2 b z).imp id (same_none s1)
  let M:∀b,a'.own r b->¬O b:=λb z y=>by
   rcases WR b z with q|q
   ·rwa[dj b q y]
   ·let⟨o,e,_⟩:=Z.th b y;cbv
  let X:cw A.aJ A.aD H2 x r c I ag W ⇑S.aZ fp O:=Z.keep (λb o j e=>D b o (λz=>dj b z j) e) (λb xs e=>D b _ (f.at_.sR e) e);let p2:dU A.aJ H2 p t wa g:=⟨D _ _ npo v.ins,D _ _ (f.at_.sR v.wo) v.wo⟩;let lt:=Later.of gd g2 i9 (ajr em.symm)
  let BF:=ci.lay WQ gd g2 em f.w w2 el i.f ef i.r er λb eb=>by
   rw[Ij]at eb;obtain rfl:=Za0 eb;show u.ax g.start≠g.start\/wk u.by g.start g.word=some g.start;by_cases Y:u.ax g.start=g.start
   ·right
    let h1:=lt.wk f1;let h3:=lt.wk f2;let hbb:=g2.qY.mpr ⟨g.front,g.bx,pE,22⟩;rw[Y]at h1 h3;have:g.word=g.word.take g.first++(g.z1::g.word.drop (g.first+ 1)):=by rw[<-drop_cons hz,ajd]
    rw[this,vq h1,j1 hbb];rwa[h3]
   ·rwa[.inl Y]
  let Ik:kQ A.aJ A.aD u bs I W _ (⇑ag+ 2* ⇑I) x r c ⇑S.aZ fp O H2 ag W:=⟨X,BF,λ_ _ _ z=>z,by have:=BF.two;ext⟩;rwa[⟨12,x,c.dx,12,X.ins,fe ⋯,12,p,_,t,112,p2.ins,aU T,T.gO,j7 _ _,12,x,r,c,I,ag,W,⇑S.aZ,fp,O,g.front,g.z1,2,X,Ik.fits L,λns H3 b3 nd hn c3=>?_⟩];let WT:=Ik.wake nd hn c3;let p3:dU A.aJ H3 p t wa g:=⟨b3 _ _ npO p2.ins,b3 _ _ (X.i3 p2.wo) p2.wo⟩;rwa[⟨12,x,c.dx,12,c3.ins,fe ⋯,12,p,_,t,112,p3.ins,aU T,T.hJ,j8 _ _,1212,x,r,c,I,11,⇑S.aZ,fp,O,g.bx,-g.z1,2,c3,WT.fits L,λns2 H4 b4 nd2 WU c4=>?_⟩];let WV:=WT.wake nd2 WU c4;let G:Bt O H2 H4:=b3.trans b4 λb z=>.inl z
  let R4:ay A.az H4 r u a':=h2.keep (λb o j e=>G b o (M b j) e) (λb xs e=>G b _ (X.i3 e) e)
  let i4:CI u bs I (ag++ns++ns2) (gj (gj W g.front g.z1) g.bx (-g.z1)) (Mw u ⇑S.aZ) none:=WV.i.ex λr' s n' w U ex=>by
   let⟨w1,n1⟩:=df.mp w;let⟨w2,n2⟩:=df.mp w1;rcases ex with ⟨Y,e2⟩|⟨Y,e2⟩|⟨m,hm,e⟩
   ·rwa[absurd ⟨by rw[Y],e2⟩ n2]
   ·rwa[absurd ⟨by rw[Y],e2⟩ n1]
   ·rwa[.inr ⟨m,by cbv,e⟩]
  rwa[⟨_,rfl,x,c.dx,_,rfl,c4.ins,fe (by decide),x,r,c,u,a',_,bs,I,_,_,_,⇑S.aZ,fp,O,rfl,⟨c4,i4,λ_ _ _ z=>z,WV.b⟩,L,by rw[el,agk];ext,R4,g2,w2.c,M,λSx W5 H5 b5 h5=>?_⟩];let J:Bt O H2 H5:=G.trans b5 λb z=>.inl z
  rwa[k u a' _ Sx W5 H5 (λb o n1 n2 e=>J b o n1 (D b o n2 e)) h5.c ⟨h2.keep (λb o j e=>J b o (M b j) e) (λb xs e=>J b _ (X.i3 e) e),g2,w2,C,[em]▸f.m,f.l,rb2,wb2⟩ WR h5.i (by have:=h5.b;omega) i9 em eL (.step (.refl S) ra lay)]
def Vo {x:V}{A B:Prop}(h:x=q)(k:B):if (!decide (x=q))=true then A else B:=by cbv
section
variable {CG CC:Zs}{H H':Hp}{x r:Zs}{c:KA}{gs:Zf}{ag:Zh}{W:bG}{hd:Nat}{fp:List (Zg×Nat)}{O:Zs->Prop}{gv:Zb}{n:Nat}{p dx wa:Zs}{g g':Gg}
def cw.Vp (h:cw CG CC H x r c gs ag W hd fp O)(hG:H c.aG\.lst gv)(j:p6 CG H gv gs O)(I:gv[n]?\↑p)(N:O p)(q:dU CG H p dx wa g)(f:∀b o,b≠p->H b\o->H' b\o)(L:dU CG H' p dx wa g'):cw CG CC H' x r c (gs.set n (some g')) ag W hd fp O/\p6 CG H' gv (gs.set n (some g')) O:=by
 let kn:∀b o,(∀C d fs,o≠.ins C d fs)->H b\o->H' b\o:=λb o w e=>f b o (λz=>by rw[z,q.ins]at e;cbv) e
 let a:p6 CG H' gv (gs.set n (some g')) O:=by
  rwa[⟨[agK]▸j.l,λi v y l=>?_,λi v u y l=>?_,j.i⟩]
  ·rcases fA l with ⟨_,z⟩|⟨_,z⟩
   ·ext z
   ·rwa[j.n i v y z]
  ·rcases fA l with ⟨z1,z⟩|⟨z1,z⟩
   ·cbv
   ·let⟨F,t,s,e,B,J⟩:=j.s i v u y z;let G:F≠p:=λz=>z1 (j.i i n p (by cbv) I)
    rwa[F,t,s,e,⟨f _ _ G B.ins,kn _ _ (by cbv) B.wo⟩,J]
 rwa[⟨⟨f _ _ (BD h q).symm h.ins,⟨gv,kn _ _ (by cbv) hG,a⟩,kn _ _ (by cbv) h.hA,5,h.ne,h.ox,h.oG,h.oA,λb k=>?_⟩,a⟩]
 ·let⟨D,E,k1,k2⟩:=h.wt;rwa[D,E,k1.keep λb o k e=>by let⟨M,q⟩:=k1.there k;cbv,k2]
 ·by_cases e:b=p
  ·rwa[_,[e]▸L.ins,(by cbv),(by cbv),(by cbv),by cbv]
  ·let⟨o,q,m⟩:=h.th b k;rwa[o,f _ _ e q,m]
theorem cw.Eb (h:cw CG CC H x r c gs ag W hd fp O)(hG:H c.aG\.lst gv)(f:p6 CG H gv gs O)(M:gv[n]?\↑p)(q:dU CG H p dx wa g):cw CG CC (upd H c.aG (.lst (gv.set n .non))) x r c (gs.set n none) ag W hd fp (λb=>O b/\b≠p):=by
 let k:∀b o,b≠c.aG->H b\o->upd H c.aG (.lst (gv.set n .non)) b\o:=λb o n e=>by rw[ak n];rwa[e]
 let kn:∀b o,(∀s,o≠.lst s)->H b\o->upd H c.aG (.lst (gv.set n .non)) b\o:=λb o w e=>k b o (λz=>by cbv) e
 let I:∀{b s},H b\.lst s->b≠p:=λ{b s} e z=>by rw[z,q.ins]at e;ext e
 rwa[⟨kn _ _ (by cbv) h.ins,⟨_,ah,[agK,agK]▸f.l,λi v l d=>?_,λi v u l d=>?_,λi j R l d=>?_⟩,k _ _ h.ne.symm h.hA,5,h.ne,⟨h.ox,(BD h q).symm⟩,⟨h.oG,I hG⟩,⟨h.oA,I h.hA⟩,λb a=>?_⟩]
 ·rcases fA l with ⟨z1,z⟩|⟨z1,z⟩
  ·rwa[z]
  ·rcases fA d with ⟨t,_⟩|⟨_,y⟩
   ·rwa[absurd t z1]
   ·rwa[f.n i v z y]
 ·rcases fA d with ⟨_,z⟩|⟨z1,z⟩
  ·ext z
  ·rcases fA l with ⟨t,_⟩|⟨_,y⟩
   ·rwa[absurd t z1]
   ·let⟨G,C,B,e,F,N⟩:=f.s i v u y z;let L:G≠p:=λw=>z1 (f.i i n p (by cbv) M)
    rwa[G,C,B,e,⟨kn _ _ (by cbv) F.ins,kn _ _ (by cbv) F.wo⟩,N,L]
 ·rcases fA l with ⟨_,z⟩|⟨_,z⟩
  ·ext z
  ·rcases fA d with ⟨_,y⟩|⟨_,y⟩
   ·ext y
   ·rwa[f.i i j R z y]
 ·let⟨D,E,k1,k2⟩:=h.wt;rwa[⟨D,E,k1.keep λb o a e=>by let⟨Q,q⟩:=k1.there a;cbv,λb a=>⟨k2.o b a,λz=>?_⟩,k2.d,k2.e,k2.w⟩];let⟨Q,J⟩:=k1.there a;rw[z,q.ins]at J;ext J
 ·by_cases e:b=c.aG
  ·rwa[_,[e]▸ah,(by cbv),(by cbv),(by cbv),by cbv]
  ·let⟨o,q,m⟩:=h.th b a.1;rwa[o,k _ _ e q,m]
end
structure BG (ws:Za3) (nr:Nat) (ks:Zg) (bs:List (Nat×Zg×Nat)):Prop where
 w:∀b∈bs,ws[b.1]?\b.2.1
 n:∀b∈bs,b.1<nr\/b.2.2=0
 l:∀b∈bs,⇑b.2.1<=1000
 k:∀b∈bs,∀z∈b.2.1,z∈ks/\-z∈ks
 c:⇑bs<100000
def live (a:Zf):Nat:=a.countP (·.isSome)
def BH {a:Zf}{g:Gg}(h:a[n]?\some g):(∀u:Gg,live (a.set n (some u))=live a)/\live (a.set n none)+ 1=live a:=by
 unfold live
 induction a generalizing n with
 |nil=>simp at h
 |cons y r c=>
  cases n with
  |zero=>
   have:y\g:=by simpa using h
   subst this;simp[List.countP_cons]
  |succ n=>
   let⟨b,d⟩:=c (n:=n) (by simpa using h);simp only[List.set_cons_succ,List.countP_cons];rwa[λu=>by rw[b u],3]
inductive Il (CR CG CC:Zs) (vs:Zb) (H:Hp) (Q:VK) (E_:XK):Prop
 |mk (x r:Zs) (c:KA) (S:RS) (a:RA) (R:Za2) (ks:Zg) (B:Nat) (ws:Za3) (nr:Nat) (bs:List (Nat×Zg×Nat)) (gs:Zf) (ag:Zh) (W:bG) (fp:List (Zg×Nat)) (O:Zs->Prop) (n:Nat):vs=[↑x,.int n]->cw CG CC H x r c gs ag W ⇑S.aZ fp O->iM CR H r S a R ks B->B<900000->(∀b,a.own r b->¬O b)->CI S bs gs (ag++[n]) W fM none->BG ws nr ks bs->⇑ag+ 2* ⇑gs<=1000000->(∀S' a' R' iS iL W' O' B' H',(∀b o,¬O b->¬a.own r b->H b\o->H' b\o)->cw CG CC H' x r c iS iL W' ⇑S'.aZ fp O'->iM CR H' r S' a' R' ks B'->(∀b,a'.own r b->a.own r b\/H b=none)->(∀b,O' b->O b\/H b=none)->(∀b,a'.own r b->¬O' b)->CI S' bs iS iL W' fM none->(∀a z b,R a z b->R' a z b)->S'.made=S.made->S'.L=S.L->Tr ws nr S S'->(live iS=live gs/\⇑iL=⇑ag/\B'=B)\/(live iS+ 1=live gs/\⇑iL<=⇑ag+ 2* ⇑gs/\B'<=B+ 1)->Q .non H')->Il CR CG CC vs H Q E_
theorem uT (T:Txt K mg A):T.kY.Ok mg P w base 7 (Il A.az A.aJ A.aD):=by
 rwa[T.kY.on mK (λcC AA outer s H vs Q E hr h=>?_)]
 ·let⟨x,r,c,S,a,R,ks,B,ws,nr,bs,G,ag,W,fp,O,n,rfl,h,L,hB,dj,ci,m,WW,k⟩:=h
  refine⟨_,(ai (bI 2 mK.nd (aY bu (aH (pv 0) rfl) (pv 1) (λ_ _=>rfl)))
   (ai (bD (aX nU (pv 2) cO (bf _))
    (au wQ)
    bp)
   (ai (bD (aX jB (pm (aH (pv 0) rfl) (aI T) T.g9 (iH T) hr (ae (aH (pv 2) rfl) aj)) (aH (pv 2) rfl) (bf _))
    (ai (jA cO (nT (aH (pv 0) rfl) (pv 1) set_list))
    (au wQ))
    bp)
   (ai (aV (pm (pv 2) (aU T) T.kX (uR T) hr (ae (aH (pv 0) rfl) aj)))
   (au (bM (bD (aX sE (aH (pv 2) rfl) (aH (pv 2) rfl) (bf _))
    (ai (aV (pm (pv 0) (aK T) T.jM (ny T) hr (ae (pv 1) (ae (aH (pv 2) rfl) (ae (aY bU (aH (pv 2) rfl) (aH (pv 2) rfl) (λ_ _=>rfl)) aj)))))
    (au (aV (pm (pv 0) (aK T) T.jM (ny T) hr (ae (pv 1) (ae (aH (pv 2) rfl) (ae (fy dO (aY bU (aH (pv 2) rfl) (aH (pv 2) rfl) (λ_ _=>rfl))) aj)))))))
    (ai (jA cO (nT (aH (pv 0) rfl) (pv 1) set_list))
    (au (aV (pm (pv 0) (aK T) T.nK (xR T) hr (ae (pv 2) aj)))))))))))),?_⟩
  rwa[An ?_];intro oS jP fS gy;let J:n<⇑G:=ci.ab n (agr _ (ago.mpr rfl));let⟨F,hG,Z⟩:=h.hG;let hv:F[n]?\(F[n]'([Z.l]▸J)):=agl _
  generalize F[n]'(by cbv)=v at hv;let gd:=L.g;erw[12,x,_,c.dx,112,h.ins,aK T,T.jy,kP^_,12,c.aG,11,v,22,aF.of hG,bO hv];let f:G[n]?\(G[n]'J):=agl J
  generalize G[n]'J=og at f
  cases og with
  |none=>
   obtain rfl:=Z.n n v hv f;rwa[⟨12212,jF ?_⟩];rwa[k S a R G ag W O B H (λ_ _ _ _ e=>e) h L (λb z=>.inl z) (λb z=>.inl z) dj (ci.pop.done f λb eb=>ci.de n b f (by cbv) eb) (λ_ _ _ z=>z) rfl rfl (.refl S) (.inl ⟨222⟩)]
  |some g=>
   let⟨p,i,wa,rfl,U,op⟩:=Z.s n v g hv f;let⟨Ij,gi,_⟩:=ci.al n g f;let D:=agh Ij;let Bz:⇑g.word<=1000:=m.l _ D;let V:¬a.own r p:=λz=>dj p z op
   rwa[⟨12212,dP ?_⟩];erw[12,x,_,c.dx,112,h.ins,aK T,T.eV,fQ^_,r,a.dx,12,L.at_.ins,cK _ _ _ ⋯,12,p,_,i,112,U.ins,aU T,T.pY,uQ _ _,r,S,a,g.start,S.ax g.start,2,L.at_,oV ([gd.wf.e]▸gi.s),12,p,_,i,112,U.ins,aU T,T.pY,uQ _ _,212];let Y:∀b,a.own r b->¬(O b/\b≠p):=λb z y=>dj b z y.1
   by_cases es:S.ax g.start=g.start
   ·rwa[Vo (by rw[es]) ?_];rwa[⟨12,p,i,12,U.ins,Ml ⋯,12,x,_,c.dx,112,h.ins,aK T,T.eV,fQ^_,p,i,wa,r,g,S,a,R,2,U,L.at_,gd,gi,V,Bz,λd j f1 l ad=>?_⟩];let R1:iM A.az j r S a R ks B:=L.keep (λb o hb e=>f1 b o (λz=>V (z ▸ hb)) e) (λb xs e=>f1 b _ (bZ e U.ins (by cbv)) e);let⟨c1,gs1⟩:=h.Vp hG Z hv op U f1 l;let WX:j c.aG\(.lst F):=f1 _ _ (bZ hG U.ins (by cbv)) hG;let t:=ad.gi;let WK:=t.ll;let Mx:=t.fl;let YR:⇑d.word<=1000:=by rw[ad.wo];rwa[Bz]
    let z1:=Gg.qh (g:=d) ∅;let z2:=Gg.at2 (g:=d) WK;let ae4:(G.set n (some d))[n]?\(some d):=ag9 J
    let lv:=BH f;let lm:=L.m;rwa[⟨λ_ H'=>Q .non H',5,λ_ _ q=>q⟩];erw[12,p,_,i,112,l.ins,aU T,T.eU,gQ _ _,12,p,_,i,112,l.ins,aU T,T.iG,j9 _ _,112212];rwa[bS (λq=>?_) (λq=>?_)]
    ·let q:(d.first:Int)<(d.last:Int):=agU q;let bw:∀z∈d.word,-1000<=z/\z<=1000:=λz hz=>ci.bd _ D z (by rw[<-ad.wo];rwa[hz])
     let b1:=bw _ (agh z1);let b2:=bw _ (agh z2);let hf:=t.f;let hrr:=t.r;let WY:n<100000:=by have:=ci.len;have:=m.c;ext
     rwa[⟨12,x,c.dx,12,c1.ins,fe ⋯,1212,p,_,i,112,l.ins,aU T,T.gO,j7 _ _,12,p,_,i,112,l.ins,aU T,T.jx,j6 _ _,12,p,_,i,112,l.ins,aU T,T.eU,gQ _ _,wa,11,.int d.z1,22,bA.of l.wo,bO (bW z1),x,r,c,_,ag,W,⇑S.aZ,fp,O,n,d.front,d.z1,2,c1,3,WY,b1,λO2 H2 WZ f2 My BI u=>?_⟩];let M:dU A.aJ H2 p i wa d:=⟨f2 _ _ (by cbv) l.ins,f2 _ _ (by cbv) l.wo⟩;rwa[⟨12,x,c.dx,12,u.ins,fe ⋯,1212,p,_,i,112,M.ins,aU T,T.hJ,j8 _ _,12,p,_,i,112,M.ins,aU T,T.jx,j6 _ _,12,p,_,i,112,M.ins,aU T,T.iG,j9 _ _,wa,11,.int (-d.z2),22,bA.of M.wo,bO (bW z2),12,x,r,c,_,ag,_,⇑S.aZ,fp,O2,n,d.bx,d.z2,(by cbv),u,3,WY,3,λO3 H3 bt3 f3 W6 nw3 c3=>?_⟩]
     let YT:∀b,O3 b->O b\/j b=none:=λb z=>by
      rcases nw3 b z with y|y
      ·rwa[BI b y]
      ·by_cases w:O b
       ·rwa[.inl w]
       ·rwa[.inr ?_]
        cases e:j b with
        |none=>rfl
        |some o=>rw[WZ b o w e]at y;ext y
     let nw:∀b,O3 b->O b\/H b=none:=λb z=>by
      rcases YT b z with y|y
      ·rwa[.inl y]
      ·by_cases w:b=p
       ·cbv
       ·rwa[.inr ?_]
        cases e:H b with
        |none=>rfl
        |some o=>rw[f1 b o w e]at y;ext y
     let C:Bt O j H3:=WZ.trans bt3 BI
     let dj3:∀b,a.own r b->¬O3 b:=λb z y=>by
      rcases nw b y with w|w
      ·rwa[dj b z w]
      ·let⟨o,e⟩:=L.at_.there z;cbv
     rwa[k S a R _ ag _ O3 B H3 (λb o I _ e=>C b o I (f1 b o (λz=>I ([z]▸op)) e)) c3 (R1.keep (λb o hb e=>C b o (dj b hb) e) (λb xs e=>C b _ (c1.i3 e) e)) (λb z=>.inl z) nw dj3 (ci.pop.waits f ad ∅) (λ_ _ _ z=>z) rfl rfl (.refl S) (.inl ⟨lv.1 d,22⟩)]
    ·let q:¬(d.first:Int)<(d.last:Int):=λz=>q (agW z)
     let efl:d.first=d.last:=∅
     erw[12,x,_,c.dx,112,c1.ins,aK T,T.jy,kP^_,12,c.aG,11,n,22,WX,oU ([Z.l]▸J)];let u:=c1.Eb WX gs1 hv l;let kn:∀b o,(∀xs,o≠.lst xs)->j b\o->upd j c.aG (.lst (F.set n .non)) b\o:=λb o w e=>by rw[ak (λz=>by cbv)];rwa[e]
     let M:dU A.aJ (upd j c.aG (.lst (F.set n .non))) p i wa d:=⟨kn _ _ (by cbv) l.ins,kn _ _ (by cbv) l.wo⟩;let X:¬a.own r c.aG:=λz=>dj _ z h.oG
     let R2:iM A.az (upd j c.aG (.lst (F.set n .non))) r S a R ks B:=R1.keep (λb o hb e=>[ak (λz=>X (by cbv))]▸e) (λb xs e=>kn _ _ (by cbv) e);let ess:(G.set n (some d)).set n none=G.set n none:=List.set_set ..;rw[ess]at u;let Sy:∀b o,¬O b->H b\o->upd j c.aG (.lst (F.set n .non)) b\o:=λb o I e=>by rw[ak (λz=>I ([z]▸h.oG))];cbv
     let N:∀b,upd j c.aG (.lst (F.set n .non)) b=none->H b=none:=λb z=>by
      cases e:H b with
      |none=>rfl
      |some o=>
       by_cases w:O b
       ·by_cases y:b=p
        ·rw[y,M.ins]at z;ext z
        ·let⟨o2,e2,_⟩:=u.th b ⟨w,y⟩;cbv
       ·rw[Sy b o w e]at z;ext z
     generalize upd j c.aG (.lst (F.set n .non))=H2 at u M R2 Sy N ⊢;rwa[⟨12,x,c.dx,12,u.ins,fe ⋯,12,x,r,p,i,wa,c,S,a,R,ks,B,ws,nr,bs,G.set n none,ag,W,fp,_,n,d,2,u,R2,hB,Y,ci.pop.kill,ag9 J,by rw[Ij,ad.wh,ad.wo,ad.st],M,(λz=>z.2 rfl),V,t,efl,[ad.st]▸es,ad.ef,ad.er,[ad.wh,ad.wo]▸m.w _ D,[ad.wh,ad.st]▸m.n _ D,[ad.wo]▸m.k _ D,YR,[agK]▸WW,λS' a' R' iL W' H' f3 c3 R3 o3 Sz la rr em eL tr=>?_⟩];let o03:∀b,a'.own r b->a.own r b\/H b=none:=λb z=>(o3 b z).imp id (N b)
     rw[agK]at la;rwa[k S' a' R' _ iL W' _ (B+ 1) H' (λb o I n2 e=>f3 b o (λz=>I z.1) n2 (Sy b o I e)) c3 R3 o03 (λb z=>.inl z.1) (λb z y=>?_) Sz rr em eL tr (.inr ⟨lv.2,la,agp _⟩)];rcases o3 b z with w|w
     ·rwa[Y b w y]
     ·let⟨o2,e2,_⟩:=u.th b y;cbv
   ·rwa[bS (λ_=>?_) (λz=>absurd (by cbv) z)];erw[12,x,_,c.dx,112,h.ins,aK T,T.jy,kP^_,12,c.aG,11,n,22,hG,oU ([Z.l]▸J)];let u:=h.Eb hG Z hv U;let X:¬a.own r c.aG:=λz=>dj _ z h.oG
    rwa[k S a R _ ag W _ B _ (λb o I _ e=>[ak (λz=>I ([z]▸h.oG))]▸e) u (L.keep (λb o hb e=>[ak (λz=>X (by cbv))]▸e) (λb xs e=>[ak (λz=>by cbv)]▸e)) (λb z=>.inl z) (λb z=>.inl z.1) Y (ci.pop.kill.done (ag9 J) λb eb=>?_) (λ_ _ _ z=>z) rfl rfl (.refl S) (.inr ⟨(BH f).2,33⟩)]
    cbv
def _root_.Lake.L2.Tr.trans {ws:Za3}{c:RS}(h:Tr ws n S T)(k:Tr ws n T c):Tr ws n S c:=by
 induction k with
 |refl=>exact h
 |step _ a b d=>exact .step d a b
inductive BJ (CR CG CC:Zs) (vs:Zb) (H:Hp) (Q:VK) (E_:XK):Prop
 |mk (x r:Zs) (c:KA) (S:RS) (a:RA) (R:Za2) (ks:Zg) (B:Nat) (ws:Za3) (nr:Nat) (bs:List (Nat×Zg×Nat)) (gs:Zf) (ag:Zh) (W:bG) (fp:List (Zg×Nat)) (O:Zs->Prop):vs=[↑x]->cw CG CC H x r c gs ag W ⇑S.aZ fp O->iM CR H r S a R ks B->B+ live gs<900000->(∀b,a.own r b->¬O b)->CI S bs gs ag W fM none->BG ws nr ks bs->live gs* (2* ⇑bs+ 1)+ ⇑ag+ 2* ⇑bs<=1000000->(∀S' a' R' iS W' O' B' H',(∀b o,¬O b->¬a.own r b->H b\o->H' b\o)->cw CG CC H' x r c iS [] W' ⇑S'.aZ fp O'->iM CR H' r S' a' R' ks B'->(∀b,a'.own r b->a.own r b\/O b\/H b=none)->(∀b,O' b->O b\/a.own r b\/H b=none)->(∀b,a'.own r b->¬O' b)->CI S' bs iS [] W' fM none->(∀a z b,R a z b->R' a z b)->S'.made=S.made->S'.L=S.L->Tr ws nr S S'->B'+ live iS<=B+ live gs->Q .non H')->BJ CR CG CC vs H Q E_
def lu (T:Txt K mg A):T.iE.Ok mg P w base 8 (BJ A.az A.aJ A.aD):=by
 rwa[T.iE.on tm (λcC AA outer s H vs Q E hr h=>?_)]
 ·let⟨x,r,c,S,a,R,ks,B,ws,nr,bs,gs,ag,W,fp,O,rfl,h,hR,hB,dj,ci,hbs,hm,k⟩:=h
  refine⟨_,(au (bM (gJ agN (zL (aH (pv 0) rfl) (λ_=>rfl))
   (au (aV (pm (pv 0) (aK T) T.kY (uT T) hr (ae (Gj agw PySem.F.slot_list_pop PySem.F.type_list_pop Gk (aH (pv 0) rfl)) aj))))))),?_⟩
  let hgl:=ci.len;rwa[⟨λ_ H'=>Q .non H',5,λ_ _ q=>q⟩];erw[λm σ g=>∃j a2 R2 f d U F D,m=live f* (2* ⇑bs+ 1)+ ⇑d/\σ=#v[↑x]/\(∀b o,¬O b->¬a.own r b->H b\o->g b\o)/\cw A.aJ A.aD g x r c f d U ⇑j.aZ fp F/\iM A.az g r j a2 R2 ks D/\(∀b,a2.own r b->a.own r b\/O b\/H b=none)/\(∀b,F b->O b\/a.own r b\/H b=none)/\(∀b,a2.own r b->¬F b)/\CI j bs f d U fM none/\(∀a z b,R a z b->R2 a z b)/\j.made=S.made/\j.L=S.L/\Tr ws nr S j/\D+ live f<=B+ live gs/\live f* (2* ⇑bs+ 1)+ ⇑d+ 2* ⇑bs<=1000000,⟨_,S,a,R,gs,ag,W,O,B,22,λ_ _ _ _ e=>e,h,hR,λb z=>.inl z,λb z=>.inl z,dj,ci,λ_ _ _ z=>z,22,.refl S,agp _,hm⟩];rintro m σ g ⟨j,a2,R2,f,d,U,F,D,rfl,rfl,f2,i,r2,M,C,t,v,V,N,G,L,J,Mi⟩;erw[12,x,_,c.dx,112,i.ins,aK T,T.kM,nk^_,!(ao (nI d)).isEmpty,.inl ⟨_,aF.of i.hA,2⟩];by_cases l:d=[]
  ·subst l;rwa[dP ?_];rwa[k j a2 R2 f U F D g f2 i r2 M C t v V N G L J]
  ·let u:=aif l;generalize d.getLast l=n at u;generalize d.dropLast=pre at u;subst u;rw[show (!(ao (nI (pre++[n]))).isEmpty)=true by unfold ao nI;simp];rwa[jF ?_];erw[_,λ_ _ z=>z];erw[12,x,c.dx,12,i.ins,fe ⋯,12,x,_,c.dx,112,i.ins,aK T,T.kM,nk^_,.inl ⟨21,aF.of i.hA⟩,c.aA,_,.int (n:Int),22,i.hA,5]
   ·rw[aM,bV,agk];rwa[bW (fZ (by show (pre++[n])[⇑pre+ 1 - 1]?\n;rw[Nat.add_sub_cancel,agt (agp _),ah9];rfl))]
   let Sq:(ao (nI (pre++[n]))).dropLast=ao (nI pre):=by rw[ie,ints_app];rwa[List.dropLast_concat]
   rw[Sq];let c3:=i.agenda pre;let noA:¬a2.own r c.aA:=λz=>t _ z i.oA
   let Z:∀b o,b≠c.aA->g b\o->upd g c.aA (.lst (ao (nI pre))) b\o:=λb o Y e=>by rw[ak Y];rwa[e]
   let r3:iM A.az (upd g c.aA (.lst (ao (nI pre)))) r j a2 R2 ks D:=r2.keep (λb o hb e=>Z b o (λz=>noA (by cbv)) e) (λb xs e=>Z b _ (λz=>by rw[z,i.hA]at e;ext e) e)
   let I:∀b,upd g c.aA (.lst (ao (nI pre))) b=none->g b=none:=λb z=>by
    by_cases e:b=c.aA
    ·rw[e,ah]at z;ext z
    ·rw[ak e]at z;rwa[z]
   generalize upd g c.aA (.lst (ao (nI pre)))=H3 at c3 Z r3 I ⊢;let ln2:=v.len;rw[agk]at Mi;have:⇑([n]:Zh)=1:=rfl
   let th2:∀b,g b=none->a.own r b\/O b\/H b=none:=λb z=>by
    by_cases w:a.own r b
    ·rwa[.inl w]
    ·by_cases w2:O b
     ·rwa[.inr (.inl w2)]
     ·rwa[.inr (.inr ?_)]
      cases e:H b with
      |none=>rfl
      |some o=>rw[f2 b o w2 w e]at z;ext z
   rwa[⟨x,r,c,j,a2,R2,ks,D,ws,nr,bs,f,pre,U,fp,F,n,2,c3,r3,3,t,v,hbs,3,λS4 a4 R4 p X W4 O4 B4 H4 f4 c4 r4 ow4 oo4 dj4 Ec rr4 em4 eL4 tr4 ms=>?_⟩];let ow:∀b,a4.own r b->a.own r b\/O b\/H b=none:=λb z=>(ow4 b z).elim (M b) λw=>th2 b (I b w)
   let oo:∀b,O4 b->O b\/a.own r b\/H b=none:=λb z=>(oo4 b z).elim (C b) λw=>by
    cbv
   let y:B4+ live p<=B+ live gs/\live p* (2* ⇑bs+ 1)+ ⇑X<live f* (2* ⇑bs+ 1)+ ⇑(pre++[n]):=by
    rw[agk];rcases ms with ⟨e1,e2,e3⟩|⟨e1,e2,e3⟩
    ·rw[e1,e2,e3];rwa[J,3]
    ·rw[<-e1,aiT];rwa[33]
   rwa[⟨_,y.2,S4,a4,R4,p,X,W4,O4,B4,22,λb o Y n2 e=>?_,c4,r4,ow,oo,dj4,Ec,λa z b q=>rr4 _ _ _ (V _ _ _ q),em4.trans N,eL4.trans G,L.trans tr4,y.1,by have:=y.2;rw[agk]at this;ext⟩];rwa[f4 b o (λz=>?_) (λz=>?_) (Z b o (λz=>Y ?_) (f2 b o Y n2 e))]
   ·cbv
   ·cbv
   ·subst z;rcases C c.aA i.oA with w|w|w
    ·rwa[w]
    ·cbv
    cbv
theorem _root_.Lake.L2.CI.begin {bs:List (Nat×Zg×Nat)}{gs:Zf}{W:bG}{t:Nat->Int->Prop}(h:CI S bs gs B W t none){which m:Nat}{word:Zg}(D:word≠[])(l:m<S.made)(x:∀z∈word,-1000<=z/\z<=1000):CI S (bs++[(which,word,m)]) (gs++[some (yP which word m)]) (B++[⇑gs]) W t none:=by
 let E:=List.length_pos_iff.mpr D
 let old:∀{k:Nat} {y:Option Gg},(gs++[some (yP which word m)])[k]?\y->(k<⇑gs/\gs[k]?\y)\/(k=⇑gs/\y\yP which word m):=λ{k y} e=>by
  by_cases a:k<⇑gs
  ·rw[ags a]at e;rwa[.inl ⟨a,e⟩]
  ·rw[agt ∅]at e;have:=(agj.mp e).1;let f:k=⇑gs:=by simp at this;ext
   subst f;rw[ah9]at e;rwa[.inr ⟨2,(Za0 e).symm⟩]
 let c:∀{k:Nat},k<⇑gs->(bs++[(which,word,m)])[k]?=bs[k]?:=λ{k} a=>ags (by rw[<-h.len];rwa[a])
 rwa[⟨by rw[agk,agk,h.len];rfl,λk g e=>?_,λk b e G o=>?_,λk a=>?_,λr s k q=>?_,λk=>?_,λb n=>?_⟩]
 ·rcases old e with ⟨a,e⟩|⟨a,e⟩
  ·let⟨j,i,F⟩:=h.al k g e;rwa[[c a]▸j,i,F.imp (agJ _) id]
  ·ext e;rwa[⟨5,⟨agP _,by show ⇑word - 1<⇑word;ext,l,l,l,25⟩,.inl (agr _ (ago.mpr a))⟩]
   ·rw[agt ([a,h.len]▸agp _),a,h.len,ah9];rfl
   ·show wk S.by _ (word.drop (⇑word - 1+ 1))=_;rw[show ⇑word - 1+ 1=⇑word by ext,List.drop_length];rfl
 ·rcases old e with ⟨a,e⟩|⟨a,e⟩
  ·rw[c a]at o;rwa[h.de k b e G o]
  ·ext e
 ·rw[agk];rcases agv.mp a with q|q
  ·have:=h.ab k q;show k<_+ 1;ext
  ·rw[ago.mp q];show _<_+ 1;ext
 ·let⟨v,d,H,C,I,J,u⟩:=h.en r s k q;rwa[v,d,H,C,I,by rw[agk];show d<_+ 1;ext,u]
 ·by_cases a:k<⇑gs
  ·let⟨p,q,j,i⟩:=h.sl k;rwa[⟨p,q,j,λg e=>i g ?_⟩];rw[ags a]at e;rwa[e]
  ·rwa[⟨((yP which word m).front,(yP which word m).z1),((yP which word m).bx,(yP which word m).z2),λr s w=>?_,λg e=>?_⟩]
   ·let⟨_,d,_,e,_,E,_⟩:=h.en r s k w;ext
   cbv
 ·rcases agv.mp n with q|q
  ·rwa[h.bd b q]
  ·rw[ago.mp q];rwa[x]
def cw.Vq {x:Zs}{l:KA}{gs:Zf}{W:bG}{hd:Nat}{Q:List (Zg×Nat)}{O:Zs->Prop}{dx X:Zs}{g:Gg}(h:cw a b H x c l gs B W hd Q O)(hG:H l.aG\.lst L)(r:p6 a H L gs O)(np:H d=none)(s:aq H I)(q:dU a I d dx X g):cw a b (upd I l.aG (.lst (L++[↑d]))) x c l (gs++[some g]) B W hd Q (G7 O d):=by
 let k:∀f o,f≠l.aG->I f\o->upd I l.aG (.lst (L++[↑d])) f\o:=λf o n e=>by rw[ak n];rwa[e]
 let kn:∀f o,(∀Z,o≠.lst Z)->I f\o->upd I l.aG (.lst (L++[↑d])) f\o:=λf o w e=>k f o (λz=>by rw[z,s^hG]at e;cbv) e
 let fresh:∀(i:Nat),L[i]?≠some ↑d:=λi e=>by
  let t:i<⇑gs:=by rw[<-r.l];rwa[(agj.mp e).1]
  cases U:gs[i]? with
  |none=>cbv
  |some y=>
   cases y with
   |none=>cases r.n i _ e U
   |some u=>
    let⟨T,_,_,F,G,_⟩:=r.s i _ u e U;ext F;have:=G.ins;cbv
 let old:∀{i:Nat} {v:V},(L++[↑d])[i]?\v->(i<⇑L/\L[i]?\v)\/(i=⇑L/\v=↑d):=λ{i v} e=>by
  by_cases R:i<⇑L
  ·rw[ags R]at e;rwa[.inl ⟨R,e⟩]
  ·rw[agt ∅]at e;have:=(agj.mp e).1;let J:i=⇑L:=by simp at this;ext
   subst J;rw[ah9]at e;rwa[.inr ⟨2,(Za0 e).symm⟩]
 rwa[⟨kn _ _ (by cbv) (s^h.ins),⟨_,ah,by rw[agk,agk,r.l];rfl,λi v F p=>?_,λi v u F p=>?_,λi j p' F p=>?_⟩,k _ _ h.ne.symm (s^h.hA),5,h.ne,.inl h.ox,.inl h.oG,.inl h.oA,λf C=>?_⟩]
 ·rcases old F with ⟨t,e⟩|⟨t,e⟩
  ·rw[ags (by rw[<-r.l];rwa[t])]at p;rwa[r.n i v e p]
  ·rw[t,r.l,agt (agp _),ah9]at p;cases Za0 p
 ·rcases old F with ⟨t,e⟩|⟨t,e⟩
  ·rw[ags (by rw[<-r.l];rwa[t])]at p;let⟨T,N,M,e3,G,Y⟩:=r.s i v u e p;rwa[T,N,M,e3,⟨kn _ _ (by cbv) (s^G.ins),kn _ _ (by cbv) (s^G.wo)⟩,.inl Y]
  ·rw[t,r.l,agt (agp _),ah9]at p;cases Za0 p;rwa[d,dx,X,e,⟨kn _ _ (by cbv) q.ins,kn _ _ (by cbv) q.wo⟩,.inr rfl]
 ·rcases old F with ⟨t,e⟩|⟨t,e⟩
  ·rcases old p with ⟨hj,S⟩|⟨hj,S⟩
   ·rwa[r.i i j p' e S]
   cbv
  cbv
 ·let⟨D,E,k1,k2⟩:=h.wt;rwa[D,E,(k1.same s).keep λf o C e=>by let⟨kv,q⟩:=(k1.same s).there C;cbv,λf C=>.inl (k2.o f C),k2.d,k2.e,k2.w]
 ·rcases C with C|C
  ·by_cases e:f=l.aG
   ·rwa[⟨_,by rw[e];rwa[ah],(by cbv),(by cbv),(by cbv),by cbv⟩]
   ·let⟨o,q,m⟩:=h.th f C;rwa[o,k _ _ e (s^q),m]
  ·rw[C];rwa[_,kn _ _ (by cbv) q.ins,(by cbv),(by cbv),(by cbv),by cbv]
noncomputable def nz (b:Nat)(a:Zg)(m:Nat):List (Nat×Zg×Nat):=if a=[] then [] else [(b,a,m)]
inductive Ed (CR CG CC:Zs) (vs:Zb) (H:Hp) (Q:VK) (E_:XK):Prop
 |mk (x r wa:Zs) (c:KA) (S:RS) (bs:List (Nat×Zg×Nat)) (gs:Zf) (ag:Zh) (W:bG) (hd:Nat) (fp:List (Zg×Nat)) (O:Zs->Prop) (Ex:Nat->Int->Prop) (which m:Nat) (word:Zg):vs=[↑x,.int which,↑wa,.int m]->cw CG CC H x r c gs ag W hd fp O->CI S bs gs ag W Ex none->H wa\.tup (ao word)->⇑word<=1000->(∀z∈word,-1000<=z/\z<=1000)->m<S.made->⇑bs<100000->⇑ag<=⇑bs->(∀iS iL O' H',Bt O H H'->(∀b,O b->O' b)->(∀b,O' b->O b\/H b=none)->cw CG CC H' x r c iS iL W hd fp O'->CI S (bs++nz which word m) iS iL W Ex none->⇑iL<=⇑(bs++nz which word m)->Q .non H')->Ed CR CG CC vs H Q E_
def mO (T:Txt K mg A):T.iX.Ok mg P w base 3 (Ed A.az A.aJ A.aD):=by
 rwa[T.iX.on uM (λcC AA I s H vs Q E hr h=>?_)]
 ·let⟨x,r,X,c,S,bs,i,g,W,hd,fp,O,Ex,d,m,a,rfl,h,ci,j,D,F,hm,Z,N,k⟩:=h
  refine⟨_,(au (bM (bD (aX va (bF bH rfl T.eI aha (ae (pv 2) aj)) av (bf _))
   (ai (aV (cQ agw agG agH bP (aH (pv 0) rfl) (ae (bF bH rfl T.eI aha (ae (aH (pv 0) rfl) aj)) aj)))
   (au (aV (cQ agw agG agH bP (aH (pv 0) rfl) (ae (wW (uL T) (tE T) hr.Za5 rfl T.Oh T.gn.b .nil gk (ae (pv 1) (ae (pv 2) (ae (pv 3) aj)))) aj)))))
   bp))),?_⟩
  let hgl:=ci.len;rwa[⟨λ_ H'=>Q .non H',5,λ_ _ q=>q⟩];erw[12,X,12,.inr (bA.of j),112212];rwa[bS (λq=>?_) (λq=>?_)]
  ·let q:(0:Int)<(⇑(ao a):Int):=agU q;rw[aM]at q;let f:a≠[]:=λz=>by cbv
   let⟨gv,hG,hs⟩:=h.hG;erw[12,x,_,c.dx,112,h.ins,aK T,T.kM,nk^_,.inl ⟨21,aF.of h.hA⟩,12,x,_,c.dx,112,h.ins,aK T,T.jy,kP^_,c.aG,12,.inl (aF.of hG),c.aA,1122,h.hA,5]
   ·rw[aM,bV];rwa[agu (show ⇑g<=100000 by omega) ⋯]
   let ea:ao (nI g)++[V.int (⇑gv:Int)]=ao (nI (g++[⇑i])):=by rw[ie,ints_app,hs.l];rfl
   rw[ea];let B:=h.agenda (g++[⇑i]);let C:∀b o,b≠c.aA->H b\o->upd H c.aA (.lst (ao (nI (g++[⇑i])))) b\o:=λb o n e=>by rw[ak n];rwa[e]
   let Y:∀b,upd H c.aA (.lst (ao (nI (g++[⇑i])))) b=none->H b=none:=λb z=>by
    by_cases e:b=c.aA
    ·rw[e,ah]at z;ext z
    ·rw[ak e]at z;rwa[z]
   generalize upd H c.aA (.lst (ao (nI (g++[⇑i]))))=L at B C Y ⊢;let v:=C _ _ (bZ j h.hA (by cbv)) j;let⟨gv1,l,t⟩:=B.hG;rwa[⟨12,x,_,c.dx,112,B.ins,aK T,T.jy,kP^_,.inl ⟨21,aF.of l⟩,121212,λp R y G J=>?_⟩];let U:aq L (upd (upd L R (.own p)) p (.ins A.aJ R [])):=(aq.upd G).trans (aq.upd ([ak J.symm]▸y));rwa[⟨p,R,X,d,m,a,2,ah,U^v,3,D,λH3 f3 g3=>⟨25⟩⟩];let M:aq L H3:=λb o e=>f3 b o (U^e) (aw e y)
   erw[c.aG,1122,M^l,([t.l]▸agu (show ⇑i<=100000 by omega) ⋯)];let u:nz d a m=[(d,a,m)]:=agF f;rwa[k _ _ (G7 O p) _ (λb o n e=>?_) (λb z=>.inl z) (λb z=>z.imp id λw=>[w]▸Y p y) (B.Vq l t y M g3) ([u]▸ci.begin f hm F) (by rw[u,agk,agk];show _+ 1<=_+ 1;omega)];rw[ak (λz=>n ([z]▸h.oG))];rwa[M^(C b o (λz=>n ([z]▸h.oA)) e)]
  ·let q:¬(0:Int)<(⇑(ao a):Int):=λz=>q (agW z)
   rw[aM]at q;let f:a=[]:=List.length_eq_zero_iff.mp ∅;let u:nz d a m=[]:=agI f;rwa[k i g O H (λ_ _ _ e=>e) (λb z=>z) (λb z=>.inl z) h ([u,agQ]▸ci) ([u,agQ]▸N)]
def gB (a:List (Zg×Nat))(m:Nat):List (Nat×Zg×Nat):=a.flatMap λp=>nz p.2 p.1 m
def Mz (w:Nat)(u:Zg)(m:Nat):⇑(nz w u m)<=1:=by
 unfold nz;split
 ·rwa[agP _]
 ·rwa[agp _]
theorem p7 (m:Nat):∀a:List (Zg×Nat),⇑(gB a m)<=⇑a
 |[]=>agp _
 |p::l=>by
  have:=p7 m l;have:=Mz p.2 p.1 m;unfold gB at *;rw[List.flatMap_cons,agk,agL];ext
def Io {a:List (Zg×Nat)}{p:Zg×Nat}(h:a[i]?\p)(m:Nat):gB (a.take (i+ 1)) m=gB (a.take i) m++nz p.2 p.1 m:=by
 unfold gB;rw[aij,h,ajo];show _++(nz p.2 p.1 m++[])=_;rw[agQ]
def SD {a:List (Zg×Nat)}{b:Zd×V}(h:(iK a)[i]?\b):∃p,a[i]?\p/\b=(p.1.map Sum.inl,.int p.2):=by
 unfold iK at h
 cbv
inductive Ip (CR CG CC:Zs) (vs:Zb) (H:Hp) (Q:VK) (E_:XK):Prop
 |mk (x r:Zs) (c:KA) (S:RS) (bs:List (Nat×Zg×Nat)) (gs:Zf) (ag:Zh) (W:bG) (hd:Nat) (fp:List (Zg×Nat)) (O:Zs->Prop) (Ex:Nat->Int->Prop) (m:Nat):vs=[↑x,.int m]->cw CG CC H x r c gs ag W hd fp O->H c.aQ\.dT (iK fp)->CI S bs gs ag W Ex none->(∀p∈fp,⇑p.1<=1000/\∀z∈p.1,-1000<=z/\z<=1000)->m<S.made->⇑bs+ ⇑fp<100000->⇑ag<=⇑bs->(∀iS iL O' H',Bt O H H'->(∀b,O b->O' b)->(∀b,O' b->O b\/H b=none)->cw CG CC H' x r c iS iL W hd fp O'->CI S (bs++gB fp m) iS iL W Ex none->⇑iL<=⇑(bs++gB fp m)->Q .non H')->Ip CR CG CC vs H Q E_
def iT (T:Txt K mg A):T.eZ.Ok mg P w base 4 (Ip A.az A.aJ A.aD):=by
 rwa[T.eZ.on fP (λcC AA outer s H vs Q E hr h=>?_)]
 ·let⟨x,r,c,S,bs,gs,ag,W,hd,f,O,Ex,m,rfl,h,I,ci,hfp,hm,Ee,SF,k⟩:=h
  refine⟨_,(au (Dx (cS agN rfl (UU (aH (pv 0) rfl)) (ku rfl (cG (dA 2 fP.nd) (cG (dA 3 fP.nd) jh)))
   (au (aV (pm (pv 0) (aK T) T.iX (mO T) hr (ae (pv 3) (ae (pv 2) (ae (pv 1) aj))))))))),?_⟩
  let Z:¬O c.aQ:=h.Ic I;let nxQ:x≠c.aQ:=bZ h.ins I (by cbv);rwa[⟨c.aQ,_,I,trivial,12,x,_,c.dx,112,h.ins,aK T,T.Ba,KR^_,c.aQ,iK f,2,I,λN=>?_⟩];let k0:∀b o,b≠c.aQ->H b\o->upd H c.aQ (.cR N (.dT (iK f))) b\o:=λb o n e=>by rw[ak n];rwa[e]
  let h0:cw A.aJ A.aD (upd H c.aQ (.cR N (.dT (iK f)))) x r c gs ag W hd f O:=h.keep (λb o R e=>k0 b o (λz=>Z (by cbv)) e) (λb xs e=>k0 b _ (bZ e I (by cbv)) e)
  refine QK (d:=c.aQ) (o:=N) (kvs:=iK f) (λi X B=>∃g a v v2 v3,X=#v[↑x,.int (m:Int),v2,v3]/\B c.aQ\.cR N (.dT (iK f))/\(∀b o,b≠c.aQ->¬O b->H b\o->B b\o)/\(∀b,O b->v b)/\(∀b,v b->O b\/H b=none)/\cw A.aJ A.aD B x r c g a W hd f v/\CI S (bs++gB (f.take i) m) g a W Ex none/\⇑a<=⇑(bs++gB (f.take i) m))
   ⟨gs,ag,O,none,none,2,ah,λb o n _ e=>k0 b o n e,λb z=>z,λb z=>.inl z,h0,by rw[List.take_zero];show CI S (bs++[]) _ _ _ _ _;rw[agQ];rwa[ci],by cbv⟩ (λi X B _ q0=>by let⟨_,_,_,_,_,_,q,_⟩:=q0;rwa[q]) ?_ ?_
  ·rintro i kv X B t kp hkv nt D ⟨g,a,v,v2,v3,rfl,U,V,C,j,c5,u,l⟩;let⟨p,hp,rfl⟩:=SD hkv;let hi:=(agj.mp hp).1
   replace D:B kp\(.tup (ao p.1)):=by
    rw[D];show some (HO.tup (((p.1.map (Sum.inl:Int->Key)).map kV)))=_;rw[ag6];rfl
   let F:=aq.upd (o:=.tup [↑kp,.int (p.2:Int)]) nt;erw[t,12,bA.of ah,21121122];generalize upd B t (.tup [↑kp,.int (p.2:Int)])=H6 at F ⊢;let R:=hfp p (agh hp);let bl:=p7 m (f.take i);rw[agV]at bl;let c6:=c5.same F;rwa[⟨12,x,c.dx,12,c6.ins,fe ⋯,121212,x,r,kp,c,S,_,g,a,W,hd,f,v,Ex,p.2,m,p.1,2,c6,u,F^D,R.1,R.2,hm,by rw[agk];ext,l,λY ag7 O7 H7 M le7 nw7 c7 J L=>?_⟩];let G:¬v c.aQ:=λz=>(j _ z).elim Z λq=>by cbv
   rw[ahe,<-Io hp]at J L;rwa[⟨Y,ag7,O7,112,M _ _ G (F^U),λb o n1 n2 e=>M b o (λz=>(j b z).elim n2 λq=>by cbv) (F^V b o n1 n2 e),λb z=>le7 b (C b z),λb z=>?_,c7,J,L⟩];rcases nw7 b z with w|w
   ·rwa[j b w]
   ·by_cases y:O b
    ·rwa[.inl y]
    ·rwa[.inr ?_]
     cases e:H b with
     |none=>rfl
     |some o=>
      by_cases y2:b=c.aQ
      ·rw[y2,F^U]at w;ext w
      ·rw[F^V b o y2 y e]at w;ext w
  ·rintro X B ⟨g,a,v,v2,v3,rfl,U,V,C,j,c5,u,l⟩;rw[show ⇑(iK f)=⇑f by unfold iK;cbv,ahZ]at u l;let G:¬v c.aQ:=λz=>(j _ z).elim Z λq=>by cbv
   rwa[⟨N,U,k g a v _ (λb o n e=>?_) C j (c5.keep (λb o R e=>[ak (λz=>G (by cbv))]▸e) (λb xs e=>[ak (λz=>by cbv)]▸e)) u l⟩];by_cases z:b=c.aQ
   ·rw[z,ah,<-I,<-z];rwa[e]
   ·rw[ak z];rwa[V b o z n e]
noncomputable def MA (r:Zs):List (Str×V):=[("rooms",↑r)]
noncomputable def MB (r q:Zs):List (Str×V):=[("rooms",↑r),("rules",↑q)]
noncomputable def MC (r q g:Zs):List (Str×V):=[("rooms",↑r),("rules",↑q),("goings",↑g)]
noncomputable def MD (r q g e:Zs):List (Str×V):=[("rooms",↑r),("rules",↑q),("goings",↑g),("agenda",↑e)]
noncomputable def MF (r q g e w:Zs):List (Str×V):=[("rooms",↑r),("rules",↑q),("goings",↑g),("agenda",↑e),("waiting",↑w)]
noncomputable def SG (r q g e w:Zs)(n:Int):List (Str×V):=[("rooms",↑r),("rules",↑q),("goings",↑g),("agenda",↑e),("waiting",↑w),("heard",.int n)]
def cz2 (r q:Zs):bJ "rules" ↑q (MA r)=MB r q:=dE (by kernel_rfl)
def cz3 (r q g:Zs):bJ "goings" ↑g (MB r q)=MC r q g:=dE (by kernel_rfl)
def cz4 (r q g e:Zs):bJ "agenda" ↑e (MC r q g)=MD r q g e:=dE (by kernel_rfl)
def cz5 (r q g e w:Zs):bJ "waiting" ↑w (MD r q g e)=MF r q g e w:=dE (by kernel_rfl)
def cz6 (r q g e w:Zs)(n:Int):bJ "heard" (.int n) (MF r q g e w)=SG r q g e w n:=dE (by kernel_rfl)
def kat_nil {k:Zs}(h:H k\.dK []):dM H k (λ_=>none) (λ_ _=>none) (λ_ _ _=>false):=⟨⟨[],h,by simp,(λa z=>by ext z),λ_=>rfl⟩,(λ_ _ z=>by ext z),(λ_ _ _ z=>by ext z),(λ_ _ _ z=>by ext z),(λ_ _ _ z=>by ext z),(λ_ _ z=>by ext z),(λ_ _ _ z=>by ext z),(λ_ _ _ z=>by ext z),(λ_ _ _ _ z=>by ext z),(λ_ _ _ _ _ z=>by ext z)⟩
def dc (S:RS):Zh:=(List.range S.made).filter λc=>decide (S.aS[c]?\c)
def dw (a:List (Zg×Nat))(st:Zh):List (Nat×Zg×Nat):=st.flatMap λm=>gB a m
def fI (a:Za3)(b i:Nat):List (Nat×Zg×Nat):=(List.range i).flatMap λj=>nz (b+ j) (a.getD j []) 0
theorem lJ (a:List (Zg×Nat)):∀st:Zh,⇑(dw a st)<=⇑st* ⇑a
 |[]=>agP _
 |m::st=>by
  have:=lJ a st;have:=p7 m a;unfold dw at *;rw[List.flatMap_cons,agk,agL,aiT];ext
theorem sh (a:Za3)(b:Nat):∀i,⇑(fI a b i)<=i
 |0=>agp _
 |i+ 1=>by
  have:=sh a b i;have:=Mz (b+ i) (a.getD i []) 0;unfold fI at *;rw[ahD,ajo,agk];show _+ ⇑(nz _ _ 0++[])<=_;rw[agQ];ext
def si:bG:=λ_ _ _=>false
def SJ:CI S [] [] [] si fM none:=⟨2,(λn g e=>by simp at e),(λn b e=>by simp at e),(λn z=>by ext z),(λr s n z=>by ext z),λn=>⟨(0,0),(0,0),(λr s z=>by ext z),λg e=>by simp at e⟩,(λb z=>by ext z)⟩
inductive Iq (CR CG CC:Zs) (vs:Zb) (H:Hp) (Q:VK) (E_:XK):Prop
 |mk (x dx r ru pa:Zs) (S:RS) (a:RA) (R:Za2) (rs ps:Za3):vs=[↑x,↑r,↑ru,↑pa]->H x\.ins CC dx []->ay CR H r S a->Good S [] R->0<S.made->S.made<=2000->¬a.own r x->bR H ru rs->bR H pa ps->⇑rs<=400->⇑ps<=400->(∀u∈rs++ps,⇑u<=1000/\∀z∈u,-1000<=z/\z<=1000)->(∀fp,xP rs fp->S.made* ⇑fp+ ⇑ps<50000)->(∀c gs ag fp O H',(∀b o,H b\o->b≠x->H' b\o)->cw CG CC H' x r c gs ag si ⇑S.aZ fp O->H' c.aQ\.dT (iK fp)->(∀b,O b->b=x\/H b=none)->CI S (dw fp (dc S)++fI ps ⇑rs ⇑ps) gs ag si fM none->⇑ag<=⇑(dw fp (dc S)++fI ps ⇑rs ⇑ps)->xP rs fp->Q .non H')->Iq CR CG CC vs H Q E_
theorem qE (T:Txt K mg A):T.eS.Ok mg P w base 5 (Iq A.az A.aJ A.aD):=by
 rwa[T.eS.on e8 (λcC AA outer s H vs Q E hr h=>?_)]
 ·let⟨x,B,r,ru,pa,S,a,R,rs,ps,rfl,hx,hR,gd,hm0,hm,Ef,Ir,Iu,yN,kH,W7,BK,k⟩:=h
  refine⟨_,(ai (b8 (pv 0) (pv 1) rfl)
   (ai (b8 (pv 0) (pc T.mC (wz T) hr (ae (pv 2) aj)) rfl)
   (ai (b8 (pv 0) (b9 aj) rfl)
   (ai (b8 (pv 0) (b9 aj) rfl)
   (ai (b8 (pv 0) fK rfl)
   (ai (b8 (pv 0) (bF bH rfl T.eI aha (ae (aH (pv 1) rfl) aj)) rfl)
   (ai (cS agN rfl (cX (vA (pv 1) (aI T) T.eK (fX T) hr)) (dA 4 e8.nd)
    (au (aV (pm (pv 0) (aK T) T.eZ (iT T) hr (ae (pv 4) aj)))))
   (au (cS agN rfl (G6 rfl T.kl (pv 3) (bF bH rfl T.eI aha (ae (pv 2) aj))) (ku rfl (cG (dA 5 e8.nd) (cG (dA 6 e8.nd) jh)))
    (au (aV (pm (pv 0) (aK T) T.iX (mO T) hr (ae (pv 5) (ae (pv 6) (ae av aj))))))))))))))),?_⟩
  rwa[Ao ?_];intro L4 Bn qy oS jP fS gy;let⟨SK,MG,Eg⟩:=id Ir;let⟨J,MH,SM⟩:=id Iu
  let st:∀{H0:Hp} {fs gs:List (Str×V)},H0 x\.ins A.aD B fs->(∀b o,H b\o->b≠x->H0 b\o)->upd H0 x (.ins A.aD B gs) x\.ins A.aD B gs/\(∀b o,H b\o->b≠x->upd H0 x (.ins A.aD B gs) b\o)/\(∀b o,b≠x->H0 b\o->upd H0 x (.ins A.aD B gs) b\o)/\∀b,upd H0 x (.ins A.aD B gs) b=none->H0 b=none:=λ_ h=>⟨ah,λb o e n=>[ak n]▸h b o e n,λb o n e=>[ak n]▸e,λb z=>by
   by_cases e:b=x
   ·rw[e,ah]at z;ext z
   ·rw[ak e]at z;rwa[z]⟩
  let o0:∀b o,H b\o->b≠x->H b\o:=λb o e _=>e
  let SN:ru≠x:=bZ MG hx (by cbv);let SQ:pa≠x:=bZ MH hx (by cbv);erw[1212,x,_,B,12,hx,aK T,T.eV,(by show 0<1000;decide)];rw[show bJ "rooms" ↑r []=MA r from rfl];obtain⟨x1,o1,-,n1⟩:=st (gs:=MA r) hx o0;generalize upd H x (.ins A.aD B (MA r))=H1 at x1 o1 n1 ⊢;let W8:bR H1 ru rs:=⟨SK,o1 _ _ MG SN,Eg.1,λi q u e1 e2=>o1 _ _ (Eg.2 i q u e1 e2) (bZ (Eg.2 i q u e1 e2) hx (by cbv))⟩;rwa[⟨12,ru,rs,2,W8,3,λq d H2 s2 nq hq SR=>?_⟩];let x2:=s2^x1;let o2:∀b o,H b\o->b≠x->H2 b\o:=λb o e n=>s2^o1 b o e n
  let n2:∀b,H2 b=none->H b=none:=λb z=>n1 b (same_none s2 z)
  erw[12,x,_,B,12,x2,aK T,T.Ba,(by show 1<1000;decide)];rw[cz2];let Iv:q≠x:=bZ hq x2 (by cbv);let⟨x3,o3,k3,n3⟩:=st (gs:=MB r q) x2 o2;generalize upd H2 x (.ins A.aD B (MB r q))=X at x3 o3 k3 n3 ⊢;let q3:=k3 _ _ Iv hq;rwa[⟨agP _,λg ng=>?_⟩];let M:=aq.upd (o:=.lst []) ng;let g4:upd X g (.lst []) g\(.lst []):=ah;let n4:∀b,upd X g (.lst []) b=none->H b=none:=λb z=>n2 b (n3 b (same_none M z))
  let ng0:=n2 g (n3 g ng);generalize upd X g (.lst [])=H4 at M g4 n4 ⊢;erw[12,x,_,B,12,M^x3,aK T,T.jy,(by show 2<1000;decide)];rw[cz3];let⟨x5,o5,k5,n5⟩:=st (gs:=MC r q g) (M^x3) (λb o e n=>M^o3 b o e n);generalize upd H4 x (.ins A.aD B (MC r q g))=H5 at x5 o5 k5 n5 ⊢;let Iw:g≠x:=bZ g4 (M^x3) (by cbv);let q5:=k5 _ _ Iv (M^q3);let g5:=k5 _ _ Iw g4;rwa[⟨agP _,λe ne=>?_⟩];let s6:=aq.upd (o:=.lst []) ne;let e6:upd H5 e (.lst []) e\(.lst []):=ah;let n6:∀b,upd H5 e (.lst []) b=none->H b=none:=λb z=>n4 b (n5 b (same_none s6 z))
  let Iy:=n4 e (n5 e ne);let W9:g≠e:=aw g5 ne;generalize upd H5 e (.lst [])=H6 at s6 e6 n6 ⊢;erw[12,x,_,B,12,s6^x5,aK T,T.kM,(by show 3<1000;decide)];rw[cz4];let⟨x7,o7,k7,n7⟩:=st (gs:=MD r q g e) (s6^x5) (λb o e n=>s6^o5 b o e n);generalize upd H6 x (.ins A.aD B (MD r q g e))=H7 at x7 o7 k7 n7 ⊢;let vx:e≠x:=bZ e6 (s6^x5) (by cbv);let q7:=k7 _ _ Iv (s6^q5);let g7:=k7 _ _ Iw (s6^g5);let e7:=k7 _ _ vx e6;rwa[λw nw=>?_]
  let Y:=aq.upd (o:=.dK []) nw;let w8:upd H7 w (.dK []) w\(.dK []):=ah;let n8:∀b,upd H7 w (.dK []) b=none->H b=none:=λb z=>n6 b (n7 b (same_none Y z))
  let nw0:=n6 w (n7 w nw);generalize upd H7 w (.dK [])=H8 at Y w8 n8 ⊢;erw[12,x,_,B,12,Y^x7,aK T,T.jN,(by show 4<1000;decide)];rw[cz5];let⟨x9,o9,k9,n9⟩:=st (gs:=MF r q g e w) (Y^x7) (λb o e n=>Y^o7 b o e n);generalize upd H8 x (.ins A.aD B (MF r q g e w))=H9 at x9 o9 k9 n9 ⊢;let SV:w≠x:=bZ w8 (Y^x7) (by cbv);let R9:ay A.az H9 r S a:=hR.keep (λb o hb e=>o9 b o e (λz=>Ef (by cbv))) (λb xs e=>o9 b _ e (bZ e hx (by cbv)));erw[12,r,_,a.dx,112,R9.ins,aI T,T.rV,sQ^_,a.aN,12,.inl (aF.of R9.hN),12,x,_,B,12,x9,aK T,T.mI,(by show 5<1000;decide)];rw[aM,bV,cz6];let⟨xa,oa,ka,na⟩:=st (gs:=SG r q g e w ⇑S.aZ) x9 o9;generalize upd H9 x (.ins A.aD B (SG r q g e w ⇑S.aZ))=Ha at xa oa ka na ⊢;let up:∀b o,b≠x->H8 b\o->Ha b\o:=λb o n z=>ka b o n (k9 b o n z)
  let cA:cw A.aJ A.aD Ha x r ⟨B,q,g,e,w⟩ [] [] si ⇑S.aZ d (λb=>b=x\/b=g\/b=e\/b=w):=by
   rwa[⟨xa,⟨[],up _ _ Iw (Y^g7),2,(λi v z=>by simp at z),(λi v u z=>by simp at z),(λi j p z=>by simp at z)⟩,up _ _ vx (Y^e7),⟨11,kat_nil (up _ _ SV w8),⟨λb hb=>?_,(λ_ _ z=>by ext z),(λ_ _ _ z=>by ext z),(λ_ _ _ z=>by ext z)⟩⟩,W9,.inl rfl,.inr (.inl rfl),.inr (.inr (.inl rfl)),λb hb=>?_⟩]
   ·rcases hb with z|⟨_,z⟩|⟨_,_,z⟩
    ·rwa[.inr (.inr (.inr z))]
    ·ext z
    ·ext z
   ·rcases hb with z|z|z|z
    ·rw[z];rwa[_,xa,(by cbv),(by cbv),(by cbv),by cbv]
    ·rw[z];rwa[_,up _ _ Iw (Y^g7),(by cbv),(by cbv),(by cbv),by cbv]
    ·rw[z];rwa[_,up _ _ vx (Y^e7),(by cbv),(by cbv),(by cbv),by cbv]
    ·rw[z];rwa[_,up _ _ SV w8,(by cbv),(by cbv),(by cbv),by cbv]
  let qa:=up _ _ Iv (Y^q7)
  let Oa:∀b,(b=x\/b=g\/b=e\/b=w)->b=x\/H b=none:=λb z=>by
   cbv
  let Ra:ay A.az Ha r S a:=hR.keep (λb o hb e=>oa b o e (λz=>Ef (by cbv))) (λb xs e=>oa b _ e (bZ e hx (by cbv)));let nA:∀b,Ha b=none->H b=none:=λb z=>n8 b (n9 b (na b z))
  obtain⟨O,eO⟩:∃O:Zs->Prop,O=λb=>b=x\/b=g\/b=e\/b=w:=⟨12⟩
  rw[<-eO]at cA;replace Oa:∀b,O b->b=x\/H b=none:=by rw[eO];rwa[Oa]
  clear eO;generalize ec:(⟨B,q,g,e,w⟩:KA)=c at cA;let qa:Ha c.aQ\(.dT (iK d)):=by rw[<-ec];rwa[qa]
  clear g7 e7 w8 x9 o9 k9 n9 Y n8 x7 o7 k7 n7 s6 n6 e6 x5 o5 k5 n5 M g4 n4 x3 o3 k3 n3 x1 o1 n1 x2 o2 n2 up ka q7 q5 q3 g5 xa na R9 nw0 Iy ng0 nw ne ng W9 vx Iw SV hq nq s2 Iv W8;let hfb:∀p∈d,⇑p.1<=1000/\∀z∈p.1,-1000<=z/\z<=1000:=λp hp=>W7 _ (agJ _ (agh (SR.a p hp)))
  let BK:=BK d SR;rwa[⟨12,r,a.dx,12,Ra.ins,cK _ _ _ ⋯,r,S,a,2,Ra,gd.wf,3,λl nl=>?_⟩];let sl:⇑(dc S)<=S.made:=agz (aiq _ _) (by cbv);let stm:∀m∈dc S,m<S.made:=λm hm=>ahl.mp (ah7.mp hm).1
  let Xa:⇑(dc S)* ⇑d<=S.made* ⇑d:=ahY _ sl;let sb:=aq.upd (o:=.lst (ao (nI (dc S)))) nl;let hl:upd Ha l (.lst (ao (nI (dc S)))) l\(.lst (ao (nI (dc S)))):=ah;show ∃a_1,_;rw[show (List.range S.made).filter (λc=>decide (S.aS[c]?\c))=dc S from rfl];let SW:=nA l nl;let nlO:¬O l:=λz=>by let⟨o,e,_⟩:=cA.th l z;cbv
  generalize upd Ha l (.lst (ao (nI (dc S))))=Hb at sb hl ⊢;let cB:=cA.same sb;erw[l,2,⟨_,aF.of hl⟩]
  refine eP (K:=K) (a:=l) (xs:=ao (nI (dc S))) (λi σ H2=>∃U F O2 v4,σ=#v[↑x,↑r,↑ru,↑pa,v4,none,none]/\(∀b o,¬O b->Hb b\o->H2 b\o)/\(∀b,O b->O2 b)/\(∀b,O2 b->O b\/Hb b=none)/\cw A.aJ A.aD H2 x r c U F si ⇑S.aZ d O2/\CI S (dw d ((dc S).take i)) U F si fM none/\⇑F<=⇑(dw d ((dc S).take i)))
   ⟨[],[],O,none,2,λ_ _ _ e=>e,λb z=>z,λb z=>.inl z,cB,SJ,agp _⟩ (λi σ H2 _ q0=>by let⟨_,_,_,_,_,f,_⟩:=q0;rwa[aF.of (f _ _ nlO hl)]) ?_ ?_
  ·rintro i v σ H2 hi ⟨U,F,O2,v4,rfl,f2,My,BI,c2,BF,Iz⟩;let⟨z,rfl,hz⟩:=cI hi
   obtain⟨m,SX,rfl⟩:∃m,(dc S)[i]?\m/\z=(m:Int):=by
    unfold nI at hz
    cbv
   let L:=(agj.mp SX).1;let nQ:¬O c.aQ:=cA.Ic qa;let q2:=f2 _ _ nQ (sb^qa);let ll:=lJ d ((dc S).take i);rw[agV,aiN ∅]at ll;let li:(i+ 1)* ⇑d<=⇑(dc S)* ⇑d:=ahY _ L;rw[aiT]at li;rwa[⟨12,x,c.dx,12,c2.ins,fe ⋯,12,x,r,c,S,_,U,F,si,⇑S.aZ,d,O2,fM,m,2,c2,q2,BF,hfb,stm m (agh SX),3,Iz,λD C O3 X b3 W6 N c3 G I=>?_⟩]
   let es:dw d ((dc S).take (i+ 1))=dw d ((dc S).take i)++gB d m:=by
    unfold dw;rw[aij,SX,ajo];show _++(gB d m++[])=_;rw[agQ]
   rw[<-es]at G I;rwa[⟨D,C,O3,12,λb o n e=>b3 b o (λz=>(BI b z).elim n λy=>by cbv) (f2 b o n e),λb z=>W6 b (My b z),λb z=>?_,c3,G,I⟩];rcases N b z with y|y
   ·rwa[BI b y]
   ·by_cases y2:O b
    ·rwa[.inl y2]
    ·rwa[.inr ?_]
     cases e:Hb b with
     |none=>rfl
     |some o=>rw[f2 b o y2 e]at y;ext y
  rintro σ H2 ⟨U,F,O2,v4,rfl,f2,My,BI,c2,BF,Iz⟩;rw[aM,bV,ahZ]at BF Iz;let ll:=lJ d (dc S);let SY:Hb pa\(.lst (J.map V.ref)):=sb^oa _ _ MH SQ;let Z:∀{b o},H b\o->b≠x->¬O b:=λ{b o} e n z=>(Oa b z).elim n λy=>by cbv
  let YV:=f2 _ _ (Z MH SQ) SY;let YW:=f2 _ _ (Z MG SN) (sb^oa _ _ MG SN);let lr:⇑(SK.map V.ref)=⇑rs:=by rw[agm,Eg.1]
  erw[1212,ru,12,.inl (aF.of YW),pa,(⇑(SK.map V.ref):Int),2233,⟨_,aF.of YV⟩];rw[lr]
  refine EY (K:=K) (a:=pa) (xs:=J.map V.ref) (λi σ X=>∃D C O3 v5 v6,σ=#v[↑x,↑r,↑ru,↑pa,v4,v5,v6]/\(∀b o,¬O b->Hb b\o->X b\o)/\(∀b,O3 b->O b\/Hb b=none)/\cw A.aJ A.aD X x r c D C si ⇑S.aZ d O3/\CI S (dw d (dc S)++fI ps ⇑rs i) D C si fM none/\⇑C<=⇑(dw d (dc S)++fI ps ⇑rs i))
   ⟨U,F,O2,none,none,2,f2,BI,c2,by show CI S (_++[]) _ _ _ _ _;rw[agQ];rwa[BF],by show _<=⇑(_++[]);rw[agQ];rwa[Iz]⟩ (λi σ X _ q0=>by let⟨_,_,_,_,_,_,f,_⟩:=q0;rwa[aF.of (f _ _ (Z MH SQ) SY)]) ?_ ?_
  ·rintro i v σ X t hi nt ⟨D,C,O3,v5,v6,rfl,f3,N,c3,G,I⟩
   let L:i<⇑J:=by
    have:=(agj.mp hi).1;rw[agm]at this;rwa[this]
   let S0:i<⇑ps:=by rw[<-SM.1];rwa[L]
   let g1:J[i]?\(J[i]'L):=agl L
   let g2:ps[i]?\(ps[i]'S0):=agl S0
   rw[agx,g1]at hi;obtain rfl:V.ref (J[i]'L)=v:=Za0 hi;generalize J[i]'L=wa at g1;generalize ps[i]'S0=u at g2;let sj:=SM.2 i wa u g1 g2;let Xb:wa≠x:=bZ sj hx (by cbv);let YX:=f3 _ _ (Z sj Xb) (sb^oa _ _ sj Xb);let M:=aq.upd (o:=.tup [.int ((⇑rs:Int)+ (i:Int)),↑wa]) nt;erw[t,12,bA.of ah,21121122];generalize upd X t (.tup [.int ((⇑rs:Int)+ (i:Int)),↑wa])=H4 at M ⊢;let c4:=c3.same M;let pl:=sh ps ⇑rs i;let Xc:=W7 u (agr _ (agh g2));rwa[⟨12,x,c.dx,12,c4.ins,fe ⋯,1212,x,r,wa,c,S,_,D,C,si,⇑S.aZ,d,O3,fM,⇑rs+ i,(0),u,2,c4,G,M^YX,Xc.1,Xc.2,hm0,by rw[agk];ext,I,λgs5 Sx O5 H5 b5 le5 nw5 c5 IA Xd=>?_⟩]
   let ep:fI ps ⇑rs (i+ 1)=fI ps ⇑rs i++nz (⇑rs+ i) u 0:=by
    unfold fI;rw[ahD,ajo];show _++(nz (⇑rs+ i) (ps.getD i []) 0++[])=_;rw[agQ,agq,g2];rfl
   rw[ahe,<-ep]at IA Xd;rwa[⟨gs5,Sx,O5,112,λb o n e=>b5 b o (λz=>(N b z).elim n λy=>by cbv) (M^f3 b o n e),λb z=>?_,c5,IA,Xd⟩];rcases nw5 b z with y|y
   ·rwa[N b y]
   ·by_cases y2:O b
    ·rwa[.inl y2]
    ·rwa[.inr ?_]
     cases e:Hb b with
     |none=>rfl
     |some o=>rw[M^f3 b o y2 e]at y;ext y
  ·rintro σ X ⟨D,C,O3,v5,v6,rfl,f3,N,c3,G,I⟩;rw[agm,SM.1]at G I;rwa[k c D C d O3 X (λb o e n=>f3 b o (Z e n) (sb^oa b o e n)) c3 (f3 _ _ (cA.Ic qa) (sb^qa)) (λb z=>?_) G I SR];rcases N b z with y|y
   ·rwa[Oa b y]
   ·rwa[.inr (nA b (same_none sb y))]
def BL {rs:Za3}{b:List (Zg×Nat)}(h:xP rs b):⇑b<=⇑rs:=by
 let c:(b.map (·.2)).Nodup:=by
  have:=h.n;unfold List.Nodup at this ⊢;rw[ah4]at this ⊢
  exact this.imp_of_mem λ{p q} a d n e=>n (by
   let i:=h.a p a;let g:=h.a q d
   cbv)
 have:=lE ⇑rs _ c λn f=>by
  let⟨p,a,rfl⟩:=ahc.mp f;rwa[(agj.mp (h.a p a)).1]
 rw[agm]at this;rwa[this]
def wB {b:Nat×Zg×Nat}{w:Nat}(h:b∈nz w l m):b=(w,l,m)/\l≠[]:=by
 unfold nz at h
 cbv
def FV {w:Nat}(h:l≠[]):(w,l,m)∈nz w l m:=by
 unfold nz;cbv
def Oq {c:List (Zg×Nat)}{st:Zh}{a:Za3}{b:Nat×Zg×Nat}(h:b∈dw c st++fI a n ⇑a):(∃p∈c,b.1=p.2/\b.2.1=p.1/\b.2.2∈st)\/∃j u,a[j]?\u/\b=(n+ j,u,0):=by
 rcases agv.mp h with q|q
 ·let⟨m,e,q⟩:=ah0.mp q;let⟨p,d,q⟩:=ah0.mp q;let⟨rfl,_⟩:=wB q;rwa[.inl ⟨p,d,22,e⟩]
 ·let⟨j,f,q⟩:=ah0.mp q;let⟨rfl,_⟩:=wB q
  cbv
def ends {bs:List (Nat×Zg×Nat)}{d:Zf}{W:bG}(ci:CI S bs d [] W fM none)(x:Good S [] R){b:Nat×Zg×Nat}(p:b∈bs)(a:S.ax b.2.2=b.2.2):QT S b.2.2 b.2.1:=by
 let⟨n,f⟩:=ag8 p;let B:n<⇑d:=by rw[ci.len];rwa[(agj.mp f).1]
 cases q:d[n]? with
 |none=>cbv
 |some y=>
  cases y with
  |none=>
   rcases ci.de n b q (by cbv) f with z|z
   ·rwa[absurd a z]
   ·rwa[.inl z]
  |some g=>
   let⟨e,c,z⟩:=ci.al n g q;rw[f]at e;obtain rfl:=Za0 e;rcases z with z|z|⟨lt,l,v⟩
   ·ext z
   ·ext z
   ·let⟨o,_,k,_,_,_,_,f1⟩:=ci.en _ _ _ l;let⟨s,_,j,_,_,_,_,f2⟩:=ci.en _ _ _ v;let k:o=g.front:=∅
    let j:s=g.bx:=∅
    subst k j;rcases f1 with ⟨t,u⟩|f1
    ·rcases f2 with ⟨m,r⟩|f2
     ·let i:=c.wf;let h:=c.wr;let a:S.ax g.start=g.start:=a;rw[a,t]at i;rw[a,m]at h;rwa[.inr ⟨g.first,g.last,g.front,g.bx,g.z1,-g.z2,lt,Gg.qh (by have:=c.ll;omega),Gg.at2 c.ll,i,u,h,[aid]▸r⟩]
     ·rwa[f2.elim]
    ·rwa[f1.elim]
inductive Ot (CR CG CC:Zs) (vs:Zb) (H:Hp) (Q:VK) (E_:XK):Prop
 |mk (r ru pa:Zs) (S:RS) (a:RA) (R:Za2) (ks:Zg) (B:Nat) (rs ps:Za3):vs=[↑r,↑ru,↑pa]->iM CR H r S a R ks B->0<S.made->B<800000->bR H ru rs->bR H pa ps->⇑rs<=400->⇑ps<=400->S.made* ⇑rs+ ⇑ps<=700->(∀u∈rs++ps,⇑u<=1000/\∀z∈u,(-1000<=z/\z<=1000)/\z∈ks/\-z∈ks)->(∀S' a' R' B' H',(∀b o,¬a.own r b->H b\o->H' b\o)->iM CR H' r S' a' R' ks B'->(∀b,a'.own r b->a.own r b\/H b=none)->(∀a z b,R a z b->R' a z b)->S'.made=S.made->S'.L=S.L->Tr (rs++ps) ⇑rs S S'->E7 rs ps S'->B'<=B+ 700->Q .non H')->Ot CR CG CC vs H Q E_
noncomputable def fh (z:Int):Int:=if z > 0 then 2* z - 2 else -2* z - 1
def IB (k:Nat):fh (M12.st k)=k:=by
 unfold fh M12.st;by_cases h:k % 2=0
 ·rw[agI h,agI ∅];ext
 ·rw[agF h,agF ∅];ext
def Ou:Sp:=λa H Q _=>∃z:Int,a=[.int z]/\Q (.int (fh z)) H
noncomputable def oY (l:Zg):V:=(l.head?.map V.int).getD .non
inductive S5 (C:Zs) (vs:Zb) (H:Hp) (Q:VK) (E_:XK):Prop
 |mk (r:Zs) (S:RS) (a:RA) (c:Nat):vs=[↑r,.int c]->ay C H r S a->c<⇑S.gaps->Q (oY (S.gap c)) H->S5 C vs H Q E_
def CV (T:Txt K mg A):T.mD.Ok P w base 1 Ou:=by
 rwa[T.mD.on CN (λb f a s H d Q E e h=>?_) (len:=by rintro _ _ _ _ ⟨z,rfl,_⟩;rfl)]
 ·let⟨z,rfl,k⟩:=h
  refine⟨_,(ai (bD (aX va (pv 0) av (bf _))
   (au (bj (aO gW (aO kx av (pv 0)) av)))
   bp)
   (au (bj (aO gW (aO kx (fy dO av) (pv 0)) av)))),?_⟩
  rwa[ja ?_];intro c;erw[12112212];unfold fh at k;rwa[bS (λh=>?_) (λh=>?_)]
  ·rw[agI (agU h)]at k;rwa[121122,.inl ⟨44⟩,1122,k]
  ·rw[agF (λq=>h (agW q))]at k;rwa[12121122,.inl ⟨44⟩,1122,k]
def iq (T:Txt K mg A):T.fE.Ok mg P w base 1 (S5 A.az):=by
 rwa[T.fE.on kO (λy I m s H G Q E J h=>?_)]
 ·let⟨r,S,a,c,rfl,h,F,k⟩:=h
  erw[_,(ai (Dx (cS agN rfl (UR (aY bu (aH (pv 0) rfl) (pv 1) (λ_ _=>rfl))) (dA 2 kO.nd)
   (au (bj (pv 2)))))
   (au (bj cO)))]
  rwa[ja ?_];intro v;let x:=wq F;let⟨p,B,l⟩:=h.rG.at x;erw[p,.dK (gK (S.gap c)),l,True.intro];rwa[⟨12,r,_,a.dx,112,h.ins,aI T,T.rT,sP^_,12,a.aG,11122,aF.of h.hG,dB B,p,gK (S.gap c),2,l,λo=>?_⟩]
  let back:upd (upd H p (.cR o (.dK (gK (S.gap c))))) p (.dK (gK (S.gap c)))=H:=by
   rw[M3]
   funext b
   by_cases t:b=p
   ·rw[t,ah,l]
   ·rw[ak t]
  rwa[QJ (d:=p) (o:=o) (kvs:=gK (S.gap c)) (λi g j=>g=#v[↑r,.int c,none]/\j=upd H p (.cR o (.dK (gK (S.gap c))))/\i=0) ⟨222⟩ (λi g j _ q=>[q.2.1]▸ah) ?_ ?_]
  ·rintro i C g j f ⟨rfl,rfl,rfl⟩
   let e:∃z,(S.gap c).head?\z/\kV C.1=.int z:=by
    unfold gK at f;rw[agx]at f
    cases q:(S.gap c)[0]? with
    |none=>rw[q]at f;ext f
    |some z=>
     rw[q]at f;erw[z,[List.head?_eq_getElem?]▸q];rw[<-Za0 f];rfl
   let⟨z,D,n⟩:=e;rw[n];erw[12,o,ah];rw[back];have:oY (S.gap c)=.int z:=by unfold oY;rw[D];rfl
   rw[<-this];rwa[k]
  ·rintro g j ⟨rfl,rfl,e⟩;erw[o,ah];rw[back];have:S.gap c=[]:=ahM (by unfold gK at e;cbv);let n:oY (S.gap c)=.non:=by rw[this];rfl
   show Q V.non H;rw[<-n];rwa[k]
noncomputable def dW:Pos:=⟨(167),(29),(167),(57)⟩
def iu:Str:=(PyProof.Rows.envOfC "ByLetters.gap" (aB jJ) 0 0 .none).qual++"<lambda>"
def Kp (c:Zs)(H a:Hp):Prop:=∀b u,b≠c->H b\u->a b\u
def Kp.trans (c:Kp a H I)(b:Kp a I J):Kp a H J:=λx u n e=>b x u n (c x u n e)
def Kp.same (b:aq H I):Kp a H I:=λx u _ e=>b x u e
def _root_.Lake.L2.c9.same {pos:Pos}(h:c9 a pos x H)(s:aq H I):c9 a pos x I:=h.keep λb u e _=>s b u e
def gR (S:RS)(L c:Nat)(z:Int):Prop:=c<S.made/\S.aS[c]?\c/\z∈bq (2* L)/\S.by c z=none
def rk (w c:Nat)(z:Int):Zg:=if w=0 then [(c:Int),fh z] else if w=1 then [fh z,(c:Int)] else [-(c:Int),fh z]
def km (w:Nat)(S:RS)(L c:Nat)(z:Int):Prop:=gR S L c z/\∀a b,gR S L a b->HT.lexLt (rk w a b) (rk w c z)=false
structure GL (S:RS) (L:Nat):Prop where
 wf:S.Wf
 m:S.made<=100000
 l2:L<=200
 gp:∀c,c<S.made->S.aS[c]?\c->S.gap c=(bq (2* L)).filter λz=>(S.by c z).isNone
inductive jR (C Pt D:Zs) (w:Nat) (vs:Zb) (H:Hp) (Q:VK) (E_:XK):Prop
 |mk (o dx r:Zs) (S:RS) (a:RA) (L:Nat):vs=[↑o,↑r]->H o\.ins D dx []->ay C H r S a->GL S L->c9 Pt dW iu H->((∀c z,¬gR S L c z)->∀H',Kp Pt H H'->c9 Pt dW iu H'->Q .non H')->(∀(c:Nat) (z:Int),km w S L c z->∀t H',Kp Pt H H'->c9 Pt dW iu H'->H' t\.tup [.int (c:Int),.int z]->Q ↑t H')->jR C Pt D w vs H Q E_
def cq (S:RS):Zh:=(List.range S.made).filter λc=>decide (S.aS[c]?\c)
def gS:n∈cq S↔n<S.made/\S.aS[n]?\n:=by
 unfold cq;rw[ah7,ahl];simp
def xS (S:RS):(cq S).Pairwise (·< ·):=List.Pairwise.filter _ ajK
def Vr (n:Nat):(bq n).Pairwise λa b=>fh a<fh b:=by
 unfold bq;rw[ah4];rwa[List.Pairwise.imp (λh=>?_) (ajK (n:=n))];rw[IB,IB];ext
def FW (pw:l.Pairwise λa b=>fh a<fh b){z:Int}(h:l.head?\z):z∈l/\∀y∈l,fh z<=fh y:=by
 cases l with
 |nil=>ext h
 |cons x l=>
  let e:x=z:=Za0 h;subst e;rwa[⟨agA,λy c=>?_⟩];rcases agB.mp c with rfl|c
  ·rwa[Int.le_refl _]
  ·rwa[Int.le_of_lt ((List.pairwise_cons.mp pw).1 y c)]
def GL.head (g:GL S n)(hc:m<S.made)(h:S.aS[m]?\m):(∀z,(S.gap m).head?\z->gR S n m z/\∀y,gR S n m y->fh z<=fh y)/\((S.gap m).head?=none->∀y,¬gR S n m y):=by
 let e:=g.gp m hc h
 let mem:∀y,gR S n m y↔y∈S.gap m:=λy=>by
  rw[e,ah7];constructor
  ·rintro ⟨_,_,d,c⟩;rwa[d,by rw[c];rfl]
  ·rintro ⟨d,c⟩;rwa[hc,h,d,by simpa using c]
 let pw:(S.gap m).Pairwise λa b=>fh a<fh b:=by rw[e];rwa[(Vr _).filter _]
 rwa[⟨λz hz=>?_,λi y f=>?_⟩]
 ·let⟨d,c⟩:=FW pw hz;rwa[(mem z).mpr d,λy f=>c y ((mem y).mp f)]
 cbv
def ej (S:RS)(cs:Zh):Option (Nat×Int):=cs.findSome? λc=>(S.gap c).head?.map λz=>(c,z)
theorem CW (h:ej S B=none):∀c∈B,(S.gap c).head?=none:=λc a=>by
 unfold ej at h;rw[List.findSome?_eq_none_iff]at h;have:=h c a
 cases q:(S.gap c).head? with
 |none=>rfl
 |some z=>cbv
theorem tX {S:RS}:∀{cs:Zh} {c:Nat} {z:Int},ej S cs\(c,z)->∃i:Nat,cs[i]?\c/\(S.gap c).head?\z/\∀j b:Nat,j<i->cs[j]?\b->(S.gap b).head?=none
 |[],_,_,h=>by ext h
 |x::cs,c,z,h=>by
  unfold ej at h;rw[List.findSome?_cons]at h
  cases q:(S.gap x).head? with
  |some y=>
   rw[q]at h;let h:(x,y)=(c,z):=Za0 h;injection h with d a
   subst d a;rwa[(0),2,q,λj b e=>absurd e (Nat.not_lt_zero _)]
  |none=>
   rw[q]at h;let⟨i,d,a,g⟩:=tX (cs:=cs) h;rwa[⟨i+ 1,d,a,λj b e f=>?_⟩]
   cases j with
   |zero=>rw[<-Za0 f];rwa[q]
   |succ j=>exact g j b ∅ f
inductive Eh (C:Zs) (vs:Zb) (H:Hp) (Q:VK) (E_:XK):Prop
 |mk (r l:Zs) (S:RS) (a:RA) (cs:Zh):vs=[↑r,↑l]->ay C H r S a->H l\.lst (ao (nI cs))->(∀c∈cs,c<⇑S.gaps)->(ej S cs=none->Q .non H)->(∀(c:Nat) (z:Int),ej S cs\(c,z)->∀t,H t=none->Q ↑t (upd H t (.tup [.int (c:Int),.int z])))->Eh C vs H Q E_
def CY {cs:Zh}(d:cs[i]?\n)(a:ej S (cs.take i)=none):(∀z,(S.gap n).head?\z->ej S cs\(n,z))/\((S.gap n).head?=none->ej S (cs.take (i+ 1))=none):=by
 let e:cs.take (i+ 1)=cs.take i++[n]:=by rw[List.take_add_one,d];rfl
 constructor
 ·intro z b;let c:cs=cs.take (i+ 1)++cs.drop (i+ 1):=(ajd _ _).symm;unfold ej at a ⊢;rw[c,e,ahe,List.findSome?_append,a,Option.none_or,aiU,List.findSome?_cons,b];rfl
 ·intro b;unfold ej at a ⊢
  cbv
def tY (T:Txt K mg A):T.lY.Ok P w base 2 (Eh A.az):=by
 rwa[T.lY.on nM (λD M m s H L Q E F h=>?_)]
 ·let⟨r,l,S,a,cs,rfl,h,n,J,u,p⟩:=h
  erw[_,(ai (cS agN rfl (cX (pv 1)) (dA 2 nM.nd)
   (ai (bI 3 nM.nd (pm (pv 0) (aI T) T.fE (iq T) F (ae (pv 2) aj)))
   (au (bD (aX lL (pv 3) cO (bf _))
    (au (bj (cE (ae (pv 2) (ae (pv 3) aj)))))
    bp))))
   (au (bj cO)))]
  rwa[ja ?_];intro o;erw[12,l,2,⟨_,aF.of n⟩];rwa[eP (K:=K) (a:=l) (xs:=ao (nI cs)) (λi f j=>∃v k,f=#v[↑r,↑l,v,k]/\j=H/\ej S (cs.take i)=none) ⟨none,none,222⟩ (λi f j _ ζ=>by let⟨_,_,_,e,_⟩:=ζ;rwa[[e]▸aF.of n]) ?_ ?_]
  ·rintro i x f j G ⟨v,k,rfl,rfl,g⟩;let⟨z,rfl,C⟩:=cI G
   obtain⟨c,b,rfl⟩:∃c:Nat,cs[i]?\c/\z=(c:Int):=by
    unfold nI at C
    cbv
   let⟨B,I⟩:=CY b g;erw[12,r,a.dx,12,h.ins,212,r,S,a,c,2,h,J c (agh b)];erw[12212]
   cases d:(S.gap c).head? with
   |none=>
    let e:oY (S.gap c)=.non:=by unfold oY;rw[d];rfl
    rw[e];rwa[some (.int c),some .non,22,I d]
   |some y=>
    let e:oY (S.gap c)=.int y:=by unfold oY;rw[d];rfl
    rw[e];rwa[1212,by show 2<=sizeLine;decide,λt q=>p c y (B y d) t q]
  ·rintro f j ⟨v,k,rfl,rfl,g⟩;rw[aM,bV,ahZ]at g;rwa[u g]
def BM {a a' b b':Int}(h:a<a'\/a'=a/\b<=b'):HT.lexLt [a',b'] [a,b]=false:=by
 rw[HT.vf,HT.vf,HT.yW]
 cbv
def Fh {c:Type}{R:c->c->Prop}{l:List c}(pw:l.Pairwise R){i j:Nat}{a b:c}(d:i<j)(f:l[i]?\a)(h:l[j]?\b):R a b:=by
 let⟨g,rfl⟩:=agj.mp f;let⟨e,rfl⟩:=agj.mp h;rwa[List.pairwise_iff_getElem.mp pw i j g e d]
def BO (g:GL S n)(b:∀c,c∈cq S->c∈B)(h:ej S B=none):∀c z,¬gR S n c z:=λc z a=>(g.head a.1 a.2.1).2 (CW h c (b c (gS.mpr ⟨a.1,a.2.1⟩))) z a
def tZ {w:Nat}{cs:Zh}(R:Nat->Nat->Prop)(g:GL S n)(k:∀m,m∈cs↔m∈cq S)(pw:cs.Pairwise R)(r:∀a b,R a b->∀y,HT.lexLt (rk w b y) (rk w a z)=false)(u:∀y,fh z<=fh y->HT.lexLt (rk w m y) (rk w m z)=false)(h:ej S cs\(m,z)):km w S n m z:=by
 let⟨i,f,p,s⟩:=tX h;let o:=gS.mp ((k m).mp (agh f));let⟨t,v⟩:=(g.head o.1 o.2).1 z p;rwa[⟨t,λd e c=>?_⟩];let⟨j,l⟩:=ag8 ((k d).mpr (gS.mpr ⟨c.1,c.2.1⟩));rcases Nat.lt_trichotomy i j with q|q|q
 ·rwa[r m d (Fh pw q f l) e]
 ·cbv
 ·rwa[absurd c ((g.head c.1 c.2.1).2 (s j d q l) e)]
def S6 (g:GL S n)(h:ej S (cq S)\(m,z)):km 0 S n m z:=
 tZ (·< ·) g (λ_=>Iff.rfl) (xS S) (λa b d y=>BM (.inl (by omega))) (λy c=>BM (.inr ⟨rfl,c⟩)) h
def S7 (g:GL S n)(h:ej S (cq S).reverse\(m,z)):km 2 S n m z:=
 tZ (λa b=>b<a) g (λm=>List.mem_reverse) (List.pairwise_reverse.mpr (xS S)) (λa b d y=>BM (.inl (by omega))) (λy c=>BM (.inr ⟨rfl,c⟩)) h
def sk (T:Txt K mg A):T.jw.Ok mg P w base 3 (jR A.az A.eG A.cP 0):=by
 rwa[T.jw.on Bk (λv D f s H C Q E k h=>?_)]
 ·let⟨o,G,r,S,a,L,rfl,F,h,g,j,p,n⟩:=h;erw[_,(au (bj (pc T.lY (tY T) k (ae (pv 1) (ae (vA (pv 1) (aI T) T.eK (fX T) k) aj)))))];rwa[⟨1212,r,a.dx,12,h.ins,2,r,S,a,2,h,g.wf,g.m,λl x=>?_⟩];let d:aq H (upd H l (.lst (ao (nI (cq S))))):=aq.upd x;rwa[⟨r,l,S,a,cq S,2,h.same d,ah,λc B=>[g.wf.g]▸(gS.mp B).1,λy=>p (BO g (λ_ h=>h) y) _ (.same d) (j.same d),λc z q t m=>?_⟩];let i:=aq.upd (o:=.tup [.int (c:Int),.int z]) m;rwa[n c z (S6 g q) t _ (.same λb u e=>i b u (d b u e)) ((j.same d).same i) ah]
def qA (T:Txt K mg A):T.iF.Ok mg P w base 3 (jR A.az A.eG A.cD 2):=by
 rwa[T.iF.on zl (λC M i s H J Q E m h=>?_)]
 ·let⟨o,O,r,S,a,L,rfl,N,h,g,k,x,v⟩:=h;erw[_,(au (bj (pc T.lY (tY T) m (ae (pv 1) (ae (E9 rfl rfl T.ip rfl T.FC (ae (vA (pv 1) (aI T) T.eK (fX T) m) aj)) aj)))))];rwa[⟨1212,r,a.dx,12,h.ins,2,r,S,a,2,h,g.wf,g.m,λl D=>?_⟩];let F:aq H (upd H l (.lst (ao (nI (cq S))))):=aq.upd D;rwa[⟨l,12,aF.of ah,λn f=>?_⟩];let y:=aq.upd (o:=.lst (ao (nI (cq S))).reverse) f;let d:aq H (upd (upd H l (.lst (ao (nI (cq S))))) n (.lst (ao (nI (cq S))).reverse)):=λb u e=>y b u (F b u e)
  let p:(ao (nI (cq S))).reverse=ao (nI (cq S).reverse):=by unfold ao nI;rw[List.map_reverse,List.map_reverse]
  rwa[⟨r,n,S,a,(cq S).reverse,2,h.same d,by rw[<-p];rwa[ah],λc I=>[g.wf.g]▸(gS.mp (List.mem_reverse.mp I)).1,λG=>x (BO g (λ_ h=>List.mem_reverse.mpr h) G) _ (.same d) (k.same d),λc z B t q=>?_⟩];let j:=aq.upd (o:=.tup [.int (c:Int),.int z]) q;rwa[v c z (S7 g B) t _ (.same λb u e=>j b u (d b u e)) ((k.same d).same j) ah]
def jT (S:RS)(cs:Zh):List (Nat×Int):=cs.filterMap λc=>(S.gap c).head?.map λz=>(c,z)
def xT:(n,z)∈jT S B↔n∈B/\(S.gap n).head?\z:=by
 unfold jT;rw[ajx];constructor
 ·rintro ⟨b,a,e⟩
  cases q:(S.gap b).head? with
  |none=>rw[q]at e;ext e
  |some y=>
   cbv
 cbv
def S8 {cs:Zh}(h:cs.Pairwise (·< ·)):(jT S cs).Pairwise λp q=>p.1<q.1:=by
 unfold jT;rwa[List.pairwise_filterMap.mpr (h.imp λ{a b} e p c q d=>?_)]
 cases f:(S.gap a).head? with
 |none=>rw[f]at c;ext c
 |some y=>
  cases g:(S.gap b).head? with
  |none=>rw[g]at d;ext d
  |some x=>
   rw[f]at c;rw[g]at d;rw[<-Za0 c,<-Za0 d];rwa[e]
def KZ {cs:Zh}(a:cs[i]?\n):jT S (cs.take (i+ 1))=jT S (cs.take i)++((S.gap n).head?.map λz=>(n,z)).toList:=by
 unfold jT;rw[show cs.take (i+ 1)=cs.take i++[n] by rw[List.take_add_one,a];rfl,List.filterMap_append,List.filterMap_cons,List.filterMap_nil];cases (S.gap n).head? <;> rfl
def S9 (g:GL S n)(h:(jT S (cq S))[i]?\(m,z))(r:∀j d c,(jT S (cq S))[j]?\(d,c)->fh z<=fh c/\(j<i->fh z<fh c)):km 1 S n m z:=by
 let⟨s,p⟩:=xT.mp (agh h);let o:=gS.mp s;rwa[⟨((g.head o.1 o.2).1 z p).1,λd c f=>?_⟩];let hd:=g.head f.1 f.2.1
 cases q:(S.gap d).head? with
 |none=>exact absurd f (hd.2 q c)
 |some y=>
  let B:=(hd.1 y q).2 c f;let⟨j,l⟩:=ag8 (xT.mpr ⟨gS.mpr ⟨f.1,f.2.1⟩,q⟩);let⟨u,t⟩:=r j d y l;rwa[BM (a:=fh z) (b:=(m:Int)) (a':=fh c) (b':=(d:Int)) ?_];by_cases e:fh z<fh c
  ·rwa[.inl e]
  ·rwa[.inr ⟨35⟩];rcases Nat.lt_trichotomy i j with k|k|k
   ·have:m<d:=Fh (S8 (xS S)) k h l;ext
   ·cbv
   ·have:=t k;ext
theorem Ta (g:GL S n)(h:jT S (cq S)=[]):∀c z,¬gR S n c z:=λc z a=>by
 let hd:=g.head a.1 a.2.1
 cases q:(S.gap c).head? with
 |none=>exact hd.2 q z a
 |some y=>
  have:=xT.mpr ⟨gS.mpr ⟨a.1,a.2.1⟩,q⟩
  cbv
def mP (T:Txt K mg A)(Ee:j3 mg base):di P w K mg base (cZ P w) 6 A.m9 A.jL ["self","rooms"] (jR A.az A.eG A.bK 1):=by
 rwa[T.gX.F.okT T.lam.code mM (λvs H Q E h=>?_) (λAA outer s H vs Q E hr h=>?_)]
 ·let⟨o,dx,r,S,a,L,rfl,_⟩:=h;rfl
 ·let⟨o,dx,r,S,a,L,rfl,ho,h,g,hT,kn,ks⟩:=h
  erw[_,(ai (y6 (iy:=2) mM.nd rfl (Or.inl rfl) (fns:=["rooms"]) (ixs:=[1]) (cl:=_) rfl (cX (vA (pv 1) (aI T) T.eK (fX T) hr)) (pz rfl rfl ⋯ rfl ⋯ rfl ⋯ ⋯ rfl rfl rfl rfl) (λC s H ex=>(aX lL (pm (pv 1) (aI T) T.fE (iq T) hr (ae (pv 0) aj)) cO (bf _))) (λC s H ex=>(cE (ae (pv 0) (ae (pm (pv 1) (aI T) T.fE (iq T) hr (ae (pv 0) aj)) aj)))))
   (au (bj (N0 (x:="gap") (k:=2) rfl rfl T.LY (pv 2) rfl T.lam.hd rfl rfl Ee hr.Za5 (by ac_rfl) (λ_ _ _ _=>rfl) (λ_ _ _ _ _ _ Eg=>wV (CV T) (Eg.mono ⋯) rfl T.mD.m T.mD.F.kp T.mD.b .nil gk (ae (aY (Nr (K:=K) rfl) (pv 0) av (λ_ _=>rfl)) aj))))))]
  rwa[ja ?_];intro gy;rwa[⟨12,r,a.dx,12,h.ins,2,r,S,a,2,h,g.wf,g.m,λl hl=>?_⟩];let s1:aq H (upd H l (.lst (ao (nI (cq S))))):=aq.upd hl;let J:upd H l (.lst (ao (nI (cq S)))) l\(.lst (ao (nI (cq S)))):=ah;rw[show ((List.range S.made).filter λc=>decide (S.aS[c]?\c))=cq S from rfl];generalize upd H l (.lst (ao (nI (cq S))))=H1 at s1 J;let h1:=h.same s1;let R:=hT.same s1;let Xe:⇑(cq S)<=S.made:=agz (aiq _ _) (by cbv);let hgm:=g.m;let el:⇑(ao (nI (cq S)))=⇑(cq S):=by rw[aM,bV]
  erw[l,2,⟨_,aF.of J⟩];erw[λi m ys Z=>m=⇑(cq S) - i/\i<=⇑(cq S)/\aq H1 Z/\∃d:Zn,ys=d.map V.ref/\⇑d<=i/\Each (λt (p:Nat×Int)=>Z t\.tup [.int (p.1:Int),.int p.2]) d (jT S ((cq S).take i)),⟨⇑(cq S),by simp,agP _,λ_ _ e=>e,[],2,agp _,2,λi p x e=>by simp at e⟩];rintro i m ys Z ⟨rfl,hi,G,d,rfl,Xf,B⟩;let N:=G^J;let h2:=h1.same G;by_cases U:i<⇑(cq S)
  ·rwa[.inr ⟨kB (aF.of N) i ∅,[agm]▸agu (agz Xf (show i<=100000 by omega)) ⋯,λx H3 Tc=>?_⟩];let⟨rfl,hx⟩:=ji (aF.of N) i x H3 ∅ Tc;let⟨z,rfl,hz⟩:=cI hx
   obtain⟨c,X,rfl⟩:∃c:Nat,(cq S)[i]?\c/\z=(c:Int):=by
    unfold nI at hz
    cbv
   let ou:c<⇑S.gaps:=by rw[g.wf.g];rwa[(gS.mp (agh X)).1]
   let et:=KZ (S:=S) X;erw[12,r,a.dx,12,h2.ins,212,r,S,a,c,2,h2,ou,212]
   cases hg:(S.gap c).head? with
   |none=>
    let e:oY (S.gap c)=.non:=by unfold oY;rw[hg];rfl
    rw[e];erw[⇑(cq S) - (i+ 1),32,U,G,d,23];rw[et,hg];simpa using B
   |some y=>
    let e:oY (S.gap c)=.int y:=by unfold oY;rw[hg];rfl
    rw[e];rwa[⟨1212,r,a.dx,12,h2.ins,212,r,S,a,c,2,h2,ou,by show 2<=sizeLine;decide,λt hnt=>?_⟩];let v:=aq.upd (o:=.tup [.int (c:Int),oY (S.gap c)]) hnt;erw[⇑(cq S) - (i+ 1),32,U,λb u q=>v b u (G b u q),d++[t],by cbv,by rw[agk,ahu];ext];rw[et,hg];rwa[(B.imp λp x _ _ q=>v^q).snoc ?_];show upd H3 t _ t=_;rw[ah,e]
  ·let e:i=⇑(cq S):=∅
   subst e;rw[ahZ]at B;rwa[.inl ⟨by rw[<-el];rwa[ib (aF.of N)],[agm]▸agz Xf (agz (show ⇑(cq S)<=100000 by omega) ⋯),λD hD=>?_⟩];let v:=aq.upd (o:=.lst (d.map V.ref)) hD;let Xg:upd Z D (.lst (d.map V.ref)) D\(.lst (d.map V.ref)):=ah;generalize upd Z D (.lst (d.map V.ref))=H3 at v Xg;let Y:aq H H3:=λb u q=>v b u (G b u (s1 b u q))
   rwa[⟨12,D,d.map V.ref,λj=>fh ((jT S (cq S)).getD j (0,0)).2,2,aF.of Xg,(R.same G).same v,λH4 Xh k4=>⟨λj y M=>?_,λe=>?_,λj y M hb=>?_⟩⟩]
   ·let I:j<⇑(jT S (cq S)):=by rw[<-B.1,<-agm (f:=V.ref)];rwa[(agj.mp M).1]
    let⟨t,O,q⟩:=B.at (agl I);rw[agx,O]at M;let e:=Za0 M;subst e
    let q4:H4 t=_:=k4 t _ (λz=>by
     let q3:=v^q;rcases (R.same G).same v with w|⟨_,_,_,_,w,_⟩
     ·rw[z,w]at q3;ext q3
     cbv) (v^q)
    rwa[⟨12,t,11122,bA.of q4,21252⟩]
    cbv
   ·have:d=[]:=List.map_eq_nil_iff.mp e;let e2:jT S (cq S)=[]:=ahM (by rw[<-B.1,this];rfl);rwa[kn (Ta g e2) H4 (λb u n q=>k4 b u n (Y b u q)) Xh]
   ·let I:j<⇑(jT S (cq S)):=by rw[<-B.1,<-agm (f:=V.ref)];rwa[(agj.mp M).1]
    let F:=agl I;generalize (jT S (cq S))[j]=p at F;let⟨t,O,q⟩:=B.at F;rw[agx,O]at M;let e:=Za0 M;subst e;let q3:=v^q
    let q4:H4 t=_:=k4 t _ (λz=>by
     rcases (R.same G).same v with w|⟨_,_,_,_,w,_⟩
     ·cbv
     cbv) q3
    let kv:∀{n:Nat} {x:Nat×Int},(jT S (cq S))[n]?\x->fh ((jT S (cq S)).getD n (0,0)).2=fh x.2:=λ{n x} hx=>by cbv
    rwa[ks p.1 p.2 (S9 g F λn c' z' hn=>?_) t H4 (λb u n q=>k4 b u n (Y b u q)) Xh q4];have:=hb n ([agm,B.1]▸(agj.mp hn).1);dsimp only at this;rw[kv F,kv hn]at this;rwa[this]
noncomputable def Td:Zh:=[114,111,111,109,115]
noncomputable def K3:Zh:=[108,101,116,116,101,114,115]
noncomputable def Te:Zh:=[110,101,119,101,115,116]
def New (C:Zs)(H:Hp)(Q:VK):Prop:=∀x d,H x=none->H d=none->d≠x->Q ↑x (upd (upd H d (.own x)) x (.ins C d []))
def IC (e c d a:Zs):Sp:=λb H Q E=>∃t:Zh,b=[.str (tx t)]/\(t=Td\/t=K3\/t=Te)/\(t=Td->New c H Q)/\(t=K3->New d H Q)/\(t=Te->New a H Q)
def gC {b:Zh}:(V.str (tx B)=V.str (tx b))↔B=b:=⟨λh=>Qa (V.str.inj h),λh=>by rw[h]⟩
def CZ (T:Txt K mg A):di P w K mg base (cZ P w) 1 A.vM A.vN ["name"] (IC A.nh A.cP A.bK A.cD):=by
 rwa[T.pS.F.Rp CP (λf H Q E h=>?_) (λj p a s H f Q E r h=>?_)]
 ·let⟨t,rfl,_⟩:=h;rfl
 ·let⟨t,rfl,m,g,b,n⟩:=h
  erw[_,(ai (bD (aX eB (pv 0) (dD (l:=[114,111,111,109,115]) rfl) (bf _))
   (au (bj (ux T.Kr T.Kt T.Ks rfl T.Oe)))
   bp)
   (ai (bD (aX eB (pv 0) (dD (l:=[108,101,116,116,101,114,115]) rfl) (bf _))
    (au (bj (ux T.Bf T.Bh T.Bg rfl T.CM)))
    bp)
   (ai (bD (aX eB (pv 0) (dD (l:=[110,101,119,101,115,116]) rfl) (bf _))
    (au (bj (ux T.HB T.HD T.HC rfl T.Kb)))
    bp)
   (au IX))))]
  rwa[gM ?_];intro k o d;erw[12212];rwa[bS (λh=>?_) (λe=>?_)]
  ·rwa[g (gC.mp (agU h))]
  erw[12212];rwa[bS (λh=>?_) (λi=>?_)]
  ·rwa[b (gC.mp (agU h))]
  erw[12212];rwa[bS (λh=>?_) (λc=>?_)]
  ·rwa[n (gC.mp (agU h))]
  rwa[m.elim (λz=>e (agW (gC.mpr z))) λq=>q.elim (λz=>i (agW (gC.mpr z))) λz=>c (agW (gC.mpr z))]
def p8 (h:ay a H b S O){d:Zs}{o:HO}(i:H d\o)(k:∀p q f,o≠.ins p q f)(j:∀c,o≠.lst c)(l:∀c,o≠.dK c):¬O.own b d:=λg=>by
 rcases g with q|q|q
 ·have:=h.ins;cbv
 ·let⟨c,e⟩:=h.Lv q;cbv
 ·let⟨c,e⟩:=h.qe q;cbv
def Ov (h:ay a H b S O){p:Zs}{d:Zb}(c:H p\.tup d):¬O.own b p:=p8 h c (by cbv) (by cbv) (by cbv)
def Ow {C:Zs}{x:Zs}(nx:H x=none)(c:H a=none)(d:a≠x)(k:∀b o,upd (upd H a (.own x)) x (.ins C a []) b\o->b≠x->I b\o)(g:∀b,O.own x b->b=x\/upd (upd H a (.own x)) x (.ins C a []) b=none):aq H I/\∀b,O.own x b->H b=none:=by
 let f:aq H (upd (upd H a (.own x)) x (.ins C a [])):=(aq.upd c).trans (aq.upd ([ak d.symm]▸nx));rwa[λb o e=>k b o (f^e) (aw e nx),λb z=>(g b z).elim (λe=>[e]▸nx) (same_none f)]
def MJ (p:Zs)(H a:Hp):Prop:=∀q o,q≠p->H q\o->a q\o
def MJ.upd {o:HO}:MJ a H (upd H a o):=λq u n e=>[ak n]▸e
def _root_.Lake.L2.eh.but {rs:Zn}{rows:Za3}{w:Zs}(h:eh H rs rows)(b:MJ w H I)(c:w∉rs):eh I rs rows:=⟨h.1,λi r ns a d=>b _ _ (λz=>c (by rw[<-z];rwa[agh a])) (h.2 i r ns a d)⟩
def K0 {rows:Za3}(h:eh H F rows){r:Zs}(c:r∈F):∃d,H r\(.lst (ao d)):=by
 let⟨i,b,e⟩:=aie.mp c;let a:i<⇑rows:=by rw[<-h.1];rwa[b]
 rwa[_,h.2 i r _ (by rw[agl b,e]) (agl a)]
def _root_.Lake.L2.eh.snoc {rs:Zn}{rows:Za3}{ns:Zg}(h:eh H rs rows)(f:H a\.lst (ao ns)):eh H (rs++[a]) (rows++[ns]):=by
 rwa[⟨by rw[agk,agk,h.1];rfl,λi q e c b=>?_⟩];by_cases d:i<⇑rs
 ·rw[ags d]at c;rw[ags (by rw[<-h.1];rwa[d])]at b;rwa[h.2 i q e c b]
 ·rw[agt ∅]at c;rw[agt (by rw[<-h.1];omega)]at b;rw[ago.mp (agh c),ago.mp (agh b)];rwa[f]
def bC (S:RS)(k c:Nat):Nat:=(S.by c (M12.st k)).getD 0
inductive wC (C:Zs) (vs:Zb) (H:Hp) (Q:VK) (E_:XK):Prop
 |mk (r:Zs) (S:RS) (a:RA) (Z:Nat->Prop):vs=[↑r]->ay C H r S a->1<=S.L->S.L<=40->S.made<=300->⇑S.ways=S.made->Z 0->(∀c,Z c->c<S.made/\∀k,k<2* S.L->∃d,S.by c (M12.st k)=some d/\Z d)->(∀l N H',aq H H'->H l=none->TabAt H' l (M24.fm (bC S) (2* S.L) (M24.bh (bC S) (2* S.L) 0 N))->⇑(M24.bh (bC S) (2* S.L) 0 N)=N->Q ↑l H')->wC C vs H Q E_
def uU (a:List (Key×V))(found:Zh):Prop:=⇑a<=⇑found/\∀c:Nat,bB a (Sum.inl (c:Int))=if c∈found then some (V.int (M24.ix found c:Int)) else none
def uU.one:uU [(Sum.inl 0,.int 0)] [0]:=⟨agp _,λc=>by
 by_cases h:c=0
 ·subst h;rfl
 ·rw[agF (λq=>h (ago.mp q))];show bB (putK [] (Sum.inl 0) (.int 0)) (Sum.inl (c:Int))=none;rw[pB,agF (λq=>by injection q with q;omega)];rfl⟩
def uU.put {c:List (Key×V)}{found:Zh}(h:uU c found)(nd:found.Nodup)(hc:n∉found):uU (putK c (Sum.inl (n:Int)) (.int (⇑found:Int))) (found++[n]):=by
 let g:(found++[n]).Nodup:=by
  rw[ahf];rwa[nd,by simp,λa i b j=>by cbv]
 rwa[⟨5,λf=>?_⟩]
 ·have:=g6 c (Sum.inl (n:Int)) (.int (⇑found:Int));have:=h.1;rw[agk,ahu];ext
 rw[pB];by_cases e:f=n
 ·subst e;rw[agI rfl,agI (agr _ agA),M24.Hq hc]
 ·rw[agF (λq=>e (by injection q with q;omega)),h.2];by_cases d:f∈found
  ·rw[agI d,agI (agJ _ d),M24.vE g d]
  cbv
structure NS (H0 H:Hp) (lf d lr:Zs) (ts:Zn) (kvs:List (Key×V)) (found:Zh) (Tb:Za3):Prop where
 same:aq H0 H
 f1:H lf\(.lst (ao (nI found)))
 d1:H d\(.dK kvs)
 nm:uU kvs found
 r1:H lr\(.lst (ts.map V.ref))
 r2:eh H ts Tb
 un:(lf::lr::ts).Nodup
 new:∀x∈lf::lr::ts,H0 x=none
 dn:H0 d=none
section
variable {H0 H H':Hp}{lf d lr:Zs}{ts:Zn}{kvs:List (Key×V)}{found:Zh}{Tb:Za3}
def NS.more (h:NS H0 H lf d lr ts kvs found Tb)(s:aq H H'):NS H0 H' lf d lr ts kvs found Tb:=
 ⟨h.same.trans s,s^h.f1,s^h.d1,h.nm,s^h.r1,h.r2.same s,h.un,h.new,h.dn⟩
def NS.ne (h:NS H0 H lf d lr ts kvs found Tb):lf≠lr/\lf∉ts/\lr∉ts/\ts.Nodup:=by
 let a:=agX.mp h.un
 cbv
def NS.add (h:NS H0 H lf d lr ts kvs found Tb)(nd:found.Nodup){c:Nat}(hc:c∉found):NS H0 (upd (upd H d (.dK (putK kvs (Sum.inl (c:Int)) (.int (⇑found:Int))))) lf (.lst (ao (nI found)++[.int (c:Int)]))) lf d lr ts (putK kvs (Sum.inl (c:Int)) (.int (⇑found:Int))) (found++[c]) Tb:=by
 let⟨j,k,n,m⟩:=h.ne;let dl:∀b g,H b\.lst g->b≠d:=λb g e=>bZ e h.d1 (by cbv)
 rwa[⟨λb o e=>?_,55,h.nm.put nd hc,5,⟨h.r2.1,λi q ns f l=>?_⟩,h.un,h.new,h.dn⟩]
 ·rw[ak (aw e (h.new lf agA)),ak (aw e h.dn)];rwa[h.same^e]
 ·rw[ah,ie,ints_app];rfl
 ·rw[ak (ahC (dl lf _ h.f1)),ah]
 ·rw[ak (ahC j),ak (dl lr _ h.r1)];rwa[h.r1]
 ·let a:=h.r2.2 i q ns f l;rw[ak (λe=>k (by rw[<-e];rwa[agh f])),ak (dl q _ a)];rwa[a]
def NS.row (h:NS H0 H lf d lr ts kvs found Tb){q:Zs}{row:Zg}(f:H q\.lst (ao row))(p:H0 q=none)(c:q∉lf::lr::ts):NS H0 (upd H lr (.lst ((ts++[q]).map V.ref))) lf d lr (ts++[q]) kvs found (Tb++[row]):=by
 let⟨g,k,m,i⟩:=h.ne;simp only[agB,not_or]at c;let⟨j,l,n⟩:=c;rwa[⟨λb o e=>?_,55,h.nm,ah,55,λx a=>?_,h.dn⟩]
 ·rw[ak (aw e (h.new lr (agS _ agA)))];rwa[h.same^e]
 ·rw[ak g];rwa[h.f1]
 ·rw[ak (bZ h.d1 h.r1 (by cbv))];rwa[h.d1]
 ·rwa[eh.but (w:=lr) (h.r2.snoc f) MJ.upd ?_]
  cbv
 ·cbv
 ·rw[<-aiU,<-aiU]at a;rcases agv.mp a with a|a
  ·rwa[h.new x a]
  cbv
end
def C0 (T:Txt K mg A):T.numbered.Ok P w base 2 (wC A.az):=by
 rwa[T.numbered.on fO (λcC AA outer s H vs Q E hr h=>?_)]
 ·let⟨r,S,a,Z,rfl,hR,lj,r0,hm,hw,hZ0,hZ,k⟩:=h;let tW:=iU hr
  erw[_,(ai (bI 1 fO.nd (pc T.pR (tU T) hr (ae (aH (pv 0) rfl) aj)))
   (ai (bI 2 fO.nd (b9 (ae av aj)))
   (ai (bI 3 fO.nd (Nk (Jp av av Nj) rfl rfl (by simp) ⋯))
   (ai (bI 4 fO.nd (b9 aj))
   (ai (bM (gJ agN (aX sE (bF bH rfl T.eI aha (ae (pv 4) aj)) (bF bH rfl T.eI aha (ae (pv 2) aj)) (bf _))
    (ai (kg (iy:=5) fO.nd rfl (Or.inl rfl) (fns:=["rows","rooms","found"]) (ixs:=[4,0,2]) (cl:=_) rfl (cX (pv 1)) (E6 rfl rfl rfl rfl ⋯ rfl ⋯ rfl ⋯ ⋯ rfl rfl rfl rfl rfl rfl rfl rfl rfl rfl) (λC s H ex=>(pm (pv 2) (aI T) T.ik (hM T) hr (ae (aY (Af (K:=K) rfl) (pv 3) (bF (y1 (K:=K) rfl) rfl T.eI aha (ae (pv 1) aj)) (λ_ _=>rfl)) (ae (pv 0) aj)))))
    (ai (cS agN rfl (cX (pv 5)) (dA 6 fO.nd)
     (au (bM (bD (OY (Gz tW (pv 6) (pv 3)))
      (ai (sJ tW (pv 3) (pv 6) (bF bH rfl T.eI aha (ae (pv 2) aj)) rfl)
      (au (aV (cQ agw agG agH bP (pv 2) (ae (pv 6) aj)))))
      bp))))
    (au (aV (cQ agw agG agH bP (pv 4) (ae (jb (fns:=["numbers"]) (ixs:=[3]) (cl:=_) rfl (cX (pv 5)) (pz rfl rfl ⋯ rfl ⋯ rfl ⋯ ⋯ rfl rfl rfl rfl) (λC s H ex=>(Dl tW (pv 1) (pv 0) (λ_ _=>rfl)))) aj))))))))
   (au (bj (pv 4))))))))]
  rwa[pF ?_];intro qy oS jP fS gy;rwa[⟨12,r,_,a.dx,112,hR.ins,aI T,T.rQ,vl^_,S.L,2,lj,3,λsl H1 s1 Xi=>?_⟩];rwa[⟨by show 1<=sizeLine;decide,λp BP=>?_⟩];let s2:=aq.upd (o:=.lst [.int 0]) BP;let BQ:upd H1 p (.lst [.int 0]) p\(.lst (ao (nI [0]))):=ah;generalize upd H1 p (.lst [.int 0])=H2 at s2 BQ ⊢;intro d hd;erw[ah,[(Sum.inl 0,.int 0)],2,by show 1<=15;decide];generalize AB:upd (upd H2 d (.dK [])) d _=H3;let Xj:H3 d\(.dK [(Sum.inl 0,.int 0)]):=by rw[<-AB,ah];rfl
  let s3:aq H2 H3:=λb o e=>by rw[<-AB,ak (aw e hd),ak (aw e hd)];rwa[e]
  clear AB;rwa[⟨agP _,λl Tf=>?_⟩];let s4:=aq.upd (o:=.lst []) Tf;let Tg:upd H3 l (.lst []) l\(.lst (([]:Zn).map V.ref)):=ah;generalize upd H3 l (.lst [])=H4 at s4 Tg ⊢
  let B4:NS H1 H4 p d l [] [(Sum.inl 0,.int 0)] (M24.bh (bC S) (2* S.L) 0 0) (M24.j5 (bC S) (2* S.L) 0 0):=by
   let nlr:H2 l=none:=s3.free Tf;let e:p≠l:=λz=>by cbv
   rwa[⟨(s2.trans s3).trans s4,(s3.trans s4) _ _ BQ,s4^Xj,uU.one,Tg,⟨2,λi r ns h1=>by simp at h1⟩,by simp[e],λx hx=>?_,s2.free hd⟩];simp only[agB,ag4,ait]at hx;rcases hx with e|e
   ·rw[e];rwa[BP]
   ·rw[e];rwa[s2.free nlr]
  clear s2 s3 s4 BQ Xj Tg BP hd Tf
  let ou:∀y i,Z y->i<2* S.L->Z (bC S i y):=λy i hy B=>by
   let⟨d,e1,e2⟩:=(hZ y hy).2 i B;unfold bC;rw[e1];rwa[e2]
  let oZ:∀n,∀z∈M24.bh (bC S) (2* S.L) 0 n,Z z:=M24.oz hZ0 ou;let Y:∀n,⇑(M24.bh (bC S) (2* S.L) 0 n)<=300:=λn=>agz (M11.jt S.made _ (M24.iQ _ _ _ n) λz R=>(hZ z (oZ n z R)).1) hm
  erw[λ fx H'=>∃(N:Nat) (G:Zn) (f:List (Key×V)) (v5 M:Zc),fx=#v[↑r,↑sl,↑p,↑d,↑l,v5,M]/\NS H1 H' p d l G f (M24.bh (bC S) (2* S.L) 0 N) (M24.j5 (bC S) (2* S.L) 0 N)/\⇑(M24.bh (bC S) (2* S.L) 0 N)=N,5]
  ·erw[λm σ H'=>∃(n:Nat) (G:Zn) (f:List (Key×V)) (v5 M:Zc),m=300 - n/\σ=#v[↑r,↑sl,↑p,↑d,↑l,v5,M]/\NS H1 H' p d l G f (M24.bh (bC S) (2* S.L) 0 n) (M24.j5 (bC S) (2* S.L) 0 n)/\n<=⇑(M24.bh (bC S) (2* S.L) 0 n),⟨_,(0),[],_,none,none,22,B4,agP _⟩];rintro m σ H5 ⟨n,G,f,v5,M,rfl,rfl,O,hn⟩;let hop:=Y n
   let X:⇑G=n:=by
    rw[O.r2.1];unfold M24.j5;rw[agm,agV];ext
   erw[12,l,12,.inl (aF.of O.r1),12,p,12,.inl (aF.of O.f1),112212];rwa[bS (λh=>?_) (λh=>?_)]
   ·let nV:n<⇑(M24.bh (bC S) (2* S.L) 0 n):=by
     let h':(⇑(G.map V.ref):Int)<(⇑(ao (nI (M24.bh (bC S) (2* S.L) 0 n))):Int):=agU h;rw[aM,bV,agm,X]at h';ext
    clear h;let F:=agl nV;generalize (M24.bh (bC S) (2* S.L) 0 n)[n]=c at F;let Ti:=oZ n c (agh F);let hcm:=(hZ c Ti).1;erw[_,λ fx H' h=>h];let R5:ay A.az H5 r S a:=hR.same (s1.trans O.same);let D:=O.same^Xi;erw[12,sl,2,⟨_,aF.of D⟩];rwa[kA (ao ((List.range (2* S.L)).map M12.st)) (λv=>match v with|.int z=>.int (((S.by c z).getD 0:Nat):Int)|v=>v) (kB (aF.of D)) (ji (aF.of D)) (ib (aF.of D)) ([aM,agm,agZ]▸agz (show 2* S.L<=1000 by omega) ⋯) (λi v hv Rr J=>?_) (λlo Tj=>?_)]
    ·let⟨z,rfl,R⟩:=cI hv
     let B:i<2* S.L:=by
      have:=(agj.mp R).1;rw[agm,agZ]at this;rwa[this]
     let ez:M12.st i=z:=Za0 ((rZ B).symm.trans R);let⟨dd,e1,e2⟩:=(hZ c Ti).2 i B;rw[ez]at e1;erw[12,r,a.dx,12,R5.ins,cK _ _ _ ⋯,1212,l,12,.inl (aF.of O.r1),p,11122,aF.of O.f1,([agm,X]▸bO (bW (fZ F))),12,r,S,a,c,z,2,R5,[hw]▸hcm]
     cbv
    let eo:(ao ((List.range (2* S.L)).map M12.st)).map (λv=>match v with|.int z=>V.int (((S.by c z).getD 0:Nat):Int)|v=>v)=ao (nI ((List.range (2* S.L)).map λi=>bC S i c)):=by
     unfold ao nI;rw[ag6,ag6,ag6,ag6];rfl
    rw[eo];clear eo;let s6:=aq.upd (o:=.lst (ao (nI ((List.range (2* S.L)).map λi=>bC S i c)))) Tj;let Tn:upd H5 lo (.lst (ao (nI ((List.range (2* S.L)).map λi=>bC S i c)))) lo\(.lst (ao (nI ((List.range (2* S.L)).map λi=>bC S i c)))):=ah;generalize upd H5 lo (.lst (ao (nI ((List.range (2* S.L)).map λi=>bC S i c))))=H6 at s6 Tn ⊢;let n1:lo≠p:=λz=>by rw[z,O.f1]at Tj;ext Tj
    let Q8:∀i,i<2* S.L->((List.range (2* S.L)).map λi=>bC S i c)[i]?\(bC S i c):=λi B=>by rw[agx,ahP B];rfl
    erw[12,lo,2,⟨_,aF.of Tn⟩];rwa[eP (K:=K) (a:=lo) (xs:=ao (nI ((List.range (2* S.L)).map λi=>bC S i c))) (λi σ U=>∃(f:List (Key×V)) (M:Zc),σ=#v[↑r,↑sl,↑p,↑d,↑l,↑lo,M]/\NS H1 U p d l G f (M24.dF (bC S) c (M24.bh (bC S) (2* S.L) 0 n) i) (M24.j5 (bC S) (2* S.L) 0 n)/\U lo\.lst (ao (nI ((List.range (2* S.L)).map λi=>bC S i c)))) ⟨f,M,2,O.more s6,Tn⟩ (λi σ U _ ζ=>by let⟨_,_,_,_,h⟩:=ζ;rwa[aF.of h]) ?_ ?_]
    ·rintro i y σ U B ⟨f,M,rfl,g,u⟩
     let To:i<2* S.L:=by
      have:=(agj.mp B).1;rw[aM,bV,agm,agZ]at this;rwa[this]
     rw[bW (fZ (Q8 i To))]at B;let ey:=Za0 B;subst ey
     let SF:⇑(M24.dF (bC S) c (M24.bh (bC S) (2* S.L) 0 n) i)<=300:=agz (M11.jt S.made _ (M24.sU (M24.iQ _ _ _ n) i) λz R=>by
      rcases M24.j4.mp R with q|⟨j,hj,rfl⟩
      ·rwa[(hZ z (oZ n z q)).1]
      ·rwa[(hZ _ (ou c j Ti (by omega))).1]) hm
     let Xk:(M24.dF (bC S) c (M24.bh (bC S) (2* S.L) 0 n) i).Nodup:=M24.sU (M24.iQ _ _ _ n) i;let Tp:=M24.ju (bC S) c (M24.bh (bC S) (2* S.L) 0 n) i;generalize M24.dF (bC S) c (M24.bh (bC S) (2* S.L) 0 n) i=come at Tp g SF Xk;rw[Tp];clear Tp;generalize bC S i c=o;rwa[⟨15,λ_ _ h=>h⟩];erw[1212,d,12,fY.k (k:=Sum.inl (o:Int)) g.d1,12];rw[g.nm.2 o];by_cases L:o∈come
     ·rw[agI L];rwa[dP ⟨f,125,u⟩];unfold M24.add;rw[agI L];rwa[g]
     ·rw[agF L];rwa[jF ?_];let B8:=g.add Xk L;let YY:(⇑(ao (nI come)):Int)=(⇑come:Int):=by rw[aM,bV]
      erw[12,p,12,.inl (aF.of g.f1),1212,d,12,qN.k (k:=Sum.inl (o:Int)) g.d1 (agu (show ⇑f<=300 by have:=g.nm.1;omega) ⋯)];let Xl:upd U d (.dK (putK f (Sum.inl (o:Int)) (.int (⇑(ao (nI come)):Int)))) p\(.lst (ao (nI come))):=by rw[ak (bZ g.f1 g.d1 (by cbv))];rwa[g.f1]
      erw[12,.inl ⟨21,aF.of Xl⟩,12,p,1122,Xl,5]
      ·rw[aM,bV];rwa[agu SF ⋯]
      rw[YY];erw[putK f (Sum.inl (o:Int)) (.int (⇑come:Int)),125]
      ·unfold M24.add;rw[agF L];rwa[B8]
      ·rw[ak n1,ak (bZ u g.d1 (by cbv))];rwa[u]
    ·rintro σ U ⟨f,M,rfl,g,u⟩;rw[aM,bV,agm,agZ,<-M24.fN F]at g;let aeV:=Y (n+ 1);let⟨t,ht⟩:=M24.uA (bC S) (2* S.L) 0 n;let HY:n+ 1<=⇑(M24.bh (bC S) (2* S.L) 0 (n+ 1)):=by rw[ht,agk];ext
     let hin:∀i,i<2* S.L->bC S i c∈M24.bh (bC S) (2* S.L) 0 (n+ 1):=λi B=>by rw[M24.fN F];rwa[M24.j4.mpr (.inr ⟨i,B,2⟩)]
     erw[12,.inl ⟨21,aF.of g.r1⟩,12,lo,2,⟨_,aF.of u⟩];rwa[kA (ao (nI ((List.range (2* S.L)).map λi=>bC S i c))) (λv=>match v with|.int z=>.int ((M24.ix (M24.bh (bC S) (2* S.L) 0 (n+ 1)) z.toNat:Nat):Int)|v=>v) (kB (aF.of u)) (ji (aF.of u)) (ib (aF.of u)) ([aM,bV,agm,agZ]▸agz (show 2* S.L<=1000 by omega) ⋯) (λi v hv Rr J=>?_) (λlq I=>?_)]
     ·let⟨z,rfl,R⟩:=cI hv
      let B:i<2* S.L:=by
       have:=(agj.mp R).1;rw[bV,agm,agZ]at this;rwa[this]
      let ez:((bC S i c:Nat):Int)=z:=Za0 ((fZ (Q8 i B)).symm.trans R);subst ez;let J:Rr (.int ((M24.ix (M24.bh (bC S) (2* S.L) 0 (n+ 1)) (((bC S i c:Nat):Int)).toNat:Nat):Int)) U:=J;rw[agT]at J;rwa[⟨1212,d,125,J⟩];have:=fY.k (k:=Sum.inl ((bC S i c:Nat):Int)) g.d1;rw[g.nm.2,agI (hin i B)]at this;rwa[this]
     let eo:(ao (nI ((List.range (2* S.L)).map λi=>bC S i c))).map (λv=>match v with|.int z=>V.int ((M24.ix (M24.bh (bC S) (2* S.L) 0 (n+ 1)) z.toNat:Nat):Int)|v=>v)=ao ((List.range (2* S.L)).map λi=>((M24.ix (M24.bh (bC S) (2* S.L) 0 (n+ 1)) (bC S i c):Nat):Int)):=by
      unfold ao nI;rw[ag6,ag6,ag6,ag6];rfl
     rw[eo];clear eo;let s8:=aq.upd (o:=.lst (ao ((List.range (2* S.L)).map λi=>((M24.ix (M24.bh (bC S) (2* S.L) 0 (n+ 1)) (bC S i c):Nat):Int)))) I;let Xm:upd U lq (.lst (ao ((List.range (2* S.L)).map λi=>((M24.ix (M24.bh (bC S) (2* S.L) 0 (n+ 1)) (bC S i c):Nat):Int)))) lq\(.lst (ao ((List.range (2* S.L)).map λi=>((M24.ix (M24.bh (bC S) (2* S.L) 0 (n+ 1)) (bC S i c):Nat):Int)))):=ah;generalize upd U lq (.lst (ao ((List.range (2* S.L)).map λi=>((M24.ix (M24.bh (bC S) (2* S.L) 0 (n+ 1)) (bC S i c):Nat):Int))))=H8 at s8 Xm ⊢
     let nq:lq∉p::l::G:=by
      simp only[agB,not_or];rwa[⟨λz=>?_,λz=>?_,λz=>?_⟩]
      ·rw[z,g.f1]at I;ext I
      ·rw[z,g.r1]at I;ext I
      ·let⟨ns,e⟩:=K0 g.r2 z
       cbv
     let B8:=(g.more s8).row Xm (g.same.free I) nq;rw[<-M24.yI F]at B8;erw[l,1122,s8^g.r1,5]
     ·rw[agm,X];rwa[agu (show n<=300 by omega) ⋯]
     rw[agR]at B8;rwa[300 - (n+ 1),3,n+ 1,G++[lq],f,1122,B8,HY]
   ·erw[n,G,f,112,O];let h':¬(⇑(G.map V.ref):Int)<(⇑(ao (nI (M24.bh (bC S) (2* S.L) 0 n))):Int):=λq=>h (agW q)
    rw[aM,bV,agm,X]at h';ext
  rintro fx H' ⟨N,G,f,v5,M,rfl,B',hN⟩;rwa[⟨12,k l N H' (s1.trans B'.same) (s1.free (B'.new l (agS _ agA))) ⟨G,B'.r1,5⟩ hN⟩];rw[<-M24.AK hN];rwa[B'.r2]
inductive IE (K:Za1) (vs:Zb) (H:Hp) (Q:VK) (E_:XK):Prop
 |mk (a:Zs) (ns:Zg) (k:Nat):vs=[↑a,.int k]->aF K H a (ao ns)->k<=1000->(∀z,Q (.int z) H)->IE K vs H Q E_
def bE (T:Txt K mg A):T.bL.Ok P w base 1 (IE K):=by
 rwa[T.bL.on vZ (λi l c s H j Q E m h=>?_)]
 ·let⟨a,b,n,rfl,d,o,k⟩:=h
  refine⟨_,(ai (bD (aX sE (pv 1) (bF bH rfl T.eI aha (ae (pv 0) aj)) (bf _))
   (au (bj (aY bu (pv 0) (pv 1) (λ_ _=>rfl))))
   bp)
   (au (bj av))),?_⟩
  rwa[ja ?_];intro f;erw[1212,a,12,.inl d,112212];rwa[bS (λh=>?_) (λh=>?_)]
  ·let g:(n:Int)<(⇑(ao b):Int):=agU h;rw[aM]at g;let e:b[n]?=some b[n]:=agl ∅
   rwa[1212,a,11122,d,bO (bW e),k _]
  ·rwa[k _]
structure CS (CR CG CC:Zs) (H:Hp) (x r:Zs) (q:KA) (S:RS) (a:RA) (R:Za2) (ks:Zg) (B:Nat) (rs ps:Za3) (fp:List (Zg×Nat)) (bs:List (Nat×Zg×Nat)) (gs:Zf) (ag:Zh) (W:bG) (O:Zs->Prop):Prop where
 c:cw CG CC H x r q gs ag W ⇑S.aZ fp O
 q:H q.aQ\(.dT (iK fp))
 rm:iM CR H r S a R ks B
 dj:∀b,a.own r b->¬O b
 ci:CI S bs gs ag W fM none
 bo:BG (rs++ps) ⇑rs ks bs
 pl:xP rs fp
 br:∀b∈bs,b.2.2<S.made
 ra:∀w∈rs,w≠[]->∀c,c<S.made->S.ax c=c->∃n,(n,w,c)∈bs
 pa:∀w∈ps,w≠[]->∃n,(n,w,0)∈bs
 ln:⇑bs<=S.made* ⇑fp+ ⇑ps
 wb:∀u∈rs++ps,⇑u<=1000/\∀z∈u,(-1000<=z/\z<=1000)/\z∈ks/\-z∈ks
def CS.Tq {CR:Zs}{x:Zs}{q:KA}{rs o:Za3}{p:List (Zg×Nat)}{bs:List (Nat×Zg×Nat)}{gs:Zf}{W:bG}{d:Zs->Prop}(h:CS CR a b H x c q S O R l n rs o p bs gs [] W d)(r:0<S.made):E7 rs o S:=by
 rwa[⟨λw j g hc m=>?_,λw j=>?_⟩]
 ·by_cases i:w=[]
  ·rw[i];rwa[.inl rfl]
  ·let⟨e,k⟩:=h.ra w j i g hc m;rwa[ends (b:=(e,w,g)) h.ci h.rm.g k m]
 ·by_cases i:w=[]
  ·rw[i];rwa[.inl rfl]
  ·let⟨e,k⟩:=h.pa w j i;rwa[ends (b:=(e,w,0)) h.ci h.rm.g k (by have:=(h.rm.g.el 0 r).1;rwa[Nat.le_zero.mp this])]
inductive Ei (CR CG CC:Zs) (vs:Zb) (H:Hp) (Q:VK) (E_:XK):Prop
 |mk (x r:Zs) (q:KA) (S:RS) (a:RA) (R:Za2) (B:Nat) (rs ps:Za3) (fp:List (Zg×Nat)) (bs:List (Nat×Zg×Nat)) (gs:Zf) (W:bG) (O:Zs->Prop) (c:Nat) (z:Int):vs=[↑x,.int c,.int z]->CS CR CG CC H x r q S a R (bq (2* S.L)) B rs ps fp bs gs [] W O->1<=S.L->S.L<=200->c<S.made->S.ax c=c->S.by c z=none->z∈bq (2* S.L)-> -z∈bq (2* S.L)->S.made<1000->(S.made+ 1)* ⇑fp+ ⇑ps<=700->B<800000->⇑S.aZ+ S.stand<=800000->(∀S' a' R' bs' iS W' O' B' H',(∀b o,¬O b->¬a.own r b->H b\o->H' b\o)->CS CR CG CC H' x r q S' a' R' (bq (2* S.L)) B' rs ps fp bs' iS [] W' O'->(∀b,a'.own r b\/O' b->a.own r b\/O b\/H b=none)->Tr (rs++ps) ⇑rs (S.make c z (bq (2* S.L))) S'->S'.made=S.made+ 1->S'.L=S.L->B'<=B+ 702->Q .non H')->Ei CR CG CC vs H Q E_
def wD (T:Txt K mg A):T.mF.Ok mg P w base 9 (Ei A.az A.aJ A.aD):=by
 rwa[T.mF.on v7 (λcC AA outer s H vs Q E hr h=>?_)]
 ·let⟨x,r,q,S,a,R,B,rs,ps,i,bs,gs,W,O,c,z,rfl,h,lj,r0,hc,ec,d,hz,D,hm,BK,hB,hwn,k⟩:=h
  refine⟨_,(ai (aV (pm (pv 0) (aK T) T.eZ (iT T) hr (ae (pm (aH (pv 0) rfl) (aI T) T.pX (zp T) hr (ae (pv 1) (ae (pv 2) aj))) aj)))
   (ai (aV (pm (pv 0) (aK T) T.eT (fH T) hr (ae (pv 1) (ae (pv 2) aj))))
   (au (aV (vA (pv 0) (aK T) T.iE (lu T) hr))))),?_⟩
  rwa[eQ ?_];intro fS gy;let l:=h.rm.g;let rb:=h.rm.rb;let ok:=yR l h.rm.k ∅ (by have:=h.rm.l;omega) ∅ ∅;rwa[⟨12,x,q.dx,12,h.c.ins,fe ⋯,12,x,_,q.dx,112,h.c.ins,aK T,T.eV,fQ^_,r,a.dx,12,h.rm.at_.ins,cK _ _ _ ⋯,1212,r,S,a,c,z,2,h.rm.at_,l.wf,lj,r0,hc,33,ok.sm.w,λa1 H1 V qh X=>?_⟩];let oth:∀b,O b->∃o,H b\o:=λb y=>by let⟨o,e,_⟩:=h.c.th b y;rwa[o,e]
  let tno:∀b Z,H b\.tup Z->H1 b\(.tup Z):=λb Z e=>V b _ (λy=>Ov h.rm.at_ e y) e
  let c1:=h.c.keep (λb o y e=>V b o (λw=>h.dj b w y) e) tno;let q1:H1 q.aQ=_:=V _ _ (xQ h.rm.at_ h.q) h.q;let ci1:=h.ci.make l hc ec d h.br (bq (2* S.L))
  let Y:∀b,a1.own r b->¬O b:=λb y w=>by
   rcases X b y with v|v
   ·rwa[h.dj b v w]
   cbv
  let Mx:⇑bs+ ⇑i<=700:=by have:=h.ln;rw[aiT,Nat.one_mul]at BK;ext
  rwa[⟨x,r,q,S.make c z (bq (2* S.L)),bs,gs,[],W,⇑S.aZ,i,O,_,S.made,2,c1,q1,ci1,λp hp=>?_,ahE _,3,agP _,λf j L H2 u My G c2 J Iz=>?_⟩]
  ·have:=h.wb p.1 (agJ _ (agh (h.pl.a p hp)));rwa[this.1,λy hy=>(this.2 y hy).1]
  let bl:=p7 S.made i;let l2:⇑(bs++gB i S.made)<=700:=by rw[agk];ext
  let Xn:BG (rs++ps) ⇑rs (bq (2* S.L)) (bs++gB i S.made):=by
   let nw:∀b∈gB i S.made,(rs++ps)[b.1]?\b.2.1/\b.1<⇑rs:=λb d=>by
    let⟨p,hp,d⟩:=ah0.mp d;let⟨rfl,_⟩:=wB d;let h1:=h.pl.a p hp
    cbv
   rwa[⟨λb d=>?_,λb d=>?_,λb d=>?_,λb d=>?_,3⟩]
   ·rwa[(agv.mp d).elim (h.bo.w b) λy=>(nw b y).1]
   ·rwa[(agv.mp d).elim (h.bo.n b) λy=>.inl (nw b y).2]
   ·rwa[(agv.mp d).elim (h.bo.l b) λy=>(h.wb _ (agh (nw b y).1)).1]
   ·rwa[(agv.mp d).elim (h.bo.k b) λy z' D=>((h.wb _ (agh (nw b y).1)).2 z' D).2]
  let g2:⇑f<=700:=by rw[J.len];rwa[l2]
  let Ik:kQ A.aJ A.aD (S.make c z (bq (2* S.L))) (bs++gB i S.made) f W (λr s=>r=c/\s=z) (⇑j+ 2* ⇑f) x r q ⇑S.aZ i L H2 j W:=⟨c2,J,λ_ _ _ z=>z,by have:=J.two;ext⟩;rwa[⟨12,x,q.dx,12,c2.ins,fe ⋯,1212,x,r,q,f,j,W,⇑S.aZ,i,L,c,z,2,c2,Ik.fits ∅,λns H3 t nd3 Ts c3=>?_⟩];let N:=Ik.wake nd3 Ts c3;let Sz:CI (S.make c z (bq (2* S.L))) (bs++gB i S.made) f (j++ns) (gj W c z) fM none:=N.i.ex λr' s' n' w' _ e=>absurd ⟨ahF Nat.cast e.1,e.2⟩ (df.mp w').2
  let Xo:∀b,a1.own r b->¬L b:=λb y w=>by
   rcases G b w with v|v
   ·rwa[Y b y v]
   ·let⟨o,e⟩:=qh.there y;cbv
  let Xp:iM A.az H1 r (S.make c z (bq (2* S.L))) a1 (fL R c z S.made) (bq (2* S.L)) (B+ 2):=by
   let es:=Fg (c:=c) (z:=z) (g:=bq (2* S.L)) l.wf;let M:(S.make c z (bq (2* S.L))).aZ=S.aZ:=rfl;rwa[⟨qh,l.make hc ec d _,rn h.rm.w l.wf _ _ _,λa y b e=>?_,by show S.made+ 1<=_;ext,h.rm.l,5,by rw[M];ext⟩]
   ·rcases e with e|⟨_,e,_⟩|⟨_,e,_⟩
    ·rwa[h.rm.k _ _ _ e]
    ·rw[e];rwa[hz]
    ·rw[e];rwa[D]
   ·show ⇑(S.rows++[_])+ _<=_;rw[agk,es];show ⇑S.rows+ 1+ _<=_;ext
  let rm3:=(Xp.keep (λb o y e=>u b o (Y b y) e) (λb Z e=>u b _ (c1.i3 e) e)).keep (λb o y e=>t b o (Xo b y) e) (λb Z e=>t b _ (c2.i3 e) e);let lv:live f<=700:=agz List.countP_le_length g2;let hmul:live f* (2* ⇑(bs++gB i S.made)+ 1)<=700* 1401:=ajl lv ∅;let WW:⇑(j++ns)<=2100:=by have:=N.b;ext
  rwa[⟨12,x,q.dx,12,c3.ins,fe ⋯,x,r,q,S.make c z (bq (2* S.L)),a1,fL R c z S.made,bq (2* S.L),B+ 2,rs++ps,⇑rs,bs++gB i S.made,f,j++ns,gj W c z,i,L,2,c3,rm3,3,Xo,Sz,Xn,3,λS' a' R' iS W' O' B' H' f' c' r' ow oo dj' ci' rr em eL tr Ax=>?_⟩];let I:S'.made=S.made+ 1:=em
  let out:∀{b o},¬O b->¬a.own r b->H b\o->H' b\o:=λ{b o} C F e=>by
   let U:=V b o F e;let e2:=u b o C U;let n3:¬L b:=λy=>(G b y).elim C λv=>by cbv
   rwa[f' b o n3 (λy=>(X b y).elim F λv=>by cbv) (t b o n3 e2)]
  let non:∀b,a1.own r b\/L b\/H3 b=none->a.own r b\/O b\/H b=none:=λb y=>by
   by_cases F:a.own r b
   ·rwa[.inl F]
   by_cases C:O b
   ·rwa[.inr (.inl C)]
   rwa[.inr (.inr ?_)]
   cases e:H b with
   |none=>rfl
   |some o=>
    exfalso
    let U:=V b o F e;let n3:¬L b:=λy=>(G b y).elim C λv=>by cbv
    rcases y with y|y|y
    ·cbv
    ·rwa[n3 y]
    ·rw[t b o n3 (u b o C U)]at y;ext y
  let lt:=Later.of l (l.make hc ec d (bq (2* S.L))) i9 (aiv _);let lt2:=Later.of Xp.g r'.g rr (ajr em.symm);let el1:∀b,b<S.made->(S.make c z (bq (2* S.L))).ax b=S.ax b:=λb nV=>(fz l.wf c z (bq (2* S.L)) b).trans (agF ∅)
  rwa[k S' a' R' (bs++gB i S.made) iS W' O' B' H' (λb o C F e=>out C F e) ⟨c',out (h.c.Ic h.q) (xQ h.rm.at_ h.q) h.q,r',dj',ci',Xn,h.pl,λb d=>?_,λw M m b d eb=>?_,λw M m=>?_,5,h.wb⟩ (λb y=>?_) tr I (eL.trans rfl) ∅]
  ·rw[I];rcases agv.mp d with y|y
   ·have:=h.br b y;ext
   ·let⟨p,_,d⟩:=ah0.mp y;let⟨rfl,_⟩:=wB d;rwa[ahE _]
  ·by_cases e:b<S.made
   ·let U:=lt2.el b (by show b<S.made+ 1;omega);rw[el1 b e,eb]at U;let l1:=(l.el b e).1;let l2:=(r'.g.el (S.ax b) ∅).1;let⟨n,hn⟩:=h.ra w M m b e ∅
    cbv
   ·let e:b=S.made:=∅
    subst e;let⟨n,hn⟩:=h.pl.b w M;rwa[n,agr _ (ah0.mpr ⟨(w,n),hn,FV m⟩)]
  ·let⟨n,hn⟩:=h.pa w M m
   cbv
  ·have:=h.ln;rw[agk,I,aiT,Nat.one_mul];ext
  cbv
def zC (T:Txt K mg A):xo K A.bz:=⟨T.FK,T.FL,T.FN,T.FP,T.FQ,T.FU⟩
noncomputable def BR (n:Nat)(l:Zs):List (Str×V):=[("made",.int n),("rows",↑l)]
inductive MK (C:Zs) (vs:Zb) (H:Hp) (Q:VK) (E_:XK):Prop
 |mk (x l:Zs) (n:Nat) (xs:Zb):vs=[↑x,.int n,↑l]->H x\XO x C none true->n<100000->H l\.lst xs->⇑xs<=1000000->(∀d l2 H',H d=none->H l2=none->d≠x->(∀b o,b≠x->H b\o->H' b\o)->H' x\XO x C (some d) true->H' d\XD d (BR n l2)->H' l2\.lst xs->l2≠x->Q .non H')->MK C vs H Q E_
def qF (T:Txt K mg A):T.dG.Ok mg P w base 1 (MK A.bz):=by
 rwa[T.dG.on qC (λN X D s H U Q E Y h=>?_)]
 ·let⟨x,l,n,v,rfl,y,Z,I,L,k⟩:=h
  refine⟨_,(ai (aV (J0 (DM T.vY T.dG.m.at_) ⟨T.Yy,T.Yz,T.YB⟩ rfl T.CL (ae (pv 0) (ae (GA (Dr (Nn (pv 1)) (Dr (dD (l:=[32,114,111,111,109,115,32,119,101,114,101,32,109,97,100,101,44,32,97,110,100,32,116,104,101,114,101,32,97,114,101,32,103,97,112,115,32,108,101,102,116]) rfl) Qq))) aj))))
   (ai (DH (pv 0) (pv 1) rfl)
   (au (DH (pv 0) (eJ (zQ) rfl T.ip ahy (ae (pv 2) aj)) rfl)))),?_⟩
  rwa[eQ ?_];intro R M;let S:=Jl (n:=(n:Int)) ∅ ∅;erw[1212,(n:Int),2312,by show 0+ _<=1000000;ext,1255,x,none,12,y]
  ·rw[ai5];let e:∀m:Nat,m<=100->⇑(zX (n:Int))+ m<=1000000:=λm O=>∅
   rwa[e _ ⋯]
  ·rw[ai5,agk];let e:∀m:Nat,m<=100->⇑(zX (n:Int))+ m<=1000000:=λm O=>∅
   rwa[e _ ⋯]
  rwa[⟨1212,x,A.bz,none,true,2,y,zC T,T.Oi,λd p=>?_⟩];let a:d≠x:=(aw y p).symm;let c:upd (upd H d (XD d [("made",V.int n)])) x (XO x A.bz (some d) true) x\(XO x A.bz (some d) true):=ah;let i:upd (upd H d (XD d [("made",V.int n)])) x (XO x A.bz (some d) true) d\(XD d [("made",V.int n)]):=by rw[ak a,ah]
  let C:∀b o,b≠x->H b\o->upd (upd H d (XD d [("made",V.int n)])) x (XO x A.bz (some d) true) b\o:=λb o B e=>by rw[ak B,ak (aw e p)];rwa[e]
  let B:∀b,upd (upd H d (XD d [("made",V.int n)])) x (XO x A.bz (some d) true) b=none->H b=none:=λb e=>by
   by_cases q:b=x
   ·cbv
   ·rw[ak q]at e;by_cases J:b=d
    ·rw[J];rwa[p]
    ·rw[ak J]at e;rwa[e]
  generalize upd (upd H d (XD d [("made",V.int n)])) x (XO x A.bz (some d) true)=G at c i C B ⊢;let F:l≠x:=bZ I y f!"";rwa[⟨12,l,v,2,.inl (aF.of (C _ _ F I)),λg f=>?_⟩];let t:=aq.upd (o:=.lst v) f;let r:upd G g (.lst v) g\(.lst v):=ah;let j:g≠x:=(aw c f).symm;let u:g≠d:=(aw i f).symm;generalize upd G g (.lst v)=H2 at t r ⊢;erw[12,x,A.bz,some d,true,2,t^c,zC T,T.xM,_,a,t^i,by show 1<1000;decide];rw[show bJ "rows" (V.ref g) [("made",V.int n)]=BR n g from dE (by kernel_rfl)];rwa[k d g _ p (B _ f) a (λb o q e=>?_) ?_ ah ?_ j]
  ·rw[ak (aw e p)];rwa[t^C b o q e]
  ·rw[ak a.symm];rwa[t^c]
  ·rw[ak u];rwa[r]
inductive Fl (rs ps:Za3) (L w lim:Nat):RS->Prop
 |start {S:RS}:Tr (rs++ps) ⇑rs (RS.new L (bq (2* L))) S->E7 rs ps S->Fl rs ps L w lim S
 |next {S S':RS} {c:Nat} {z:Int}:Fl rs ps L w lim S->S.made<lim->km w S L c z->Tr (rs++ps) ⇑rs (S.make c z (bq (2* L))) S'->E7 rs ps S'->Fl rs ps L w lim S'
def ML (L:Nat)(u:Zg):Prop:=⇑u<=1000/\∀z∈u,z≠0/\z.natAbs<=L
def sr (d:n<=200){u:Zg}(h:ML n u):⇑u<=1000/\∀z∈u,(-1000<=z/\z<=1000)/\z∈bq (2* n)/\-z∈bq (2* n):=by
 rwa[⟨h.1,λz c=>?_⟩];let⟨b,a⟩:=h.2 z c;rwa[3,hO.mpr ⟨b,a⟩,hO.mpr ⟨33⟩]
def mQ (h:S.aS[n]?\n):S.ax n=n:=by unfold RS.ax;rw[agq,h];rfl
def Fl.ys {rs a:Za3}{w:Nat}(h:Fl rs a n w m S)(b:∀u∈rs++a,∀z∈u,z∈bq (2* n)/\-z∈bq (2* n)):∃R,YS S n (bq (2* n)) R:=by
 induction h with
 |start t _=>
  let⟨R,y,_⟩:=YS.new.tr t b;rwa[R,y]
 |next _ _ l t _ i=>
  let⟨R,y⟩:=i;let⟨f,d,c,e⟩:=l.1;let⟨k,o⟩:=hO.mp c;let⟨j,g,_⟩:=(y.make f (mQ d) e c (hO.mpr ⟨33⟩)).tr t b;rwa[j,g]
def _root_.Lake.L2.YS.gl (y:YS S n (bq (2* n)) R)(a:S.made<=100000)(d:n<=200):GL S n:=⟨y.g.wf,a,d,λc hc b=>y.gi.fin y.g (HG _) hc (mQ b)⟩
def Kp.at {pos:Pos}(k:Kp a H I)(t:c9 a pos x H){b:Zs}{u:HO}(e:H b\u)(n:∀c,u≠.fw c):I b\u:=k b u (λz=>by
 rcases t with w|⟨_,_,_,_,w,_⟩
 ·cbv
 cbv) e
def MN (S:RS)(L w:Nat)(H:Hp)(v:V):Prop:=(v=.non/\∀c z,¬gR S L c z)\/∃(c:Nat) (z:Int) (t:Zs),v=↑t/\km w S L c z/\H t\(.tup [.int (c:Int),.int z])
def wF (b c a:Zs)(H:Hp)(o:Zs)(w:Nat):Prop:=∃d,(w=0/\H o\.ins b d [])\/(w=1/\H o\.ins c d [])\/(w=2/\H o\.ins a d [])
def wF.keep {w:Nat}(h:wF a b c H d w)(k:∀C e,H d\.ins C e []->I d\.ins C e []):wF a b c I d w:=by
 obtain⟨e,h|h|h⟩:=h
 ·rwa[e,.inl ⟨h.1,k^h.2⟩]
 ·rwa[e,.inr (.inl ⟨h.1,k^h.2⟩)]
 ·rwa[e,.inr (.inr ⟨h.1,k^h.2⟩)]
def BU {e r:Zs}{w:Nat}{Q:VK}{E:XK}(p:H d\.ins c e [])(h:ay a H r S O)(g:GL S n)(o:c9 b dW iu H)(k:∀v i,Kp b H i->c9 b dW iu i->MN S n w i v->Q v i):jR a b c w [↑d,↑r] H Q E:=
 ⟨d,e,r,S,O,n,2,p,h,g,o,λs i j l=>k _ i j l (.inl ⟨2,s⟩),λf z q t i j l m=>k _ i j l (.inr ⟨f,z,t,2,q,m⟩)⟩
theorem Ox {w:Nat}{Q:VK}{E:XK}(f:D[5]?\some ↑a)(i:D[6]?\some ↑b)(l:wF A.cP A.bK A.cD H a w)(h:ay A.az H b S O)(g:GL S n)(j:c9 A.eG dW iu H)(k:∀v c,Kp A.eG H c->c9 A.eG dW iu c->MN S n w c v->Q v c):
 Ay (kc A.cP "gap" (jR A.az A.eG A.cP 0) [] E (i6 5) (jD (i6 6) jV)) (Ay (kc A.bK "gap" (jR A.az A.eG A.bK 1) [] E (i6 5) (jD (i6 6) jV)) (kc A.cD "gap" (jR A.az A.eG A.cD 2) [] E (i6 5) (jD (i6 6) jV))) D H Q:=by
 obtain⟨d,⟨rfl,e⟩|⟨rfl,e⟩|⟨rfl,e⟩⟩:=l
 ·rwa[.inl ⟨_,f,a,d,12,e,21,i,BU e h g j k⟩]
 ·rwa[.inr (.inl ⟨_,f,a,d,12,e,21,i,BU e h g j k⟩)]
 ·rwa[.inr (.inr ⟨_,f,a,d,12,e,21,i,BU e h g j k⟩)]
def lK (w:Nat):Zh:=if w=0 then Td else if w=1 then K3 else Te
def ko (H:Hp)(l:Zs)(S:RS):Prop:=∃a:Zn,H l\.lst (a.map V.ref)/\Each (λp d=>bN H 4 ↑p d) a S.rows/\⇑S.rows<=1000000
inductive IG (Pt cN cT:Zs) (vs:Zb) (H:Hp) (Q:VK) (E:XK):Prop
 |mk (ru pa:Zs) (L lim w:Nat) (rs ps:Za3):vs=[.int L,↑ru,↑pa,.int lim,.str (tx (lK w))]->w<3->1<=L->L<=40->1<=lim->lim<=300->bR H ru rs->bR H pa ps->(∀u∈rs++ps,ML L u)->lim* ⇑rs+ ⇑ps<=700->⇑rs<=400->⇑ps<=400->c9 Pt dW iu H->(∀t tb pp S N H',Kp Pt H H'->c9 Pt dW iu H'->Fl rs ps L w lim S->(∀c z,¬gR S L c z)->H' t\.tup [↑tb,↑pp]->TabAt H' tb (M24.fm (bC S) (2* S.L) (M24.bh (bC S) (2* S.L) 0 N))->⇑(M24.bh (bC S) (2* S.L) 0 N)=N->ko H' pp S->Q ↑t H')->(∀d pp S H',Kp Pt H H'->c9 Pt dW iu H'->Fl rs ps L w lim S->S.made=lim->(∃c z,km w S L c z)->H' d\XD d (BR S.made pp)->ko H' pp S->E ↑cT (some d) H')->IG Pt cN cT vs H Q E
section
variable {CR CG CC:Zs}{H H':Hp}{x r:Zs}{q:KA}{S:RS}{a:RA}{R:Za2}{ks:Zg}{B:Nat}{rs ps:Za3}{fp:List (Zg×Nat)}{bs:List (Nat×Zg×Nat)}{gs:Zf}{ag:Zh}{W:bG}{O:Zs->Prop}
def CS.keep (h:CS CR CG CC H x r q S a R ks B rs ps fp bs gs ag W O)(f:∀b o,H b\o->(∀ps,o≠.fw ps)->H' b\o):CS CR CG CC H' x r q S a R ks B rs ps fp bs gs ag W O:=
 ⟨h.c.keep (λb o c e=>f b o e (by let⟨i,g,n⟩:=h.c.th b c;cbv)) (λb d e=>f b _ e (by cbv)),f _ _ h.q (by cbv),h.rm.keep (λb o c e=>f b o e (by
  intro ps z;rw[z]at e;rwa[p8 h.rm.at_ e (by cbv) (by cbv) (by cbv) c])) (λb d e=>f b _ e (by cbv)),h.dj,h.ci,h.bo,h.pl,h.br,h.ra,h.pa,h.ln,h.wb⟩
def CS.tab (h:CS CR CG CC H x r q S a R ks B rs ps fp bs gs ag W O){d:Zs}{pos:Pos}{c:Str}(t:c9 d pos c H)(f:∀b o,¬O b->¬a.own r b->H b\o->H' b\o):c9 d pos c H':=by
 rwa[t.keep λb u e k=>f b u (λz=>?_) (λz=>?_) e]
 ·let⟨o,g,n⟩:=h.c.th b z
  cbv
 ·rcases k with ⟨ps,rfl⟩|⟨o,v,rfl⟩
  ·rwa[p8 h.rm.at_ e (by cbv) (by cbv) (by cbv) z]
  ·rwa[p8 h.rm.at_ e (by cbv) (by cbv) (by cbv) z]
end
structure wG (A:qv) (H0 H:Hp) (x r:Zs) (L lim w:Nat) (rs ps:Za3) (S:RS):Prop where
 k:Kp A.eG H0 H
 t:c9 A.eG dW iu H
 cs:∃q a R B fp bs gs W O,CS A.az A.aJ A.aD H x r q S a R (bq (2* L)) B rs ps fp bs gs [] W O/\(∀b,a.own r b\/O b->H0 b=none)/\B<=702* S.made
 f:Fl rs ps L w lim S
 m:S.made<=lim
 l:S.L=L
def wG.kp {H0:Hp}{x:Zs}{w:Nat}{rs f:Za3}(h:wG A H0 H x a n m w rs f S)(k:Kp A.eG H I)(t:c9 A.eG dW iu I):wG A H0 I x a n m w rs f S:=by
 let⟨q,c,R,B,g,bs,gs,W,O,cs,i,j⟩:=h.cs;rwa[h.k.trans k,t,⟨q,c,R,B,g,bs,gs,W,O,cs.keep λb o e d=>k.at h.t e d,i,j⟩,h.f,h.m,h.l]
theorem Ej (T:Txt K mg A)(Y:j3 mg base):di P w K mg base (cZ P w) 11 A.Ht A.Hu ["letters","rules","part","limit","order"] (IG A.eG A.nh A.bz):=by
 rwa[T.fill.Rp lO (λvs H Q E h=>?_) (λcC AA outer s H vs Q E M h=>?_)]
 ·let⟨ru,pa,L,i,I,rs,f,rfl,_⟩:=h;rfl
 ·let⟨ru,pa,L,i,I,rs,f,rfl,WH,lj,r0,yQ,DE,Ir,Iu,aL,BK,yN,kH,hT,kq,ke⟩:=h
  erw[_,(ai (bI 5 lO.nd (wV (CZ T) (M.mono ⋯) rfl T.pS.m T.pS.F.kp T.pS.b .nil U2 (ae (pv 4) aj)))
   (ai (bI 6 lO.nd (wW (uK T) (tD T) (M.mono ⋯) rfl T.Og T.gq.b .nil gk (ae (pv 0) aj)))
   (ai (bI 7 lO.nd (wW (pZ T) (qE T) (M.mono ⋯) rfl T.Hv T.eS.b .nil gk (ae (pv 6) (ae (pv 1) (ae (pv 2) aj)))))
   (ai (aV (vA (pv 7) (aK T) T.iE (lu T) M))
   (ai (bI 8 lO.nd (vu (jW (pv 5) (Bi T) T.jw.m (sk T) (M.mono ⋯) T.jw.b .nil gk (ae (pv 6) aj)) (vu (jW (pv 5) (rX T) T.gX.m (mP T Y) (M.mono ⋯) T.gX.b .nil gk (ae (pv 6) aj)) (jW (pv 5) (yL T) T.iF.m (qA T) (M.mono ⋯) T.iF.b .nil gk (ae (pv 6) aj)))))
   (ai (bM (gJ PassesOwn.leaving (aX lL (pv 8) cO (bf _))
    (ai (bD (aX Ur (aH (pv 6) rfl) (pv 3) (bf _))
     (au (Hk (E:=E) (qF T) (M.mono ⋯) T.dG.b rfl rfl T.yK (DM T.vY T.dG.m.at_) T.dG.m.fn T.FJ (ae (aH (pv 6) rfl) (ae (vA (pv 6) (aI T) T.kj (oT T) M) aj)) lvD))
     bp)
    (ai (aV (pm (pv 7) (aK T) T.mF (wD T) M (ae (aY bU (pv 8) av (λ_ _=>rfl)) (ae (aY bU (pv 8) av (λ_ _=>rfl)) aj))))
    (au (bI 8 lO.nd (vu (jW (pv 5) (Bi T) T.jw.m (sk T) (M.mono ⋯) T.jw.b .nil gk (ae (pv 6) aj)) (vu (jW (pv 5) (rX T) T.gX.m (mP T Y) (M.mono ⋯) T.gX.b .nil gk (ae (pv 6) aj)) (jW (pv 5) (yL T) T.iF.m (qA T) (M.mono ⋯) T.iF.b .nil gk (ae (pv 6) aj))))))))))
   (au (bj (cE (ae (pc T.numbered (C0 T) M (ae (pv 6) aj)) (ae (vA (pv 6) (aI T) T.kj (oT T) M) aj)))))))))))]
  rwa[pG ?_];intro Bn qy oS jP fS gy;let MP:∀u∈rs++f,∀z∈u,z∈bq (2* L)/\-z∈bq (2* L):=λu hu z hz=>((sr ∅ (aL u hu)).2 z hz).2
  suffices main:∀o J,aq H J->wF A.cP A.bK A.cD J o I->gy { nx:=λ_ H'=>Q .non H',rt:=Q } #v[.int L,↑ru,↑pa,.int i,.str (tx (lK I)),↑o,none,none,none] J by
   let sm:∀{C x d:Zs},H x=none->H d=none->d≠x->aq H (upd (upd H d (.own x)) x (.ins C d [])):=λ{C x d} nx nd G=>(aq.upd nd).trans (aq.upd ([ak G.symm]▸nx))
   rwa[⟨12,lK I,25,λe x d nx nd G=>main x _ (sm nx nd G) ⟨d,.inl ⟨5,ah⟩⟩,λe x d nx nd G=>main x _ (sm nx nd G) ⟨d,.inr (.inl ⟨5,ah⟩)⟩,λe x d nx nd G=>main x _ (sm nx nd G) ⟨d,.inr (.inr ⟨5,ah⟩)⟩⟩]
   all_goals rcases (show I=0\/I=1\/I=2 by omega) with rfl|rfl|rfl
   all_goals first|rfl|decide|rwa[absurd e (by decide)]
  intro o J s1 ho;let Xq:=hT.same s1;replace Ir:=Ir.same s1;replace Iu:=Iu.same s1;rwa[⟨12,λr dx nx Z G=>⟨r,dx,L,2,ah,lj,3,λra H2 k2 h2 Tt=>⟨25⟩⟩⟩];let⟨s2,YZ⟩:=Ow (C:=A.az) nx Z G k2 Tt;clear k2 Tt nx Z G;rwa[⟨121212,λx dx nx Z G=>?_⟩];let s0:aq H2 (upd (upd H2 dx (.own x)) x (.ins A.aD dx [])):=(aq.upd Z).trans (aq.upd ([ak G.symm]▸nx));let MQ:upd (upd H2 dx (.own x)) x (.ins A.aD dx []) x\(.ins A.aD dx []):=ah;let Ef:¬ra.own r x:=λz=>by let⟨o,e⟩:=h2.there z;cbv
  let n0:∀b,upd (upd H2 dx (.own x)) x (.ins A.aD dx []) b=none->H2 b=none:=λb z=>same_none s0 z
  generalize upd (upd H2 dx (.own x)) x (.ins A.aD dx [])=H3 at s0 MQ n0 ⊢;let gd:=uq L (bq (2* L))
  let fit:∀D,xP rs D->1* ⇑D+ ⇑f<=700:=λD h=>by
   have:=ahY ⇑rs yQ;have:=BL h;ext
  let sl:0+ (RS.new L (bq (2* L))).stand<=1:=by rw[ajS];rwa[BE (RS.new L (bq (2* L)))]
  let y0:=YS.new (L:=L) (ks:=bq (2* L));let wH:iM A.az H2 r (RS.new L (bq (2* L))) ra (λ_ _ _=>False) (bq (2* L)) 1:=⟨h2,gd,y0.w,y0.k,by show 1<=2000;decide,by rw[sX];ext,sl,agz sl ⋯⟩;rwa[⟨x,dx,r,ru,pa,RS.new L (bq (2* L)),ra,λ_ _ _=>False,rs,f,2,MQ,h2.same s0,gd,Nat.one_pos,by show 1<=2000;decide,Ef,(Ir.same s2).same s0,(Iu.same s2).same s0,yN,kH,λu hu=>⟨(sr ∅ (aL u hu)).1,λz hz=>((sr ∅ (aL u hu)).2 z hz).1⟩,λD h=>by have:=fit D h;show 1* ⇑D+ ⇑f<50000;ext,λq gs ag D O H4 f4 c4 q4 o4 Ec Xr hp=>⟨25⟩⟩];let hf:=fit D hp;let sd:⇑(dc (RS.new L (bq (2* L))))<=1:=agz (aiq _ _) ([agZ]▸agp _);let Xa:⇑(dc (RS.new L (bq (2* L))))* ⇑D<=1* ⇑D:=ahY _ sd;let l1:=lJ D (dc (RS.new L (bq (2* L))));let l2:=sh f ⇑rs ⇑f;let Y:⇑(dw D (dc (RS.new L (bq (2* L))))++fI f ⇑rs ⇑f)<=1* ⇑D+ ⇑f:=by rw[agk];ext
  let Xs:live gs<=⇑(dw D (dc (RS.new L (bq (2* L))))++fI f ⇑rs ⇑f):=by rw[<-Ec.len];rwa[List.countP_le_length]
  let r4:iM A.az H4 r (RS.new L (bq (2* L))) ra (λ_ _ _=>False) (bq (2* L)) 1:=(wH.same s0).keep (λb o X e=>f4 b o e (λz=>Ef (by rw[<-z];rwa[X]))) (λb xs e=>f4 b _ e (bZ e MQ (by cbv)))
  let dj:∀b,ra.own r b->¬O b:=λb z y=>by
   let⟨o,e⟩:=(h2.same s0).there z
   cbv
  let bin:∀b∈dw D (dc (RS.new L (bq (2* L))))++fI f ⇑rs ⇑f,((rs++f)[b.1]?\b.2.1/\(b.1<⇑rs\/b.2.2=0))/\b.2.2<1:=λb X=>by
   rcases Oq X with ⟨p,Rh,e1,e2,e3⟩|⟨j,u,hj,rfl⟩
   ·let h1:=hp.a p Rh;let h2:=(agj.mp h1).1;rw[e1,e2,ags h2];rwa[⟨h1,.inl h2⟩,ahl.mp (ah7.mp e3).1]
   ·rwa[⟨by show (rs++f)[⇑rs+ j]?=_;rw[agt ∅,Nat.add_sub_cancel_left];rwa[hj],.inr rfl⟩,Nat.one_pos]
  let U:BG (rs++f) ⇑rs (bq (2* L)) (dw D (dc (RS.new L (bq (2* L))))++fI f ⇑rs ⇑f):=
   ⟨λb X=>(bin b X).1.1,λb X=>(bin b X).1.2,λb X=>(aL _ (agh (bin b X).1.1)).1,λb X z hz=>MP _ (agh (bin b X).1.1) z hz,3⟩
  let Tv:∀w∈rs,w≠[]->∃n,(n,w,0)∈dw D (dc (RS.new L (bq (2* L))))++fI f ⇑rs ⇑f:=λw hw tL=>by
   let⟨n,hn⟩:=hp.b w hw;let hcs:0∈dc (RS.new L (bq (2* L))):=ah7.mpr ⟨ahl.mpr Nat.one_pos,agW rfl⟩;rwa[n,agJ _ (ah0.mpr ⟨(0),hcs,ah0.mpr ⟨(w,n),hn,FV tL⟩⟩)]
  let Tw:∀w∈f,w≠[]->∃n,(n,w,0)∈dw D (dc (RS.new L (bq (2* L))))++fI f ⇑rs ⇑f:=λw hw tL=>by
   let⟨j,hj⟩:=ag8 hw;rwa[⟨⇑rs+ j,agr _ (ah0.mpr ⟨j,ahl.mpr (agj.mp hj).1,5⟩)⟩];rw[agq,hj];rwa[FV tL]
  generalize dw D (dc (RS.new L (bq (2* L))))++fI f ⇑rs ⇑f=bs at Ec Xr Y Xs bin U Tv Tw;let hmul:live gs* (2* ⇑bs+ 1)<=700* 1401:=ajl ∅ ∅;clear l1 l2 Xa sd;rwa[⟨12,x,q.dx,12,c4.ins,fe ⋯,x,r,q,RS.new L (bq (2* L)),ra,λ_ _ _=>False,bq (2* L),(1),rs++f,⇑rs,bs,gs,ag,si,D,O,2,c4,r4,3,dj,Ec,U,3,λS' a' R' iS W' O' B' H5 f5 c5 r5 ow oo Xt IA rr em eL tr hb5=>?_⟩];let MR:S'.made=1:=em
  let Hg:∀b o,J b\o->H5 b\o:=λb o e=>by
   let e2:=s2^e
   let nO:¬O b:=λy=>by
    cbv
   rwa[f5 b o nO (λy=>by cbv) (f4 b o (s0^e2) (aw e2 nx))]
  let U5:∀b,a'.own r b\/O' b->J b=none:=λb y=>by
   let nn:ra.own r b\/O b\/H4 b=none->J b=none:=λy=>by
    rcases y with y|y|y
    ·rwa[YZ b y]
    ·cases e:J b with
     |none=>rfl
     |some u=>
      let e2:=s2^e
      cbv
    ·cases e:J b with
     |none=>rfl
     |some u=>
      let e2:=s2^e;rw[f4 b u (s0^e2) (aw e2 nx)]at y;ext y
   cbv
  let Tx:CS A.az A.aJ A.aD H5 x r q S' a' R' (bq (2* L)) B' rs f D bs iS [] W' O':=by
   rwa[⟨c5,f5 _ _ (c4.Ic q4) (xQ r4.at_ q4) q4,r5,Xt,IA,U,hp,λb X=>[MR]▸(bin b X).2,λw hw tL c hc _=>?_,Tw,[MR]▸Y,λu hu=>sr ∅ (aL u hu)⟩];have:c=0:=∅
   subst this;rwa[Tv w hw tL]
  let Xu:wG A J H5 x r L i I rs f S':=⟨λb u _ e=>Hg b u e,Xq.same Hg,⟨q,a',R',B',D,bs,iS,W',O',Tx,U5,by rw[MR];ext⟩,.start tr (Tx.Tq ∅),3,eL.trans rfl⟩;clear Tx U5 Hg hmul Tw Tv U bin dj r4 Xs Y hf wH y0 sl c5 r5 ow oo Xt IA rr f5 hb5 MR em eL tr c4 q4 o4 Ec Xr hp f4 MQ Ef n0 s0 gd fit
  let look:∀{H5:Hp} {S:RS} {σ:St} {Qv:VK},wG A J H5 x r L i I rs f S->σ[5]?\some ↑o->σ[6]?\some ↑r->(∀v H6,wG A J H6 x r L i I rs f S->MN S L I H6 v->Qv v H6)->(Ay (kc A.cP "gap" (jR A.az A.eG A.cP 0) [] (λ_ _ _=>False) (i6 5) (jD (i6 6) jV)) (Ay (kc A.bK "gap" (jR A.az A.eG A.bK 1) [] (λ_ _ _=>False) (i6 5) (jD (i6 6) jV)) (kc A.cD "gap" (jR A.az A.eG A.cD 2) [] (λ_ _ _=>False) (i6 5) (jD (i6 6) jV)))) σ H5 Qv:=λ{H5 S σ Qv} F e5 e6 kk=>by
   let⟨Ry,y⟩:=F.f.ys MP;let⟨q,a,R,B,D,bs,gs,W,O,cs,_⟩:=F.cs;rwa[Ox e5 e6 (ho.keep λC d e=>F.k.at Xq e (by cbv)) cs.rm.at_ (y.gl (by have:=F.m;omega) ∅) F.t λv H6 k6 t6 an=>kk v H6 (F.kp k6 t6) an]
  rwa[look Xu rfl rfl λv H6 Xv an=>?_]
  clear Xu;erw[λ fx H'=>∃S,fx=#v[.int L,↑ru,↑pa,.int i,.str (tx (lK I)),↑o,↑r,↑x,some .non]/\wG A J H' x r L i I rs f S/\∀c z,¬gR S L c z,5]
  ·erw[λm σ H'=>∃S v,m=i+ 1 - S.made/\σ=#v[.int L,↑ru,↑pa,.int i,.str (tx (lK I)),↑o,↑r,↑x,some v]/\wG A J H' x r L i I rs f S/\MN S L I H' v,⟨_,S',v,22,Xv,an⟩];clear Xv an;rintro m σ H7 ⟨S,v,rfl,rfl,F,an⟩;erw[12212];rcases an with ⟨rfl,hn⟩|⟨c,z,t,rfl,hl,ht⟩
   ·rwa[iV rfl ⟨S,rfl,F,hn⟩]
   rwa[bS (λ_=>?_) (λh=>absurd rfl h)];erw[_,λ fx H' h=>h];let⟨Ry,y⟩:=F.f.ys MP;let⟨q,a,R,B,D,bs,gs,W,O,cs,n0,hB⟩:=F.cs;let hm:=F.m;let eL:=F.l;let rb:=cs.rm.rb;let wr:=y.wr;let hBm:B<=702* 300:=agz hB (Nat.mul_le_mul_left _ ∅);erw[12,r,_,a.dx,112,cs.rm.at_.ins,aI T,T.oO,sN^_,12112212];rwa[bS (λh=>?_) (λh=>?_)]
   ·let h:(i:Int)<=(S.made:Int):=agU h;rwa[⟨12,r,_,a.dx,112,cs.rm.at_.ins,aI T,T.oO,sN^_,12,r,a.dx,12,cs.rm.at_.ins,cK _ _ _ ⋯,r,S,a,2,cs.rm.at_,3,λp d hd e=>(y.d d hd).low e,λl qs H8 s8 nl hl8 AI=>?_⟩];intro xx Xw;let s9:=aq.upd (o:=XO xx A.bz none true) Xw;let eln:⇑(qs.map V.ref)<=1000000:=by rw[agm,AI.1];ext
    rwa[⟨xx,l,S.made,qs.map V.ref,2,ah,3,s9^hl8,eln,λd l2 H9 nd DY Z f9 hx9 hd9 MS nlx=>⟨2,some d,hx9,5⟩⟩]
    let Tz:aq H8 (del H9 xx):=λb u e=>by
     let nb:=aw e Xw;rw[rj nb];rwa[f9 b u nb (s9^e)]
    rwa[ke d l2 S _ (λb u nb e=>Tz^(s8^(F.k b u nb (s1^e)))) ((F.t.same s8).same Tz) F.f ∅ ⟨c,z,hl⟩ ([rj Z]▸hd9) ⟨qs,[rj nlx]▸MS,AI.imp (λp d _ _ e=>e.same Tz),3⟩]
   let h:S.made<i:=Nat.lt_of_not_le λw=>h (agW ∅)
   let⟨g1,g2,g3,g4⟩:=hl.1;let⟨z1,z2⟩:=hO.mp g3;let Mx:⇑D<=⇑rs:=BL cs.pl;let Mj:(S.made+ 1)* ⇑D<=i* ⇑rs:=ajl h Mx;rw[<-eL]at cs;rwa[⟨12,x,q.dx,12,cs.c.ins,fe ⋯,12,t,11122,bA.of ht,212,t,11122,bA.of ht,2,x,r,q,S,a,R,B,rs,f,D,bs,gs,W,O,c,z,2,cs,33,g1,mQ g2,g4,[eL]▸g3,hO.mpr ⟨33⟩,3333,λS2 a2 R2 bs2 gs2 W2 O2 B2 H8 f8 TB ow8 Xx em8 el8 hb8=>?_⟩]
   let fl8:wG A J H8 x r L i I rs f S2:=by
    rw[eL]at TB Xx;rwa[⟨λb u nb e=>f8 b u (λw=>by cbv) (λw=>by cbv) (F.k b u nb e),cs.tab F.t f8,⟨q,a2,R2,B2,D,bs2,gs2,W2,O2,TB,λb w=>?_,by rw[em8];ext⟩,.next F.f h hl Xx (TB.Tq ∅),3,el8.trans eL⟩];rcases ow8 b w with v|v|v
    ·rwa[n0 b (.inl v)]
    ·rwa[n0 b (.inr v)]
    ·cases e:J b with
     |none=>rfl
     |some u=>
      let nP:b≠A.eG:=λw=>by
       rcases F.t with p|⟨_,_,_,_,p,_⟩
       ·cbv
       cbv
      rw[F.k b u nP e]at v;ext v
   rwa[look fl8 rfl rfl λv H9 fl9 an=>⟨i+ 1 - S2.made,3,S2,v,22,fl9,an⟩]
  rintro σ H7 ⟨S,rfl,F,hn⟩;let⟨Ry,y⟩:=F.f.ys MP;let⟨q,a,R,B,D,bs,gs,W,O,cs,n0,hB⟩:=F.cs;let hm:=F.m;let eL:=F.l;let rb:=cs.rm.rb;let g:=y.g;let hBm:B<=702* 300:=agz hB (Nat.mul_le_mul_left _ ∅);rwa[⟨12,r,S,a,λc=>c<S.made/\S.ax c=c,2,cs.rm.at_,333,g.wf.w,⟨y.m,by have:=(g.el 0 y.m).1;ext⟩,λc hc=>⟨hc.1,λk hk=>?_⟩,λtb N H8 s8 nt h8 hN=>?_⟩]
  ·cases e:S.by c (M12.st k) with
   |some d=>
    let⟨_,d2,_,d4⟩:=g.st _ _ _ e;rwa[d,2,d2,d4]
   |none=>
    rw[eL]at hk;rwa[absurd ⟨hc.1,5,agh (rZ hk),e⟩ (hn c _)];rw[oV ([g.wf.e]▸hc.1),hc.2]
  rwa[⟨12,r,a.dx,12,(cs.rm.at_.same s8).ins,cK _ _ _ ⋯,r,S,a,2,cs.rm.at_.same s8,3,λp d hd e=>(y.d d hd).low e,λpp qs H9 s9 np hp9 AI=>?_⟩];rwa[⟨by show 2<=sizeLine;decide,λt nt=>?_⟩];let sA:=aq.upd (o:=.tup [↑tb,↑pp]) nt;rwa[kq t tb pp S N _ (λb u nb e=>sA^(s9^(s8^(F.k b u nb (s1^e))))) (((F.t.same s8).same s9).same sA) F.f hn ah ((h8.same s9).same sA) hN ⟨qs,sA^hp9,AI.imp (λp d _ _ e=>e.same sA),3⟩]
theorem words_of {H:Hp}{P:Zg->Prop}:∀{ps:Zn},(∀(i:Nat) (p:Zs),ps[i]?\p->∃w,H p\.tup (ao w)/\P w)->∃a,cf H ps a/\∀w∈a,P w
 |[],_=>⟨[],⟨2,(λi p w e=>by simp at e)⟩,(λw f=>by ext f)⟩
 |p::ps,h=>by
  let⟨a,d,j⟩:=words_of (ps:=ps) λi q e=>h (i+ 1) q (by simpa using e)
  let⟨w,g,l⟩:=h 0 p rfl;rwa[⟨w::a,⟨by rw[agL,agL,d.1],λi q u b c=>?_⟩,λu k=>?_⟩]
  ·cases i with
   |zero=>ext b;ext c;rwa[g]
   |succ i=>exact d.2 i q u (by simpa using b) (by simpa using c)
  cbv
def TC:Sp:=λa H Q _=>∃(z:Int) (L:Nat),a=[.int z,.int L]/\1<=L/\L<=200/\∀s:Int,s≠0->s.natAbs<=L->Q (.int s) H
def su (T:Txt K mg A):T.ni.Ok P w base 1 TC:=by
 rwa[T.ni.on Bj (λd j a s H g Q E l h=>?_) (len:=by rintro _ _ _ _ ⟨z,L,rfl,_⟩;rfl)]
 ·let⟨z,L,rfl,c,f,k⟩:=h
  erw[_,(ai (bD (aX eB (aO bX (pv 0) av) av (bf _))
   (au (bj (fy dO (aO dg av (aO bX (aO dC (pv 0) av) (pv 1))))))
   bp)
   (au (bj (aO dg av (aO bX (aO dC (pv 0) av) (pv 1))))))]
  rwa[ja ?_];intro b;let e:∀y:Int,0<=y % (L:Int)/\y % (L:Int)<L:=λy=>⟨ahT _ ∅,ahJ _ ∅⟩
  let i:=e (z / 2);rwa[⟨121122,(by show (0:Int)<2;decide),212,bS (λh=>?_) (λh=>?_)⟩]
  ·refine⟨121122,⟨44⟩,121122,(by show (0:Int)<(L:Int);omega),112212,k _ ?_ ?_⟩ <;> ext
  ·refine⟨121122,⟨44⟩,12112231122,k _ ?_ ?_⟩ <;> ext
noncomputable def sv (n:Nat):Zb:=(List.range n).map λi:Nat=>V.int (i:Int)
def mR (n:Nat):⇑(sv n)=n:=by unfold sv;cbv
def Ek (h:i<n):(sv n)[i]?\(V.int (i:Int)):=by
 unfold sv;rw[agx,ahP h];rfl
def Oy {x:V}(h:(sv n)[i]?\x):i<n/\x=V.int (i:Int):=by
 let a:i<n:=by
  have:=(agj.mp h).1;rw[mR]at this;rwa[this]
 rw[Ek a]at h;rwa[a,(Za0 h).symm]
def wI {Q:VK}(g:Nat->Int)(h:n<=1000)(j:∀i:Nat,i<n->∀R:VK,R (.int (g i)) H->r (some (.int (i:Int))::D) H R)(c:∀a,H a=none->Q ↑a (upd H a (.lst (ao ((List.range n).map g))))):qL r D Q (uZ 0 n) H:=by
 rwa[kA (sv n) (λv=>match v with|.int z=>.int (g z.toNat)|v=>v) (λi b=>by rw[mR]at b;rwa[b]) (λi x l b y=>?_) ([mR]▸agp _) ([mR]▸agz h ⋯) (λi x f R k=>?_) (λa d=>?_)]
 ·rw[mR]at b;let⟨o,m⟩:=y;erw[3];rw[Ek b]
  cbv
 ·let⟨b,rfl⟩:=Oy f;rwa[j i b R ?_];have:R (V.int (g ((i:Int)).toNat)) H:=k;rw[agT]at this;rwa[this]
 ·let e:((sv n).map λv=>match v with|.int z=>V.int (g z.toNat)|v=>v)=ao ((List.range n).map g):=by
   unfold sv ao;rw[ag6,ag6];rfl
  rw[e];rwa[c a d]
def uV {a:Za3}(h:cf H F a){w:Zs}{c:Zb}{o:HO}(b:H w\.lst c):cf (upd H w o) F a:=h.keep λp d e=>by
 rw[ak (bZ e b (by cbv))];rwa[e]
noncomputable def sf (rows:Za3)(x:Nat)(s:Int):Nat:=if 0<s then ((rows.getD (s.natAbs - 1) []).getD x 0).toNat else (rows.getD (s.natAbs - 1) []).findIdx (λz=>z==(x:Int))
inductive xU (vs:Zb) (H:Hp) (Q:VK) (E_:XK):Prop
 |mk (a wa:Zs) (rows:Za3) (p x:Nat) (w:Zg):vs=[↑a,.int x,↑wa]->TabAt H a rows->(∀r∈rows,M11.Pm p r)->x<p->p<=1000->H wa\.tup (ao w)->M11.eY ⇑rows w->⇑rows<=1000->Q (.int ((w.foldl (sf rows) x:Nat):Int)) H->xU vs H Q E_
theorem El:∀{r:Zg} {i:Nat} {x:Int},r.Nodup->r[i]?\x->r.findIdx (λz=>z==x)=i
 |[],i,x,_,h=>by simp at h
 |a::r,0,x,_,h=>by
  cbv
 |a::r,i+ 1,x,c,h=>by
  let b:a≠x:=λz=>(agX.mp c).1 ([z]▸agh (l:=r) (i:=i) h)
  rw[List.findIdx_cons,show (a==x)=false from agE.mpr b,El (agX.mp c).2 h];rfl
def BV {rows:Za3}{x:Nat}(h:0<z)(b:rows[z.natAbs - 1]?\l)(a:l[x]?\(n:Int)):sf rows x z=n:=by
 unfold sf;rw[agI h,agq,agq,b,Option.getD_some,a,Option.getD_some];rfl
def BW {rows:Za3}{x:Nat}(h:¬ 0<z)(b:rows[z.natAbs - 1]?\l)(c:l.Nodup)(a:l[n]?\(x:Int)):sf rows x z=n:=by
 unfold sf;rw[agF h,agq,b,Option.getD_some];rwa[El c a]
def fu (T:Txt K mg A):T.fD.Ok P w base 1 xU:=by
 rwa[T.fD.on iY (λZ AA J s H vs Q E hr h=>?_)]
 ·let⟨a,R,rows,p,x,w,rfl,N,M,hx,hp,o,G,yN,k⟩:=h
  erw[_,(ai (cS agN rfl (zJ (pv 2)) (dA 3 iY.nd)
   (au (bM (bD (aX va (pv 3) av (bf _))
    (au (bI 1 iY.nd (aY bu (aY bu (pv 0) (aO gW (pv 3) av) (λ_ _=>rfl)) (pv 1) (λ_ _=>rfl))))
    (au (bI 1 iY.nd (cQ agw PySem.F.slot_list_index PySem.F.type_list_index y3 (aY bu (pv 0) (aO gW (fy dO (pv 3)) av) (λ_ _=>rfl)) (ae (pv 1) aj))))))))
   (au (bj (pv 1))))]
  rwa[ja ?_];intro Y;let⟨rs,m,g⟩:=id N;erw[12,R,2,⟨_,bA.of o⟩];rwa[C4 (K:=K) (a:=R) (xs:=ao w) (λn u B=>∃v:Zc,u=#v[↑a,.int (((w.take n).foldl (sf rows) x:Nat):Int),↑R,v]/\B=H/\(w.take n).foldl (sf rows) x<p) ⟨none,22,hx⟩ (λn u B _ ζ=>by let⟨_,_,e,_⟩:=ζ;rwa[[e]▸bA.of o]) ?_ ?_]
  ·rintro n y u B hn ⟨v,rfl,rfl,b⟩;let⟨z,rfl,U⟩:=cI hn;let hs:=G z (agh U)
   let d:(w.take (n+ 1)).foldl (sf rows) x=sf rows ((w.take n).foldl (sf rows) x) z:=by
    rw[aij,U,aiK];rfl
   rw[d];generalize (w.take n).foldl (sf rows) x=pt at b ⊢;let X:z.natAbs - 1<⇑rows:=∅
   let l:rows[z.natAbs - 1]?=some rows[z.natAbs - 1]:=agl X
   let L:z.natAbs - 1<⇑rs:=by rw[g.1];rwa[X]
   let t:rs[z.natAbs - 1]?=some rs[z.natAbs - 1]:=agl L
   generalize rows[z.natAbs - 1]=row at l;generalize rs[z.natAbs - 1]=f at t;let c:=g.2 _ _ _ t l;let C:=M row (agh l);rwa[⟨15,λ_ _ h=>h⟩];erw[12112212];rwa[bS (λh=>?_) (λh=>?_)]
   ·let I:(0:Int)<z:=agU h;let⟨j,D,r⟩:=C.at b
    let O:jE (rs.map V.ref) (z - 1)\↑f:=by
     rw[show z - 1=((z.natAbs - 1:Nat):Int) by ext];rwa[dB t]
    erw[12121122,a,11,↑f,22,aF.of m,O,12,f,11122,aF.of c,bO (bW D)];rw[BV I l D];rwa[122,r]
   ·let I:¬(0:Int)<z:=λq=>h (agW q)
    let⟨j,D,r⟩:=C.RG b
    let O:jE (rs.map V.ref) (-z - 1)\↑f:=by
     rw[show -z - 1=((z.natAbs - 1:Nat):Int) by ext];rwa[dB t]
    rwa[⟨1212121122,a,11,↑f,22,aF.of m,O,.inl ⟨21,aF.of c⟩,12,f,row,(pt:Int),22,c,agh D,λi S _=>?_⟩];rw[BW I l C.nd S]
    let F:i<p:=by
     have:=(agj.mp S).1;rw[C.len]at this;rwa[this]
    rwa[122,F]
  ·rintro u B ⟨v,rfl,rfl,b⟩;rw[aM,ahZ];rwa[12,k]
def wJ {rows:Za3}{x:Nat}(d:∀r∈rows,M11.Pm n r)(e:x<n)(i:z≠0)(f:z.natAbs<=⇑rows):sf rows x z<n/\sf rows (sf rows x z) (-z)=x:=by
 let g:rows[z.natAbs - 1]?\(rows[z.natAbs - 1]'∅):=agl ∅
 generalize rows[z.natAbs - 1]'∅=r at g;let c:=d r (agh g);by_cases h:0<z
 ·let⟨j,a,b⟩:=c.at e;rw[BV h g a];rwa[b,BW ∅ ([Int.natAbs_neg]▸g) c.nd a]
 ·let⟨j,a,b⟩:=c.RG e;rw[BW h g c.nd a];rwa[b,BV ∅ ([Int.natAbs_neg]▸g) a]
def wL {w:Zg}(h:M11.eY n (z::w)):(z≠0/\z.natAbs<=n)/\M11.eY n w:=⟨h z (agA ..),λx a=>h x (agS _ a)⟩
theorem FX {rows:Za3}{p:Nat}(a:∀r∈rows,M11.Pm p r):∀{w:Zg} {x:Nat},M11.eY ⇑rows w->x<p->w.foldl (sf rows) x<p
 |[],x,_,c=>c
 |s::w,x,e,c=>by
  let⟨d,b⟩:=wL e;rwa[FX a (w:=w) b (wJ a c d.1 d.2).1]
theorem BX {rows:Za3}{p:Nat}(a:∀r∈rows,M11.Pm p r):∀{w:Zg} {x y:Nat},M11.eY ⇑rows w->x<p->y<p->w.foldl (sf rows) x=w.foldl (sf rows) y->x=y
 |[],x,y,_,_,_,e=>e
 |s::w,x,y,d,g,f,e=>by
  let⟨b,c⟩:=wL d;let a1:=wJ a g b.1 b.2;let a2:=wJ a f b.1 b.2;have:=BX a (w:=w) c a1.1 a2.1 e;rw[<-a1.2,<-a2.2,this]
def TF:M11.Pm n (eM 0 n):=by
 rwa[⟨nY 0 n,5,λz d=>?_⟩]
 ·unfold eM;rwa[List.Pairwise.map _ (λa b (c:a≠b) (z:(0:Int)+ (a:Int)=0+ (b:Int))=>c ∅) ajU]
 ·unfold eM at d;let⟨i,e,rfl⟩:=ahc.mp d;have:=ahl.mp e;ext
def TK {f:Nat->Nat}{xs:Zh}(h:∀x∈xs,x<n)(a:∀x,x<n->M17.it f 60 x=x):xs.map (M17.it f 60)=xs.map (M17.it f 0):=ahv λx b=>a x (h x b)
noncomputable def gE (xs:Zh):Zg:=xs.map λx:Nat=>(x:Int)
def Oz (xs:Zh):⇑(gE xs)=⇑xs:=by unfold gE;cbv
theorem Em:∀{a ys:Zh},gE a=gE ys->a=ys
 |[],[],_=>rfl
 |[],_::_,h=>by ext h
 |_::_,[],h=>by ext h
 |x::a,y::ys,h=>by
  let b:(x:Int)::gE a=(y:Int)::gE ys:=h;injection b with d c
  rw[show x=y by ext,Em c]
def TL (h:(gE B)[i]?\z):∃x,B[i]?\x/\z=(x:Int):=by
 unfold gE at h
 cbv
noncomputable def zD (f:Nat->Nat):V->V
 |.int z=>.int ((f z.toNat:Nat):Int)
 |v=>v
def yS (f:Nat->Nat)(xs:Zh):(ao (gE xs)).map (zD f)=ao (gE (xs.map f)):=by
 unfold ao gE;rw[ag6,ag6,ag6,ag6];rwa[ahv λx _=>?_]
 show V.int ((f ((x:Int)).toNat:Nat):Int)=V.int ((f x:Nat):Int);rw[agT]
def yT {rs:Zn}{rows:Za3}(h:eh H rs rows)(f:H a\.lst (ao l)):eh H (rs++[a]) (rows++[l]):=by
 rwa[⟨by rw[agk,agk,h.1];rfl,λi q e c b=>?_⟩];by_cases d:i<⇑rs
 ·rw[ags d]at c;rw[ags (by rw[<-h.1];rwa[d])]at b;rwa[h.2 i q e c b]
 ·rw[agt ∅]at c;rw[agt (by rw[<-h.1];omega)]at b;rw[ago.mp (agh c),ago.mp (agh b)];rwa[f]
inductive Eo (vs:Zb) (H:Hp) (Q:VK) (E_:XK):Prop
 |mk (z:Int) (m:Nat) (b:Bool):vs=[.int z,.int m,.bl b]->1<=m->m<=100->0<=z->(∀l r H',aq H H'->H' l\.lst (ao r)->M11.Pm m r->Q ↑l H')->Eo vs H Q E_
def BZ (d:n<m)(f:i<m)(h:(z+ (n:Int)) % (m:Int)=(z+ (i:Int)) % (m:Int)):n=i:=by
 let e:=Int.emod_emod_of_dvd (z+ (n:Int)) (Int.dvd_refl (m:Int));let b:(m:Int)∣(z+ (n:Int)) - (z+ (i:Int)):=Int.dvd_of_emod_eq_zero (by rw[Int.sub_emod,h,Int.sub_self];rfl);let⟨q,c⟩:=b
 let a:q=0:=by
  rwa[ajk λg=>?_]
  have:(m:Int)<=((m:Int)* q).natAbs:=by
   rw[Int.natAbs_mul];have:1<=q.natAbs:=∅
   have:=Nat.mul_le_mul_left m this;rw[Nat.mul_one]at this;show (m:Int)<=((m* q.natAbs:Nat):Int);ext
  ext
 rw[a,Int.mul_zero]at c;ext
def MT {g:Nat->Int}(b:∀i,i<m->0<=g i/\g i<(m:Int))(d:∀i j,i<m->j<m->g i=g j->i=j):M11.Pm m ((List.range m).map g):=by
 rwa[⟨by cbv,5,λz c=>?_⟩]
 ·rwa[ah4.mpr (ajw ?_ ajU)]
  cbv
 ·let⟨i,a,rfl⟩:=ahc.mp c;rwa[b i (ahl.mp a)]
def OB (h:l.Perm (eM 0 m)):M11.Pm m l:=by
 let a:M11.Pm m (eM 0 m):=TF;rwa[by rw[h.length_eq,a.len],h.nodup_iff.mpr a.nd,λz b=>a.rg z (h.mem_iff.mp b)]
theorem erase_cons:∀{s:Zg} {k:Nat} {x:Int},s[k]?\x->(x::s.eraseIdx k).Perm s
 |[],k,x,h=>by simp at h
 |a::s,0,x,h=>by
  cbv
 |a::s,k+ 1,x,h=>(List.Perm.swap a x (s.eraseIdx k)).trans ((erase_cons (s:=s) h).cons a)
def FY {s:Zg}{k:Nat}{x:Int}(h:s[k]?\x):((l++[x])++s.eraseIdx k).Perm (l++s):=by
 rw[ahe];rwa[List.Perm.append_left l (erase_cons h)]
def Vs {k:Nat}(h:k<n):seqIndex? (k:Int) n\k:=(wY (oU h)).1
theorem wM:∀(ns:Zg) (k:Nat),(ao ns).eraseIdx k=ao (ns.eraseIdx k)
 |[],_=>rfl
 |a::ns,0=>rfl
 |a::ns,k+ 1=>by
  show V.int a::(ao ns).eraseIdx k=V.int a::ao (ns.eraseIdx k);rw[wM ns k]
def wN (T:Txt K mg A):T.mE.Ok P w base 1 Eo:=by
 rwa[T.mE.on fG (λcC AA outer s H vs Q E hr h=>?_)]
 ·let⟨z,m,b,rfl,Xy,Mi,hz,k⟩:=h;let hu:=Nat.lt_of_succ_lt (iU hr)
  erw[_,(ai (bI 3 fG.nd (aO bX (aO dC (pv 0) av) (pv 1)))
   (ai (bM (bD (PW.pt (uY (gU (pv 2)) (sD (aX eB (aO bX (pv 0) av) av (bf _)))))
    (au (bj (jb (fns:=["_law_many","_law_by"]) (ixs:=[1,3]) (cl:=_) rfl (mU rfl T.hH (ae (pv 1) aj)) (jH rfl rfl rfl ⋯ rfl ⋯ rfl ⋯ ⋯ rfl rfl rfl rfl rfl rfl rfl) (λC s H ex=>(aO bX (aO gW (pv 2) (pv 0)) (pv 1))))))
    bp))
   (ai (bD (gU (pv 2))
    (au (bj (jb (fns:=["_law_many","_law_by"]) (ixs:=[1,3]) (cl:=_) rfl (mU rfl T.hH (ae (pv 1) aj)) (jH rfl rfl rfl ⋯ rfl ⋯ rfl ⋯ ⋯ rfl rfl rfl rfl rfl rfl rfl) (λC s H ex=>(aO bX (aO dg (pv 2) (pv 0)) (pv 1))))))
    bp)
   (ai (bI 4 fG.nd (qd rfl rfl T.ip rfl T.hH (ae (pv 1) aj)))
   (ai (bI 5 fG.nd (b9 aj))
   (ai (bM (gJ agN (aX (Du hu) (pv 4) (b9 aj) (bf _))
    (ai (aV (cQ agw agG agH bP (pv 5) (ae (cQ agw PySem.F.slot_list_pop PySem.F.type_list_pop Jh (pv 4) (ae (aO bX (pv 0) (bF bH rfl T.eI aha (ae (pv 4) aj))) aj)) aj)))
    (au (bI 0 fG.nd (aO dC (pv 0) (aO dg (bF bH rfl T.eI aha (ae (pv 4) aj)) av)))))))
   (au (bj (pv 5)))))))))]
  rwa[pG ?_];intro Bn qy oS jP fS gy;let b1:=ahT (z / 2) (show (m:Int)≠0 by omega);let b2:=ahJ (z / 2) (show (0:Int)<(m:Int) by omega);erw[121122,⟨44⟩,1211223];obtain⟨y,hy⟩:∃y,z / 2 % (m:Int)=y:=⟨12⟩;rw[hy]at b1 b2;simp only[hy];erw[λ p q=>p=#v[.int z,.int m,.bl b,.int y,none,none]/\q=H,5]
  ·erw[1212];rwa[bS (λ_=>?_) (λ_=>dP ⟨22⟩)];erw[121122,(by show (0:Int)<2;decide),212];rwa[bS (λ_=>?_) (λ_=>⟨22⟩)];erw[12,(m:Int),233];rw[agT];rwa[wI (λi=>(y - (i:Int)) % (m:Int)) ∅ (λi F R hR=>?_) (λD hD=>?_)]
   ·rwa[12121122121122,(by show (0:Int)<(m:Int);omega),hR]
   ·rwa[k D _ _ (aq.upd hD) ah (MT (λi F=>⟨ahT _ ∅,ahJ _ ∅⟩) λi j F hj e=>?_)]
    let e2:((y - (m:Int)+ 1)+ (((m - 1 - i:Nat)):Int)) % (m:Int)=((y - (m:Int)+ 1)+ (((m - 1 - j:Nat)):Int)) % (m:Int):=by
     rw[show (y - (m:Int)+ 1)+ (((m - 1 - i:Nat)):Int)=y - (i:Int) by ext,show (y - (m:Int)+ 1)+ (((m - 1 - j:Nat)):Int)=y - (j:Int) by ext];rwa[e]
    have:=BZ ∅ ∅ e2;ext
  rintro p q ⟨rfl,rfl⟩;erw[1212];rwa[bS (λ_=>?_) (λ_=>?_)]
  ·erw[12,(m:Int),233];rw[agT];rwa[wI (λi=>(y+ (i:Int)) % (m:Int)) ∅ (λi F R hR=>?_) (λD hD=>?_)]
   ·rwa[121211221211223,hR]
   ·rwa[k D _ _ (aq.upd hD) ah (MT (λi F=>⟨ahT _ ∅,ahJ _ ∅⟩) λi j F hj e=>BZ F hj e)]
  rwa[⟨12,m,23,λd X=>?_⟩];let s1:aq q (upd q d (.lst (ao (eM 0 m)))):=aq.upd X;let h1:upd q d (.lst (ao (eM 0 m))) d\(.lst (ao (eM 0 m))):=ah;generalize upd q d (.lst (ao (eM 0 m)))=Z at s1 h1 ⊢;rwa[⟨agP _,λlt N=>?_⟩];let s2:aq Z (upd Z lt (.lst [])):=aq.upd N;let h2:upd Z lt (.lst []) lt\(.lst (ao [])):=ah;let J:d≠lt:=λe=>by cbv
  let TN:q lt=none:=s1.free N;generalize upd Z lt (.lst [])=H2 at s2 h2 ⊢;erw[λ p l=>∃(g:Zg) (v0:Zc),p=#v[v0,.int m,.bl b,.int y,↑d,↑lt]/\aq q l/\l lt\.lst (ao g)/\g.Perm (eM 0 m),5]
  ·erw[λn σ l=>∃(g a:Zg) (x:Int),n=⇑a/\σ=#v[.int x,.int m,.bl b,.int y,↑d,↑lt]/\aq q l/\l lt\.lst (ao g)/\l d\.lst (ao a)/\(g++a).Perm (eM 0 m),⟨_,[],eM 0 m,z,22,s1.trans s2,h2,s2^h1,List.Perm.refl _⟩];rintro n σ l ⟨g,a,x,rfl,rfl,s3,u,hs3,G⟩;let hlen:=G.length_eq;rw[agk,nY]at hlen;rwa[⟨12,agP _,λI he0=>?_⟩];let U:aq l (upd l I (.lst [])):=aq.upd he0;let h4:upd l I (.lst []) I\(.lst (ao [])):=ah;generalize upd l I (.lst [])=Y at U h4 ⊢;let B:=U^u;let r:=U^hs3;erw[d,I,a,[],22,r,h4,12];by_cases t:a=[]
   ·rwa[iV t ?_];rw[t,agQ]at G;rwa[g,12,s3.trans U,B,G]
   ·let S:0<⇑a:=List.length_pos_iff.mpr t;rwa[bS (λ_=>?_) (λh=>?_)]
    ·erw[_,λ p q h=>h];let⟨f,hkk,v⟩:=jX x (n:=⇑a) S;let hx:a[f]?=some a[f]:=agl v
     generalize a[f]=c at hx;let ekk:x % (⇑(ao a):Int)=(f:Int):=by rw[aM];rwa[hkk]
     erw[12,.inl ⟨21,aF.of B⟩,12,.inl ⟨21,aF.of r⟩,1212,d,12,.inl (aF.of r),1122,(by show (0:Int)<(⇑(ao a):Int);rw[aM];omega)];simp only[ekk];erw[d,_,(f:Int),f,.int c,22,r,33,Vs ([aM]▸v),bW hx];rw[wM];let L:upd Y d (.lst (ao (a.eraseIdx f))) lt\(.lst (ao g)):=by rw[ak (ahC J)];rwa[B]
     let O:upd Y d (.lst (ao (a.eraseIdx f))) d\(.lst (ao (a.eraseIdx f))):=ah;let nls:q d=none:=X;let s5:aq q (upd Y d (.lst (ao (a.eraseIdx f)))):=λb o e=>by rw[ak (aw e nls)];rwa[U^s3^e]
     generalize upd Y d (.lst (ao (a.eraseIdx f)))=H5 at L O s5 ⊢;erw[lt,1122,L,5]
     ·rw[aM];rwa[agu (show ⇑g<=100 by omega) ⋯]
     let Dw:⇑(a.eraseIdx f)=⇑a - 1:=List.length_eraseIdx_of_lt v;let M:upd H5 lt (.lst (ao g++[.int c])) d\(.lst (ao (a.eraseIdx f))):=by rw[ak J];rwa[O]
     erw[1212,d,12,.inl (aF.of M),11221122,⟨by show (0:Int)<(⇑(ao (a.eraseIdx f)):Int)+ 1;ext,by show (⇑(ao (a.eraseIdx f)):Int)+ 1<1073741824;rw[aM];ext⟩];rwa[⟨⇑(a.eraseIdx f),3,g++[c],a.eraseIdx f,122,λb o e=>?_,by rw[ah,ints_app];rfl,M,(FY hx).trans G⟩];rw[ak (aw e TN)];rwa[s5^e]
    cbv
  rintro p l ⟨g,v0,rfl,s3,u,G⟩;rwa[12,k lt g l s3 u (OB G)]
theorem IH {lt:Zs}{rs:Zn}(h:H a\.lst (ao l))(c:l≠[])(b:H lt\.lst (rs.map V.ref)):a≠lt:=λe=>by
 rw[e,b]at h;injection h with h
 injection h with h
 cases l with
 |nil=>exact c rfl
 |cons z l=>
  cases rs with
  |nil=>ext h
  |cons q rs=>ext h
def OD (p:Nat):eM 0 p=gE (List.range p):=by
 unfold eM gE
 cbv
inductive B1 (vs:Zb) (H:Hp) (Q:VK) (E_:XK):Prop
 |mk (ta pa wa:Zs) (rows:Za3) (p:Nat) (xs:Zh) (w:Zg):vs=[↑ta,↑pa,↑wa]->TabAt H ta rows->(∀r∈rows,M11.Pm p r)->p<=6->H pa\.lst (ao (gE xs))->(∀x∈xs,x<p)->⇑xs<=6->H wa\.tup (ao w)->M11.eY ⇑rows w->⇑rows<=40->(∀(n:Nat) H',1<=n->n<=60->(∀x∈xs,M17.it (λx=>w.foldl (sf rows) x) n x=x)->(∀c,1<=c->c<n->¬ ∀x∈xs,M17.it (λx=>w.foldl (sf rows) x) c x=x)->aq H H'->Q (.int (n:Int)) H')->B1 vs H Q E_
def o6 (T:Txt K mg A):T.ki.Ok P w base 2 B1:=by
 rwa[T.ki.on gu (λcC AA outer s H vs Q E hr h=>?_)]
 ·let⟨S,O,U,rows,p,xs,w,rfl,MV,B,sx,L,G,Y,sj,v,yN,k⟩:=h;let hu:=Nat.lt_of_succ_lt (iU hr)
  erw[_,(ai (bI 3 gu.nd av)
   (ai (kg (iy:=4) gu.nd rfl (Or.inl rfl) (fns:=["_law_word","_law_turns"]) (ixs:=[2,0]) (cl:=_) rfl (cX (pv 1)) (jH rfl rfl rfl ⋯ rfl ⋯ rfl ⋯ ⋯ rfl rfl rfl rfl rfl rfl rfl) (λC s H ex=>(pc T.fD (fu T) hr (ae (pv 2) (ae (pv 0) (ae (pv 1) aj))))))
   (ai (bM (gJ agN (aX (Du hu) (pv 4) (pv 1) (bf _))
    (ai (kg (iy:=4) gu.nd rfl (Or.inl rfl) (fns:=["_law_word","_law_turns"]) (ixs:=[2,0]) (cl:=_) rfl (cX (pv 4)) (jH rfl rfl rfl ⋯ rfl ⋯ rfl ⋯ ⋯ rfl rfl rfl rfl rfl rfl rfl) (λC s H ex=>(pc T.fD (fu T) hr (ae (pv 2) (ae (pv 0) (ae (pv 1) aj))))))
    (au (bI 3 gu.nd (aO dg (pv 3) av))))))
   (au (bj (pv 3))))))]
  rwa[gM ?_];intro jP fS gy;obtain⟨f,hf⟩:∃f:Nat->Nat,f=λx=>w.foldl (sf rows) x:=⟨12⟩
  rw[<-hf]at k;let u:∀x,w.foldl (sf rows) x=f x:=λx=>by rw[hf]
  let M:∀x,x<p->f x<p:=λx a=>by rw[<-u];rwa[FX B v a]
  let BQ:∀x y,x<p->y<p->f x=f y->x=y:=λx y a I e=>by rw[<-u,<-u]at e;rwa[BX B v a I e]
  let X:=TK G (M17.Vg sx M BQ);let hit:=λ(n:Nat) (x:Nat) (a:x<p)=>M17.sT M n x a
  let e0:xs.map (M17.it f 0)=xs:=(ahv λx _=>rfl).trans (List.map_id xs);let step:∀c,(xs.map (M17.it f c)).map f=xs.map (M17.it f (c+ 1)):=λc=>by rw[ag6];rwa[ahv λx _=>rfl]
  let lt:∀c,∀x∈xs.map (M17.it f c),x<p:=λc x a=>by
   let⟨y,I,rfl⟩:=ahc.mp a;rwa[hit c y (G y I)]
  let body:∀{j:Hp} {R:VK} {i c:Nat} {x:V},aq H j->(ao (gE (xs.map (M17.it f c))))[i]?\x->R (zD f x) j->xU [↑S,x,↑U] j R E0:=λ{j R i c x} s2 a N=>by
   let⟨z,rfl,hz⟩:=cI a;let⟨y,I,rfl⟩:=TL hz;let hyp:=lt c y (agh I);erw[S,U,rows,p,y,w,2,MV.same s2,B,hyp,3,s2^sj,v,3];let o:R (V.int ((f ((y:Nat):Int).toNat:Nat):Int)) j:=N;rw[agT]at o;rw[u];rwa[o]
  let ln:∀c,⇑(ao (gE (xs.map (M17.it f c))))<=sizeLine:=λc=>by rw[aM,Oz,agm];rwa[agz Y ⋯]
  let g:H O\(.lst (ao (gE (xs.map (M17.it f 0))))):=by rw[e0];rwa[L]
  erw[12,O,2,⟨_,aF.of g⟩];rwa[kA (ao (gE (xs.map (M17.it f 0)))) (zD f) (kB (aF.of g)) (ji (aF.of g)) (ib (aF.of g)) (ln 0) (λi x a R N=>⟨121212,body (aq.refl H) a N⟩) (λb Xe=>?_)];rw[yS,step];let s1:aq H (upd H b (.lst (ao (gE (xs.map (M17.it f 1)))))):=aq.upd Xe;let o:upd H b (.lst (ao (gE (xs.map (M17.it f 1))))) b\(.lst (ao (gE (xs.map (M17.it f 1))))):=ah;generalize upd H b (.lst (ao (gE (xs.map (M17.it f 1)))))=H1 at s1 o ⊢;erw[λ J j=>∃(b:Zs) (c:Nat),J=#v[↑S,↑O,↑U,.int (c:Int),↑b]/\aq H j/\1<=c/\c<=60/\xs.map (M17.it f c)=xs/\(∀d,1<=d->d<c->xs.map (M17.it f d)≠xs),5]
  ·erw[λm σ j=>∃(b:Zs) (c:Nat),m=60 - c/\σ=#v[↑S,↑O,↑U,.int (c:Int),↑b]/\aq H j/\j b\.lst (ao (gE (xs.map (M17.it f c))))/\1<=c/\c<=60/\(∀d,1<=d->d<c->xs.map (M17.it f d)≠xs),⟨_,b,(1),22,s1,o,agp _,3,λd o r=>∅⟩];rintro m σ j ⟨b,c,rfl,rfl,s2,r,F,D,t⟩;erw[1212,b,O,1122,r,s2^L,12];by_cases e:gE (xs.map (M17.it f c))=gE xs
   ·rwa[iV e ⟨b,c,2,s2,F,D,Em e,t⟩]
   ·rwa[bS (λ_=>?_) (λh=>absurd (by rw[ahm e];rfl) h)]
    let Xz:c<60:=by
     rcases ajc c 60 with q|q
     ·rwa[q]
     ·rwa[absurd (by rw[show c=60 by ext,X,e0]) e]
    rwa[⟨_,λ_ _ h=>h,?_⟩];erw[12,b,2,⟨_,aF.of r⟩];rwa[kA (ao (gE (xs.map (M17.it f c)))) (zD f) (kB (aF.of r)) (ji (aF.of r)) (ib (aF.of r)) (ln c) (λi x a R N=>⟨121212,body s2 a N⟩) (λs3 Z=>?_)];rw[yS,step];rwa[⟨121122,60 - (c+ 1),3,s3,c+ 1,25,s2.trans (aq.upd Z),ah,33,λd o r=>?_⟩]
    ·rw[show ((c+ 1:Nat):Int)=(c:Int)+ 1 by ext];rfl
    ·by_cases q:d=c
     ·cbv
     ·rwa[t d o ∅]
  rintro J j ⟨b,c,rfl,s2,F,D,hxc,t⟩;rwa[⟨12,k c j F D (λx a=>?_) (λd o r z=>t d o r ((ahv λx a=>z x a).trans (List.map_id xs))) s2⟩];let⟨i,hi,rfl⟩:=aie.mp a;let h9:=ahF (λl=>l[i]?) hxc;simp only[agx,agl hi]at h9;rwa[Za0 h9]
theorem II {Q:VK}(lo:Int)(y:n<=1000)(t:∀(i:Nat) (c:Hp) (R:VK),i<n->(∀q,c q=none->R ↑q (upd c q (.tup (ao [lo+ (i:Int)]))))->r (some (.int (lo+ (i:Int)))::D) c R)
 (k:∀b c d,aq H c->c b=none->cf c d ((List.range n).map λi:Nat=>[lo+ (i:Int)])->Q ↑b (upd c b (.lst (d.map V.ref)))):qL r D Q (uZ lo n) H:=by
 erw[λi m ys c=>m=n - i/\i<=n/\∃d:Zn,ys=d.map V.ref/\aq H c/\cf c d ((List.range i).map λi:Nat=>[lo+ (i:Int)]),⟨n,by simp,agP _,[],2,λ_ _ e=>e,⟨2,λi a u p=>by simp at p⟩⟩];rintro i m ys c ⟨rfl,v,d,rfl,s2,g⟩;let h:⇑d=i:=by have:=g.1;rw[agm,agZ]at this;rwa[this]
 by_cases f:i<n
 ·rwa[.inr ⟨f,[agm,h]▸agu (show i<=1000 by omega) ⋯,λx o s=>?_⟩];let⟨rfl,rfl⟩:=s;rwa[t i o _ f λq j=>?_]
  erw[n - (i+ 1),32,f,d++[q],by cbv,s2.trans (aq.upd j)];rw[ahD,agR];rwa[(g.same (aq.upd j)).snoc ah]
 ·let e:i=n:=∅
  subst e;rwa[.inl ⟨agp _,[agm,h]▸agz (show i<=1000 by omega) ⋯,λb l=>k b c d s2 l g⟩]
theorem p9 {f:Zn}{d e:Za3}(h:cf H F d)(c:cf H f e):cf H (F++f) (d++e):=by
 rwa[⟨by rw[agk,agk,h.1,c.1],λi p w b a=>?_⟩];by_cases g:i<⇑F
 ·rw[ags g]at b;rw[ags (by rw[<-h.1];rwa[g])]at a;rwa[h.2 i p w b a]
 ·rw[agt ∅]at b;rw[agt (by rw[<-h.1];omega),<-h.1]at a;rwa[c.2 _ p w b a]
def B6 (w:Zg)(n:Nat):(List.replicate n (ao w)).flatten=ao ((List.replicate n w).flatten):=by
 induction n with
 |zero=>rfl
 |succ n a=>rw[ail,aiF,a,ail,aiF,ints_app]
def B7 {w:Zg}(h:z∈(List.replicate n w).flatten):z∈w:=by
 let⟨u,a,b⟩:=List.mem_flatten.mp h
 cbv
def yU (w:Zg)(n:Nat):(List.replicate n w).flatten.length=⇑w* n:=by
 induction n with
 |zero=>rfl
 |succ n a=>rw[ail,aiF,agk,a,Nat.mul_succ];ext
theorem B9 {a:Type}(g:Nat->a->Nat)(w:List a):∀(n x:Nat),((List.replicate n w).flatten).foldl g x=M17.it (λx=>w.foldl g x) n x
 |0,x=>rfl
 |n+ 1,x=>by
  let e:=M17.vC (λx=>w.foldl g x) 1 n x;rw[show n+ 1=1+ n by ext,e,show 1+ n=n+ 1 by ext,ail,aiF,aiK,B9 g w n];rfl
def Ca (rows:Za3)(p:Nat)(u:Zg):Prop:=M11.eY ⇑rows u/\⇑u<=60/\∀x,x<p->u.foldl (sf rows) x=x
inductive Ep (vs:Zb) (H:Hp) (Q:VK) (E_:XK):Prop
 |mk (ta:Zs) (rows:Za3) (p:Nat) (z wH:Int):vs=[↑ta,.int ⇑rows,.int z,.int wH]->wH<=60->TabAt H ta rows->1<=⇑rows->⇑rows<=3->(∀r∈rows,M11.Pm p r)->p<=6->(∀l R H',aq H H'->bR H' l R->(∀u∈R,Ca rows p u)->⇑R<=21->H l=none->Q ↑l H')->Ep vs H Q E_
def zq (T:Txt K mg A):T.pU.Ok P w base 3 Ep:=by
 rwa[T.pU.on cW (λcC AA outer s H vs Q E hr h=>?_)]
 ·let⟨ta,rows,p,z0,wH,rfl,ae5,MV,lj,XA,MX,sx,k⟩:=h
  refine⟨_,(ai (kg (iy:=4) cW.nd rfl (Or.inl rfl) (fns:=[]) (ixs:=[]) (cl:=[]) rfl (mV rfl T.hH (ae av (ae (aO dg (pv 1) av) aj))) (lC (by decide) (by decide) rfl (by decide) rfl) (λC s H ex=>(cE (ae (pv 0) aj))))
   (ai (cS agN rfl (mV rfl T.hH (ae av (ae (aO dg (pv 1) av) aj))) (dA 5 cW.nd)
    (au (cS agN rfl (mV rfl T.hH (ae av (ae (pv 5) aj))) (dA 6 cW.nd)
     (au (bI 4 cW.nd (aO qJ (pv 4) (b9 (ae (cE (ae (pv 6) (ae (pv 5) aj))) (ae (cE (ae (pv 6) (ae (fy dO (pv 5)) aj))) (ae (cE (ae (pv 6) (ae (pv 5) (ae (fy dO (pv 6)) (ae (fy dO (pv 5)) aj))))) aj))))))))))
   (ai (bI 7 cW.nd (b9 aj))
   (ai (cS agN rfl (cX (pv 4)) (dA 8 cW.nd)
    (ai (bI 9 cW.nd (pc T.ki (o6 T) hr (ae (pv 0) (ae (qd rfl rfl T.ip rfl T.hH (ae (bF bH rfl T.eI aha (ae (aY bu (pv 0) av (λ_ _=>rfl)) aj)) aj)) (ae (pv 8) aj)))))
    (ai (bM (bD (PW.pt (uY (aX va (aO bX (pv 2) av) av (bf _)) (sD (aX Uq (aO kx (bF bH rfl T.eI aha (ae (pv 8) aj)) (pv 9)) (pv 3) (bf _)))))
     (ai (aV (cQ agw agG agH bP (pv 7) (ae (aO Dh (pv 8) (pv 9)) aj)))
     (au (bI 3 cW.nd (aO gW (pv 3) (aO kx (bF bH rfl T.eI aha (ae (pv 8) aj)) (pv 9))))))
     bp))
    (au (bI 2 cW.nd (aO dC (pv 2) av))))))
   (au (bj (pv 7))))))),?_⟩
  rwa[An ?_];intro oS jP fS gy;let⟨TQ,Y0,m⟩:=id MV;let U:0<⇑rows:=∅
  let c0:rows[0]?=some rows[0]:=agl U
  let Y:=MX _ (agh c0);generalize rows[0]=Y1 at c0 Y;let d0:TQ[0]?\(TQ[0]'(by rw[m.1];omega)):=agl (by rw[m.1];omega)
  generalize TQ[0]'([m.1]▸U)=TR at d0;let Y2:=m.2 0 TR Y1 d0 c0;erw[121122,(1),(⇑rows:Int)+ 1,2,⟨3333⟩];rwa[II 1 (n:=((⇑rows:Int)+ 1 - 1).toNat) ∅ (λi H2 R hi hR=>⟨12,by show 1<=sizeLine;decide,λq hq=>hR q hq⟩) (λd H1 c s1 hlw AI=>?_)];let TV:aq H1 (upd H1 d (.lst (c.map V.ref))):=aq.upd hlw;let h2:upd H1 d (.lst (c.map V.ref)) d\(.lst (c.map V.ref)):=ah;generalize upd H1 d (.lst (c.map V.ref))=H2 at TV h2 ⊢;let X:=AI.same TV
  let XB:∀u∈(List.range ((⇑rows:Int)+ 1 - 1).toNat).map (λi:Nat=>[(1:Int)+ (i:Int)]),M11.eY ⇑rows u/\⇑u<=4:=λu g=>by
   let⟨i,hi,rfl⟩:=ahc.mp g;have:=ahl.mp hi;rwa[λs l=>[ago.mp l]▸⟨33⟩,by show 1<=4;decide]
  let Wo:⇑((List.range ((⇑rows:Int)+ 1 - 1).toNat).map (λi:Nat=>[(1:Int)+ (i:Int)]))<=3:=by rw[agm,agZ];ext
  generalize (List.range ((⇑rows:Int)+ 1 - 1).toNat).map (λi:Nat=>[(1:Int)+ (i:Int)])=W0 at X XB Wo;let s02:=s1.trans TV;erw[121122,(2),(⇑rows:Int)+ 1,2,⟨3333⟩];rwa[mW (lo:=2) (n:=((⇑rows:Int)+ 1 - 2).toNat) (λi v D=>∃(d:Zs) (c:Zn) (f:Za3) (v5 I:Zc),v=#v[↑ta,.int (⇑rows:Int),.int z0,.int wH,↑d,v5,I,none,none,none]/\aq H D/\D d\.lst (c.map V.ref)/\cf D c f/\(∀u∈f,M11.eY ⇑rows u/\⇑u<=4)/\⇑f<=3+ 9* i) ⟨d,c,W0,none,none,2,s02,h2,X,XB,3⟩ ?_ ?_]
  ·rintro i v D hi ⟨d,c,f,v5,I,rfl,s3,h3,t3,TX,hl3⟩;erw[12,(1),2+ (i:Int),2,⟨3333⟩];rwa[mW (lo:=1) (n:=(2+ (i:Int) - 1).toNat) (λn v S=>∃(d:Zs) (c:Zn) (f:Za3) (I:Zc),v=#v[↑ta,.int (⇑rows:Int),.int z0,.int wH,↑d,.int (2+ (i:Int)),I,none,none,none]/\aq H S/\S d\.lst (c.map V.ref)/\cf S c f/\(∀u∈f,M11.eY ⇑rows u/\⇑u<=4)/\⇑f<=3+ 9* i+ 3* n) ⟨d,c,f,I,2,s3,h3,t3,TX,3⟩ ?_ ?_]
   ·rintro n v S hn ⟨d,c,f,I,rfl,s4,h4,t4,TY,hl4⟩;rwa[⟨121212,by show 2<=sizeLine;decide,λO HW=>?_⟩];let s5:=aq.upd (o:=.tup [.int (1+ (n:Int)),.int (2+ (i:Int))]) HW;let a5:upd S O (.tup [.int (1+ (n:Int)),.int (2+ (i:Int))]) O\(.tup (ao [1+ (n:Int),2+ (i:Int)])):=ah;generalize upd S O (.tup [.int (1+ (n:Int)),.int (2+ (i:Int))])=j at s5 a5 ⊢;rwa[⟨121212,by show 2<=sizeLine;decide,λN Br=>?_⟩];let s6:=aq.upd (o:=.tup [.int (1+ (n:Int)),.int (-(2+ (i:Int)))]) Br;let a6:upd j N (.tup [.int (1+ (n:Int)),.int (-(2+ (i:Int)))]) N\(.tup (ao [1+ (n:Int),-(2+ (i:Int))])):=ah;generalize upd j N (.tup [.int (1+ (n:Int)),.int (-(2+ (i:Int)))])=H6 at s6 a6 ⊢;rwa[⟨121212121212,by show 4<=sizeLine;decide,λL hq3=>?_⟩];let s7:=aq.upd (o:=.tup [.int (1+ (n:Int)),.int (2+ (i:Int)),.int (-(1+ (n:Int))),.int (-(2+ (i:Int)))]) hq3;let a7:upd H6 L (.tup [.int (1+ (n:Int)),.int (2+ (i:Int)),.int (-(1+ (n:Int))),.int (-(2+ (i:Int)))]) L\(.tup (ao [1+ (n:Int),2+ (i:Int),-(1+ (n:Int)),-(2+ (i:Int))])):=ah;generalize upd H6 L (.tup [.int (1+ (n:Int)),.int (2+ (i:Int)),.int (-(1+ (n:Int))),.int (-(2+ (i:Int)))])=H7 at s7 a7 ⊢;rwa[⟨by show 3<=sizeLine;decide,λql Bs=>?_⟩];let s8:=aq.upd (o:=.lst [↑O,↑N,↑L]) Bs;let a8:upd H7 ql (.lst [↑O,↑N,↑L]) ql\(.lst ([O,N,L].map V.ref)):=ah;generalize upd H7 ql (.lst [↑O,↑N,↑L])=H8 at s8 a8 ⊢;let T1:=((s5.trans s6).trans s7).trans s8
    let t8:cf H8 [O,N,L] [[1+ (n:Int),2+ (i:Int)],[1+ (n:Int),-(2+ (i:Int))],[1+ (n:Int),2+ (i:Int),-(1+ (n:Int)),-(2+ (i:Int))]]:=by
     let b0:cf H8 [] []:=⟨2,λi p w h1=>by simp at h1⟩;rwa[((b0.snoc (s8^s7^s6^a5)).snoc (s8^s7^a6)).snoc (s8^a7)]
    let kH:⇑c=⇑f:=t4.1;rwa[⟨d,ql,1122,T1^h4,a8,5,λl9 MS=>?_⟩]
    ·rw[agm,agm];rwa[agz (show ⇑c+ 3<=1000 by omega) ⋯]
    erw[l9,c++[O,N,L],112,(s4.trans T1).trans (aq.upd MS),by rw[ah,agR],(p9 (t4.same T1) t8).same (aq.upd MS),λu g=>?_]
    ·rcases agv.mp g with g|g
     ·rwa[TY u g]
     ·let ok:∀s:Int,s=1+ (n:Int)\/s=2+ (i:Int)\/s= -(1+ (n:Int))\/s= -(2+ (i:Int))->s≠0/\s.natAbs<=⇑rows:=λs l=>by
       rcases l with rfl|rfl|rfl|rfl
       ·rwa[⟨by ext,by ext⟩]
       ·rwa[⟨by ext,by ext⟩]
       ·rwa[⟨by ext,by ext⟩]
       ·rwa[⟨by ext,by ext⟩]
      simp only[agB,ag4,ait]at g;rcases g with rfl|rfl|rfl
      ·rwa[⟨λs l=>ok s ?_,by show 2<=4;decide⟩];simp only[agB,ag4,ait]at l;rcases l with h|h
       ·rwa[.inl h]
       ·rwa[.inr (.inl h)]
      ·rwa[⟨λs l=>ok s ?_,by show 2<=4;decide⟩];simp only[agB,ag4,ait]at l;rcases l with h|h
       ·rwa[.inl h]
       ·rwa[.inr (.inr (.inr h))]
      ·rwa[⟨λs l=>ok s ?_,by show 4<=4;decide⟩];simp only[agB,ag4,ait]at l;rwa[l]
    ·rw[agk];simp only[agL,ahU];ext
   ·rintro v S ⟨d,c,f,I,rfl,s4,h4,t4,TY,hl4⟩;rwa[d,c,f,112,s4,h4,t4,TY,3]
  rintro v D ⟨d,c,f,v5,I,rfl,s3,h3,t3,TX,hl3⟩;rwa[⟨agP _,λF BP=>?_⟩];let T2:aq D (upd D F (.lst [])):=aq.upd BP;let h4:upd D F (.lst []) F\(.lst (([]:Zn).map V.ref)):=ah;generalize upd D F (.lst [])=S at T2 h4 ⊢;erw[12,d,2,⟨_,aF.of (T2^h3)⟩];rwa[eP (K:=K) (a:=d) (xs:=c.map V.ref) (λn v j=>∃(fs:Zn) (R:Za3) (zm z:Int) (v8 v9:Zc),v=#v[↑ta,.int (⇑rows:Int),.int zm,.int z,↑d,v5,I,↑F,v8,v9]/\aq D j/\j F\.lst (fs.map V.ref)/\cf j fs R/\(∀u∈R,Ca rows p u)/\⇑R<=n/\z<=60) ⟨[],[],z0,wH,none,none,2,T2,h4,⟨2,λi p w h1=>by simp at h1⟩,(λu g=>by ext g),agP _,3⟩ (λn v j _ ζ=>by let⟨_,_,_,_,_,_,_,s,_⟩:=ζ;rwa[aF.of (s^h3)]) ?_ ?_]
  ·rintro n y v j hn ⟨fs,R,zm,z,v8,v9,rfl,s5,h5,t5,G,MY,IJ⟩;rw[agx]at hn
   let HY:n<⇑c:=by
    cases e:c[n]? with
    |none=>rw[e]at hn;ext hn
    |some r=>cbv
   let g1:c[n]?=some c[n]:=agl HY
   rw[g1]at hn;let ey:V.ref c[n]=y:=Za0 hn;subst ey;generalize c[n]=wa at g1;let kH:⇑c=⇑f:=t3.1;let g2:f[n]?\(f[n]'∅):=agl ∅
   generalize f[n]'∅=w at g2;let sj:=t3.2 n wa w g1 g2;let⟨Ea,Wy⟩:=TX w (agh g2);let T3:=s3.trans s5;let Vt:=T3^Y0;rwa[⟨1212,ta,11,↑TR,22,aF.of Vt,dB (i:=0) d0,TR,12,.inl (aF.of (T3^Y2)),p,by rw[aM,Y.1],3,λlp hlp=>?_⟩];let J:aq j (upd j lp (.lst (ao (eM 0 p)))):=aq.upd hlp;let h6:upd j lp (.lst (ao (eM 0 p))) lp\(.lst (ao (eM 0 p))):=ah;generalize upd j lp (.lst (ao (eM 0 p)))=H6 at J h6 ⊢;rw[OD]at h6;rwa[⟨12,ta,lp,wa,rows,p,List.range p,w,2,MV.same (T3.trans J),MX,sx,h6,λx hx=>ahl.mp hx,[agZ]▸sx,J^s5^sj,Ea,3,λon H7 ho1 Tt T4 _ s67=>?_⟩];let M:=J.trans s67;let t:=M^s5^sj;let h7:=M^h5;let t7:=t5.same M;let Z:=s5.trans M;erw[λ fx H'=>∃(fs:Zn) (R:Za3) (z:Int),fx=#v[↑ta,.int (⇑rows:Int),.int zm,.int z,↑d,v5,I,↑F,↑wa,.int (on:Int)]/\aq D H'/\H' F\.lst (fs.map V.ref)/\cf H' fs R/\(∀u∈R,Ca rows p u)/\⇑R<=n+ 1/\z<=60,5]
   ·rwa[⟨121122,(by show (0:Int)<3;decide),112212,bS (λ_=>?_) (λ_=>dP ⟨fs,R,z,2,Z,h7,t7,G,3,IJ⟩)⟩];rwa[⟨12,wa,12,.inr (bA.of t),121122,.inr ⟨33⟩,12112212,bS (λh=>?_) (λ_=>⟨fs,R,z,2,Z,h7,t7,G,3,IJ⟩)⟩];let hle:(⇑(ao w):Int)* (on:Int)<=z:=agU h;rw[aM]at hle
    let hmul:⇑w* on<=60:=by
     have:((⇑w* on:Nat):Int)=(⇑w:Int)* (on:Int):=Int.natCast_mul ..;ext
    rwa[⟨12,.inl ⟨21,aF.of h7⟩,1212,wa,1122,t,335,λq8 H8 B h8=>?_⟩]
    ·rw[aM,agT];rwa[agz hmul ⋯]
    rw[agT,B6]at h8;let T5:=B^h7;let Mx:⇑fs=⇑R:=t5.1;erw[F,1122,T5,5]
    ·rw[agm];rwa[agu (show ⇑fs<=1000 by omega) ⋯]
    let Y3:upd H8 F (.lst (fs.map V.ref++[V.ref q8])) wa\(.tup (ao w)):=by
     rw[ak (bZ (B^t) T5 (by cbv))];rwa[B^t]
    erw[1212,wa,12,.inr (bA.of Y3),121122,.inr ⟨33⟩,1122];erw[fs++[q8],R++[(List.replicate on w).flatten],12,λb o e=>[ak (aw e BP)]▸B^Z^e,by rw[ah,agR];rfl,uV ((t7.same B).snoc h8) T5,λu g=>?_,by rw[agk];simp only[agL,ahU];ext]
    ·rcases agv.mp g with g|g
     ·rwa[G u g]
     ·rw[ago.mp g];rwa[λs l=>Ea s (B7 l),by rw[yU];ext,λx hx=>[B9]▸T4 x (ahl.mpr hx)]
    cbv
   rintro fx H8 ⟨fs,R,z,rfl,s8,h8,t8,hR8,Y4,Y5⟩;rwa[121122,⟨44⟩,fs,R,_,z,112,s8,h8,t8,hR8,Y4,Y5]
  ·rintro v j ⟨fs,R,zm,z,v8,v9,rfl,s5,h5,t5,G,MY,IJ⟩;let kH:⇑c=⇑f:=t3.1;rw[agm]at MY;rwa[12,k F R j (s3.trans s5) ⟨fs,h5,t5⟩ G ∅ (same_none s3 BP)]
def IK (rows:Za3)(x:Nat)(u:Zg):Prop:=M11.eY ⇑rows u/\⇑u<=1000/\u.foldl (sf rows) x=x
inductive IL (K:Za1) (vs:Zb) (H:Hp) (Q:VK) (E_:XK):Prop
 |mk (a ta:Zs) (ns:Zg) (rows:Za3) (p x:Nat):vs=[↑a,↑ta,.int ⇑rows,.int x]->aF K H a (ao ns)->⇑ns<=63->TabAt H ta rows->1<=⇑rows->⇑rows<=3->(∀r∈rows,M11.Pm p r)->p<=6->x<p->(∀l P H',aq H H'->bR H' l P->(∀u∈P,IK rows x u)->⇑P<=3->Q ↑l H')->IL K vs H Q E_
structure lz (H H':Hp) (l:Zs) (L n m:Nat) (Ws:Za3):Prop where
 s:aq H H'
 f:H l=none
 h:bR H' l Ws
 w:∀u∈Ws,M11.eY L u/\⇑u<=m
 c:⇑Ws<=n
def lz.same {b:Za3}(h:lz H I a n m i b)(s:aq I J):lz H J a n m i b:=⟨h.s.trans s,h.f,h.h.same s,h.w,h.c⟩
def lz.le {n' m':Nat}{b:Za3}(h:lz H I a n m i b)(e:m<=n')(d:i<=m'):lz H I a n n' m' b:=⟨h.s,h.f,h.h,λu c=>⟨(h.w u c).1,agz (h.w u c).2 d⟩,agz h.c e⟩
def lz.add {q:Zs}{f:Za3}{u:Zg}(h:lz H I a n m i f)(j:I q\.tup (ao u))(l:M11.eY n u/\⇑u<=i):∃c:Zn,I a\.lst (c.map V.ref)/\⇑c<=m/\lz H (upd I a (.lst (c.map V.ref++[↑q]))) a n (m+ 1) i (f++[u]):=by
 let⟨c,g,d⟩:=h.h;rwa[⟨c,g,[d.1]▸h.c,λb o e=>[ak (aw e h.f)]▸h.s^e,h.f,⟨c++[q],by rw[ah,agR];rfl,uV (d.snoc j) g⟩,λv k=>?_,by rw[agk];have:=h.c;show _+ 1<=_;ext⟩];rcases agv.mp k with y|y
 ·rwa[h.w v y]
 ·rw[ago.mp y];rwa[l]
def lz.ins {K:Za1}{b:Za3}(h:lz H I a n m i b):Ld K "list" ↑a I:=by
 let⟨d,c,_⟩:=h.h;rwa[.inl ⟨21,aF.of c⟩]
def Cb (T:Txt K mg A):T.rN.Ok P w base 3 (IL K):=by
 rwa[T.rN.on gx (λcC AA outer s H vs Q E M h=>?_)]
 ·let⟨a,Y,ns,rows,p,x,rfl,ha,XC,hT,lj,XA,N,sx,J,k⟩:=h;let O:=Nat.lt_of_succ_lt (iU M)
  erw[_,(ai (bI 4 gx.nd (aO bX (pc T.bL (bE T) M (ae (pv 0) (ae av aj))) av))
   (ai (bI 5 gx.nd (b9 aj))
   (ai (bM (bD (PW.pt (Ew (aX eB (pv 4) av (bf _)) (zI (aX eB (pv 4) av (bf _)))))
    (au (aV (cQ agw agG agH bP (pv 5) (ae (cE (ae (aO dg av (aO bX (aO dC (pc T.bL (bE T) M (ae (pv 0) (ae av aj))) av) (pv 2))) aj)) aj))))
    bp))
   (ai (bM (bD (aX eB (pv 4) av (bf _))
    (au (aV (cQ agw agG agH bP (pv 5) (ae (cE (ae (aY bU (aY bu (pv 5) av (λ_ _=>rfl)) av (λ_ _=>rfl)) (ae (aO gW (fy dO av) (aO bX (aO dC (pc T.bL (bE T) M (ae (pv 0) (ae av aj))) av) (pv 2))) aj))) aj))))
    bp))
   (ai (bM (bD (aX eB (pv 4) av (bf _))
    (ai (bI 6 gx.nd (cE aj))
    (ai (cS agN rfl (cX (lT wZ (pv 0) (lM av) (lM av))) (dA 7 gx.nd)
     (au (bI 6 gx.nd (aO Jk (pv 6) (cE (ae (pc T.ni (su T) M (ae (aO bX (aO kx (pv 7) av) av) (ae (pv 2) aj))) aj))))))
    (au (bM (bD (aX (Nf O) (pv 6) (cE aj) (bf _))
     (au (aV (cQ agw agG agH bP (pv 5) (ae (pv 6) aj))))
     bp)))))
    bp))
   (au (bj (jb (fns:=["_law_turns","_law_first"]) (ixs:=[1,3]) (cl:=_) rfl (cX (pv 5)) (jH rfl rfl rfl ⋯ rfl ⋯ rfl ⋯ ⋯ rfl rfl rfl rfl rfl rfl rfl) (λC s H ex=>(aO Dh (pv 0) (pc T.ki (o6 T) M (ae (pv 1) (ae (b9 (ae (pv 2) aj)) (ae (pv 0) aj))))))))))))))]
  rwa[pF ?_];intro qy oS jP fS gy;rwa[⟨12,a,ns,(6),2,ha,4,λz=>⟨1122,(by show (0:Int)<4;decide),5⟩⟩];obtain⟨y,m⟩:∃y,z % 4=y:=⟨12⟩;rw[show V.int (z % 4)=V.int y from ahF V.int m];clear m;rwa[⟨agP _,λl nl=>?_⟩];let w0:lz H (upd H l (.lst [])) l ⇑rows 0 1 []:=⟨aq.upd nl,nl,⟨[],ah,2,λi p w h=>by simp at h⟩,(λu O=>by ext O),agp _⟩;generalize upd H l (.lst [])=H1 at w0 ⊢;let md:∀z:Int,0<=z % (⇑rows:Int)/\z % (⇑rows:Int)<⇑rows:=λz=>⟨ahT _ ∅,ahJ _ ∅⟩
  erw[λ d r=>∃g,d=#v[↑a,↑Y,.int ⇑rows,.int x,.int y,↑l,none,none]/\lz H r l ⇑rows 1 2 g/\(y=2->∃s,g=[[s]]),5]
  ·erw[12212];rwa[bS (λL=>jF ?_) (λL=>⟨12212,bS (λh2=>?_) (λh2=>⟨[],2,w0.le ⋯ ⋯,λe=>absurd (by rw[e];rfl) h2⟩)⟩)]
   all_goals
    rwa[⟨12,w0.ins,12,a,ns,(6),2,w0.s.seq ha,4,λz1=>⟨1122,⟨44⟩,12112231122,(Za4 1),λq hq=>?_⟩⟩];let sq:=aq.upd (o:=.tup [.int (1+ z1 / 24 % (⇑rows:Int))]) hq;have:=md (z1 / 24);let⟨f,j,g2,g3⟩:=(w0.same sq).add (q:=q) (u:=[1+ z1 / 24 % (⇑rows:Int)]) ah ⟨λs B=>[ago.mp B]▸⟨33⟩,agp _⟩;rwa[l,1122,j,[agm]▸agu (show ⇑f<=100 by omega) ⋯,12,g3.le ⋯ ⋯,λ_=>⟨12⟩]
  rintro d R ⟨g,rfl,U,m⟩;erw[λ d r=>∃g,d=#v[↑a,↑Y,.int ⇑rows,.int x,.int y,↑l,none,none]/\lz H r l ⇑rows 2 2 g,5]
  ·erw[12212];rwa[bS (λL=>?_) (λL=>⟨g,2,U.le ⋯ ⋯⟩)];let h1':V.int y=V.int 2:=agU L;let⟨s0,rfl⟩:=m (by injection h1');let⟨f,j,g2⟩:=id U.h
   obtain⟨Z,rfl⟩:∃Z,f=[Z]:=by
    have:=g2.1
    match f,this with
    |[Z],_=>cbv
   let g3:R Z\(.tup (ao [s0])):=g2.2 0 Z _ rfl rfl;let hs0:=(U.w _ (ago.mpr rfl)).1 s0 (ago.mpr rfl);rwa[⟨12,U.ins,12,l,11122,aF.of j,2,Z,11122,bA.of g3,21212,a,ns,(7),2,U.s.seq ha,4,λz1=>⟨1122,⟨44⟩,121122,(by show (0:Int)<(⇑rows:Int);omega),1122,(Za4 2),λq hq=>?_⟩⟩];let sq:=aq.upd (o:=.tup [.int s0,.int (-1 - z1 / 192 % (⇑rows:Int))]) hq;have:=md (z1 / 192)
   let⟨f,j,g2,g3⟩:=(U.same sq).add (q:=q) (u:=[s0,-1 - z1 / 192 % (⇑rows:Int)]) ah ⟨λs B=>by
    rcases agB.mp B with rfl|B
    ·rwa[hs0]
    ·rw[ago.mp B];rwa[33],agp _⟩
   rwa[l,1122,j,[agm]▸agu (show ⇑f<=100 by omega) ⋯,12,g3]
  rintro d H3 ⟨Ws3,rfl,w3⟩;clear U m w0 g;erw[λ d r=>∃g v6 I,d=#v[↑a,↑Y,.int ⇑rows,.int x,.int y,↑l,v6,I]/\lz H r l ⇑rows 3 63 g,5]
  ·erw[12212];rwa[bS (λL=>?_) (λL=>⟨Ws3,112,w3.le ⋯ ⋯⟩)];rwa[⟨agP _,λt nt=>?_⟩];let st:=aq.upd (o:=.tup []) nt;let qt:upd H3 t (.tup []) t\(.tup (ao [])):=ah;generalize upd H3 t (.tup [])=H4 at st qt ⊢;rwa[⟨121212,a,12,(w3.s.trans st).seq ha,λb nb=>?_⟩]
   obtain⟨ms,em,hm⟩:∃ms:Zg,fJ (ao ns) (some 8) (some 63)=ao ms/\⇑ms<=63:=by
    erw[(ns.drop (HT.b6 ⇑(ao ns) 0 (some 8))).take (HT.b6 ⇑(ao ns) ⇑(ao ns) (some 63) - HT.b6 ⇑(ao ns) 0 (some 8)),by unfold fJ ao;rw[ajV,ajW]];rw[agV,ahh];ext
   rw[em];let sb:=aq.upd (o:=.lst (ao ms)) nb;let qb:upd H4 b (.lst (ao ms)) b\(.lst (ao ms)):=ah;generalize upd H4 b (.lst (ao ms))=X at sb qb ⊢;erw[b,2,⟨_,aF.of qb⟩];rwa[eP (K:=K) (a:=b) (xs:=ao ms) (λi σ r=>∃(t:Zs) (u:Zg) (I:Zc),σ=#v[↑a,↑Y,.int ⇑rows,.int x,.int y,↑l,↑t,I]/\aq X r/\r t\.tup (ao u)/\⇑u=i/\M11.eY ⇑rows u) ⟨t,[],none,2,aq.refl _,sb^qt,2,(λs B=>by ext B)⟩ (λi σ r _ ζ=>by let⟨_,_,_,_,s,_⟩:=ζ;rwa[aF.of (s^qb)]) ?_ ?_]
   ·rintro i v σ H6 F ⟨t,u,I,rfl,s6,q6,hl,O⟩;let⟨z1,rfl,hz⟩:=cI F;let To:=(agj.mp hz).1;rwa[⟨12121122,.inr ⟨44⟩,1122,(by show (0:Int)<2147483647;decide),121,⇑rows,2,lj,3,λs L h2=>⟨(Za4 1),λu' nu=>?_⟩⟩];rwa[⟨t,u',1122,aq.upd nu _ _ q6,ah,5,λp' H7 s7 e7=>?_⟩]
    ·rw[aM];rwa[agz (show ⇑u+ 1<=100 by omega) ⋯]
    rwa[⟨p',u++[s],12,s6.trans ((aq.upd nu).trans s7),[ints_app]▸e7,by rw[agk,hl];rfl,λx J=>?_⟩];rcases agv.mp J with q|q
    ·rwa[O x q]
    ·rw[ago.mp q];rwa[L,h2]
   rintro σ H6 ⟨t,u,I,rfl,s6,q6,hl,O⟩;rw[aM]at hl;let w6:=w3.same ((st.trans sb).trans s6);rwa[⟨λ d r=>∃g v6 I,d=#v[↑a,↑Y,.int ⇑rows,.int x,.int y,↑l,v6,I]/\lz H r l ⇑rows 3 63 g,5,λ_ _ z=>z⟩];rwa[⟨12,agP _,λe0 Iy=>?_⟩];let se:=aq.upd (o:=.tup []) Iy;let w7:=(w6.same se).le (n':=2) (m':=63) ⋯ ⋯;erw[t,e0,u,[],22,bA.of (se^q6),bA.of ah,12];rwa[bS (λ_=>?_) (λ_=>⟨1112,w7.le ⋯ ⋯⟩)];let⟨f,j,g2,g3⟩:=w7.add (q:=t) (u:=u) (se^q6) ⟨O,3⟩;rwa[12,w7.ins,12,l,1122,j,[agm]▸agu (show ⇑f<=100 by omega) ⋯,1112,g3]
  rintro d H4 ⟨g,v6,I,rfl,w4⟩;let⟨f,j,g2⟩:=id w4.h;let Bs:⇑f<=3:=by rw[g2.1];rwa[w4.c]
  erw[12,l,2,⟨_,aF.of j⟩];rwa[mY ⇑f (λi=>(f.map V.ref).getD i .non) (λR v i=>∃p,v=↑p/\∃w,R p\.tup (ao w)/\IK rows x w) (λH1 R v i s ζ=>by let⟨p,e,w,q,o⟩:=ζ;rwa[⟨p,e,w,s^q,o⟩]) (agz Bs ⋯) (λi R s2 F=>kB (aF.of (s2^j)) i ([agm]▸F)) (λi v R H3 s2 F y=>?_) (λR s2=>?_) (λi X Rr F s5 kk=>?_) (λD X ys s5 hD Tc M=>?_)]
  ·let⟨e1,e2⟩:=ji (aF.of (s2^j)) i v H3 ([agm]▸F) y;rwa[e1,by rw[agq,e2];rfl]
  ·have:=ib (K:=K) (aF.of (K:=K) (s2^j));rw[agm]at this;rwa[this]
  ·let e1:f[i]?=some f[i]:=agl F
   let e2:g[i]?\(g[i]'(by rw[<-g2.1];rwa[F])):=agl (by rw[<-g2.1];rwa[F])
   generalize f[i]=wa at e1;generalize g[i]'(by cbv)=u at e2;let sj:=g2.2 i wa u e1 e2;let⟨G,tW⟩:=w4.w u (agh e2);rw[show (f.map V.ref).getD i .non=V.ref wa by rw[agq,agx,e1];rfl];rwa[⟨121212,(Za4 1),λl1 n1=>?_⟩];let s1:=aq.upd (o:=.lst [.int (x:Int)]) n1;let q1:upd X l1 (.lst [.int (x:Int)]) l1\(.lst (ao (gE [x]))):=ah;generalize upd X l1 (.lst [.int (x:Int)])=H6 at s1 q1 ⊢;let S:=s5.trans s1;rwa[⟨12,Y,l1,wa,rows,p,[x],u,2,(hT.same w4.s).same S,N,sx,q1,λy m=>[ago.mp m]▸J,by show 1<=6;decide,S^sj,G,3,λn H7 hn1 WU Ts hn4 s7=>?_⟩];let hf1:∀x,x<p->u.foldl (sf rows) x<p:=λx J=>FX N G J
   let BQ:∀x y,x<p->y<p->u.foldl (sf rows) x=u.foldl (sf rows) y->x=y:=λx y J m e=>BX N G J m e
   let⟨c,qP,Lx,Xz⟩:=M17.ring hf1 BQ J
   let hn6:n<=6:=by
    rcases ajc c n with q|q
    ·rwa[absurd (λy m=>by rw[ago.mp m];rwa[Xz]) (hn4 c qP q)]
    ·ext
   let hmul:⇑u* n<=1000:=agz (ajl tW hn6) (by decide);rwa[⟨wa,1122,s7^S^sj,335,λq8 H8 s8 h8=>?_⟩]
   ·rw[aM,agT];rwa[agz hmul ⋯]
   rw[agT,B6]at h8;rwa[kk _ _ ((s1.trans s7).trans s8) ⟨q8,21,h8,λs B=>G s (B7 B),by rw[yU];ext,[B9]▸Ts x (ago.mpr rfl)⟩]
  let⟨pP,rfl,hqs⟩:=sS (P:=λ_ p=>∃w,X p\.tup (ao w)/\IK rows x w) ys 0 (λi v hv=>M i v hv);let⟨ps,tP,oP⟩:=words_of λi p e=>hqs i p e
  rwa[k D ps _ ((w4.s.trans s5).trans (aq.upd hD)) ⟨pP,ah,tP.same (aq.upd hD)⟩ oP (by rw[<-tP.1];rw[agm]at Tc;omega)]
inductive Cd (Pt cT:Zs) (vs:Zb) (H:Hp) (Q:VK) (E_:XK):Prop
 |mk (ru pa:Zs) (L lim w:Nat) (ot:Zh) (rs ps:Za3):vs=[.int L,↑ru,↑pa,.int lim,.str (tx ot)]->(ot=lK w\/ot=[]/\w=0)->w<3->1<=L->L<=40->1<=lim->lim<=300->bR H ru rs->bR H pa ps->(∀u∈rs++ps,ML L u)->lim* ⇑rs+ ⇑ps<=700->⇑rs<=400->⇑ps<=400->c9 Pt dW iu H->(∀q t tb pp S N H',Kp Pt H H'->c9 Pt dW iu H'->Fl rs ps L w lim S->(∀c z,¬gR S L c z)->H' q\.tup [↑t,.non]->H' t\.tup [↑tb,↑pp]->TabAt H' tb (M24.fm (bC S) (2* S.L) (M24.bh (bC S) (2* S.L) 0 N))->⇑(M24.bh (bC S) (2* S.L) 0 N)=N->ko H' pp S->Q ↑q H')->(∀q x d pp S H',Kp Pt H H'->c9 Pt dW iu H'->Fl rs ps L w lim S->S.made=lim->(∃c z,km w S L c z)->H' q\.tup [.non,↑x]->H' x\XO x cT (some d) false->H' d\XD d (BR S.made pp)->ko H' pp S->Q ↑q H')->Cd Pt cT vs H Q E_
def ko.same (h:ko H a S)(s:aq H I):ko I a S:=by
 let⟨b,f,c,g⟩:=h;rwa[b,s^f,c.imp (λp d _ _ e=>e.same s),g]
def xV (T:Txt K mg A)(u:j3 mg base):T.nH.Ok P w base 12 (Cd A.eG A.bz):=by
 rwa[T.nH.on dH (λcC AA outer s H vs Q E hr h=>?_)]
 ·let⟨ru,pa,L,f,n,ot,rs,ps,rfl,D,y,F,r0,yQ,C,Y,Z,X,r,M,v,hT,kq,ke⟩:=h;let⟨tkd,hbd⟩:=T.fill.bd
  erw[_,(ai (bI 5 dH.nd cO)
   (ai (bI 6 dH.nd cO)
   (ai (bM (N7 rfl rfl (Rw (aX eB (pv 4) (dD (l:=[]) rfl) (bf _)) (DL (i:=5) dH.nd rfl (Or.inl rfl) (AJ (dvs:=[V.str (tx [114,111,111,109,115])]) (Ej T u) hr.Za5 rfl T.fill.m T.fill.kp hbd (.cons ⟨12⟩ .nil) (ae (pv 0) (ae (pv 1) (ae (pv 2) (ae (pv 3) aj)))))) (DL (i:=5) dH.nd rfl (Or.inl rfl) (AJ (Ej T u) hr.Za5 rfl T.fill.m T.fill.kp T.fill.b .nil (ae (pv 0) (ae (pv 1) (ae (pv 2) (ae (pv 3) (ae (pv 4) aj))))))))
    (Rx (i:=7) dH.nd rfl rfl rfl T.yK (λ_=>(au (bI 6 dH.nd (pv 7))))
    Rz)))
   (au (bj (cE (ae (pv 5) (ae (pv 6) aj))))))))]
  rwa[gM ?_];intro jP fS gy;erw[λ U g=>Kp A.eG H g/\c9 A.eG dW iu g/\∃B O,U=#v[.int L,↑ru,↑pa,.int f,.str (tx ot),some B,some O,none]/\((∃t p b S N,B=↑t/\O=.non/\Fl rs ps L n f S/\(∀c z,¬gR S L c z)/\g t\.tup [↑p,↑b]/\TabAt g p (M24.fm (bC S) (2* S.L) (M24.bh (bC S) (2* S.L) 0 N))/\⇑(M24.bh (bC S) (2* S.L) 0 N)=N/\ko g b S)\/∃x d b S,B=.non/\O=↑x/\Fl rs ps L n f S/\S.made=f/\(∃c z,km n S L c z)/\g x\XO x A.bz (some d) false/\g d\XD d (BR S.made b)/\ko g b S),5]
  ·erw[12212];rwa[bS (λh=>?_) (λh=>?_)]
   ·let e:ot=[]:=gC.mp (agU h)
    let ew:n=0:=by
     rcases D with q|q
     ·rw[e]at q;rcases (show n=0\/n=1\/n=2 by omega) with rfl|rfl|rfl
      ·rfl
      ·rwa[absurd q (by decide)]
      ·rwa[absurd q (by decide)]
     ·rwa[q.2]
    subst ew;rwa[⟨12121212,ru,pa,L,f,(0),rs,ps,2,y,F,r0,yQ,C,Y,Z,X,r,M,v,hT,λt p b S N g m t1 j J k a2 G I=>?_,λd b S g m t1 j R l1 k a2=>?_⟩]
    ·rwa[m,t1,↑t,.non,2,.inl ⟨t,p,b,S,N,22,j,J,k,a2,G,I⟩]
    ·rwa[⟨12,true,T.V3,jF λx nx=>⟨125⟩⟩];let a:=aq.upd (o:=XO x A.bz (some d) false) nx;rwa[m.trans (.same a),t1.same a,.non,↑x,2,.inr ⟨x,d,b,S,22,j,R,l1,ah,a^k,a2.same a⟩]
   ·let e:ot=lK n:=D.elim id λq=>absurd (agW (gC.mpr q.1)) h
    subst e;rwa[⟨1212121212,ru,pa,L,f,n,rs,ps,2,y,F,r0,yQ,C,Y,Z,X,r,M,v,hT,λt p b S N g m t1 j J k a2 G I=>?_,λd b S g m t1 j R l1 k a2=>?_⟩]
    ·rwa[m,t1,↑t,.non,2,.inl ⟨t,p,b,S,N,22,j,J,k,a2,G,I⟩]
    ·rwa[⟨12,true,T.V3,jF λx nx=>⟨125⟩⟩];let a:=aq.upd (o:=XO x A.bz (some d) false) nx;rwa[m.trans (.same a),t1.same a,.non,↑x,2,.inr ⟨x,d,b,S,22,j,R,l1,ah,a^k,a2.same a⟩]
  rintro U H1 ⟨m,t1,B,O,rfl,cs⟩;rwa[⟨1212,by show 2<=sizeLine;decide,λq nq=>?_⟩];let a:=aq.upd (o:=.tup [B,O]) nq;rcases cs with ⟨t,p,b,S,N,rfl,rfl,j,J,k,a2,G,I⟩|⟨x,d,b,S,rfl,rfl,j,R,l1,a0,k,a2⟩
  ·rwa[kq q t p b S N _ (m.trans (.same a)) (t1.same a) j J ah (a^k) (a2.same a) G (I.same a)]
  ·rwa[ke q x d b S _ (m.trans (.same a)) (t1.same a) j R l1 ah (a^a0) (a^k) (a2.same a)]
def OG (K:Za1):Sp:=λf H Q _=>∃(a:Zs) (ns:Zg),f=[↑a]/\aF K H a (ao ns)/\⇑ns<=63/\∀(l e c d:Zs) (rows:Za3) (p x:Nat) (R P:Za3) b,aq H b->b l\.tup [.int ⇑rows,↑e,↑c,↑d,.int x]->TabAt b e rows->1<=⇑rows->⇑rows<=3->(∀r∈rows,M11.Pm p r)->p<=6->x<p->bR b c R->(∀u∈R,Ca rows p u)->⇑R<=23->bR b d P->(∀u∈P,IK rows x u)->⇑P<=3->Q ↑l b
def T6 (b:Bool):∃a:Int,jE [V.int 36,V.int 60] (if b=true then 1 else 0)\.int a/\a<=60:=by
 ext b
 ·rwa[(36),24]
 ·rwa[(60),24]
def jX (z:Int){n:Nat}(h:0<n):∃x:Nat,z % (n:Int)=(x:Int)/\x<n:=by
 let a:=ahT z (show (n:Int)≠0 by omega);let b:=ahJ z (show (0:Int)<(n:Int) by omega);rwa[(z % (n:Int)).toNat,33]
theorem OI:∀j:Nat,j<4->∃L:Nat,([V.int 2,V.int 1,V.int 2,V.int 3])[j]?\V.int (L:Int)/\1<=L/\L<=3
 |0,_=>⟨(2),244⟩
 |1,_=>⟨(1),244⟩
 |2,_=>⟨(2),244⟩
 |3,_=>⟨(3),244⟩
theorem uW {ws:Za3}(h:cf H F ws)(k n:Nat):cf H ((F.drop k).take n) ((ws.drop k).take n):=by
 rwa[⟨by rw[agV,agV,ahh,ahh,h.1],λi p w a c=>?_⟩];rw[ajF]at a c;split at a
 ·rename_i b;rw[agI b,aiu]at c;rw[aiu]at a;rwa[h.2 _ p w a c]
 ·ext a
theorem IQ {R:Za3}(f:H a\.lst (F.map V.ref))(c:cf H F R)(e:H b\.tup (ao []))(i:Nat)(g:i<=⇑F):bR (upd H a (.lst ((F.map V.ref).take i++[↑b]++(F.map V.ref).drop i))) a (R.take i++[[]]++R.drop i):=by
 let t1:cf H (F.take i) (R.take i):=by have:=uW c 0 i;rwa [List.drop_zero,List.drop_zero]at this
 let d:cf H (F.drop i) (R.drop i):=by
  have:=uW c i (⇑F - i)
  rwa [ai0 ([ahh]▸agp _),ai0 ([ahh,c.1]▸agp _)]at this
 rwa[⟨F.take i++[b]++F.drop i,by rw[ah,agR,agR,ajV,ajW];rfl,uV (p9 (t1.snoc e) d) f⟩]
def zr (T:Txt K mg A):T.pV.Ok P w base 4 (OG K):=by
 rwa[T.pV.on cx (λcC AA outer s H vs Q E t h=>?_) (len:=by rintro _ _ _ _ ⟨a,p,rfl,_⟩;rfl)]
 ·let⟨a,p,rfl,v,hlen,k⟩:=h
  erw[_,(ai (bI 1 cx.nd (wU eB (aO bX (pc T.bL (bE T) t (ae (pv 0) (ae av aj))) av) av (bf _)))
   (ai (bI 2 cx.nd (aO dg av (aO bX (aO dC (pc T.bL (bE T) t (ae (pv 0) (ae av aj))) av) av)))
   (ai (bM (bD (gU (pv 1))
    (au (bI 2 cx.nd (aO dg av (aO bX (aO dC (pc T.bL (bE T) t (ae (pv 0) (ae av aj))) av) av))))
    bp))
   (ai (bI 3 cx.nd (aY bu (b9 (ae av (ae av (ae av (ae av aj gY) gY) gY) gY)) (aO bX (pc T.bL (bE T) t (ae (pv 0) (ae av aj))) av) (λ_ _=>rfl)))
   (ai (bI 4 cx.nd (b9 aj))
   (ai (cS agN rfl (mU rfl T.hH (ae (pv 3) aj)) (dA 5 cx.nd)
    (au (aV (cQ agw agG agH bP (pv 4) (ae (pc T.mE (wN T) t (ae (aO bX (pc T.bL (bE T) t (ae (pv 0) (ae (aO dg av (pv 5)) aj))) av) (ae (pv 2) (ae (pv 1) aj)))) aj)))))
   (ai (bI 6 cx.nd (aO bX (pc T.bL (bE T) t (ae (pv 0) (ae av aj))) av))
   (ai (bM (bD (gU (pv 1))
    (au (bI 6 cx.nd av))
    bp))
   (ai (bI 7 cx.nd (aO bX (aO dC (pc T.bL (bE T) t (ae (pv 0) (ae av aj))) av) (pv 2)))
   (ai (bI 8 cx.nd (pc T.pU (zq T) t (ae (pv 4) (ae (pv 3) (ae (pv 6) (ae (aY bu (b9 (ae av (ae av aj))) (eJ yo rfl T.LZ PyProof.Rows.boot_int (ae (wU eB (aO bX (pc T.bL (bE T) t (ae (pv 0) (ae av aj))) av) av (bf _)) aj)) (λ_ _=>rfl)) aj))))))
   (ai (bM (bD (aX eB (aO bX (pc T.bL (bE T) t (ae (pv 0) (ae av aj))) av) av (bf _))
    (au (aV (cQ agw PySem.F.slot_list_insert PySem.F.type_list_insert xk (pv 8) (ae (aO bX (aO dC (pc T.bL (bE T) t (ae (pv 0) (ae av aj))) av) (aO dg (bF bH rfl T.eI aha (ae (pv 8) aj)) av)) (ae (cE aj) aj)))))
    bp))
   (ai (bM (bD (PW.pt (uY (aX eB (aO bX (pc T.bL (bE T) t (ae (pv 0) (ae av aj))) av) av (bf _)) (sD (aX jB (aO bX (pc T.bL (bE T) t (ae (pv 0) (ae av aj))) av) av (bf _)))))
    (au (bI 8 cx.nd (aO qJ (pv 8) (lT wZ (pv 8) sG (lM av)))))
    bp))
   (au (bj (cE (ae (pv 3) (ae (pv 4) (ae (pv 8) (ae (pc T.rN (Cb T) t (ae (pv 0) (ae (pv 4) (ae (pv 3) (ae (pv 7) aj))))) (ae (pv 7) aj))))))))))))))))))))]
  rwa[GZ ?_];intro ae6 ae7 Y6 u_9 Wj L4 Bn qy oS jP fS gy;rwa[⟨12,a,p,(0),2,v,3,λz0=>?_⟩];erw[1122,(by show (0:Int)<2;decide),2];rwa[⟨12,a,p,(0),2,v,3,λz1=>?_⟩];erw[1122,⟨44⟩,1122,(by show (0:Int)<4;decide),1122];let a1:=ahT (z1 / 2) (show (4:Int)≠0 by decide);let a2:=ahJ (z1 / 2) (show (0:Int)<4 by decide);erw[λ c g=>∃(m:Nat) (pl:Bool),c=#v[↑a,.bl pl,.int m,none,none,none,none,none,none]/\g=H/\1<=m/\m<=6,5]
  ·erw[1212];rwa[bS (λ_=>?_) (λ_=>?_)]
   ·rwa[⟨12,a,p,(0),2,v,3,λz2=>?_⟩];erw[1122,⟨44⟩,1122,(by show (0:Int)<6;decide),1122];let c1:=ahT (z2 / 2) (show (6:Int)≠0 by decide);let c2:=ahJ (z2 / 2) (show (0:Int)<6 by decide);rwa[⟨(1+ z2 / 2 % 6).toNat,decide (V.int (z0 % 2)=V.int 0),5233⟩];rw[show (((1+ z2 / 2 % 6).toNat:Nat):Int)=1+ z2 / 2 % 6 by ext];rfl
   ·rwa[⟨(2+ z1 / 2 % 4).toNat,decide (V.int (z0 % 2)=V.int 0),5233⟩];rw[show (((2+ z1 / 2 % 4).toNat:Nat):Int)=2+ z1 / 2 % 4 by ext];rfl
  rintro c g ⟨m,pl,rfl,rfl,Xy,U⟩;rwa[⟨by show 4<=sizeLine;decide,λq hq=>?_⟩];let sq:aq g (upd g q (.lst [V.int 2,V.int 1,V.int 2,V.int 3])):=aq.upd hq;let XE:upd g q (.lst [V.int 2,V.int 1,V.int 2,V.int 3]) q\(.lst [V.int 2,V.int 1,V.int 2,V.int 3]):=ah;generalize upd g q (.lst [V.int 2,V.int 1,V.int 2,V.int 3])=H1 at sq XE ⊢;rwa[⟨12,a,p,(1),2,sq.seq v,3,λz2=>?_⟩];let⟨j,hj,T7⟩:=jX z2 (n:=4) ⋯;let⟨L,hL,S,X⟩:=OI j T7;erw[1122,(by show (0:Int)<4;decide),q,11,.int (L:Int),22,aF.of XE,(by show jE _ (z2 % 4)=_;rw[show z2 % 4=(j:Int) from hj];rwa[bO hL])];rwa[⟨agP _,λlt nV=>?_⟩];let s2:aq H1 (upd H1 lt (.lst [])):=aq.upd nV;let h2:upd H1 lt (.lst []) lt\(.lst (([]:Zn).map V.ref)):=ah;let TN:g lt=none:=sq.free nV;generalize upd H1 lt (.lst [])=H2 at s2 h2 ⊢;erw[12,(L:Int),233];rwa[mW (lo:=0) (n:=((L:Int)).toNat) (λi σ J=>∃(rs:Zn) (rows:Za3) (v5:Zc),σ=#v[↑a,.bl pl,.int m,.int L,↑lt,v5,none,none,none]/\aq g J/\J lt\.lst (rs.map V.ref)/\eh J rs rows/\⇑rows=i/\(∀r∈rows,M11.Pm m r)) ⟨[],[],none,2,sq.trans s2,h2,⟨2,λi r p h1=>by cbv⟩,2,by simp⟩ ?_ ?_]
  ·rintro i σ J hi ⟨rs,rows,v5,rfl,s3,h3,C,F,D⟩;let To:i<L:=∅
   rwa[⟨12,.inl ⟨21,aF.of h3⟩,12121122,a,p,2+ i,5,s3.seq v,3,λz3=>?_⟩]
   ·cbv
   let c1:=ahT z3 (show (720:Int)≠0 by decide);rwa[⟨1122,(by show (0:Int)<720;decide),1212,z3 % 720,m,pl,2,Xy,3,c1,λr row H4 I h4 hP=>?_⟩];let Y:=I^h3;let tL:r≠lt:=IH h4 (λz=>by have:=hP.len;rw[z]at this;simp at this;omega) Y;erw[lt,1122,Y,5]
   ·rw[agm,C.1,F];rwa[agu (show i<=3 by omega) ⋯]
   rwa[⟨rs++[r],rows++[row],12,λb o e=>[ak (aw e TN)]▸I^s3^e,by rw[ah,agR];rfl,⟨(yT (C.same I) h4).1,λi' q' ms e1 e2=>?_⟩,by rw[agk,F];rfl,λr' hr'=>?_⟩]
   ·let XF:=(yT (C.same I) h4).2 i' q' ms e1 e2
    let hnm:ms≠[]:=λz=>by
     let hmm:ms∈rows++[row]:=agh e2
     let hPm:M11.Pm m ms:=by
      rcases agv.mp hmm with y|y
      ·rwa[D ms y]
      ·cbv
     have:=hPm.len;rw[z]at this;simp at this;ext
    rw[ak (IH XF hnm Y)];rwa[XF]
   cbv
  rintro σ J ⟨rs,rows,v5,rfl,s3,h3,C,F,D⟩;rw[agT]at F;subst F;let hT:TabAt J lt rows:=⟨rs,h3,C⟩;rwa[⟨12,a,p,(5),2,s3.seq v,3,λz5=>⟨1122,(by show (0:Int)<531441;decide),5⟩⟩];erw[λ c g=>∃mk:Int,c=#v[↑a,.bl pl,.int m,.int ⇑rows,↑lt,v5,.int mk,none,none]/\g=J,5]
  ·erw[1212];rwa[bS (λ_=>⟨122⟩) (λ_=>⟨122⟩)]
  rintro c H3' ⟨mk,rfl,e3⟩;replace e3:=e3.symm;subst e3;rwa[⟨12,a,p,(6),2,s3.seq v,3,λz6=>?_⟩];let⟨x,hx,XG⟩:=jX (z6 / 4) (n:=m) ∅;erw[1122,⟨44⟩,121122,(by show (0:Int)<(m:Int);omega)];rw[show V.int ((z6 / 4) % (m:Int))=V.int (x:Int) from ahF V.int hx];rwa[⟨121212,by show 2<=sizeLine;decide,λq2 N=>⟨12,a,p,(7),2,(s3.trans (aq.upd N)).seq v,3,λz9=>⟨1122,(by show (0:Int)<8;decide),2125⟩⟩⟩];let⟨rm,T8,IJ⟩:=T6 (decide (V.int (z9 % 8)=V.int 6));rwa[⟨q2,11122,aF.of ah,T8,lt,rows,m,mk,rm,2,IJ,hT.same (aq.upd N),S,X,D,U,λB R H4 I O f G Z=>?_⟩];replace Z:J B=none:=(aq.upd N).free Z;replace I:=(aq.upd N).trans I;erw[λ c g=>∃R,c=#v[↑a,.bl pl,.int m,.int ⇑rows,↑lt,v5,.int mk,.int x,↑B]/\aq J g/\bR g B R/\(∀u∈R,Ca rows m u)/\⇑R<=22,5]
  ·rwa[⟨12,a,p,(5),2,(s3.trans I).seq v,3,λz7=>⟨1122,(by show (0:Int)<4;decide),212,bS (λ_=>?_) (λ_=>⟨R,2,I,O,f,3⟩)⟩⟩];let⟨d,g1,g2⟩:=O;let Bs:⇑d<=21:=by rw[g2.1];rwa[G]
   rwa[⟨12,.inl ⟨21,aF.of g1⟩,12,a,p,(6),2,(s3.trans I).seq v,3,λz8=>⟨1122,⟨44⟩,12,B,12,.inl (aF.of g1),11221122,(by show (0:Int)<(⇑(d.map V.ref):Int)+ 1;omega),agP _,λe0 Iy=>?_⟩⟩];let⟨i,hi,GJ⟩:=jX (z8 / 24) (n:=⇑d+ 1) ∅;let se:=aq.upd (o:=.tup []) Iy;erw[B,_,i,↑e0,25,se^g1,[agm]▸agu (show ⇑d<=100 by omega) ⋯,by rw[agm];ext,3]
   ·cbv
   rwa[⟨R.take i++[[]]++R.drop i,2,λb o e=>[ak (aw e Z)]▸se^I^e,IQ (se^g1) (g2.same se) ah i ∅,λu M=>?_,by rw[agk,agk,agV,ahh];show _+ 1+ _<=_;ext⟩];rcases agv.mp M with M|M
   ·rcases agv.mp M with M|M
    ·rwa[f u (List.mem_of_mem_take M)]
    ·rw[ago.mp M];rwa[(λs hs=>by ext hs),by show 0<=60;decide,λx _=>rfl]
   ·rwa[f u (List.mem_of_mem_drop M)]
  rintro c H5 ⟨R,rfl,s5,O,f,G⟩;erw[λ c g=>∃B R,c=#v[↑a,.bl pl,.int m,.int ⇑rows,↑lt,v5,.int mk,.int x,↑B]/\aq J g/\bR g B R/\(∀u∈R,Ca rows m u)/\⇑R<=23,5]
  ·rwa[⟨12,a,p,(5),2,(s3.trans s5).seq v,3,λz7=>⟨1122,(by show (0:Int)<4;decide),212,bS (λ_=>?_) (λ_=>dP ⟨B,R,2,s5,O,f,3⟩)⟩⟩];rwa[⟨12,a,p,(7),2,(s3.trans s5).seq v,3,λz7=>⟨1122,(by show (0:Int)<8;decide),212,bS (λ_=>?_) (λ_=>⟨B,R,2,s5,O,f,3⟩)⟩⟩];let⟨d,g1,g2⟩:=O;rwa[⟨121212,B,12,aF.of g1,λb nb=>?_⟩];let sb:=aq.upd (o:=.lst (fJ (d.map V.ref) none (some 1))) nb
   obtain⟨i,n,e,hn⟩:∃i n:Nat,fJ (d.map V.ref) none (some 1)=((d.drop i).take n).map V.ref/\n<=1:=by
    erw[11,by unfold fJ;rw[ajV,ajW]];have:=HT.wX ⇑(d.map V.ref) ⇑(d.map V.ref) 1;rw[show ((1:Nat):Int)=1 from rfl]at this;rw[this];ext
   let eb:upd H5 b (.lst (fJ (d.map V.ref) none (some 1))) b\(.lst (((d.drop i).take n).map V.ref)):=by rw[ah,e]
   generalize upd H5 b (.lst (fJ (d.map V.ref) none (some 1)))=H6 at sb eb ⊢;let g3:=g2.same sb;let Bs:⇑d<=22:=by rw[g2.1];rwa[G]
   rwa[⟨B,b,1122,sb^g1,eb,5,λl9 n9=>?_⟩]
   ·rw[agm,agm,agV];rwa[agz (show ⇑d+ min n _<=100 by omega) ⋯]
   let s9:=aq.upd (o:=.lst (d.map V.ref++((d.drop i).take n).map V.ref)) n9;rwa[⟨l9,R++(R.drop i).take n,2,(s5.trans sb).trans s9,⟨d++(d.drop i).take n,by rw[ah,agR],(p9 g3 (uW g3 i n)).same s9⟩,λu M=>?_,by rw[agk,agV];ext⟩]
   cbv
  rintro c H6 ⟨lr',R,rfl,s6,O,f,G⟩;rwa[⟨12121212121212,a,lt,p,rows,m,x,2,(s3.trans s6).seq v,hlen,hT.same s6,S,X,D,U,XG,λpa P H7 s7 hP Y7 XH=>?_⟩];rwa[⟨12,by show 5<=sizeLine;decide,λl nl=>?_⟩];rwa[k l lt lr' pa rows m x R P _ (((s3.trans s6).trans s7).trans (aq.upd nl)) ah ((hT.same (s6.trans s7)).same (aq.upd nl)) S X D U XG ((O.same s7).same (aq.upd nl)) f G (hP.same (aq.upd nl)) Y7 XH]
def gw (g:Nat->Nat->Nat)(w:Zg)(p:Nat):Nat:=w.foldl (λp s=>g (M11.pl s) p) p
def T9 (g:Nat->Nat->Nat)(w u:Zg)(i:Nat):gw g (w++u) i=gw g u (gw g w i):=aiK ..
structure Mv (rs ps:Za3) (L:Nat) (D:Nat->Prop) (g:Nat->Nat->Nat) (x:Nat):Prop where
 o:D x
 d:∀p k,D p->k<2* L->D (g k p)
 b:∀p k,D p->k<2* L->g (M11.flip k) (g k p)=p
 r:∀w∈rs,∀p,D p->gw g w p=p
 p:∀w∈ps,gw g w x=x
def zE (h:z≠0):M12.st (M11.pl z)=z:=by
 unfold M11.pl M12.st;split
 ·rw[agI ∅];ext
 ·rw[agF ∅];ext
section
variable {rs ps:Za3}{L x:Nat}{D:Nat->Prop}{g:Nat->Nat->Nat}
def sY (h:z∈bq (2* L)):M11.pl z<2* L/\M11.pl (-z)=M11.flip (M11.pl z)/\-z∈bq (2* L):=by
 let⟨a,b⟩:=hO.mp h;rwa[M11.LV ⟨a,b⟩,M11.Ob a,hO.mpr ⟨33⟩]
theorem Mv.inj (m:Mv rs ps L D g x):∀(w:Zg) {p q:Nat},(∀z∈w,z∈bq (2* L))->D p->D q->gw g w p=gw g w q->p=q
 |[],_,_,_,_,_,e=>e
 |z::w,p,q,h,a,b,e=>by
  let hz:=(sY (h z agA)).1;have:=m.inj w (λy c=>h y (agS _ c)) (m.d p _ a hz) (m.d q _ b hz) e;rw[<-m.b p _ a hz,this,m.b q _ b hz]
theorem Mv.uw (m:Mv rs ps L D g x):∀{w:Zg} {p q:Nat},UW (λp z q=>D p/\z∈bq (2* L)/\q=g (M11.pl z) p) p w q->q=gw g w p/\(D p->D q)/\(D q->D p)
 |[],p,q,h=>by rw[show p=q from h];rwa[2,id,id]
 |z::w,p,q,⟨r,⟨c,d,f⟩,e⟩=>by
  let⟨a,b,_⟩:=m.uw e;rw[f]at a b;rwa[a,λ_=>b (m.d p _ c (sY d).1),λ_=>c]
theorem Mv.md (m:Mv rs ps L D g x)(H:∀u∈rs++ps,∀z∈u,z∈bq (2* L)/\-z∈bq (2* L))(i:Nat->Nat)(M:Nat)(B:i 0=x)(E:∀c,c<M->D (i c)):VJ (rs++ps) ⇑rs M i λp z q=>D p/\z∈bq (2* L)/\q=g (M11.pl z) p:=by
 rwa[⟨λp z q ⟨f,k,l⟩=>?_,λp z q Q ζ ξ=>by let⟨_,_,h⟩:=ζ;let⟨_,_,F⟩:=ξ;rwa[h.trans F.symm],λwhich word start n c d z f k l s G J=>?_⟩]
 ·let⟨a,b,c⟩:=sY k;rw[l];rwa[m.d p _ f a,c,by rw[b,m.b p _ f a]]
 let ps:=E start l
 let e:gw g word (i start)=i start:=by
  by_cases j:which<⇑rs
  ·rw[ags j]at f;rwa[m.r word (agh f) _ ps]
  ·rw[agt ∅]at f;rw[k.resolve_left j,B];rwa[m.p word (agh f)]
 let t:=H _ (agh f);let⟨N,O,_⟩:=m.uw G;let⟨v,_,C⟩:=m.uw J;let hz:=(t z (agh s)).1;let r:=O ps;rwa[⟨r,hz,m.inj (word.drop (n+ 1)) (λy I=>(t y (List.mem_of_mem_drop I)).1) (C ps) (m.d _ _ r (sY hz).1) ?_⟩];let q:gw g (word.take n++(z::word.drop (n+ 1))) (i start)=i start:=by rw[<-drop_cons s,ajd];rwa[e]
 rw[T9,<-N]at q;rwa[v.symm.trans q.symm]
end
theorem xW {d:Nat->Nat}:∀(w:Zg) (p:Zh) {a b:Nat},(∀(i a b:Nat) (y:Int),w[i]?\y->p[i]?\a->p[i+ 1]?\b->R (d a) y (d b))->⇑p=⇑w+ 1->p[0]?\a->p[⇑w]?\b->UW R (d a) w (d b)
 |[],p,a,b,_,_,g,c=>by
  let c:p[0]?\b:=c
  rw[g]at c;rw[Za0 c];rwa[rfl]
 |y::w,[],_,_,_,_,g,_=>by ext g
 |y::w,[_],_,_,_,j,_,_=>by simp at j
 |y::w,e::f::p,a,b,h,j,g,c=>by
  let m:e=a:=Za0 g;subst m;rwa[d f,h 0 e f y rfl rfl rfl,xW w (f::p) (λi a b z l k n=>h (i+ 1) a b z l k n) (by simp at j ⊢;omega) rfl c]
inductive RT (ws:Za3) (L:Nat) (g:Nat->Nat->Nat) (φ:Nat->Nat):Nat->Dt->Nat->Prop
 |new {m c:Nat} {z:Int}:c<m->z∈bq (2* L)->φ m=g (M11.pl z) (φ c)->RT ws L g φ m (kF c z m) (m+ 1)
 |rule {m which k c d:Nat} {word:Zg} {p:Zh} {z:Int}:ws[which]?\word->word[k]?\z->p[k]?\c->p[k+ 1]?\d->c<m->d<m->φ d=g (M11.pl z) (φ c)->RT ws L g φ m (jr which p k) m
 |meet {m c u v:Nat} {z:Int}:u<m->v<m->φ u=φ v->RT ws L g φ m (fq c z u v) m
inductive kS (ws:Za3) (L:Nat) (g:Nat->Nat->Nat) (φ:Nat->Nat):Nat->List Dt->Nat->Prop
 |nil {m:Nat}:kS ws L g φ m [] m
 |cons {m n k:Nat} {d:Dt} {ds:List Dt}:RT ws L g φ m d n->kS ws L g φ n ds k->kS ws L g φ m (d::ds) k
section
variable {rs ps ws:Za3}{L o lim x m n k nr M:Nat}{S:RS}{D:Nat->Prop}{g:Nat->Nat->Nat}{φ:Nat->Nat}{ds es ms:List Dt}{E E':Zh}{W W':Za2}
def kS.app (h:kS ws L g φ m ds n)(b:kS ws L g φ n es k):kS ws L g φ m (ds++es) k:=by
 induction h with
 |nil=>exact b
 |cons a _ c=>exact .cons a (c b)
def kS.le (h:kS ws L g φ m ds n):m<=n:=by
 induction h with
 |nil=>exact agp _
 |cons a _ b=>cases a <;> ext
def kS.congr {j:Nat->Nat}(h:kS ws L g φ m ds n):(∀c,c<n->j c=φ c)->kS ws L g j m ds n:=by
 induction h with
 |nil=>exact λ_=>.nil
 |cons a b q=>
  intro e;let l:=b.le;rwa[.cons ?_ (q e)]
  cases a with
  |new f d i=>exact .new f d ([e _ ∅,e _ ∅]▸i)
  |rule f d i r t p s=>exact .rule f d i r t p ([e _ ∅,e _ ∅]▸s)
  |meet f d i=>exact .meet f d ([e _ ∅,e _ ∅]▸i)
def MZ (md:VJ ws nr M φ λp z q=>D p/\z∈bq (2* L)/\q=g (M11.pl z) p)(h:Go ws nr E W ms E' W'):(∀e∈E,e<M)->(∀a z b,W a z b->D (φ a)/\z∈bq (2* L)/\φ b=g (M11.pl z) (φ a))->kS ws L g φ M ms M/\(∀e∈E',e<M)/\∀a z b,W' a z b->D (φ a)/\z∈bq (2* L)/\φ b=g (M11.pl z) (φ a):=by
 induction h with
 |nil e=>exact λl j=>⟨.nil,l,λa z b q=>j a z b ((e a z b).mpr q)⟩
 |cons one _ U=>
  intro l j
  cases one with
  | @meet c u v z huv T hv Y wv=>
    let e:φ u=φ v:=(j _ _ _ Y).2.2.trans (j _ _ _ wv).2.2.symm
    let O:∀a,φ (qi u v a)=φ a:=λa=>by
     unfold qi;split
     ·rename_i q;rw[q,e]
     ·rfl
    let⟨J,N,H⟩:=U (λc F=>by
     let⟨b,V,rfl⟩:=ahc.mp F;unfold qi;split
     ·rwa[l _ (agh T)]
     ·rwa[l b V]) (by
     rintro a y b ⟨a',b',q,rfl,rfl⟩;rw[O,O];rwa[j _ _ _ q])
    rwa[.cons (.meet (l _ (agh T)) (l _ (agh hv)) e) J,N,H]
  | @rule r k c d word p z R hl X hs Z I F G Q=>
    let lt:∀{i c},p[i]?\c->c<M:=λh=>l _ (agh (Z _ (agh h)))
    let hk:=(agj.mp I).1;obtain⟨s,f⟩:∃s,p[0]?\s:=⟨_,agl ∅⟩
    let u:=md.cl r word s k c d z R (hs.imp id λq=>Za0 (f.symm.trans q)) (lt f) I
     (xW (word.take k) (p.take (k+ 1)) (λi a b y t C B=>by
      rw[ajF]at t C B;split at t
      ·rw[agI ∅]at C B;rwa[j _ _ _ (Q i a b y ∅ t C B)]
      ·ext t) (by simp;omega) ([ajF,agI ∅]▸f) ([agV,aiN ∅,ajF,agI ∅]▸F))
     (xW (word.drop (k+ 1)) (p.drop (k+ 1)) (λi a b y t C B=>by
      rw[aiu]at t C B;rwa[j _ _ _ (Q (k+ 1+ i) a b y ∅ t C B)]) (by simp;omega) ([aiu]▸G) (by rw[ahh,aiu,show k+ 1+ (⇑word - (k+ 1))=⇑word by ext,<-X];rwa[f]))
    let⟨J,N,H⟩:=U l (by
     rintro a y b (q|⟨rfl,rfl,rfl⟩|⟨rfl,rfl,rfl⟩)
     ·rwa[j _ _ _ q]
     ·rwa[u]
     ·rwa[md.sy _ _ _ u])
    rwa[.cons (.rule R I F G (lt F) (lt G) u.2.2) J,N,H]
def Fl.rt (m:Mv rs ps L D g x)(s:∀u∈rs++ps,∀z∈u,z∈bq (2* L)/\-z∈bq (2* L))(h:Fl rs ps L o lim S):∃ φ:Nat->Nat,φ 0=x/\(∀c,c<S.made->D (φ c))/\kS (rs++ps) L g φ 1 S.rows S.made/\∀c z d,S.by c z=some d->D (φ c)/\z∈bq (2* L)/\φ d=g (M11.pl z) (φ c):=by
 suffices ∃(φ:Nat->Nat) (R:Za2),φ 0=x/\(∀c,c<S.made->D (φ c))/\0<S.made/\Good S [] R/\gN S/\(∀a z b,R a z b->z∈bq (2* L))/\(∀e∈S.aS,e<S.made)/\(∀a z b,oy R S.aS a z b->D (φ a)/\z∈bq (2* L)/\φ b=g (M11.pl z) (φ a))/\kS (rs++ps) L g φ 1 S.rows S.made by
  let⟨φ,R,O,H,_,i,_,_,_,u,r⟩:=this;rwa[φ,O,H,r,λc z d q=>u _ _ _ (i.qY.mp q)]
 induction h with
 | @start S t _=>
   let⟨_,_,e,_⟩:=YS.new.tr t s;let e:S.made=1:=e;let⟨R,i,w,k,ms,er,go⟩:=zy (R:=λ_ _ _=>False) t s (uq L _) YS.new.w λ_ _ _ q=>q.elim
   let⟨Z,a2,U⟩:=MZ (m.md s (λ_=>x) 1 rfl λ_ _=>m.o) go (λe he=>[ago.mp he]▸Nat.one_pos) λ_ _ _ ζ=>by let⟨_,_,q,_⟩:=ζ;rwa[q.elim]
   rw[show S.rows=ms from er,e];rwa[λ_=>x,R,2,λ_ _=>m.o,Nat.one_pos,i,w,k,a2,U,Z]
 | @next f S1 c z f0 _ gp t _ ih=>
   let⟨φ,R,O,H,hm,i,w,k,hE,u,r⟩:=ih;let⟨l,Q,v,g4⟩:=gp.1;let⟨z1,z2,z3⟩:=sY v;let N:=H c l;let dq:=m.d _ _ N z1;let e:∀a,a<f.made->(if a=f.made then g (M11.pl z) (φ c) else φ a)=φ a:=λa p=>agF ∅
   let G:∀a,a<f.made+ 1->D (if a=f.made then g (M11.pl z) (φ c) else φ a):=λa p=>by
    split
    ·rwa[dq]
    ·rwa[H a ∅]
   let F:(if 0=f.made then g (M11.pl z) (φ c) else φ 0)=x:=by rw[e 0 hm];rwa[O]
   let md:=m.md s (λa=>if a=f.made then g (M11.pl z) (φ c) else φ a) (f.made+ 1) F G;let⟨R0,y0⟩:=f0.ys s;let⟨_,_,I,_⟩:=(y0.make l (mQ Q) g4 v z3).tr t s;let I:S1.made=f.made+ 1:=I
   let⟨R1,J,w',k',ms,er,go⟩:=zy (R:=fL R c z f.made) t s (i.make l (mQ Q) g4 _) (rn w i.wf _ _ _) (λa y b r=>by
    rcases r with r|⟨_,e,_⟩|⟨_,e,_⟩
    ·rwa[k _ _ _ r]
    ·rw[e];rwa[v]
    ·rw[e];rwa[z3])
   let j:∀a,a<f.made->nm (f.make c z (bq (2* L))).aS a=nm f.aS a:=λa p=>by
    show nm (f.aS++[f.made]) a=_;unfold nm;rw[agq,agq,ags ([i.wf.e]▸p)]
   let B:nm (f.make c z (bq (2* L))).aS f.made=f.made:=by
    show nm (f.aS++[f.made]) f.made=_;unfold nm;rw[agq,agt ([i.wf.e]▸agp _),i.wf.e,ah9];rfl
   let C:nm f.aS c=c:=mQ Q;let lt:∀a,a<f.made->nm f.aS a<f.made:=λa p=>i.lt p
   let⟨Z,a2,U⟩:=MZ md go (λa p=>by
    rcases agv.mp p with q|q
    ·rwa[ahH (hE a q)]
    ·rw[ago.mp q];rwa[ahE _]) (by
    rintro a y b ⟨a',b',r|⟨X,V,Y⟩|⟨X,V,Y⟩,T,q2⟩
    ·let⟨l1,l2,_⟩:=i.rl _ _ _ r;have:=u _ _ _ ⟨a',b',r,22⟩;rw[<-T,<-q2,j a' l1,j b' l2];simp only[e _ (lt _ l1),e _ (lt _ l2)];rwa[this]
    ·rw[<-T,<-q2,X,V,Y,j _ l,B,C];simp only[e _ l,ajM];rwa[N,v,True.intro]
    ·rw[<-T,<-q2,X,V,Y,j _ l,B,C];rwa[md.sy _ _ _ ?_];simp only[e _ l,ajM];rwa[N,v,True.intro])
   erw[_,R1,F,λa p=>G a ∅,3,J,w',k',λe he=>[I]▸a2 e he,U];rw[show S1.rows=(f.rows++[kF c z f.made])++ms from er,I];rwa[((r.congr e).app (.cons (.new l v (by rw[agI rfl,e _ l])) .nil)).app Z]
end
def Fl.mL {rs d:Za3}(h:Fl rs d n m i S)(b:∀u∈rs++d,∀z∈u,z∈bq (2* n)/\-z∈bq (2* n))(q:1<=i):S.made<=i/\S.L=n:=by
 rwa[⟨5,by let⟨R,y⟩:=h.ys b;rwa[y.l]⟩]
 cases h with
 |start t _=>
  let⟨_,_,a,_⟩:=YS.new.tr t b;let a:S.made=1:=a;ext
 | @next g _ c z f p l t _=>
   let⟨R,y⟩:=f.ys b;let⟨o,j,e,k⟩:=l.1;let⟨_,_,a,_⟩:=(y.make o (mQ j) k e (sY e).2.2).tr t b;let a:S.made=g.made+ 1:=a;ext
structure FT (rs ps:Za3) (L N:Nat) (T:Za3):Prop where
 t:M11.Tab L T
 f:M12.Fc (2* L) T.flatten ⇑T
 n:⇑T=N
 u:∀D g x,Mv rs ps L D g x->∃ φ:Nat->Nat,φ 0=x/\∀i,i<N->D (φ i)/\∀k,k<2* L->φ (M11.nx T k i)=g k (φ i)
theorem Fl.ft {rs C:Za3}(h:Fl rs C n m i S)(M:∀u∈rs++C,∀z∈u,z∈bq (2* n)/\-z∈bq (2* n))(X:∀c z,¬gR S n c z)(hm:S.made<=300)(E:1<=n)(I:n<=40)(hN:⇑(M24.bh (bC S) (2* n) 0 j)=j):
 j<=S.made/\FT rs C n j (M24.fm (bC S) (2* n) (M24.bh (bC S) (2* n) 0 j)):=by
 let⟨R,y⟩:=h.ys M;let g:=y.g
 let st:∀c k,c<S.made/\S.ax c=c->k<2* n->∃d,S.by c (M12.st k)=some d/\bC S k c=d/\d<S.made/\S.ax d=d:=λc k hc s=>by
  cases e:S.by c (M12.st k) with
  |some d=>
   let⟨_,O,_,Y⟩:=g.st _ _ _ e;rwa[d,2,by unfold bC;rw[e];rfl,O,Y]
  |none=>exact absurd ⟨hc.1,by rw[oV ([g.wf.e]▸hc.1),hc.2],agh (rZ s),e⟩ (X c _)
 let T:0<S.made/\S.ax 0=0:=⟨y.m,by have:=(g.el 0 y.m).1;ext⟩
 let all:=M24.oz (f:=bC S) (k:=2* n) (x0:=0) (P:=λc=>c<S.made/\S.ax c=c) T (λc k hc s=>by
  let⟨d,v,e,V⟩:=st c k hc s;rw[e];rwa[V]) j
 let B:j<=S.made:=by rw[<-hN];rwa[M11.jt S.made _ (M24.iQ _ _ _ j) λc hc=>(all c hc).1]
 let J:(M24.bh (bC S) (2* n) 0 j)[0]?\0:=by
  let⟨t,L⟩:=M24.DS (bC S) (2* n) 0 0 j;rw[ajS]at L;rw[L];rfl
 let H:1<=j:=by have:=(agj.mp J).1;ext
 let at_:∀r,r<j->∃c,(M24.bh (bC S) (2* n) 0 j)[r]?\c/\c<S.made/\S.ax c=c:=λr N=>⟨_,agl ∅,all _ (List.getElem_mem _)⟩
 let U:=M55.RL hN (λc hc l hj=>by
  let⟨d,v,F,h2⟩:=st c l (all c hc) hj;let q:=g.sy _ _ _ v;rw[F];unfold bC;rw[show M12.st (M11.flip l)= -M12.st l by unfold M11.flip M12.st;split <;> split <;> ext,q];rfl) E I H ∅
 rwa[⟨B,U,M55.fc hN,by unfold M24.fm;rw[agm,hN],λD g x p=>?_⟩];let⟨o,Z,_,_,ph⟩:=h.rt p M;let G:∀{r c:Nat},(M24.bh (bC S) (2* n) 0 j)[r]?\c->(M24.bh (bC S) (2* n) 0 j).getD r 0=c:=λ{r c} h=>by rw[agq,h];rfl
 rwa[⟨λr=>o ((M24.bh (bC S) (2* n) 0 j).getD r 0),(ahF o (G J)).trans Z,λr N=>?_⟩];let⟨c,hc,Q⟩:=at_ r N
 let main:∀k,k<2* n->D (o c)/\o ((M24.bh (bC S) (2* n) 0 j).getD (M11.nx (M24.fm (bC S) (2* n) (M24.bh (bC S) (2* n) 0 j)) k r) 0)=g k (o c):=λk s=>by
  let⟨d,v,F,_⟩:=st c k Q s;let⟨a,_,b⟩:=ph _ _ _ v;rw[M12.Fi]at b;rw[G (M55.uB hN s hc),F];rwa[a,b]
 show D (o _)/\∀k,k<2* n->o _=g k (o _);rw[G hc];rwa[(main 0 ∅).1,λk s=>(main k s).2]
def OJ (K:Za1):Sp:=λe H Q _=>∃(a:Zs) (f:Zg),e=[↑a]/\aF K H a (ao f)/\∀l c o b d,aq H d->d l\.tup [.int ((b:Nat):Int),.str (tx c)]->(c=lK o\/c=[]/\o=0)->o<3->1<=b->b<=24->Q ↑l d
seal L2.PE L2.PS L2.iI L2.PA L2.PT
def zt (T:Txt K mg A):T.pW.Ok P w base 2 (OJ K):=by
 rwa[T.pW.on iZ (λC O r s H N Q E G h=>?_) (len:=by rintro _ _ _ _ ⟨a,u,rfl,_⟩;rfl)]
 ·let⟨a,u,rfl,L,k⟩:=h
  erw[_,(ai (bI 1 iZ.nd (pc T.bL (bE T) G (ae (pv 0) (ae av aj))))
   (ai (bI 2 iZ.nd (aY bu (b9 (ae av (ae av (ae av (ae av aj gY) gY) gY) gY)) (aO bX (aO dC (pv 1) av) av) (λ_ _=>rfl)))
   (ai (bM (bD (aX eB (aO bX (pv 1) av) av (bf _))
    (au (bI 2 iZ.nd (aO dg av (aO bX (aO dC (pv 1) av) av))))
    bp))
   (au (bj (cE (ae (pv 2) (ae (aY bu (b9 (ae (dD (l:=[114,111,111,109,115]) rfl) (ae (dD (l:=[108,101,116,116,101,114,115]) rfl) (ae (dD (l:=[110,101,119,101,115,116]) rfl) (ae (dD (l:=[]) rfl) aj gY) gY) gY) gY)) (aO bX (aO dC (pv 1) av) av) (λ_ _=>rfl)) aj))))))))]
  rwa[gM ?_];intro D M B;rwa[⟨12,a,u,(7),2,L,4,λz=>?_⟩];rwa[⟨by show 4<=sizeLine;decide,λq t=>⟨121122,⟨44⟩,1122,(by show (0:Int)<4;decide),5⟩⟩]
  obtain⟨b,c,j,d⟩:∃b:Nat,jE [V.int 12,V.int 12,V.int 12,V.int 24] (z / 2 % 4)\.int (b:Int)/\1<=b/\b<=24:=by
   rcases (show z / 2 % 4=0\/z / 2 % 4=1\/z / 2 % 4=2\/z / 2 % 4=3 by omega) with e|e|e|e
   ·rwa[⟨(12),by rw[e];rfl,by decide,by decide⟩]
   ·rwa[⟨(12),by rw[e];rfl,by decide,by decide⟩]
   ·rwa[⟨(12),by rw[e];rfl,by decide,by decide⟩]
   ·rwa[⟨(24),by rw[e];rfl,by decide,by decide⟩]
  rwa[⟨q,_,_,_,rfl,rfl,aF.of ah,c,?_⟩];let s1:=aq.upd (o:=.lst [V.int 12,V.int 12,V.int 12,V.int 24]) t;generalize upd H q _=F at s1 ⊢;erw[λ g v=>∃b:Nat,g=#v[↑a,.int z,.int b]/\v=F/\1<=b/\b<=24,5]
  ·rwa[⟨121122,(by show (0:Int)<2;decide),212,bS (λ_=>?_) (λ_=>⟨b,22,j,d⟩)⟩];erw[121122,⟨44⟩,1122,(by show (0:Int)<12;decide),1122];let⟨x,I,y⟩:=jX (z / 2) (n:=12) ⋯;rw[show z / 2 % 12=(x:Int) from I,show (1:Int)+ (x:Int)=((1+ x:Nat):Int) by ext];rwa[1+ x,2233]
  clear j d c;rintro g v ⟨b,rfl,rfl,j,d⟩;rwa[⟨12,by show 4<=sizeLine;decide,λq t=>⟨121122,⟨44⟩,1122,(by show (0:Int)<4;decide),5⟩⟩]
  obtain⟨i,f,c,p,m⟩:∃(i:Zh) (f:Nat),jE [V.str (tx [114,111,111,109,115]),V.str (tx [108,101,116,116,101,114,115]),V.str (tx [110,101,119,101,115,116]),V.str (tx [])] (z / 48 % 4)\.str (tx i)/\(i=lK f\/i=[]/\f=0)/\f<3:=by
   rcases (show z / 48 % 4=0\/z / 48 % 4=1\/z / 48 % 4=2\/z / 48 % 4=3 by omega) with e|e|e|e
   ·rwa[⟨_,(0),by rw[e];rfl,.inl rfl,by decide⟩]
   ·rwa[⟨_,(1),by rw[e];rfl,.inl rfl,by decide⟩]
   ·rwa[⟨_,(2),by rw[e];rfl,.inl rfl,by decide⟩]
   ·rwa[⟨_,(0),by rw[e];rfl,.inr ⟨rfl,rfl⟩,by decide⟩]
  rwa[⟨q,_,_,_,rfl,rfl,aF.of ah,c,by show 2<=sizeLine;decide,λl J=>?_⟩];rwa[k l i f b _ (s1.trans ((aq.upd t).trans (aq.upd J))) ah p m j d]
unseal L2.PE L2.PS L2.iI L2.PA L2.PT
def Er {T:Za3}(h:TabAt H a T)(g:M11.Tab n T)(d:i<⇑T):∃(rs:Zn) (r:Zs) (row:Zg),H a\.lst (rs.map V.ref)/\rs[i]?\r/\H r\.lst (ao row)/\⇑row=2* n/\∀k,k<2* n->row[k]?\((M11.nx T k i:Nat):Int):=by
 let⟨rs,m,f⟩:=h;let c:i<⇑rs:=by rw[f.1];rwa[d]
 let j:rs[i]?=some rs[i]:=agl c
 let b:T[i]?=some T[i]:=agl d
 rwa[⟨rs,11,m,j,f.2 i _ _ j b,g.row i _ b,λk l=>?_⟩];let⟨r,e,o⟩:=g.val i k d l;rw[b]at e;rw[Za0 e];rwa[o]
def IU {k:Nat}(h:k<2* n):M11.eY n [M12.st k]:=λs a=>[ago.mp a]▸M12.zA h
structure PI (φ:Nat->Nat) (E:Zg) (N q:Nat) (xs:Zb):Prop where
 l:⇑xs=N
 z:xs[0]?\(.int (φ 0:Nat))
 h:∀(q' j:Nat),q'<q->E[q']?\(j:Int)->xs[j]?\(.int (φ j:Nat))
 o:∀(j:Nat) (v:V),xs[j]?\v->v=.non\/v=.int (φ j:Nat)
def PI.set {a:Nat->Nat}{xs:Zb}(h:PI a l n m xs)(e:l[m]?\(j:Int))(f:j<n):PI a l n (m+ 1) (xs.set j (.int (a j:Nat))):=by
 let st:∀i,xs[i]?\V.int (a i:Nat)->(xs.set j (.int (a j:Nat)))[i]?\(V.int (a i:Nat)):=λi g=>by
  rw[aji];split
  ·rename_i m;subst m;rw[agI ([h.l]▸f)]
  ·rwa[g]
 rwa[⟨by rw[agK,h.l],st 0 h.z,λc i k d=>?_,λi v b=>?_⟩]
 ·rcases ajc c m with r|r
  ·rwa[st i (h.h c i r d)]
  ·have:c=m:=by ext
   rw[this,e]at d;have:j=i:=by have:=Za0 d;ext
   subst this;rw[aji,agI rfl,agI ([h.l]▸f)]
 ·rw[aji]at b;split at b
  ·rename_i m;split at b
   ·rw[<-Za0 b,m];rwa[.inr rfl]
   ·ext b
  ·rwa[h.o i v b]
def PI.get {a:Nat->Nat}{W:Nat}(fc:M12.Fc W l n)(h:PI a l n m L)(d:i<n)(f:i* W<=m):L[i]?\(.int (a i:Nat)):=by
 rcases Nat.eq_zero_or_pos i with r|r
 ·rw[r];rwa[h.z]
 ·let⟨b,e,c,_⟩:=fc.2 i r d;rwa[h.h b i ∅ c]
def PI.end_ {b:Nat->Nat}{W:Nat}(fc:M12.Fc W l n)(h:PI b l n (n* W) L):L=ao (nI ((List.range n).map b)):=by
 rwa[ah3 λi=>?_]
 by_cases c:i<n
 ·rw[h.get fc c (ahY _ ∅),bW (fZ (n:=b i) (by rw[agx,ahP c];rfl))]
 ·rw[agY (by rw[h.l];omega),agY (by rw[aM,bV,agm,agZ];omega)]
inductive Ce (vs:Zb) (H:Hp) (Q:VK) (E_:XK):Prop
 |mk (a ta:Zs) (T rows:Za3) (p:Nat) (φ:Nat->Nat):vs=[↑a,.int ⇑rows,↑ta,.int (φ 0:Nat)]->TabAt H a T->M11.Tab ⇑rows T->M12.Fc (2* ⇑rows) T.flatten ⇑T->TabAt H ta rows->(∀r∈rows,M11.Pm p r)->p<=6->(∀i,i<⇑T->φ i<p/\∀k,k<2* ⇑rows->φ (M11.nx T k i)=sf rows (φ i) (M12.st k))->(∀l H',aq H H'->H' l\.lst (ao (nI ((List.range ⇑T).map φ)))->Q ↑l H')->Ce vs H Q E_
def xX (T:Txt K mg A):T.nJ.Ok P w base 2 Ce:=by
 rwa[T.nJ.on dh (λcC AA outer s H vs Q E hr h=>?_)]
 ·let⟨a,ta,TT,rows,p,u,rfl,Z,tab,fc,M0,MX,sx,yV,k⟩:=h
  refine⟨_,(ai (bI 4 dh.nd (aO PZ (b9 (ae cO aj)) (bF bH rfl T.eI aha (ae (pv 0) aj))))
   (ai (jA (pv 3) (nT (pv 4) av set_list))
   (ai (cS agN rfl (uo rfl T.kl (pv 0)) (ku rfl (cG (dA 5 dh.nd) (cG (dA 6 dh.nd) jh)))
    (ai (bD (aX nU (aY bu (pv 4) (pv 5) (λ_ _=>rfl)) cO (bf _))
     (au (bj cO))
     bp)
    (au (cS agN rfl (uo rfl T.kl (pv 6)) (ku rfl (cG (dA 7 dh.nd) (cG (dA 8 dh.nd) jh)))
     (ai (bI 9 dh.nd (aO kx (aO dg av (aO dC (pv 7) av)) (aY bu (b9 (ae av (ae (fy dO av) aj))) (aO bX (pv 7) av) (λ_ _=>rfl))))
     (ai (bI 10 dh.nd (pc T.fD (fu T) hr (ae (pv 2) (ae (aY bu (pv 4) (pv 5) (λ_ _=>rfl)) (ae (cE (ae (pv 9) aj)) aj)))))
     (ai (bM (bD (PW.pt (uY (aX lL (aY bu (pv 4) (pv 8) (λ_ _=>rfl)) cO (bf _)) (sD (aX jB (aY bu (pv 4) (pv 8) (λ_ _=>rfl)) (pv 10) (bf _)))))
      (au (bj cO))
      bp))
     (au (jA (pv 10) (nT (pv 4) (pv 8) set_list))))))))))
   (au (bj (pv 4)))))),?_⟩
  rwa[gM ?_];intro jP fS gy;let⟨rs,B,hrw⟩:=id Z;let Y8:=tab.pos;let ae8:=tab.top;let r0:=tab.Yu;let m:⇑(rs.map V.ref)=⇑TT:=by rw[agm,hrw.1]
  rwa[⟨by show 1<=sizeLine;decide,λq nq=>?_⟩];let s1:=aq.upd (o:=.lst [V.non]) nq;rwa[⟨12,a,12,.inl (aF.of (s1^B)),q,1122,ah,3,by rw[m];ext,[m,agT]▸agz (show 1* ⇑TT<=300 by omega) ⋯,λl nl=>?_⟩];let SW:=s1.free nl;let s2:=s1.trans (aq.upd (o:=.lst (List.replicate (((⇑(rs.map V.ref):Nat):Int)).toNat [V.non]).flatten) nl);erw[1212,l,11,(0),22,ah,5]
  ·rw[len_rep,m];unfold qI;rw[agI ⋯,agI (show (0:Int)<((⇑TT:Int).toNat * [V.non].length:Nat) by show (0:Int)<(_* 1:Nat);omega)];rfl
  let e3:∀{X Y:HO},aq H (upd (upd (upd H q (.lst [V.non])) l X) l Y):=λb o e=>by rw[ak (aw e SW)];rwa[(s1.trans (aq.upd nl)) _ _ e]
  let P0:PI u TT.flatten ⇑TT 0 ((List.replicate ((⇑(rs.map V.ref):Int)).toNat [V.non]).flatten.set 0 (.int (u 0:Nat))):=by
   let el:⇑((List.replicate ((⇑(rs.map V.ref):Int)).toNat [V.non]).flatten)=⇑TT:=by rw[len_rep,m,agT];rwa[Nat.mul_one _]
   rwa[⟨by rw[agK,el],by rw[aji,agI rfl,agI ([el]▸Y8)],(λq' j h=>∅),λj v U=>?_⟩];rw[aji]at U;split at U
   ·rename_i q;split at U
    ·rw[<-Za0 U,<-q];rwa[.inr rfl]
    ·ext U
   ·rwa[.inl ?_];let⟨l',hl',HZ⟩:=List.mem_flatten.mp (agh U);rw[List.eq_of_mem_replicate hl']at HZ;rwa[ago.mp HZ]
  generalize (List.replicate ((⇑(rs.map V.ref):Int)).toNat [V.non]).flatten.set 0 (V.int (u 0:Nat))=X0 at P0 ⊢;erw[12,a,2,⟨_,aF.of (e3^B)⟩]
  let' Y9:Nat->St->Hp->Prop:=λi y L=>∃(X:Zb) (v4 v5 F C D G:Zc),y=#v[↑a,.int ⇑rows,↑ta,.int (u 0:Nat),↑l,v4,v5,F,C,D,G]/\aq H L/\L l\.lst X/\PI u TT.flatten ⇑TT (i* (2* ⇑rows)) X
  refine qQ (K:=K) (a:=a) (xs:=rs.map V.ref) Y9
   ⟨X0,none,none,none,none,none,none,2,e3,ah,[Nat.zero_mul]▸P0⟩ (λi y L _ ζ=>by let⟨_,_,_,_,_,_,_,_,s,_⟩:=ζ;rwa[aF.of (s^B)]) ?_ ?_
  ·clear P0;intro i v y L p2 hi hp d;rwa[j0 ?_];intro t;let⟨X,v4,v5,F,C,D,G,rfl,s2,c,R⟩:=d;dsimp only[t];clear t;let g:i<⇑TT:=by rw[<-m];rwa[(agj.mp hi).1]
   let⟨rs',r,row,S,t2,t3,t4,t5⟩:=Er Z tab g;rw[B]at S;injection S with S
   injection S with S
   rw[S,agx,t2]at hi;let ev:V.ref r=v:=Za0 hi;subst ev;let N:=aq.upd (o:=.tup [.int (i:Int),↑r]) hp;let s3:=s2.trans N;replace c:=N^c;erw[p2,12,bA.of ah,21121122];generalize upd L p2 (.tup [.int (i:Int),↑r])=H3 at s3 c ⊢;rwa[⟨1212,l,11122,aF.of c,bO (R.get fc g (agp _)),212,bS (λh=>by cases agU h) λ_=>?_⟩];erw[12,r,2,⟨_,aF.of (s3^t3)⟩]
   let' aac:Nat->St->Hp->Prop:=λn y O=>∃(X:Zb) (F C D G:Zc),y=#v[↑a,.int ⇑rows,↑ta,.int (u 0:Nat),↑l,.int (i:Int),↑r,F,C,D,G]/\aq H O/\O l\.lst X/\PI u TT.flatten ⇑TT (i* (2* ⇑rows)+ n) X
   refine qQ (K:=K) (a:=r) (xs:=ao row) aac
    ⟨X,F,C,D,G,2,s3,c,R⟩ (λn y O _ ζ=>by let⟨_,_,_,_,_,_,s,_⟩:=ζ;rwa[aF.of (s^t3)]) ?_ ?_
   ·clear R c N;intro n v y O p4 hn hp4 d;rwa[j0 ?_];intro t;let⟨X,F,C,D,G,rfl,s4,c,J⟩:=d;dsimp only[t];clear t;let⟨z,rfl,hz⟩:=cI hn;let f:n<2* ⇑rows:=by rw[<-t4];rwa[(agj.mp hz).1]
    rw[t5 n f]at hz;let ez:=Za0 hz;subst ez
    let e9:TT.flatten[i* (2* ⇑rows)+ n]?\((M11.nx TT n i:Nat):Int):=by
     let⟨r9,x1,x2⟩:=tab.val i n g f;rw[M12.DQ ∅ tab.row x1 f];rwa[x2]
    let T7:=tab.lt i n g f;let⟨aad,I⟩:=yV i g;let P5:=J.set e9 T7;rw[I n f]at P5;let hXi:=J.get fc g ∅;let hXl:=J.l;let N:=aq.upd (o:=.tup [.int (n:Int),.int ((M11.nx TT n i:Nat):Int)]) hp4;let s5:=s4.trans N;replace c:=N^c;erw[p4,12,bA.of ah,21121122];generalize upd O p4 (.tup [.int (n:Int),.int ((M11.nx TT n i:Nat):Int)])=H5 at s5 c ⊢
    obtain⟨sg,T8,hsg,Xi,hs2⟩:∃sg:Int,jE [V.int 1,V.int (-1)] ((n:Int) % 2)\.int sg/\(1+ (n:Int) / 2)* sg=M12.st n/\-1<=sg/\sg<=1:=by
     unfold M12.st;rcases (show n % 2=0\/n % 2=1 by omega) with e|e
     ·rwa[⟨(1),by rw[show (n:Int) % 2=0 by ext];rfl,by rw[agI e];ext,by decide,by decide⟩]
     ·rwa[⟨-1,by rw[show (n:Int) % 2=1 by ext];rfl,by rw[agF (by omega)];ext,by decide,by decide⟩]
    rwa[⟨_,rfl,_,_,rfl,rfl,⟨by decide,by decide⟩,_,_,rfl,rfl,_,rfl,by show 2<=sizeLine;decide,λq6 nq6=>?_⟩];let XI:=aq.upd (o:=.lst [V.int 1,V.int (-1)]) nq6;erw[121122,(by show (0:Int)<2;decide),q6,11122,aF.of ah,T8,1122,.inr ⟨33⟩];rw[hsg];let XJ:=XI^c;rwa[⟨121212,l,11122,aF.of XJ,bO hXi,12,by show 1<=sizeLine;decide,λq7 XM=>?_⟩];let s7:=s5.trans (XI.trans (aq.upd (o:=.tup [V.int (M12.st n)]) XM));erw[ta,q7,rows,p,u i,[M12.st n],2,M0.same s7,MX,aad,3,ah,IU f,3];replace c:=(aq.upd (o:=.tup [V.int (M12.st n)]) XM) _ _ XJ;generalize upd (upd H5 q6 (.lst [V.int 1,V.int (-1)])) q7 (.tup [V.int (M12.st n)])=H7 at s7 c ⊢;let x:=agl (l:=X) (i:=M11.nx TT n i) ∅;let M:=J.o^x;generalize X[M11.nx TT n i]'∅=vo at x M;rw[I n f]at M
    let' aae:St->Hp->Prop:=λ fx H'=>fx=#v[↑a,.int ⇑rows,↑ta,.int (u 0:Nat),↑l,.int (i:Int),↑r,.int (n:Int),.int (M11.nx TT n i:Nat),.int (M12.st n),.int (sf rows (u i) (M12.st n):Nat)]/\H'=H7
    erw[aae,5]
    ·rwa[Ap ?_];intro D_0;erw[1212,l,11122,aF.of c,bO x];rcases M with rfl|rfl
     ·rwa[⟨rfl,_,rfl,iV rfl (dP ⟨rfl,rfl⟩)⟩]
     ·rwa[⟨rfl,_,rfl,bS (λ_=>⟨_,rfl,_,rfl,l,_,_,_,rfl,rfl,aF.of c,bO x,_,rfl,rfl,_,rfl,iV rfl ⟨rfl,rfl⟩⟩) λh=>absurd (by rfl) h⟩]
    rintro fx H8 ⟨rfl,rfl⟩;erw[121212,l,11,M11.nx TT n i,22,c,5]
    ·unfold qI;rw[agI ∅,agI ∅,agT]
    rwa[111112,λb o e=>[ak (aw e SW)]▸s7^e,ah,P5]
   ·intro y O d;rwa[j0 ?_];intro t;let⟨X,F,C,D,G,rfl,s4,c,J⟩:=d;dsimp only[t];clear t;rw[aM,t4,show i* (2* ⇑rows)+ 2* ⇑rows=(i+ 1)* (2* ⇑rows) by rw[aiT];ext]at J;rwa[X,1111112,s4,c,J]
  ·intro y L d;rwa[j0 ?_];intro t;let⟨X,v4,v5,F,C,D,G,rfl,s2,c,R⟩:=d;dsimp only[t];clear t;rw[m]at R;rw[R.end_ fc]at c;rwa[12,k l L s2 c]
def FZ {rs:Zn}(h:(rs.map V.ref)[i]?\q):∃r,rs[i]?\r/\q=↑r:=by
 rw[agx]at h
 cases e:rs[i]? with
 |none=>rw[e]at h;ext h
 |some r=>rw[e]at h;rwa[r,2,(Za0 h).symm]
def Vu (h:bN H 4 ↑a (jr n B m)):∃q,H a\.tup [.str (tx [114,117,108,101]),.int n,↑q,.int m]/\H q\(.tup (ao (nI B))):=by
 cases h with
 | @t _ _ f _ r j b=>
   let y:⇑f=4:=j
   match f,y with
   |[D,s,z,l],_=>
    let g:=b 0 D _ rfl rfl;let p:=b 1 s _ rfl rfl;let E:=b 2 z _ rfl rfl;let u:=b 3 l _ rfl rfl;ext g;ext p;ext u
    cases E with
    | @t _ k us _ v o F=>
      erw[k,r];rw[v]
      congr 2
      rwa[ah3 λi=>?_]
      unfold ao nI;rw[agx,agx];rw[agm]at o
      cases d:B[i]? with
      |none=>rw[agY (by have:=aiA.mp d;omega)];rfl
      |some c=>
       let C:i<⇑us:=by have:=(agj.mp d).1;ext
       let e:=agl C;have:=F i _ _ e (by rw[agx,d];rfl);rw[e];generalize us[i]=x at this;ext this;rfl
def Vv (h:bN H 4 ↑a (fq n z m i)):H a\(.tup [.str (tx [109,101,101,116]),.int n,.int z,.int m,.int i]):=by
 cases h with
 | @t _ _ c _ j e b=>
   let p:⇑c=5:=e
   match c,p with
   |[s,k,q,f,r],_=>
    let d:=b 0 s _ rfl rfl;let g:=b 1 k _ rfl rfl;let u:=b 2 q _ rfl rfl;let l:=b 3 f _ rfl rfl;let o:=b 4 r _ rfl rfl;ext d;ext g;ext u;ext l;ext o;rwa[j]
def Ua (h:bN H 4 ↑a (kF n z m)):H a\(.tup [.str (tx [110,101,119]),.int n,.int z,.int m]):=by
 cases h with
 | @t _ _ c _ i e b=>
   let l:⇑c=4:=e
   match c,l with
   |[p,j,o,f],_=>
    let d:=b 0 p _ rfl rfl;let g:=b 1 j _ rfl rfl;let q:=b 2 o _ rfl rfl;let k:=b 3 f _ rfl rfl;ext d;ext g;ext q;ext k;rwa[i]
inductive Ci (vs:Zb) (H:Hp) (Q:VK) (E_:XK):Prop
 |mk (pp wa ta:Zs) (qs:Zn) (ds:List Dt) (ws rows:Za3) (p m:Nat) (φ:Nat->Nat):vs=[↑pp,↑wa,↑ta,.int (φ 0:Nat)]->H pp\.lst (qs.map V.ref)->(Each (λp d=>bN H 4 ↑p d) qs ds)->bR H wa ws->TabAt H ta rows->⇑rows<=40->(∀r∈rows,M11.Pm p r)->p<=6->m<=300->(∀u∈ws,M11.eY ⇑rows u)->(∀c,c<m->φ c<p)->(kS ws ⇑rows (λk y=>sf rows y (M12.st k)) φ 1 ds m)->(∀H',aq H H'->Q (.bl true) H')->Ci vs H Q E_
def o8 (a:Nat->Nat){n c:Nat}(h:c<n):(ao (nI ((List.range n).map a)))[c]?\(.int (a c:Nat)):=bW (fZ (by rw[agx,ahP h];rfl))
def Vw {rows:Za3}(h:z∈bq (2* n))(y:Nat):sf rows y (M12.st (M11.pl z))=sf rows y z:=by rw[zE (hO.mp h).1]
def lA (T:Txt K mg A):T.iD.Ok P w base 2 Ci:=by
 rwa[T.iD.on fW (λcC AA outer s H vs Q E hr h=>?_)]
 ·let⟨pp,wa,ta,qs,ds,ws,rows,p,m,g,rfl,XQ,XS,Ea,M0,hL,X,sx,hm,Qp,yV,hrt,k⟩:=h
  refine⟨_,(ai (bI 4 fW.nd (b9 (ae (pv 3) aj)))
   (ai (cS agN rfl (cX (pv 0)) (dA 5 fW.nd)
    (au (bM (bD (aX eB (aY bU (pv 5) av (λ_ _=>rfl)) (dD (l:=[110,101,119]) rfl) (bf _))
     (ai (aV (cQ agw agG agH bP (pv 4) (ae (pc T.fD (fu T) hr (ae (pv 2) (ae (aY bu (pv 4) (aY bU (pv 5) av (λ_ _=>rfl)) (λ_ _=>rfl)) (ae (cE (ae (aY bU (pv 5) av (λ_ _=>rfl)) aj)) aj)))) aj)))
     (au (bD (aX jB (aY bU (pv 5) av (λ_ _=>rfl)) (aO gW (bF bH rfl T.eI aha (ae (pv 4) aj)) av) (bf _))
      (au (bj kb))
      bp)))
     (au (bM (bD (aX eB (aY bU (pv 5) av (λ_ _=>rfl)) (dD (l:=[114,117,108,101]) rfl) (bf _))
      (ai (bI 6 fW.nd (aY bU (aY bu (pv 1) (aY bU (pv 5) av (λ_ _=>rfl)) (λ_ _=>rfl)) (aY bU (pv 5) av (λ_ _=>rfl)) (λ_ _=>rfl)))
      (au (bD (aX jB (pc T.fD (fu T) hr (ae (pv 2) (ae (aY bu (pv 4) (aY bU (aY bU (pv 5) av (λ_ _=>rfl)) (aY bU (pv 5) av (λ_ _=>rfl)) (λ_ _=>rfl)) (λ_ _=>rfl)) (ae (cE (ae (pv 6) aj)) aj)))) (aY bu (pv 4) (aY bU (aY bU (pv 5) av (λ_ _=>rfl)) (aO dg (aY bU (pv 5) av (λ_ _=>rfl)) av) (λ_ _=>rfl)) (λ_ _=>rfl)) (bf _))
       (au (bj kb))
       bp)))
      (au (bM (bD (PW.pt (Ew (aX jB (aY bU (pv 5) av (λ_ _=>rfl)) (dD (l:=[109,101,101,116]) rfl) (bf _)) (zI (aX jB (aY bu (pv 4) (aY bU (pv 5) av (λ_ _=>rfl)) (λ_ _=>rfl)) (aY bu (pv 4) (aY bU (pv 5) av (λ_ _=>rfl)) (λ_ _=>rfl)) (bf _)))))
       (au (bj kb))
       bp))))))))))
   (au (bj kb)))),?_⟩
  rwa[eQ ?_];intro fS gy;rwa[⟨12,by show 1<=sizeLine;decide,λB J=>?_⟩];let s1:=aq.upd (o:=.lst [V.int (g 0:Nat)]) J;let h1:upd H B (.lst [V.int (g 0:Nat)]) B\(.lst (ao (nI ((List.range 1).map g)))):=ah;generalize upd H B (.lst [V.int (g 0:Nat)])=H1 at s1 h1 ⊢;erw[12,pp,2,⟨_,aF.of (s1^XQ)⟩]
  let' Z:Nat->St->Hp->Prop:=λi σ R=>∃(n:Nat) (v5 v6:Zc),σ=#v[↑pp,↑wa,↑ta,.int (g 0:Nat),↑B,v5,v6]/\aq H R/\R B\.lst (ao (nI ((List.range n).map g)))/\kS ws ⇑rows (λk y=>sf rows y (M12.st k)) g n (ds.drop i) m
  rwa[eP (K:=K) (a:=pp) (xs:=qs.map V.ref) Z ⟨(1),none,none,2,s1,h1,hrt⟩ (λi σ R _ ζ=>by let⟨_,_,_,_,s,_⟩:=ζ;rwa[aF.of (s^XQ)]) ?_ ?_]
  ·intro i v σ R hi L;rwa[j0 ?_];intro Y;let⟨n,v5,v6,rfl,s2,C,D⟩:=L;dsimp only[Y];clear Y
   try dsimp only[lB]
   rwa[Ap ?_];intro D_0;let⟨q,f,rfl⟩:=FZ hi;let GJ:i<⇑ds:=by rw[<-XS.1];rwa[(agj.mp f).1]
   let hd:=agl GJ;rw[aiz GJ]at D;let U:=(XS.2 i q _ f hd);generalize ds[i]=dd at D U
   cases D with
   |cons one rest=>
    let hle:=rest.le;let t:∀{z:Int},z≠0/\z.natAbs<=⇑rows->M11.eY ⇑rows [z]:=λh s hs=>by rw[ago.mp hs];rwa[h]
    rwa[⟨15,λ_ _ h=>h⟩]
    cases one with
    | @new c z I M h5=>
      let nq:=aw (Ua U) J;let f:=s2^Ua U;rwa[⟨12,q,11122,bA.of f,2212,bS (λ_=>?_) λh=>absurd (agW rfl) h⟩];rwa[⟨12,.inl ⟨21,aF.of C⟩,121212,q,11122,bA.of f,2,B,11122,aF.of C,bO (o8 g I),12,q,11122,bA.of f,2,by show 1<=sizeLine;decide,λq8 N=>?_⟩];let x:=aq.upd (o:=.tup [V.int z]) N;erw[ta,q8,rows,p,g c,[z],2,M0.same (s2.trans x),X,yV c ∅,3,ah,t (hO.mp M),3];erw[B,1122,x^C,[aM,bV,agm,agZ]▸agu (show n<=300 by omega) ⋯]
      let e9:ao (nI ((List.range n).map g))++[V.int (sf rows (g c) z:Nat)]=ao (nI ((List.range (n+ 1)).map g)):=by
       rw[ahD,agR,ie,ints_app,List.map_singleton,h5,Vw M];rfl
      let e9:ao (nI ((List.range n).map g))++[V.int (List.foldl (sf rows) (g c) [z]:Nat)]=ao (nI ((List.range (n+ 1)).map g)):=e9;rw[e9];rwa[⟨12,q,11122,bA.of ([ak nq]▸x^f),212,B,12,.inl (aF.of ah),1122212,iV ([aM,bV,agm,agZ]▸ahF V.int ∅) ?_⟩];rwa[n+ 1,112,λb o e=>[ak (aw e J)]▸x^s2^e,ah,rest]
    | @rule r kk c d G pth z I M h5 h6 h7 h8 h9=>
      let⟨q2,f,F⟩:=Vu U;replace f:=s2^f;replace F:=s2^F;let⟨pw,Sn,S⟩:=id Ea;let Bz:r<⇑pw:=by rw[S.1];rwa[(agj.mp I).1]
      let O:=agl Bz;generalize pw[r]=pa at O;let hz:=Qp G (agh I) z (agh M);rwa[⟨12,q,11122,bA.of f,2212,bS (λh=>absurd (gC.mp (agU h)) ⋯) λ_=>⟨15,λ_ _ h=>h⟩⟩];rwa[⟨12,q,11122,bA.of f,2212,bS (λ_=>?_) λh=>absurd (agW rfl) h⟩];erw[1212,q,11122,bA.of f,2,wa,11122,aF.of (s2^Sn),dB O,12,q,11122,bA.of f,2,pa,11122,bA.of (s2^S.2 r pa G O I),bO (bW M)];rwa[⟨121212,q,11122,bA.of f,212,q,11122,bA.of f,2,q2,11122,bA.of F,bO (bW (fZ h5)),B,11122,aF.of C,bO (o8 g h7),12,by show 1<=sizeLine;decide,λq8 N=>?_⟩];let x:=aq.upd (o:=.tup [V.int z]) N;erw[ta,q8,rows,p,g c,[z],2,M0.same (s2.trans x),X,yV c ∅,3,ah,t hz,3];rwa[⟨1212,q,11122,bA.of (x^f),212,q,11122,bA.of (x^f),21122,q2,11122,bA.of (x^F),bO (j:=kk+ 1) (bW (fZ h6)),B,11122,aF.of (x^C),bO (o8 g h8),212,iV ?_ ⟨n,112,s2.trans x,x^C,rest⟩⟩];rw[h9];show V.int _=V.int (sf rows (g c) (M12.st (M11.pl z)):Nat);rw[zE hz.1];rfl
    | @meet c u v z I M h5=>
      let f:=s2^Vv U;rwa[⟨12,q,11122,bA.of f,2212,bS (λh=>absurd (gC.mp (agU h)) ⋯) λ_=>⟨15,λ_ _ h=>h⟩⟩];rwa[⟨12,q,11122,bA.of f,2212,bS (λh=>absurd (gC.mp (agU h)) ⋯) λ_=>⟨15,λ_ _ h=>h⟩⟩];rwa[⟨12,q,11122,bA.of f,2212,iV rfl ?_⟩];rwa[1212,q,11122,bA.of f,2,B,11122,aF.of C,bO (o8 g I),1212,q,11122,bA.of f,2,B,11122,aF.of C,bO (o8 g M),212,iV (by rw[h5]) ⟨n,112,s2,C,rest⟩]
  intro σ R L;rwa[j0 ?_];intro Y;let⟨n,v5,v6,rfl,s2,C,D⟩:=L;dsimp only[Y];clear Y;rwa[k R s2]
def Kp.tabs {pos:Pos}(k:Kp a H I)(t:c9 a pos x H){l:Zs}{T:Za3}(h:TabAt H l T):TabAt I l T:=by
 let⟨e,f,d⟩:=h;rwa[e,k.at t f (by cbv),d.1,λi r row c b=>k.at t (d.2 i r row c b) (by cbv)]
def Kp.words {pos:Pos}(k:Kp a H I)(t:c9 a pos x H){l:Zs}{ws:Za3}(h:bR H l ws):bR I l ws:=by
 let⟨b,c,d⟩:=h;rwa[b,k.at t c (by cbv),d.keep λp f e=>k.at t e (by cbv)]
def OL (j:Nat):M12.st (M11.flip j)= -M12.st j:=by unfold M11.flip M12.st;split <;> split <;> ext
theorem xY (rows:Za3){L:Nat}:∀(w:Zg) (y:Nat),M11.eY L w->gw (λk y=>sf rows y (M12.st k)) w y=w.foldl (sf rows) y
 |[],_,_=>rfl
 |s::w,y,h=>by
  show gw (λk y=>sf rows y (M12.st k)) w (sf rows y (M12.st (M11.pl s)))=w.foldl (sf rows) (sf rows y s);rw[zE (h s agA).1];rwa[xY rows w _ λt a=>h t (agS _ a)]
def Vx {rows R P:Za3}{x:Nat}(d:∀r∈rows,M11.Pm n r)(i:x<n)(h:∀u∈R,Ca rows n u)(g:∀u∈P,IK rows x u):Mv R P ⇑rows (λy=>y<n) (λk y=>sf rows y (M12.st k)) x:=by
 rwa[⟨i,λy k e f=>?_,λy k e f=>?_,λw c y e=>?_,λw c=>?_⟩]
 ·let⟨a,b⟩:=M12.zA f;rwa[(wJ d e a b).1]
 ·let⟨a,b⟩:=M12.zA f;show sf rows (sf rows y (M12.st k)) (M12.st (M11.flip k))=y;rw[OL];rwa[(wJ d e a b).2]
 ·rw[xY rows w y (h w c).1];rwa[(h w c).2.2 y e]
 ·rw[xY rows w x (g w c).1];rwa[(g w c).2.2]
def Kp.seq {pos:Pos}{K:Za1}(k:Kp a H I)(t:c9 a pos x H){b:Zs}{c:Zb}(h:aF K H b c):aF K I b c:=by
 rcases h with (h|⟨o,h⟩)|h
 ·rwa[.inl (.inl (k.at t h s!""))]
 ·rwa[.inl (.inr ⟨o,k.at t h s!""⟩)]
 ·rwa[.inr h]
def pA (c:Zg)(lo b:Zj):∃a,fJ (ao c) lo b=ao a:=⟨_,by unfold fJ ao;rw[<-ajW,<-ajV]⟩
def Ub (T:Txt K mg A)(Ee:j3 mg base):T.law.Ok P w base 13 (zB K A.eG):=by
 rwa[T.law.on dS (λcC AA outer s H vs Q E Y h=>?_) (len:=by rintro _ _ _ _ ⟨a,ns,rfl,_⟩;rfl)]
 ·let⟨a,ns,rfl,n,XC,hP,k⟩:=h
  refine⟨_,(ai (jA (pc T.pV (zr T) Y (ae (pv 0) aj)) (ku rfl (cG (dA 1 dS.nd) (cG (dA 2 dS.nd) (cG (dA 3 dS.nd) (cG (dA 4 dS.nd) (cG (dA 5 dS.nd) jh)))))))
   (ai (jA (pc T.pW (zt T) Y (ae (pv 0) aj)) (ku rfl (cG (dA 6 dS.nd) (cG (dA 7 dS.nd) jh))))
   (ai (jA (pc T.nH (xV T Ee) Y (ae (pv 1) (ae (pv 3) (ae (pv 4) (ae (pv 6) (ae (pv 7) aj)))))) (ku rfl (cG (dA 8 dS.nd) (cG (dA 9 dS.nd) jh))))
   (ai (bD (aX lL (pv 9) cO (bf _))
    (au (bj (O6 (bF ic rfl T.dR ahb (ae (DJ (pv 9) rfl) (ae (jg (v:=.ty "list") rfl T.ip ahy rfl) aj))) (OZ (pc T.iD (lA T) Y (ae (DJ (pv 9) rfl) (ae (aO qJ (pv 3) (pv 4)) (ae (pv 2) (ae (pv 5) aj)))))))))
    bp)
   (ai (bM (bD (PW.pt (Ew (F3 (gU (bF ic rfl T.dR ahb (ae (pv 8) (ae (jg (v:=.ty "tuple") rfl T.oN aii rfl) aj))))) (zI (F3 (gU (pc T.iD (lA T) Y (ae (aY bU (pv 8) av (λ_ _=>rfl)) (ae (aO qJ (pv 3) (pv 4)) (ae (pv 2) (ae (pv 5) aj))))))))))
    (au (bj kb))
    bp))
   (ai (bI 10 dS.nd (pc T.nJ (xX T) Y (ae (aY bU (pv 8) av (λ_ _=>rfl)) (ae (pv 1) (ae (pv 2) (ae (pv 5) aj))))))
   (ai (bD (aX nU (pv 10) cO (bf _))
    (au (bj kb))
    bp)
   (ai (bI 11 dS.nd av)
   (ai (bI 12 dS.nd (pv 5))
   (ai (cS agN rfl (cX (lT wZ (pv 0) sG (lM av))) (dA 13 dS.nd)
    (ai (bI 14 dS.nd (pc T.ni (su T) Y (ae (aO bX (aO kx (pv 13) av) av) (ae (pv 1) aj))))
    (ai (bI 11 dS.nd (aY bu (aY bu (aY bU (pv 8) av (λ_ _=>rfl)) (pv 11) (λ_ _=>rfl)) (aO gW (aO gW (aO kx av (bF I8 rfl T.Vk PyProof.Rows.boot_abs (ae (pv 14) aj))) av) (eJ yo rfl T.LZ PyProof.Rows.boot_int (ae (wU va (pv 14) av (bf _)) aj))) (λ_ _=>rfl)))
    (ai (bI 12 dS.nd (pc T.fD (fu T) Y (ae (pv 2) (ae (pv 12) (ae (cE (ae (pv 14) aj)) aj)))))
    (au (bD (aX jB (aY bu (pv 10) (pv 11) (λ_ _=>rfl)) (pv 12) (bf _))
     (au (bj kb))
     bp))))))
   (au (bj kb)))))))))))),?_⟩
  rwa[GY ?_];intro Y6 u_9 Wj L4 Bn qy oS jP fS gy;let n:aF K H a (ao ns):=n;rwa[⟨12,a,ns,2,n,XC,λq ta ra pa rows p x R P_ H1 s1 hq b lj XA F sx hxp U Uc MY wP Z XH=>?_⟩];erw[q,12,bA.of hq,21121121121121122];rwa[⟨12,a,ns,2,s1.seq n,λq2 ot o g H2 s2 Br hot T4 yQ aaf=>?_⟩];erw[q2,12,bA.of Br,21121122];replace U:=U.same s2;replace wP:=wP.same s2;replace b:=b.same s2;replace s1:=s1.trans s2;let ok:∀u∈R++P_,ML ⇑rows u:=λu hu=>(agv.mp hu).elim (λh=>⟨agz (Uc u h).2.1 ⋯,(Uc u h).1⟩) λh=>⟨(Z u h).2.1,(Z u h).1⟩
  let J:∀u∈R++P_,∀z∈u,z∈bq (2* ⇑rows)/\-z∈bq (2* ⇑rows):=λu hu z hz=>((sr ∅ (ok u hu)).2 z hz).2
  let G:c9 A.eG dW iu H2:=.inl (s1^hP);let fit:g* ⇑R+ ⇑P_<=700:=by have:=ajl aaf MY;ext
  let mv:=Vx F hxp Uc Z
  let Ud:∀{S:RS} {f:Hp} {B:Zs},Fl R P_ ⇑rows o g S->S.made<=24->ko f B S->TabAt f ta rows->bR f ra R->bR f pa P_->∃I C:Zn,f ra\.lst (I.map V.ref)/\f pa\.lst (C.map V.ref)/\⇑(I.map V.ref)+ ⇑(C.map V.ref)<=sizeLine/\∀l Qv X,f l=none->(∀H',aq f H'->Qv (.bl true) H')->Ci [↑B,↑l,↑ta,.int x] (upd f l (.lst (I.map V.ref++C.map V.ref))) Qv X:=λ{S f B} f1 hm ζ b ξ ω=>by
   let⟨qs,p1,p2,_⟩:=ζ;let⟨I,e1,e2⟩:=ξ;let⟨C,e3,e4⟩:=ω
   rwa[⟨I,C,e1,e3,[agm,agm,e2.1,e4.1]▸agz (show _<=100 by omega) ⋯,λl Qv X nl kk=>?_⟩];let⟨O,f0,f2,f3,_⟩:=f1.rt mv J;let m:=aq.upd (o:=.lst (I.map V.ref++C.map V.ref)) nl;rwa[B,l,ta,qs,S.rows,R++P_,rows,p,S.made,O,by rw[f0],m^p1,p2.imp (λp d _ _ e=>e.same m),⟨I++C,by rw[ah,agR],(p9 e2 e4).same m⟩,b.same m,3,F,sx,3,λu hu=>(ok u hu).2,f2,f3,λH' s'=>kk H' (m.trans s')]
  rwa[⟨1212121212,ra,pa,⇑rows,g,o,ot,R,P_,2,hot,T4,lj,3,yQ,3,U,wP,ok,fit,33,G,λq t tb B S N H' L t1 f1 g1 a0 c a2 a3 a4=>?_,λq y dd B S H' L t1 f1 m1 l1 a0 c a2 a3=>?_⟩]
  ·let⟨hm,eL⟩:=f1.mL J yQ;rw[eL]at a2 a3;let⟨hNm,ft⟩:=f1.ft J g1 ∅ lj ∅ a3;erw[q,12,bA.of a0,21121122];replace n:=L.seq G (s1.seq n);replace wP:=L.words G wP;replace U:=L.words G U;replace b:=L.tabs G b;rwa[⟨12212,bS (λh=>absurd h ⋯) λ_=>?_⟩];erw[λ fx H9=>fx=#v[↑a,.int ⇑rows,↑ta,↑ra,↑pa,.int x,.int g,.str (tx ot),↑t,some .non,none,none,none,none,none]/\aq H' H9,5]
   ·let⟨I,C,e1,e2,e3,e4⟩:=Ud f1 ∅ a4 b U wP;rwa[⟨1211112,.tup c,ui _ _,true,2,dP ?_⟩];rwa[⟨12,t,11122,bA.of c,21212,ra,pa,1122,e1,e2,e3,λl nl=>⟨1212,e4 l _ _ nl λH9 s9=>⟨true,2,dP ⟨2,s9⟩⟩⟩⟩]
   rintro fx H9 ⟨rfl,s9⟩;replace n:=s9.seq n;replace b:=b.same s9;replace c:=s9^c;replace a2:=a2.same s9;generalize M24.fm (bC S) (2* ⇑rows) (M24.bh (bC S) (2* ⇑rows) 0 N)=TT at a2 ft;let tab:=ft.t;let hTn:=ft.n;let⟨O,h0,yV⟩:=ft.u _ _ _ mv;clear L a0 G t1 a3 g1 U J fit s1 s2 hq Br Ud wP a4 s9;rwa[⟨12,t,11122,bA.of c,2121212,tb,ta,TT,rows,p,O,by rw[h0];rfl,a2,tab,ft.f,b,F,sx,λi hi=>yV i ∅,λlp f s3 M=>?_⟩];replace n:=s3.seq n;replace b:=b.same s3;replace c:=s3^c;replace a2:=a2.same s3;rwa[⟨12212,bS (λh=>by cases agU h) λ_=>?_⟩];rwa[⟨121212,a,12,n,λD nD=>?_⟩];let⟨cs,e⟩:=pA ns none (some 63);rw[e];let m:=aq.upd (o:=.lst (ao cs)) nD;let hD:upd f D (.lst (ao cs)) D\(.lst (ao cs)):=ah;generalize upd f D (.lst (ao cs))=H4 at m hD ⊢;replace b:=b.same m;replace c:=m^c;replace a2:=a2.same m;replace M:=m^M;rw[hTn]at M;erw[D,2,⟨_,aF.of hD⟩];rwa[eP (K:=K) (a:=D) (xs:=ao cs) (λj σ H5=>∃(i:Nat) (XT XU:Zc),σ=#v[↑a,.int ⇑rows,↑ta,↑ra,↑pa,.int x,.int g,.str (tx ot),↑t,some .non,↑lp,.int i,.int (O i:Nat),XT,XU]/\aq H4 H5/\i<N) ⟨(0),none,none,by rw[h0];rfl,λ_ _ e=>e,by have:=tab.pos;ext⟩ (λj σ H5 _ ζ=>by let⟨_,_,_,_,s,_⟩:=ζ;rwa[aF.of (s^hD)]) ?_ ?_]
   ·rintro j v σ H5 hj ⟨i,XT,XU,rfl,s5,hi⟩;let⟨z,rfl,hz⟩:=cI hj;let⟨rs,r,row,t1,t2,t3,_,t5⟩:=Er (a2.same s5) tab (show i<⇑TT by omega);rwa[⟨121122,.inr ⟨44⟩,1122,(by show (0:Int)<2147483647;decide),121,⇑rows,2,lj,3,λz Ue hz=>?_⟩];let kH:=M11.LV ⟨Ue,hz⟩
    let epl:2* (if z<0 then -z else z) - 1 - (if decide (z > 0)=true then 1 else 0)=((M11.pl z:Nat):Int):=by
     unfold M11.pl;by_cases h:z<0
     ·rw[agI h,agF (by rw[ahm (show ¬z > 0 by omega)];decide),agF (show ¬ 0<z by omega)];ext
     ·rw[agF h,agI (agW (show z > 0 by omega)),agI (show 0<z by omega)];ext
    erw[12,t,11122,bA.of (s5^c),212,tb,11122,aF.of t1,dB t2,12,z,21122,.inl ⟨44⟩,1122121122121122];rw[epl];rwa[⟨r,11122,aF.of t3,bO (bW (t5 _ kH)),121212,by show 1<=sizeLine;decide,λq8 nq8=>?_⟩];let Ug:=aq.upd (o:=.tup [V.int z]) nq8;erw[ta,q8,rows,p,O i,[z],2,b.same (s5.trans Ug),F,(yV i hi).1,3,ah,(λs hs=>[ago.mp hs]▸⟨Ue,hz⟩),3]
    let ep:List.foldl (sf rows) (O i) [z]=O (M11.nx TT (M11.pl z) i):=by
     rw[(yV i hi).2 _ kH,zE Ue];rfl
    rw[ep];let hnx:=tab.lt i _ (show i<⇑TT by omega) kH;rwa[1212,lp,11122,aF.of (Ug^s5^M),bO (o8 O ∅),12212,iV rfl ⟨1112,s5.trans Ug,3⟩]
   ·rintro σ H5 _;rwa[k H5]
  ·erw[q,12,bA.of a0,21121122];rwa[⟨12212,bS (λ_=>?_) λh=>absurd (by rfl) h⟩];let⟨I,C,e1,e2,e3,e4⟩:=Ud f1 ∅ a3 (L.tabs G b) (L.words G U) (L.words G wP);let⟨qs,p1,_⟩:=id a3;rwa[⟨12,y,A.bz,dd,false,BR S.made B,↑B,2,c,a2,zC T,T.xM,211112,.lst p1,ui _ _,true,2,jF ?_⟩];rwa[⟨12,y,A.bz,dd,false,BR S.made B,↑B,2,c,a2,zC T,T.xM,21212,ra,pa,1122,e1,e2,e3,λl nl=>⟨1212,e4 l _ _ nl λH9 _=>k H9⟩⟩]
end
theorem all_mk {l:PySem.W.OpenLaw}(p:M "law"=some ↑a)
 {b g f m d i j n h:Zs}
 {o k:Zs}
 {f1 f2 f3 f4 f5 f6 f7 f8 f9 HP O D f13 f14 Md x J f18 f19 f20 q f22 S Q f25 f26 E f28 R f30 f31 f32 f33 f34 f35 f36 A f38 F f40 f41 f42 f43 f44 f45 f46 f47 f48 G f50 H V f53:Zs} {d1 d2 d3 d4 d5 d6 d7 d8 d9 d10 C d12 t d14 d15 L d17 u y d20 W d22 d23 d24 d25 d26 d27 d28 d29 Z d31 U d33 d34 I z d37 d38 B d40 d41 P d43 d44 d45 X Y d48 N d50 d51 d52 r:FuncData}
 (T:Txt K M ⟨f1,d1,f2,d2,f3,d3,f4,d4,f5,d5,f6,d6,f7,d7,f8,d8,f9,d9,HP,d10,O,C,D,d12,f13,t,f14,d14,Md,d15,x,L,J,d17,f18,u,f19,y,f20,d20,q,W,f22,d22,S,d23,Q,d24,f25,d25,f26,d26,E,d27,f28,d28,R,d29,f30,Z,f31,d31,f32,U,f33,d33,f34,d34,f35,I,f36,z,A,d37,f38,d38,F,B,f40,d40,f41,d41,f42,P,f43,d43,f44,d44,f45,d45,f46,X,f47,Y,f48,d48,G,N,f50,d50,H,d51,V,d52,f53,r,b,g,f,m,d,i,j,n,h,o,k⟩)
 :∃fd:FuncData,(∃fd2 c,LamAt K fd2 c k)/\(∀(s:Zu) (v:Zt),BindsTo s fd ⟨[v],[]⟩ [("_law_script",v)])/\∀base:Heap,K.In base->base.Ns mainGlobals M->j3 M base->di l.prog w K M base (cZ l.prog w) 13 a fd ["_law_script"] (zB K k):=by
 let e:=p.symm.trans T.law.m;ext e;let⟨kV,doc,pm,an,cC,ct,e⟩:=T.law.fd;rwa[_,⟨11,T.lam⟩,λs v=>[e]▸.of_eq rfl,λbase _ _ Ee=>Ub T Ee]
theorem walk {l:PySem.W.OpenLaw}{loose:Zp}{XP:(Str->Zl)->Heap->Prop}{j:World->Heap->Prop}{d:DefRec}{K:Params->Za1}(r:l.most\63)(g:d.params.defaults=[])
 (p:∀(w:World) (h:Heap),j w h->(K w.params).In h/\h.get? a\(PySem.W.tabObj #[]))
 (F:∀(w:World) (e:Str->Zl) (i:Zs) (h:Heap),(K w.params).In h->h.Ns mainGlobals e->e d.name\↑i->
  ∃fd:FuncData,(∃fd2 c,LamAt (K w.params) fd2 c a)/\(∀(s:Zu) (u:Zt),BindsTo s fd ⟨[u],[]⟩ [("_law_script",u)])/\∀base:Heap,(K w.params).In base->base.Ns mainGlobals e->j3 e base->di l.prog w (K w.params) e base (cZ l.prog w) 13 i fd ["_law_script"] (zB (K w.params) a)):
 PySem.W.WalkO P loose XP j l.row.toRowW d [] (λf o=>PySem.call f o):=
 L2.JL (n:=63) (k:=13) (x:="_law_script") (CX:=λw=>(cZ l.prog w)) (sp:=λw=>zB (K w.params) a) r ⋯ g ⟨244⟩ p F (λ_ _ b m q t v=>⟨b,m,2,v,q,t,λ_=>rfl⟩) λ_ _ _ _ _ z=>LN z
end K37
end Lake
open PySem PySem.W PyProof.Rows
namespace PySem.W.Fast
universe tw12254504296444291760 tw11244148450033014335 tw765839306766070821 tw4435340858976476571 tw8224892549040513707 tw18149672489650919691 tw14858702474421185946 tw17751371444579349606 tw1953223005265320410 tw1355689169754797062 tw6584679107992220917 tw4271144168509497247 tw11521870262002302049 tw11780145593792092309 tw3107647123899978033 tw9872080516465415798 tw15863910293581650986 tw18000151572368731754 tw17312394163519781374 tw822723175591669529 tw12214611123111993331 tw10714561273682650674 tw8866784016377846314 tw12365186578130389935 tw2049013763824996067 tw9744777077301846975 tw13971499383120604747 tw8537709648012901113 tw9505208643786694946 tw335135536090548255 tw10688116897380369103 tw9833237248745407674 tw4883690721342485434 tw1270542549069066402 tw5129018750557156415 tw8481163309505341151 tw13412188188415985625 tw8350346457152654995 tw14487397509457197188 tw4819927354730609543 tw1291556126524456586 tw4764008086206494235 tw14277533201591143749 tw9108235120562426105 tw16500704843889957003 tw541073413890499173 tw16425271217044094892 tw10574939282624742654 tw13623403646353239810 tw8386675638576535723 tw14633452437653991873 tw8952783971166778611 tw8965263731119944020 tw9559761831940105687 tw9551053175940805118 tw14087391233305951822 tw17074376895453080678 tw12498452376924455193 tw4588563271045470153 tw9931903977690820468 tw10407558053728960821 tw7610259480143573803 tw2612199635272240037 tw1202356480822151355 tw5520848472133913362 tw7139610662763053498 tw2017818938240487662 tw5724567891530391521 tw9910114094927058533 tw13227473940980459184 tw8049552104657398519 tw9071877688294023837 tw11986360392302851075 tw726721086245287851 tw9378657269204363624 tw2571472737009146921 tw18430119448204351489 tw9139969991224533484 tw10044676002914149373 tw6828409614724444333 tw3834654121163486223 tw18286883463688885650 tw12991557004662723007 tw6508423979673927358 tw6791980390197499594 tw8983122895015211348 tw17098941166416027966 tw11362796827307449052 tw14396748603696023781 tw6517326389572653390 tw6293849306995642266 tw722865736451292920 tw17938886474481993186 tw5455318959972154300 tw11395979640176818328 tw6586815990631539366 tw2411064843345037360 tw15046172820417983294 tw7776709422450455213 tw18412218441264431084 tw873762212624344414 tw8466052112752416599 tw997494777187844310 tw11009141039533556201 tw2091351110098558707 tw3226023570047571714 tw16824366740893713762 tw3514130408989244003 tw9349377822008211408 tw17167719864369020042 tw7796563334846225038 tw15989759097285922307 tw5695859312971184935 tw6933805262957713403 tw6536522794608715241 tw2369163339722024526 tw10515321025311648243 tw9595637747392971423 tw8510955183510468324 tw18115805446578192907 tw1095254110217243155 tw293822212907255196 tw4696190297090152781 tw17165302887074641579 tw14549833230034658100 tw3223888597803853522 tw5187311865933064093 tw18174036888491379187 tw11517101902279767041 tw3679698308561591690 tw10705807433337903557 tw888117894203527128 tw1641269357214092026 tw14469956160751375607 tw9428050256268914180 tw14786351577020330461 tw10777640485286919704 tw7109029696926812626 tw18371298454695806195 tw17202497774935348690 tw4586211086916307018 tw2381233660834254541 tw8845232719054891693 tw7044805011268772239 tw17703150602467249112 tw8275028411134297396 tw14025968559870925071 tw14643034844324101550 tw8678161191530646217 tw13703510923610403751 tw15184474267042868044 tw3567643808029456413 tw2859694251725414813 tw8515845266264878386 tw3339338421905612823 tw16146568195532187621 tw7299347585224194521 tw11769428511422070498 tw2579821028537529530 tw11348034864587562552 tw3355870378578842227 tw3255342151973949708 tw17380683510319395768 tw119058337811325880 tw18099511303620127530 tw8768618005832827498 tw12391417389116259460 tw10200731105653759881 tw16704792423399309586 tw18061131036416002144 tw1110410913434233045 tw1029623680962161097 tw5630476024632231368 tw4921812115117907616 tw8332278872332359742 tw6473552432884863659 tw12304604147658583223 tw14276203810504572500 tw12019349952226895669 tw5270299761462570459 tw2875308815660408360 tw9113425710721816562 tw17279346820433137261 tw16931805542755090195 tw10894965322906015338 tw4336770338117959221 tw12201156723040579262 tw13492953903698584955 tw15705080976982502141 tw10778460369891385962 tw16876670961166293658 tw13786886475061162871 tw1811677281187722570 tw17612248264864334250 tw10087655704067235202 tw12184612653340073263 tw4206662145949803647 tw9397870595609366238 tw367260090359646500 tw10403265010343791938 tw14920382688851357863 tw6111741427605346418 tw15959306272452944379 tw11399759945166228086 tw6347685711544753354 tw15592504794323534760 tw8991796619364292903 tw4565918278647799377 tw257289125906034126 tw17070495803822752490 tw14608608955142459223 tw13748859791609391609 tw13325381422786050580 tw11947236343584388734 tw7933126977646237213 tw10299101117698256426 tw14820097992437735747 tw16187930054219373251 tw6320780220398729777 tw9135442318736710847 tw11968181415888415109 tw5220248854560524931 tw1936127209547777693 tw17478453033788409465 tw1406110554431383749 tw12285762857600669209 tw10677751307170968055 tw5823211898502047640 tw5437318831851165002 tw15611106400526646293 tw9459337218723302500 tw6011678241833806059 tw2946295926955484135 tw17300978233413401696 tw12424697660320861613 tw12345902225889297223 tw11932735377454142895 tw10947453440034727908 tw18229439331158990646 tw5733342860300390947 tw16376076754082549931 tw15832006496106931096 tw673122449178063860 tw500220735077951389 tw2816327136080081596 tw7048612586370041957 tw3176231319515653383 tw2677950690560500016 tw17433316001036456099 tw12065936949932470663 tw7267903623405244319 tw7325532592470295390 tw8025403914201562473 tw4377294437809912498 tw4214285667485272751 tw9570337303497524831 tw4742032870393347220 tw317073166104037786 tw17942648228830884352 tw17222948879730641993 tw16223257054918980865 tw136914982213333500 tw10037407288102240505 tw5234272661139745316 tw3625721564957773092 tw15890663561400758566 tw1056025862209956542 tw5736653936653685449 tw5221076878818797472 tw5110622612628214849 tw4350593571350782731 tw3401582798217875503 tw2403742693307322661 tw18089851359080476798 tw15812394996127469869 tw15556734670347628501 tw14014670431044020779 tw13252234781731673714 tw12380327440390292835 tw12040337827019949697 tw1046995698795943158 tw7418740011409903707 tw4404446175706100267 tw8813729810620114884 tw17049404770541215500 tw16757565297178440821 tw7568233166434315307 tw2695622455339805992 tw9509653552919058828 tw5112459391485157037 tw17288001113522276785 tw12262861370381415617 tw7267201432090235264 tw6868515724184385018 tw718577003855142370 tw262837255850432170 tw10894687211619542601 tw9139386557709077194 tw4517543060666779570 tw5398660911270004799 tw3803817018802537024 tw12919120479238776304 tw5341695321197980586 tw8861380712170943632 tw8316408359498388579 tw7284569866170137918 tw4811837382521514844 tw4633898129965345821 tw18409241550702680700 tw13621864508406581391 tw10777275654028940189 tw8571878030721269220 tw10978042628382873836 tw9588867027975094711 tw7388822518030556456 tw17711529884357576166 tw17637560067464807977 tw15070669998823694146 tw13552583989408873071 tw13438514528484883593 tw11425533665479847091 tw4858993858478292642 tw14404562976948161365 tw29405138106538355 tw8954670608159696974 tw4293111120667078777 tw8385869370776784095 tw15928215619717039569 tw8409424501122057641 tw7718887561381360813 tw6163873533571604138 tw1952686812982598021 tw1762772836781057704 tw13650142572001244932 tw13172464846379949134 tw6810028398486324076 tw4920957005643603903 tw11513299010455488740 tw9768085813947635746 tw9565506430799126564 tw9527687360836643788 tw9411741038435724370 tw9211840404171807649 tw9084310654898693963 tw9072247925931663269 tw8942794553416538503 tw8762820770620112145 tw8633152851249943204 tw8473100663567035252 tw8466705012945333231 tw8442041998934328498 tw8437863350938724964 tw8343128730274917732 tw8336290672192736817 tw8164533524932926046 tw8110325972797522303 tw794805490386717718 tw7782847146843491586 tw7706263004606623804 tw7237896821750578440 tw7234241291082024801 tw7198031171315276611 tw7022222204511749284 tw6806304136070190011 tw648542703515227658 tw6377312575748814680 tw6362406293680506575 tw6192850896860085051 tw565569579530155938 tw5575972876398445840 tw5511084547789018017 tw5238124501262141850 tw5176505549486036881 tw4867625620994450849 tw4563433909157884574 tw4389772929599031898 tw4362206574258958870 tw4255717954066445481 tw4183883149042743373 tw4172848054463768651 tw4099652595328423345 tw4055191805080618857 tw4038076820441929374 tw3892946895250468433 tw368470127803848630 tw3656433859336600734 tw3544434087133158567 tw3521412966713398590 tw3364401848411515510 tw3314335764791974569 tw3262711362836553931 tw3236706604820687320 tw3231888992578502671 tw311321024839514566 tw2897969480221694461 tw2807750350904305275 tw2732079387998673115 tw2610575045836217023 tw2535509073716360859 tw2355263241097329385
end PySem.W.Fast
end
open Lake
set_option maxRecDepth 100000 in
set_option maxHeartbeats 0 in
theorem PySem.Challenge.cw_cosetyard_k37_whole_greatest_move_holds : PySem.Challenge.rw_cosetyard_k37_whole_greatest_move.Holds := by
  w_on; o_law; k_head;(case hw => w_witness2)
  k_fill
  refine K37.walk (l := PySem.Challenge.rw_cosetyard_k37_whole_greatest_move) rfl rfl (fun w h Y => ⟨PySem.W.km_in_of Y, PySem.W.km_tabs_of Y _ (List.Mem.head _)⟩) ?F
  case F =>
    intro w mg fa h KX G hmg
    refine' K37.all_mk hmg ⟨?D1,?D2,?D3,?D4,?D5,?D6,?D7,?D8,?D9,?D10,?D11,?D12,?D13,?D14,?D15,?D16,?D17,?D18,?D19,?D20,?D21,?D22,?D23,?D24,?D25,?D26,?D27,?D28,?D29,?D30,?D31,?D32,?D33,?D34,?D35,?D36,?D37,?D38,?D39,?D40,?D41,?D42,?D43,?D44,?D45,?D46,?D47,?D48,?D49,?D50,?D51,?D52,?D53,?z1,?z2,?z3,?z4,?z5,?z6,?z7,?z8,?z9,?z10,?z11,?z12,?z13,?y_YardError,?y_NoOrder,?y_TooMany,?y_Order,?y_ByLetters,?y_Newest,?y_Rooms,?y_Going,?y_Closing,_,_,_,_,_,_,_,_,_,_,_,_,_,_,_,_,_,_,_,_,_,_,_,_,_,_,_,_,_,_,_,_,_,_,_,_,_,_,_,_,_,_,_,_,_,_,_,_,_,_,_,_,_,_,_,_,_,_,_,_,_,_,_,_,_,_,_,_,_,_,_,_,_,_,_,_,_,_,_,_,_,?w_lam⟩
    all_goals try dsimp only
    (case y_YardError|y_NoOrder|y_TooMany|y_Order|y_ByLetters|y_Newest|y_Rooms|y_Going|y_Closing => refine' PySem.W.mg_of KX G ?a;(case a => k_is))
    (case D1|D13|D14|D15 => refine' L2.Def.of KX G ?_ ?_ ?_ ?_ (fun _ _ _ _ _ _ _ hl => by obtain ⟨_, _, _, rfl⟩ := L2.args_is3 hl; rfl);all_goals try k_is)
    (case D2|D3|D4|D5|D6|D8|D9|D18|D20|D23 => refine' L2.Def.of KX G ?_ ?_ ?_ ?_ (fun _ _ _ _ _ _ _ hl => by obtain ⟨_, rfl⟩ := L2.args_is1 hl; rfl);all_goals try k_is)
    (case D7|D11|D12 => refine' L2.Def.of KX G ?_ ?_ ?_ ?_ (fun _ _ _ _ _ _ _ hl => by obtain ⟨_, _, rfl⟩ := L2.args_is2 hl; rfl);all_goals try k_is)
    (case D10 => refine' L2.DDef.of KX G ?_ ?_ ?_ ?_ ?_ (fun _ _ _ _ _ _ _ hl => by obtain ⟨_, _, _, _, _, rfl⟩ := L2.args_is5 hl; exact ⟨_, rfl, rfl⟩) (fun _ _ _ _ _ _ _ hl => by obtain ⟨_, _, _, _, rfl⟩ := L2.args_is4 (Nat.succ.inj hl); exact ⟨_, rfl, rfl⟩);all_goals try k_is)
    (case D16|D17|D21|D22 => refine' L2.Def.of KX G ?_ ?_ ?_ ?_ (fun _ _ _ _ _ _ _ hl => by obtain ⟨_, _, _, _, rfl⟩ := L2.args_is4 hl; rfl);all_goals try k_is)
    (case D19 => refine' L2.Def.of KX G ?_ ?_ ?_ ?_ (fun _ _ _ _ _ _ _ hl => by obtain ⟨_, _, _, _, _, rfl⟩ := L2.args_is5 hl; rfl);all_goals try k_is)
    (case D24|D27|D29|D33|D50 => refine' L2.MDef.of ?_ ?_ ?_ ?_ ?_ (fun _ _ _ _ _ _ _ hl => by obtain ⟨_, _, _, _, rfl⟩ := L2.args_is4 hl; rfl);all_goals try k_is)
    (case D25|D26|D28|D32|D34|D37|D39|D40|D41|D42|D46|D49 => refine' L2.MDef.of ?_ ?_ ?_ ?_ ?_ (fun _ _ _ _ _ _ _ hl => by obtain ⟨_, _, rfl⟩ := L2.args_is2 hl; rfl);all_goals try k_is)
    (case D30|D36|D47|D48 => refine' L2.MDef.of ?_ ?_ ?_ ?_ ?_ (fun _ _ _ _ _ _ _ hl => by obtain ⟨_, rfl⟩ := L2.args_is1 hl; rfl);all_goals try k_is)
    (case D31|D35|D38|D43|D45|D51|D53 => refine' L2.MDef.of ?_ ?_ ?_ ?_ ?_ (fun _ _ _ _ _ _ _ hl => by obtain ⟨_, _, _, rfl⟩ := L2.args_is3 hl; rfl);all_goals try k_is)
    (case D44 => refine' L2.MDef.of ?_ ?_ ?_ ?_ ?_ (fun _ _ _ _ _ _ _ hl => by obtain ⟨_, _, _, _, _, rfl⟩ := L2.args_is5 hl; rfl);all_goals try k_is)
    (case D52 => refine' L2.MDef.of ?_ ?_ ?_ ?_ ?_ (fun _ _ _ _ _ _ _ hl => by obtain ⟨_, _, _, _, _, _, rfl⟩ := L2.args_is6 hl; rfl);all_goals try k_is)
    (case z1|z2|z3|z4|z5|z6|z7|z8|z9|z10|z11|z12|z13 => refine' PySem.W.mg_none_of KX G ?a;(case a => k_is))
    (case w_lam => refine' L2.LamAt.mk ?e ?h ?n;(case e => rfl);(case h => kernel_rfl);(case n => kernel_rfl))
    all_goals first|k_is|kit_is|kts_exm|kernel_rfl
