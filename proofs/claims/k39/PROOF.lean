import PyProof.Rows.All
import Wide.All
import OpenK.AllK
import Wide.FinOn
import Lean
import PyProof.EqAt
import PyProof.EqKinds
import PyProof.TupleCall
import PyProof.FString
import OpenK.KOwn
import KE.KTryMore
import PyProof.NsDelKeeps
import PyProof.StrBlock2
import PyProof.AutoListH
import KE.KIntText
import PyProof.Rows.StrIntSpec
import KE.KRevIter
import PyProof.StrWalks
import PyProof.CompUse
import PyProof.NeKinds
import PyProof.Rows.Range3
import PyProof.Rows.EnumRows
import PyProof.ConsumeWalk
import PyProof.Rows.SeqGen
import PyProof.StrLawsRepr
import PyProof.ZipIter
import PyProof.Rows.FactsT2
import PyProof.EnumMake
import PyProof.DictWalks
import PyProof.DictTruth
import PyProof.ListRange
import PyProof.ListStr
import PyProof.TupleOfGen
import PyProof.TupleOfSeq
import PyProof.MinMaxWalk
import PyProof.WalkInts
import KE.KSortAsk
import PyProof.MeetsSeq3
import KE.KRevSl
import PyProof.Rows.SeqMore
import PyProof.ListMulRoad
import PyProof.Rows.SumAny
import PyProof.SeqI3
import PyProof.AttrMissSeq
import KE.KDictOf
import PyProof.Rows.StrCut
import PyProof.Rows.StrSplitCount
import PyProof.DictItems
import PyProof.Rows.SortWalk
import PySem.Challenge.RW_cosetyard_k39_whole_over_points_alike
set_option Elab.async false
set_option linter.all false
set_option maxRecDepth 100000
set_option compiler.extract_closed false
set_option compiler.small 0
set_option genSizeOfSpec false
set_option maxHeartbeats 4000000
noncomputable section
local macro_rules|`(tactic|decide)=>`(tactic|decide +kernel)
local macro_rules|`(tactic|ac_rfl)=>`(tactic|exact⟨2224244⟩)
local macro_rules|`(⟨$x,*⟩)=>do
  let q:=#[←`(_),←`(rfl),←`(∅),←`(⋯),←`(?_)]
  let r:Array Lean.Term:=x.getElems.flatMap λe=>match e.raw.isNatLit? with|some n=>(toString n).toList.toArray.map λc=>q[c.toNat-49]!|_=>#[e]
  if x.getElems.any λe=>e.raw.isNatLit?.isSome then`(⟨$r,*⟩)else Lean.Macro.throwUnsupported
local macro_rules|`(tactic|erw[$r,*])=>do let a:=r.getElems.map λe=>(⟨e.raw[1]⟩:Lean.Term);`(tactic|refine⟨$a,*, ?_⟩)
local macro_rules|`(tactic|rwa[$r,*])=>do let a:=r.getElems.map λe=>(⟨e.raw[1]⟩:Lean.Term);if a.size=1&&(a[0]!).raw.isNatLit?.isNone then`(tactic|refine $(a[0]!))else`(tactic|exact⟨$a,*⟩)
local macro_rules|`([$x,*]▸$e)=>do let a←x.getElems.mapM λt=>do match(⟨t⟩:Lean.Term)with|`(-$s)=>`(Lean.Parser.Tactic.rwRule|←$s:term)|s=>`(Lean.Parser.Tactic.rwRule|$s:term)
                                   `(by rw[$a,*];exact $e)
def CVP:Nat→Lean.Term→Lean.MacroM (Lean.TSyntax `rcasesPat)
|0,_=>Lean.Macro.throwUnsupported
|n+1,t=>do match t with
  |`(⟨$x,*⟩)=>let a←x.getElems.mapM λt=>do`(Lean.Parser.Tactic.rcasesPatLo|$(←CVP n t):rcasesPat)
              `(rcasesPat|⟨$a,*⟩)
  |`($i:ident)=>`(rcasesPat|$i:ident)
  |`(_)=>`(rcasesPat|_)
  |_=>Lean.Macro.throwUnsupported
local macro_rules|`(tactic|let $d:letDecl)=>`(tactic|have $d:letDecl)
local macro_rules|`(tactic|let $p:term:=$e)=>do match p with|`(⟨$_,*⟩)=>`(tactic|obtain $(←CVP 9 p):rcasesPat:=$e)|_=>Lean.Macro.throwUnsupported
local macro_rules|`(∅)=>`(by omega)
local macro_rules|`(⋯)=>`(by decide)
local macro_rules|`(tactic|omega)=>`(tactic|lia)
local macro_rules|`($a\$b)=>`($a=some $b)
local macro_rules|`($a^$b)=>match b.raw.isNatLit? with|some _=>Lean.Macro.throwUnsupported|_=>`($a _ _ $b)
local macro_rules|`(↥$s)=>`(($s).heap.objs.size)
local macro_rules|`(#v[$x,*])=>do let a←x.getElems.mapM λe=>do if e.raw.isOfKind `coeNotation||e.raw.isOfKind ``Lean.Parser.Term.dotIdent||e.raw[0].isOfKind ``Lean.Parser.Term.dotIdent then`(some $e)else pure e
                                  `([$a,*])
local macro_rules|`(s!"")=>`(by intro _ z;cases z)
local macro_rules|`(f!"")=>`(by intro z;cases z)
local macro_rules|`($s<*$h)=>`({ $s with heap:=$h })
local macro_rules|`(⇑$s)=>`(($s).length)
local macro_rules|`(↑$s)=>`(.ref $s)
local macro_rules|`(tactic|trivial)=>`(tactic|first|exact .inl rfl|exact .inr rfl|exact .inr (.inl rfl)|exact .inr (.inr rfl)|assumption)
local macro_rules|`(tactic|cbv)=>`(tactic|grind -abstractProof)
local macro_rules|`(tactic|ext $p*)=>match p with|#[]=>`(tactic|omega)|_=>let i:Lean.Ident:=⟨p[0]!.raw[0][0]⟩;`(tactic|cases $i:ident)
local macro_rules|`($a:str>>>$b)=>`({ cls:=.type $a,data:=$b })
local macro_rules|`($x⁻¹)=>`(PySem.wpAny (PySem.model ($x).prog ($x).w))
local macro_rules|`($x<|>$y)=>`(PySem.wpAny (PySem.model $x $y))
local macro_rules|`(universe $x*)=>do return Lean.mkNullNode (←x.mapM λi=>do return(←`(command|def $i:ident:=Nat)).raw)
local macro_rules|`(tactic|cases $h:ident:$p)=>`(tactic|by_cases $h:ident:$p)
local macro_rules|`(tactic|change $t$[$l]?)=>match t with|`($e=$x:ident)=>`(tactic|generalize $e:term=$x:ident$[$l]?)|_=>Lean.Macro.throwUnsupported
abbrev Zg:=List Int
abbrev Zh:=List Nat
abbrev Zi:=Option Nat
abbrev Zj:=Option Int
abbrev Zk:=List PySem.Value
abbrev Zl:=Option PySem.Value
abbrev Zm:=Array PySem.Value
abbrev Zn:=List PySem.Addr
abbrev Zo:=Option PySem.Addr
abbrev Zp:=List PySem.Str
abbrev Zq:=List PySem.Env
abbrev Zr:=List PySem.Expr
abbrev Zs:=PySem.Addr
abbrev Zt:=PySem.Value
abbrev Zu:=PySem.Shared
abbrev Za0:=@Option.some.inj
abbrev Za1:=PySem.W.Frag
abbrev Za2:=Nat->Int->Nat->Prop
abbrev Za3:=List Zg
def Za4 (n:Nat)(h:n<=PySem.sizeLine:=by decide):n<=PySem.sizeLine:=h
abbrev agB:=@PySem.wpAny_bind
abbrev agC:=@List.mem_of_getElem?
abbrev agD:=@PySem.Heap.get?_push_of_some
abbrev agE:=@List.getElem?_eq_some_iff
abbrev agF:=@List.length_append
abbrev agG:=@List.getElem?_eq_getElem
abbrev agH:=@List.length_map
abbrev agI:=@PySem.wpAny_pure
abbrev agJ:=@Nat.le_refl
abbrev agK:=@List.mem_singleton
abbrev agL:=@List.mem_append_right
abbrev agM:=@List.getD_eq_getElem?_getD
abbrev agN:=@List.getElem?_append_left
abbrev agO:=@Nat.lt_of_le_of_lt
abbrev agP:=@List.mem_cons_self
abbrev agQ:=@PySem.F.plainAttrs_list
abbrev agR:=@List.getElem?_append_right
abbrev agS:=@List.mem_append
abbrev agT:=@Nat.le_trans
abbrev agU:=@PySem.Heap.get?_push_size
abbrev agV:=@List.size_toArray
abbrev agW:=@List.mem_cons
abbrev agX:=@PySem.Heap.lt_size
abbrev agY:=@List.getElem?_map
abbrev agZ:=@beq_eq_false_iff_ne
abbrev ag0:=@PySem.F.slot_list_append
abbrev ag2:=@PySem.F.type_list_append
abbrev ag3:=@if_neg
abbrev ag4:=@List.mem_cons_of_mem
abbrev ag6:=@List.mem_append_left
abbrev ag8:=@if_pos
abbrev ag9:=@PySem.PassesOwn.never
abbrev aha:=@List.length_cons
abbrev ahb:=@List.length_set
abbrev ahc:=@Nat.lt_of_lt_of_le
abbrev ahd:=@Nat.zero_le
abbrev ahe:=@List.append_nil
abbrev ahf:=@Nat.ne_of_lt
abbrev ahg:=@Int.toNat_natCast
abbrev ahh:=@decide_eq_true
abbrev ahi:=@List.map_append
abbrev ahj:=@List.mem_range
abbrev ahk:=@List.nodup_cons
abbrev ahl:=@PySem.boot_len
abbrev ahm:=@List.length_take
abbrev ahn:=@of_decide_eq_true
abbrev aho:=@List.getElem?_eq_none
abbrev ahp:=@List.length_range
abbrev ahq:=@Bool.false_ne_true
abbrev ahr:=@decide_eq_true_iff
abbrev ahs:=@List.getElem?_of_mem
abbrev aht:=@PySem.Heap.get?_update_self
abbrev ahu:=@List.mem_map
abbrev ahv:=@PySem.Heap.get?_update_other
abbrev ahw:=@List.map_map
abbrev ahx:=@List.not_mem_nil
abbrev ahy:=@List.append_assoc
abbrev ahz:=@List.nodup_append
abbrev ahA:=@List.getElem?_set_self
abbrev ahB:=@PySem.wpAny_newObj_type
abbrev ahC:=@PySem.Calls.spliced_cons
abbrev ahD:=@decide_eq_false
abbrev ahE:=@PyProof.Rows.callWith_type1
abbrev ahF:=@PySem.wpAny_mono
abbrev ahG:=@List.length_drop
abbrev ahH:=@PySem.wpAny_callSpecial?_slot
abbrev ahI:=@PySem.wpAny_field
abbrev ahJ:=@List.map_congr_left
abbrev ahK:=@PySem.Calls.callWith_builtin
abbrev ahL:=@PySem.wpAny_call_entry
abbrev ahM:=@Bool.eq_iff_iff
abbrev ahN:=@PyProof.Rows.slot_tuple_getitem
abbrev ahO:=@PySem.wpAny_Call_Name_kw
abbrev ahP:=@List.length_singleton
abbrev ahQ:=@PySem.wpAny_holding
abbrev ahR:=@List.range_succ
abbrev ahS:=@congrArg
abbrev ahT:=@Nat.ne_of_gt
abbrev ahU:=@Option.map_eq_some_iff
abbrev ahV:=@Nat.lt_irrefl
abbrev ahW:=@List.map_cons
abbrev ahX:=@PySem.wpAny_setField_rec
abbrev ahY:=@PyProof.Rows.boot_isinstance
abbrev ahZ:=@Ne.symm
abbrev ah0:=@PySem.F.plainAttrs_dict
abbrev ah1:=@List.pairwise_map
abbrev ah2:=@List.getElem?_set_ne
abbrev ah3:=@Int.emod_lt_of_pos
abbrev ah4:=@PyProof.Rows.boot_list
abbrev ah5:=@PySem.W.kia_one
abbrev ah6:=@Nat.lt_succ_self
abbrev ah7:=@List.eq_nil_of_length_eq_zero
abbrev ah8:=@PySem.F.slot_dict_itemiterator_next
abbrev ah9:=@PySem.mem_of_lookup
abbrev aia:=@PySem.Heap.SameBut.update
abbrev aib:=@PySem.Calls.spliced_nil
abbrev aic:=@Nat.lt_succ_of_lt
abbrev aid:=@PySem.F.slot_dict_keyiterator_next
abbrev aie:=@List.mem_filter
abbrev aif:=@Int.emod_nonneg
abbrev aih:=@List.length_nil
abbrev aii:=@PySem.Obj.data_mapFields
abbrev aij:=@PySem.Calls.evalArgs_plain
abbrev aik:=@Nat.mul_le_mul_right
abbrev ail:=@List.take_length
abbrev aim:=@List.mem_flatMap
abbrev ain:=@Array.getElem?_eq_some_iff
abbrev aio:=@Array.length_toList
abbrev aip:=@List.getElem?_range
abbrev aiq:=@Int.neg_neg
abbrev air:=@PySem.Heap.size_push
abbrev ais:=@List.nodup_nil
abbrev ait:=@List.length_filter_le
abbrev aiu:=@PySem.F.slot_dict_get
abbrev aiv:=@PySem.wpAny_typeNameOfWhole_itemiter
abbrev aiw:=@List.Pairwise.imp_of_mem
abbrev aix:=@Bool.and_eq_true
abbrev aiy:=@PySem.wpAny_typeNameOfWhole_keyiter
abbrev aiz:=@List.mem_iff_getElem
abbrev aiA:=@PySem.codeAny_call_builtin
abbrev aiB:=@List.dropLast_concat_getLast
abbrev aiC:=@PySem.F.slot_dict_setdefault
abbrev aiD:=@List.take_succ
abbrev aiE:=@Nat.sub_self
abbrev aiF:=@List.ext_getElem?
abbrev aiG:=@PySem.wpAny_dictEntries
abbrev aiH:=@List.foldl_append
abbrev aiI:=@List.replicate_succ
abbrev aiJ:=@List.filter_sublist
abbrev aiK:=@List.pairwise_lt_range
abbrev aiL:=@PySem.F.slot_tuple_iterator_next
abbrev aiM:=@PySem.F.excBase_ValueError
abbrev aiN:=@List.lookup_cons
abbrev aiO:=@List.cons_append
abbrev aiP:=@PySem.tupleKind_room_in1
abbrev aiQ:=@PySem.Obj.isFreed_of_fields
abbrev aiR:=@or_false
abbrev aiS:=@Nat.lt_or_ge
abbrev aiT:=@Nat.le_succ
abbrev aiU:=@PySem.wpAny_setField
abbrev aiV:=@List.mem_or_eq_of_mem_set
abbrev aiW:=@PySem.wpAny_typeNameOf_itemiter
abbrev aiX:=@Classical.byContradiction
abbrev aiY:=@PySem.wpAny_truthy_bool
abbrev aiZ:=@PySem.wpAny_execs_nil
abbrev ai0:=@PySem.wpAny_passesOwn
abbrev ai1:=@PySem.wpAny_pyIter_list
abbrev ai2:=@List.flatten_cons
abbrev ai3:=@PySem.wpAny_Call_method
abbrev ai4:=@PySem.wpAny_loadPart'
abbrev ai5:=@PySem.wpAny_typeNameOf_keyiter
abbrev ai6:=@PySem.wpAny_updateSeq
abbrev ai7:=@not_false_eq_true
abbrev ai8:=@List.length_erase_of_mem
abbrev ai9:=@PySem.codeAny_mono
abbrev aja:=@PySem.wpAny_typeOf
abbrev ajb:=@PySem.call_meetsIn
abbrev ajc:=@PySem.plainId_quiet
abbrev ajd:=@List.mem_map_of_mem
abbrev aje:=@Nat.add_mul
abbrev ajf:=@List.filter_cons_of_pos
abbrev ajg:=@PyProof.Rows.boot_tuple
abbrev ajh:=@List.nodup_range
abbrev aji:=@PySem.F.plain_min_loop
abbrev ajj:=@PySem.call_meets
abbrev ajk:=@PySem.wpAny_seqItems
abbrev ajl:=@PySem.F.entry_dict_get
abbrev ajm:=@List.take_of_length_le
abbrev ajn:=@List.find?_cons_of_neg
abbrev ajo:=@PySem.W.callWith_K
abbrev ajp:=@Bool.false_eq_true
abbrev ajq:=@List.countP_eq_length_filter
abbrev ajr:=@Array.getElem?_toList
abbrev ajs:=@List.nil_append
abbrev ajt:=@List.find?_cons
abbrev aju:=@PySem.F.slot_dict_pop
abbrev ajv:=@PySem.F.slot_enumerate_next
abbrev ajw:=@PySem.F.slot_enumerate_iter
abbrev ajx:=@PySem.wpAny_notOrdered_dict
abbrev ajy:=@PySem.wpAny_dictEpoch
abbrev ajz:=@Nat.min_eq_left
abbrev ajA:=@List.take_append_drop
abbrev ajB:=@PySem.wpAny_standAt
abbrev ajC:=@beq_iff_eq
abbrev ajD:=@PySem.wpAny_call
abbrev ajE:=@if_false
abbrev ajF:=@List.filter_congr
abbrev ajG:=@Decidable.not_not
abbrev ajH:=@PySem.wpAny_loadPart_at
abbrev ajI:=@List.nodup_iff_pairwise_ne
abbrev ajJ:=@PySem.Around.under_plainId
abbrev ajK:=@List.drop_eq_getElem_cons
abbrev ajL:=@List.getElem?_eq_none_iff
abbrev ajM:=@Nat.mul_le_mul
abbrev ajN:=@Nat.min_eq_right
abbrev ajO:=@PySem.W.hideAll_get
abbrev ajP:=@List.flatMap_append
abbrev ajQ:=@Nat.le_of_lt
abbrev ajR:=@Nat.le_of_eq
abbrev ajS:=@Option.isSome_iff_exists
abbrev ajT:=@List.getElem?_take_of_lt
abbrev ajU:=@PySem.F.args_tuple_add_2
abbrev ajV:=@Nat.lt_trans
abbrev ajW:=@Nat.zero_add
abbrev ajX:=@Int.zero_add
abbrev ajY:=@List.mem_filterMap
abbrev ajZ:=@PySem.F.entry_tuple_add
abbrev aj0:=@Bool.or_eq_true
abbrev aj1:=@PySem.codeAny_builtin
abbrev aj2:=@PySem.wpAny_ite_split
abbrev aj3:=@Nat.max_eq_left
abbrev aj4:=@List.filter_cons_of_neg
abbrev aj5:=@List.filter_append
abbrev aj6:=@PySem.W.cellsFrom_some
abbrev aj7:=@PySem.F.slot_tuple_add
abbrev aj8:=@Array.getElem?_eq_none
abbrev aj9:=@Option.map_eq_none_iff
abbrev aka:=@PyProof.Rows.boot_dict
abbrev akb:=@Classical.epsilon_spec
abbrev akc:=@if_true
abbrev akd:=@PySem.wpAny_rule
abbrev ake:=@PySem.wpAny_letGo
abbrev akf:=@List.getElem?_inj
abbrev akg:=@List.countP_congr
abbrev akh:=@PySem.wpAny_tryCatch
abbrev aki:=@Nat.le_total
abbrev akj:=@Nat.max_eq_right
abbrev akk:=@List.mem_reverse
namespace Lake
namespace L2
open PySem PySem.Spec PyProof.Rows
abbrev Key:=Sum Int Str
abbrev Zd:=List Key
noncomputable def sI:Key->Zt->Bool
 |.inl k,v=>Value.isInt k v
 |.inr x,v=>Value.isStrOf x v
noncomputable def Yi (w:World):Key->Int
 |.inl k=>hashInt k
 |.inr x=>hashStr w x
theorem dQ:∀{k:Key} {v:Zt},sI k v=true->(∃i t,k=Sum.inl i/\v=Value.int i t)\/(∃x t,k=Sum.inr x/\v=Value.str x t)
 |.inl i,v,h=>by
  let⟨t,e⟩:=Value.isInt_shape (k:=i) (v:=v) h;rwa[.inl ⟨i,t,2,e⟩]
 |.inr x,v,h=>by
  let⟨t,e⟩:=Value.isStrOf_shape (x:=x) (v:=v) h;rwa[.inr ⟨x,t,2,e⟩]
def Gk (i:Int)(t:Tok):sI (.inl i) (.int i t)=true:=by simp[sI,Value.isInt]
def Gm (x:Str)(t:Tok):sI (.inr x) (.str x t)=true:=by simp[sI,Value.isStrOf]
def PN (a b:Int):decide ((Sum.inl a:Key)=Sum.inl b)=(a==b):=by
 cbv
def PQ (a b:Str):decide ((Sum.inr a:Key)=Sum.inr b)=decide (a=b):=by
 cbv
def PR (a:Int)(b:Str):decide ((Sum.inl a:Key)=Sum.inr b)=false:=ahD (λq=>nomatch q)
def PV (a:Str)(b:Int):decide ((Sum.inr a:Key)=Sum.inl b)=false:=ahD (λq=>nomatch q)
def bQ (c:Program)(w:World):PySem.KeyKind c w Key where
 is:=sI
 hash:=Yi w
 inj:=λv a b l f=>by
  rcases dQ l with ⟨i,t,rfl,rfl⟩|⟨x,t,rfl,rfl⟩
  ·rcases dQ f with ⟨j,u,rfl,e⟩|⟨y,u,rfl,e⟩
   ·cbv
   cbv
  ·rcases dQ f with ⟨j,u,rfl,e⟩|⟨y,u,rfl,e⟩
   ·rwa[nomatch e]
   cbv
 byValue:=λk v h=>by
  rcases dQ h with ⟨i,t,rfl,rfl⟩|⟨x,t,rfl,rfl⟩ <;> rfl
 pyHash:=λd h=>by
  rcases dQ d with ⟨i,t,rfl,rfl⟩|⟨x,t,rfl,rfl⟩
  ·rwa[wpAny_pyHash_int h]
  ·rwa[wpAny_pyHash_str h]
 eqBool:=λm d h=>by
  rcases dQ m with ⟨i,t,rfl,rfl⟩|⟨x,t,rfl,rfl⟩
  ·rcases dQ d with ⟨j,u,rfl,rfl⟩|⟨y,u,rfl,rfl⟩
   ·rw[PN]at h;rwa[wpAny_eqBool_int h]
   ·rw[PR]at h;rwa[SeqAt.EqAt.int_str i t y u _ _ _ _ h]
  ·rcases dQ d with ⟨j,u,rfl,rfl⟩|⟨y,u,rfl,rfl⟩
   ·rw[PV]at h;rwa[SeqAt.EqAt.str_int x t j u _ _ _ _ h]
   ·rw[PQ]at h;rwa[wpAny_eqBool_str h]
 «strs»:=λk x t v h=>by
  rcases dQ h with ⟨i,u,rfl,e⟩|⟨y,u,rfl,e⟩
  ·rwa[nomatch e]
  ·injection e with g _
   subst g;cases v <;> rfl
def CB (a:Program)(w:World)(i:Int)(t:Tok):(bQ a w).is (.inl i) (.int i t)=true:=Gk i t
def CD (a:Program)(w:World)(x:Str)(t:Tok):(bQ a w).is (.inr x) (.str x t)=true:=Gm x t
end L2
variable {n m i j:Nat}{a b c d:PySem.Addr}{z y:Int}{v u:PySem.Value}{x f:PySem.Str}{e:PySem.Expr}{p:PySem.Pos}{K:Za1}{Q E:PySem.Value->PySem.Shared->Prop}{s t:PySem.Shared}{P:PySem.Program}{w:PySem.World}{h g:PySem.Heap}{R:Za2}{A:PySem.Around}{o:List (PySem.Addr×PySem.Obj)}{M:PySem.Str->Option PySem.Value}{l:Zg}{N:List PySem.Value}{B:Zh}{W:Za3}{U:Unit->PySem.Shared->Prop}{C:List PySem.Expr}{F:List PySem.Addr}{Z:List PySem.Str}
namespace L2
open PySem PySem.Spec PyProof.Rows
inductive V where
 |non|bl (b:Bool)|int (i:Int)|str (x:Str)|mY (b:Array UInt8)|zK (b:UInt64)|ref (a:Zs)|ty (n:String)
 deriving DecidableEq
abbrev Zc:=Option V
abbrev Zb:=List V
def RelV:V->Zt->Prop
 |.non,u=>u=Value.none
 |.bl b,u=>u=Value.bool b
 |.int i,u=>∃t,u=Value.int i t
 |.str x,u=>∃t,u=Value.str x t
 |.mY b,u=>∃t,u=Value.bytes b t
 |.zK b,u=>∃t,u=Value.float b t
 |.ref a,u=>u=Value.ref a
 |.ty n,u=>u=Value.type n
abbrev Vals:Zb->Zk->Prop:=Paired RelV
def Vals.length {xs:Zb}{us:Zk}(r:Vals xs us):⇑xs=⇑us:=Paired.length r
theorem Vals.get:∀{b:Zb} {a:Zk} {i:Nat} {x:V},Vals b a->b[i]?\x->∃u,a[i]?\u/\RelV x u
 |_,_,_,_,.nil,e=>by simp at e
 |_,_,0,_,.cons r _,e=>by simp at e;subst e;rwa[12,r]
 |_,_,i+ 1,x,.cons _ t,e=>by
  let⟨u,d,c⟩:=Vals.get (i:=i) (x:=x) t (by simpa using e);rwa[u,by simpa using d,c]
theorem Vals.set {x:V}(r:RelV x u):∀{xs:Zb} {us:Zk} (i:Nat),Vals xs us->Vals (xs.set i x) (us.set i u)
 |_,_,_,.nil=>.nil
 |_,_,0,.cons _ t=>.cons r t
 |_,_,i+ 1,.cons q t=>.cons q (Vals.set r i t)
theorem Vals.append:∀{b ys:Zb} {a ws:Zk},Vals b a->Vals ys ws->Vals (b++ys) (a++ws)
 |_,_,_,_,.nil,s=>s
 |_,_,_,_,.cons r t,s=>.cons r (Vals.append t s)
theorem Vals.take:∀{xs:Zb} {us:Zk} (n:Nat),Vals xs us->Vals (xs.take n) (us.take n)
 |_,_,0,_=>.nil
 |_,_,_+ 1,.nil=>.nil
 |_,_,n+ 1,.cons r t=>.cons r (Vals.take n t)
theorem Vals.drop:∀{xs:Zb} {us:Zk} (n:Nat),Vals xs us->Vals (xs.drop n) (us.drop n)
 |_,_,0,r=>r
 |_,_,_+ 1,.nil=>.nil
 |_,_,n+ 1,.cons _ t=>Vals.drop n t
def eJ:Zc->Zl->Prop
 |some v,some u=>RelV v u
 |none,none=>True
 |_,_=>False
def KV {a:Type}:List (a×V)->List (a×Zt)->Prop:=Paired λ(p:a×V) (q:a×Zt)=>p.1=q.1/\RelV p.2 q.2
noncomputable def kV:Key->V
 |.inl i=>.int i
 |.inr x=>.str x
inductive HO where
 /-- a list -/
 |lst (xs:Zb)
 /-- a tuple (never changes) -/
 |tup (xs:Zb)
 /-- a dict whose keys are ints and texts;one whose keys are tuples of ints and texts (the empty one is both) -/
 |dK (kvs:List (Key×V))|dT (kvs:List (Zd×V))
 /-- a set of ints:its members,its size -/
 |set (S:Int->Bool) (n:Nat)
 /-- an instance of the class at C,its dict at dx,its attributes -/
 |ins (C dx:Zs) (fs:List (Str×V))
 /-- the dict of the instance at x -/
 |own (x:Zs)
 /-- the dict of an exception -/
 |xd (fs:List (Str×V))
 /-- a bound method,f of x -/
 |met (f x:Zs)
 /-- a range object lo,lo+ 1,.. below hi -/
 |eK (lo hi:Int)
 /-- a thing that is known to the object (the script;a dict while a loop walks it):read,never written while it is so -/
 |cS (o:Obj) (u:HO)
 /-- a code object's table -/
 |fB (ps:Zm)
 /-- any other thing,by what is true of its one object (a def of ae8 own:afi a S n:=HO.ext λh=>..) -/
 |ext (φ:Heap->Prop)
abbrev Hp:=Zs->Option HO
noncomputable def upd (H:Hp)(a:Zs)(o:HO):Hp:=λb=>if b=a then some o else H b
def ah {H:Hp}{o:HO}:upd H a o a\o:=by unfold upd;cbv
def ak {H:Hp}{o:HO}(h:b≠a):upd H a o b=H b:=by unfold upd;rw[ag3 h]
def NM {H:Hp}{o u:HO}:upd (upd H a o) a u=upd H a u:=by
 funext b;unfold upd;cbv
def bY {H:Hp}{o u:HO}(h:H a\o)(c:H b\u)(d:o≠u):a≠b:=by
 cbv
def av {H:Hp}{o:HO}(h:H a\o)(c:H b=none):a≠b:=by
 cbv
section
variable (P:Program) (w:World)
def bZ (H:Hp)(h:Heap)(a:Zs):HO->Prop
 |.lst xs=>⇑xs<=sizeLine/\∃(c:Zk) (n:Nat),Vals xs c/\h.get? a\("list">>>.seq c.toArray n)
 |.tup xs=>⇑xs<=sizeLine/\∃c:Zk,Vals xs c/\IsTup h a c.toArray
 |.dK b=>⇑b<=sizeLine/\(a==sysModules)=false/\∃j,KV b j/\h.DictOf (bQ P w) a j
 |.dT b=>⇑b<=sizeLine/\(a==sysModules)=false/\∃xs:List (Zd×Zs×Zt),
  Paired (λ(p:Zd×V) (q:Zd×Zs×Zt)=>p.1=q.1/\H q.2.1\.tup (p.1.map kV)/\RelV p.2 q.2.2) b xs/\
  ∃o l s,h.get? a\o/\o.ExactDict/\o.data=.dict l s/\l.toList=xs.map (entryOfKey (tupleKind (bQ P w)))/\(xs.map (·.1)).Nodup
 |.set S n=>h.SetOf (intKind P w) a S n
 |.ins C e fs=>H e\.own a/\⇑fs<=1000/\e≠a/\h.get? a\PySem.W.instObj C e/\
  ∃d,h.Ns1 e d/\(∀f,eJ (fs.lookup f) (d f))/\PySem.Within d (fs.map (·.1))
 |.own _=>∃o,h.get? a\o
 |.xd fs=>∃d,h.Ns1 a d/\∀f,eJ (fs.lookup f) (d f)
 |.eK lo r=>∃t u v,h.get? a\("range">>>.fields #[.int lo t,.int r u,.int 1 v])
 |.cS o u=>h.get? a\o/\bZ H h a u
 |.fB m=>h.get? a\{ cls:=.none,data:=.fields m }
 |.met f x=>h.get? a\(PySem.W.methodObj ↑f ↑x)
 |.ext g=>g h/\(∃o,h.get? a\o)/\∀k i:Heap,g k->(∀o,k.get? a\o->i.get? a\o)->g i
def dD (H:Hp)(h:Heap):Prop:=∀a o,H a\o->bZ P w H h a o
end
section
variable {P:Program}{w:World}{H H':Hp}{h h':Heap}{a:Zs}{o:HO}
def bZ.lt (x:bZ P w H h a o):a<h.objs.size:=by
 cases o with
 |lst c=>let⟨_,_,_,_,e⟩:=x;rwa[agX e]
 |tup c=>let⟨_,_,_,p⟩:=x;rwa[p.lt]
 |dK b=>let⟨_,_,_,_,o,_,_,e,_⟩:=x;rwa[agX e]
 |dT b=>let⟨_,_,_,_,o,_,_,e,_⟩:=x;rwa[agX e]
 |set S n=>let⟨o,_,_,_,e,_⟩:=x;rwa[agX e]
 |ins C dx fs=>let⟨_,_,_,e,_⟩:=x;rwa[agX e]
 |own y=>let⟨_,e⟩:=x;rwa[agX e]
 |xd fs=>let⟨_,⟨_,_,_,e,_⟩,_⟩:=x;rwa[agX e]
 |eK lo i=>let⟨_,_,_,e⟩:=x;rwa[agX e]
 |cS j u=>let⟨e,_⟩:=x;rwa[agX e]
 |fB d=>exact agX (show h.get? a=some _ from x)
 |met f y=>exact agX (show h.get? a=some _ from x)
 |ext g=>let⟨_,⟨_,e⟩,_⟩:=x;rwa[agX e]
theorem Paired.Jq {g e:Type}{F G:g->e->Prop}:∀{c:List g} {d:List e},Paired F c d->(∀a b,F a b->G a b)->Paired G c d
 |_,_,.nil,_=>.nil
 |_,_,.cons r t,f=>.cons (f^r) (Paired.Jq t f)
def bZ.fu (x:bZ P w H h a o)(k:∀b u,(b=a\/H b\.own a)->h.get? b\u->h'.get? b\u)
 (I:∀b,H b\.own a->H' b\.own a) (E:∀b m,H b\.tup m->H' b\.tup m):bZ P w H' h' a o:=by
 induction o with
 |lst m=>let⟨z,l,n,r,e⟩:=x;rwa[z,l,n,r,k _ _ (.inl rfl) e]
 |tup m=>let⟨z,l,r,g,e,c⟩:=x;rwa[z,l,r,g,k _ _ (.inl rfl) e,c]
 |dK s=>let⟨z,y,F,r,g,i,j,e,c⟩:=x;rwa[z,y,F,r,g,i,j,k _ _ (.inl rfl) e,c]
 |dT s=>
  let⟨z,y,m,r,g,i,j,e,c⟩:=x;rwa[z,y,m,Paired.Jq r λp q z=>⟨z.1,E^z.2.1,z.2.2⟩,g,i,j,k _ _ (.inl rfl) e,c]
 |set S n=>let⟨g,i,j,t,e,c⟩:=x;rwa[g,i,j,t,k _ _ (.inl rfl) e,c]
 |ins C dx fs=>
  let⟨d,z,ne,e,A,⟨B,i,j,G,c⟩,r⟩:=x;rwa[I _ d,z,ne,k _ _ (.inl rfl) e,A,⟨B,i,j,k _ _ (.inr d) G,c⟩,r]
 |own y=>let⟨g,e⟩:=x;rwa[g,k _ _ (.inl rfl) e]
 |xd fs=>let⟨A,⟨B,i,j,e,c⟩,r⟩:=x;rwa[A,⟨B,i,j,k _ _ (.inl rfl) e,c⟩,r]
 |eK lo M=>let⟨t,u,v,e⟩:=x;rwa[t,u,v,k _ _ (.inl rfl) e]
 |cS g u J=>let⟨e,q⟩:=x;rwa[k _ _ (.inl rfl) e,J q]
 |fB D=>
  let e:h.get? a\{ cls:=.none,data:=.fields D }:=x;show h'.get? a\{ cls:=.none,data:=.fields D };rwa[k a _ (.inl rfl) e]
 |met f y=>
  let e:h.get? a\(PySem.W.methodObj ↑f ↑y):=x;show h'.get? a\PySem.W.methodObj ↑f ↑y;rwa[k a _ (.inl rfl) e]
 |ext L=>let⟨p,⟨o,e⟩,st⟩:=x;rwa[st _ _ p λo q=>k _ _ (.inl rfl) q,⟨o,k _ _ (.inl rfl) e⟩,st]
def dD.lt (x:dD P w H h)(e:H a\o):a<h.objs.size:=(x a o e).lt
def dD.fresh (x:dD P w H h)(e:h.objs.size<=a):H a=none:=by
 cases q:H a with
 |none=>rfl
 |some u=>exact absurd (ahc (x.lt q) e) (ahV _)
def dD.kept (x:dD P w H h)(k:∀b u,h.get? b\u->h'.get? b\u):dD P w H h':=λa o e=>
 (x a o e).fu (λb u _ q=>k b u q) (λ_ q=>q) λ_ _ q=>q
def dD.laid (x:dD P w H h)(k:∀b u,h.get? b\u->h'.get? b\u)(g:h.objs.size<=a)(new:bZ P w (upd H a o) h' a o):dD P w (upd H a o) h':=λb u e=>by
 let f:=x.fresh g;cases d:b=a
 ·subst d;rw[ah]at e;cbv
 ·rw[ak d]at e;rwa[(x b u e).fu (λc v _ q=>k c v q) (λc q=>[ak (av q f)]▸q) λc i q=>[ak (av q f)]▸q]
end
def Rd (H:Hp)(a:Zs)(u:HO):Prop:=H a\u\/∃o,H a\(.cS o u)
def Rd.ok {H:Hp}{u:HO}(r:Rd H a u)(x:dD P w H h):bZ P w H h a u:=by
 rcases r with r|⟨o,r⟩
 ·rwa[x a u r]
 ·let⟨_,q⟩:=x a _ r;rwa[q]
def tN:Option HO->Prop
 |some (.lst _)=>True
 |some (.dK _)=>True
 |some (.dT _)=>True
 |some (.set _ _)=>True
 |some (.ins _ _ _)=>True
 |some (.ext _)=>True
 |_=>False
section
variable {P:Program}{w:World}{H:Hp}{h h':Heap}{x e:Zs}{o':HO}
def dD.write (ok:dD P w H h)(mu:tN (H x))(l:e=x\/H e\.own x)(k:∀b u,b≠e->h.get? b\u->h'.get? b\u)(g:∃u,h'.get? e\u)
 (new:bZ P w (upd H x o') h' x o'):dD P w (upd H x o') h':=λb u q=>by
 let a:∀c y,H c\.own y->c≠x:=λc y r z=>by subst z;rw[r]at mu;rwa[mu]
 let i5:∀c d,H c\.tup d->c≠x:=λc d r z=>by subst z;rw[r]at mu;rwa[mu]
 cases i:b=x
 ·subst i;rw[ah]at q;cbv
 ·rw[ak i]at q;cases f:b=e
  ·let j:H b\(.own x):=by
    rcases l with z|z
    ·cbv
    ·rw[f];rwa[z]
   rw[q]at j;ext j;let⟨v,m⟩:=g;rwa[v,by cbv]
  ·refine(ok b u q).fu (λc v hc r=>k c v ?_ r) (λc r=>[ak (a c b r)]▸r) λc d r=>by rw[ak (i5 c d r)];rwa[r]
   cbv
end
structure Un (fs ex:Zn) (H H':Hp) (h h':Heap):Prop where
 keep:∀b o,h.get? b\o->H b=none->b∉fs->b∉ex->h'.get? b\o
 slot:∀b o,h.get? b\o->H b=none->b∈fs->b∉ex->∃sl,h'.get? b\{ o with slots:=sl }
 free:∀b o,h.get? b\o->H b=none->b∉ex->H' b=none
 there:∀b o,h.get? b\o->b∉ex->∃o',h'.get? b\o'
 ia:∀b xs,H b\.tup xs->H' b\(.tup xs)
 gN:∀b o u,H b\.cS o u->H' b\(.cS o u)
 ib:∀b ps,H b\.fB ps->∃more,H' b\(.fB (ps++more))
section
variable {fs ex:Zn}{H H1:Hp}{h h1 h':Heap}{a x e:Zs}{o:HO}
def Un.any (u:Un fs ex H H1 h h1){b:Zs}{c:Obj}(q:h.get? b\c)(n:H b=none)(f:b∉ex):∃sl,h1.get? b\{ c with slots:=sl }:=by
 cases d:b∈fs
 ·rwa[u.slot b c q n d f]
 ·rwa[c.slots,u.keep b c q n d f]
def Un.kept (k:∀b u,h.get? b\u->h'.get? b\u):Un fs ex H H h h':=
 ⟨λb c q _ _ _=>k b c q,λb c q _ _ _=>⟨c.slots,k b c q⟩,λ_ _ _ n _=>n,λb c q _=>⟨c,k b c q⟩,λ_ _ q=>q,λ_ _ _ q=>q,λ_ d q=>⟨#[],by rw[q];simp⟩⟩
def Un.refl:Un fs ex H H h h:=Un.kept λ_ _ q=>q
def Un.laid (k:∀b u,h.get? b\u->h'.get? b\u)(d:h.objs.size<=a)(c:H a=none):Un fs ex H (upd H a o) h h' where
 keep:=λb u q _ _ _=>k b u q
 slot:=λb u q _ _ _=>⟨u.slots,k b u q⟩
 free:=λb u q n _=>by rw[ak (ahf (ahc (agX q) d))];rwa[n]
 there:=λb u q _=>⟨u,k b u q⟩
 ia:=λb f q=>by rw[ak (av q c)];rwa[q]
 gN:=λb u f q=>by rw[ak (av q c)];rwa[q]
 ib:=λb g q=>⟨#[],by rw[ak (av q c),q];simp⟩
def Un.write (mu:tN (H x))(l:e=x\/H e\.own x)(k:∀b u,b≠e->h.get? b\u->h'.get? b\u)(g:∃u,h'.get? e\u):Un fs ex H (upd H x o) h h':=by
 let i:∀b,H b=none->b≠x:=λb n z=>by subst z;rw[n]at mu;rwa[mu]
 let d:∀b,H b=none->b≠e:=λb n z=>by
  cbv
 let c:∀b u,H b\u->¬tN (some u)->b≠x:=λb u q nm z=>by cbv
 rwa[⟨λb u q n _ _=>k b u (d b n) q,λb u q n _ _=>⟨u.slots,k b u (d b n) q⟩,λb u q n _=>[ak (i b n)]▸n,λb u q _=>?_,λb f q=>[ak (c b _ q λz=>z)]▸q,λb u f q=>[ak (c b _ q λz=>z)]▸q,λb j q=>⟨#[],by rw[ak (c b _ q λz=>z),q];simp⟩⟩]
 cbv
end
noncomputable def Ly (h:Heap)(H:Hp):Zn:=(List.range h.objs.size).filter λa=>(H a).isSome
def pB (h:Heap)(H:Hp):Heap:=PySem.W.hideAll h (Ly h H)
def Gn (h:Heap)(H:Hp):(pB h H).objs.size=h.objs.size:=PySem.W.hideAll_size _ _
def ui {H:Hp}{o:Obj}(e:h.get? b\o)(n:H b=none):(pB h H).get? b\o:=
 ajO _ e λa=>by
  let q:(H b).isSome=true:=(aie.mp a).2
  cbv
def NP {H:Hp}{o:Obj}(e:(pB h H).get? b\o):h.get? b\o/\H b=none:=by
 let a:h.get? b\o:=PySem.W.of_hideAll (Ly h H) e;erw[a]
 cases q:H b with
 |none=>rfl
 |some x=>
  let c:b∈Ly h H:=aie.mpr ⟨ahj.mpr (agX a),by simp[q]⟩;let z:(pB h H).get? b=none:=PySem.W.hideAll_none (Ly h H) c
  cbv
noncomputable def NQ (g h:Heap)(L:Zs):List (Zs×Obj):=(List.range h.objs.size).filterMap λa=>if a=L\/(g.get? a).isSome=true then none else (h.get? a).map λo=>(a,o)
def rest (g h:Heap)(L d:Zs):List (Zs×Obj):=(NQ g h L).filter λp=>decide (p.1≠d)
end L2
variable {H I J:L2.Hp}{q:L2.V}{L:List L2.V}
namespace L2
open PySem PySem.Spec PyProof.Rows
structure Mod (K:Za1) (mg:Str->Zl) (base:Heap):Prop where
 ve:K.In base
 glob:base.Ns mainGlobals mg
 blt:∃mb,base.Ns builtinsNs mb/\∀x:Str,x≠"__name__"->mb x=bootBuiltins x
 nolimit:base.NoLimit
structure Cx where
 prog:Program
 w:World
 K:Za1
 mg:Str->Zl
 base:Heap
 A:Around
 N:Zp
 dX:Zu
 uj:Hp
 env:Env
 outer:Zq
 stack:Zq
 ex:Zn
 fn:Str->Bool
 calm:Bool
 pn:List (Zs×Obj)
 xe:Zt->Zu->Prop
def cJ (l:Zq):Zn:=l.filterMap (·.frame)
abbrev Cx.fs (X:Cx):Zn:=cJ X.outer
def PX (sc:Scope)(x:Str):Prop:=sc.names.lookup x=some .local\/sc.names.lookup x=some .cell\/sc.names.lookup x=some .free
def Loc (sc:Scope)(x:Str):Prop:=sc.names.lookup x=some .local\/sc.names.lookup x=some .cell
def Look (env:Env)(h:Heap)(m:Str->Zl)(x:Str)(u:Zt):Prop:=
 (env.kindOf x=some .local/\m x\u)\/((env.kindOf x=some .cell\/env.kindOf x=some .free)/\∃c,env.cells.lookup x\c/\h.IsCell c (some u))
structure Cx.Ok (X:Cx):Prop where
 mod:Mod X.K X.mg X.base
 kind:X.env.scope.kind=.function
 glob:X.env.globals=mainGlobals
 blt:X.env.builtins=builtinsNs
 above:X.dX.heap.objs.size<=X.env.locals
 inj:∀x y c,X.env.cells.lookup x\c->X.env.cells.lookup y\c->x=y
 has:∀x,(X.env.kindOf x=some .cell\/X.env.kindOf x=some .free)->∃c,X.env.cells.lookup x\c
 zL:∀x c,X.fn x=true->X.env.cells.lookup x\c->X.dX.heap.objs.size<=c
 hd:X.calm=true->X.A.handled=none
 frames:X.A.frames\X.stack
 Dh:X.stack=X.outer\/(X.stack=X.env::X.outer/\X.env.frame\X.env.locals)
 Lz:∀b∈X.ex,b≠X.env.locals/\∀x c,X.env.cells.lookup x\c->c≠b
 bs:∀b o,X.base.get? b\o->X.dX.heap.get? b\o/\X.uj b=none
 qN:X.base.objs.size<=X.dX.heap.objs.size
 uk:∀b o,X.base.get? b\o->b∉X.ex
 wZ:∀b∈X.ex,b∉X.fs
 i6:X.dX.heap.FunFrames X.base X.outer
 tO:∀b∈X.fs,X.uj b=none
structure Inv (X:Cx) (pins:List (Zs×Obj)) (σ:List Zc) (H:Hp) (s:Zu):Prop where
 ok:X.Ok
 os:s.os=X.dX.os
 bare:AllBare s.gens
 base:Un X.fs X.ex X.uj H X.dX.heap s.heap
 loc:∃m,s.heap.Ns X.env.locals m/\∀(i:Nat) (x:Str) (v:V),X.N[i]?\x->σ[i]?\some v->PX X.env.scope x->∃u,RelV v u/\Look X.env s.heap m x u
 cell:∀x c,X.env.cells.lookup x\c->∃v,s.heap.IsCell c v
 free:H X.env.locals=none
 gO:∀x c,X.env.cells.lookup x\c->H c=none
 pin:∀p∈X.pn++pins,s.heap.get? p.1\p.2/\H p.1=none/\p.1≠X.env.locals/\p.1∉X.fs/\∀v,p.2.data≠.cell v
 aM:dD X.prog X.w H s.heap
 len:⇑σ=⇑X.N
section
variable {X:Cx}{pins:List (Zs×Obj)}{σ:List Zc}{H H':Hp}{s:Zu}{h':Heap}
def Cx.Ok.Yj (ok:X.Ok){b:Zs}{o:Obj}(e:X.base.get? b\o):b∉X.fs:=λa=>by
 have:=(ok.i6.mem a).1
 cbv
def Inv.bs (I:Inv X pins σ H s):∀b o,X.base.get? b\o->s.heap.get? b\o/\H b=none:=λb o e=>
 ⟨I.base.keep b o (I.ok.bs b o e).1 (I.ok.bs b o e).2 (I.ok.Yj e) (I.ok.uk b o e),I.base.free b o (I.ok.bs b o e).1 (I.ok.bs b o e).2 (I.ok.uk b o e)⟩
def Inv.bk (I:Inv X pins σ H s):∀b o,X.base.get? b\o->s.heap.get? b\o:=λb o e=>(I.bs b o e).1
def Inv.mod (I:Inv X pins σ H s):Mod X.K X.mg X.base:=I.ok.mod
def Inv.dm (I:Inv X pins σ H s):X.K.In s.heap:=I.ok.mod.ve.keeps I.bk
def Inv.lt (I:Inv X pins σ H s):X.env.locals<↥s:=let ⟨_,a,_⟩:=I.loc;a.lt
def Inv.sz (I:Inv X pins σ H s):X.dX.heap.objs.size<=↥s:=agT I.ok.above (ajQ I.lt)
def Inv.EV (I:Inv X pins σ H s){a:Zs}(h:↥s<=a):a∉X.fs:=λc=>by
 let⟨_,o,b,_⟩:=I.ok.i6.mem c;rwa[absurd (ahc (agX b) (agT I.sz h)) (ahV _)]
def Inv.lg (I:Inv X pins σ H s):∀x c,X.env.cells.lookup x\c->c≠X.env.locals:=λx c e z=>by
 let⟨v,o,f,hd⟩:=I.cell x c e;let⟨m,⟨h,g,d,b,a,_⟩,_⟩:=I.loc
 cbv
def Inv.i6 (I:Inv X pins σ H s):s.heap.FunFrames X.base X.outer:=by
 let all:∀(l:Zq),(∀b∈cJ l,b∈X.fs)->X.dX.heap.FunFrames X.base l->s.heap.FunFrames X.base l:=by
  intro l
  induction l with
  |nil=>intro _ _;trivial
  |cons env r i=>
   intro f j;let⟨g,⟨L,o,d,m,h,hd⟩,k⟩:=j;let a:L∈X.fs:=f L (by unfold cJ;cbv);let⟨sl,e⟩:=I.base.slot L o h (I.ok.tO L a) a λz=>I.ok.wZ L z a
   rwa[g,⟨L,_,d,m,e,hd⟩,i (λb c=>f b (by unfold cJ;rw[List.filterMap_cons,d];rwa[ag4 _ c])) k]
 rwa[all X.outer (λ_ c=>c) I.ok.i6]
def Inv.stack (I:Inv X pins σ H s):s.heap.FunFrames X.base X.stack:=by
 rcases I.ok.Dh with e|⟨e,a⟩
 ·rw[e];rwa[I.i6]
 ·rw[e];let⟨m,b,_⟩:=I.loc;rwa[.cons (by rw[I.ok.kind];decide) a b ?_ I.i6];rwa[Heap.get?_none_of_le (agT I.ok.qN I.ok.above)]
def Inv.zM (I:Inv X pins σ H s):∀b∈cJ X.stack,b∈X.env.locals::X.fs:=λb a=>by
 rcases I.ok.Dh with e|⟨e,c⟩
 ·cbv
 ·rw[e]at a;unfold cJ at a;rw[List.filterMap_cons,c]at a;rwa[a]
def Inv.nZ (I:Inv X pins σ H s):∀b∈cJ X.stack,H b=none:=λb a=>by
 rcases agW.mp (I.zM b a) with e|a
 ·rw[e];rwa[I.free]
 ·let⟨_,o,c,_⟩:=I.ok.i6.mem a;rwa[I.base.free b o c (I.ok.tO b a) λz=>I.ok.wZ b z a]
def Inv.step {g':Array GenState}{t':Nat}{d':Drawn}{ch:Zn}(I:Inv X pins σ H s)
 (g:∀b∈ch,(b∈X.ex\/X.dX.heap.objs.size<=b)/\b≠X.env.locals/\(∀x c,X.env.cells.lookup x\c->c≠b)/\∀p∈X.pn++pins,p.1≠b)
 (keep:∀b o,b≠X.env.locals->b∉X.fs->b∉ch->s.heap.get? b\o->H b=none->h'.get? b\o)
 (slot:∀b o,b≠X.env.locals->b∈X.fs->b∉ch->s.heap.get? b\o->H b=none->∃sl,h'.get? b\{ o with slots:=sl }) (free:∀b o,b∉ch->s.heap.get? b\o->H b=none->H' b=none)
 (there:∀b o,b∉ch->s.heap.get? b\o->∃B,h'.get? b\B)
 (ia:∀b j,H b\.tup j->H' b\.tup j) (gN:∀b o u,H b\.cS o u->H' b\.cS o u) (ib:∀b C,H b\.fB C->∃more,H' b\.fB (C++more))
 (ns:∀m,s.heap.Ns X.env.locals m->h'.Ns X.env.locals m) (aM:dD X.prog X.w H' h') (J:AllBare g'):
 Inv X pins σ H' { s with heap:=h',gens:=g',drawn:=d',toks:=t' }:=by
 let A:∀b o,X.dX.heap.get? b\o->b≠X.env.locals:=λb o e=>ahf (ahc (agX e) I.ok.above)
 let h:∀b o,X.dX.heap.get? b\o->b∉X.ex->b∉ch:=λb o e a w=>by
  rcases (g b w).1 with z|z
  ·rwa[a z]
  ·rwa[absurd (ahc (agX e) z) (ahV _)]
 let cellK:∀x c,X.env.cells.lookup x\c->∀v,s.heap.IsCell c v->h'.IsCell c v:=λx c e v ζ=>by
  let⟨o,y,hd⟩:=ζ
  let f:c∉ch:=λz=>(g c z).2.2.1 x c e rfl
  cases hc:c∈X.fs
  ·let⟨sl,q⟩:=slot c o (I.lg x c e) hc f y (I.gO x c e);rwa[_,q,hd]
  ·rwa[o,keep c o (I.lg x c e) hc f y (I.gO x c e),hd]
 rwa[⟨I.ok,I.os,J,⟨λb o e n w a=>?_,λb o e n w a=>?_,λb o e n a=>?_,λb o e a=>?_,λb j e=>ia b j (I.base.ia b j e),λb o j e=>gN b o j (I.base.gN b o j e),λb C e=>?_⟩,5,λx c e=>?_,5,λx c e=>?_,λp F=>?_,aM,I.len⟩]
 ·rwa[keep b o (A b o e) w (h b o e a) (I.base.keep b o e n w a) (I.base.free b o e n a)]
 ·let⟨sl,t⟩:=I.base.slot b o e n w a;let⟨E,D⟩:=slot b _ (A b o e) w (h b o e a) t (I.base.free b o e n a);rwa[E,D]
 ·let⟨B,t⟩:=I.base.there b o e a;rwa[free b B (h b o e a) t (I.base.free b o e n a)]
 ·let⟨B,t⟩:=I.base.there b o e a;rwa[there b B (h b o e a) t]
 ·let⟨O,t⟩:=I.base.ib b C e
  cbv
 ·let⟨m,M,L⟩:=I.loc;rwa[⟨m,ns m M,λi x v t D N=>?_⟩];let⟨u,r,l⟩:=L i x v t D N;erw[u,r];rcases l with l|⟨k,c,e,z⟩
  ·rwa[.inl l]
  ·rwa[.inr ⟨k,c,e,cellK x c e _ z⟩]
 ·let⟨v,z⟩:=I.cell x c e;rwa[v,cellK x c e v z]
 ·let⟨m,⟨o,_,_,y,_⟩,_⟩:=I.loc;rwa[free _ o (λz=>(g _ z).2.1 rfl) y I.free]
 ·let⟨v,o,y,hd⟩:=I.cell x c e;rwa[free c o (λz=>(g c z).2.2.1 x c e rfl) y (I.gO x c e)]
 ·let⟨e,n,ne,G,d⟩:=I.pin p F;let f:p.1∉ch:=λz=>(g p.1 z).2.2.2 p F rfl
  rwa[keep p.1 p.2 ne G f e n,free p.1 p.2 f e n,ne,G,d]
def Inv.un {t':Nat}(I:Inv X pins σ H s)(u:Un X.fs [] H H' s.heap h')(aM:dD X.prog X.w H' h'):Inv X pins σ H' { s with heap:=h',toks:=t' }:=by
 let⟨m,⟨o,p,v,g,r⟩,_⟩:=id I.loc;let⟨sl,i⟩:=u.any g I.free (by simp)
 exact I.step (g':=s.gens) (d':=s.drawn) (ch:=[]) (λ_ z=>nomatch z) (λb o _ c _ e n=>u.keep b o e n c (by simp)) (λb o _ c _ e n=>u.slot b o e n c (by simp)) (λb o _ e n=>u.free b o e n (by simp)) (λb o _ e=>u.there b o e (by simp)) u.ia u.gN u.ib (λt j=>by
  let⟨q,f,d,a,h⟩:=j;rw[g]at a;ext a;rwa[_,f,d,i,h]) aM I.bare
def Inv.call {g':Array GenState}{t':Nat}{d':Drawn}{ch:Zn}(I:Inv X pins σ H s)(u:Un (cJ X.stack) ch H H' s.heap h')(aM:dD X.prog X.w H' h')(l:AllBare g')
 (d:∀b∈ch,(b∈X.ex\/X.dX.heap.objs.size<=b)/\b≠X.env.locals/\(∀x c,X.env.cells.lookup x\c->c≠b)/\∀p∈X.pn++pins,p.1≠b):
 Inv X pins σ H' { s with heap:=h',gens:=g',drawn:=d',toks:=t' }:=by
 let⟨m,⟨o,t,y,i,r⟩,_⟩:=id I.loc;let⟨sl,g⟩:=u.any i I.free λz=>(d _ z).2.1 rfl
 exact I.step (ch:=ch) d (λb o g k hc e n=>u.keep b o e n (λz=>(agW.mp (I.zM b z)).elim g k) hc) (λb o _ _ hc e n=>u.any e n hc) (λb o hc e n=>u.free b o e n hc) (λb o hc e=>u.there b o e hc) u.ia u.gN u.ib (λw q=>by
  let⟨v,h,f,a,j⟩:=q;rw[i]at a;ext a;rwa[_,h,f,g,j]) aM l
def Inv.turned {t':Nat}{it:Zs}(I:Inv X pins σ H s)(k:∀b o,b≠it->s.heap.get? b\o->h'.get? b\o)(C:H it=none)(a:it≠X.env.locals)
 (g:it∈X.ex\/X.dX.heap.objs.size<=it) (d:∀x c,X.env.cells.lookup x\c->c≠it) (j:∀p∈X.pn++pins,p.1≠it):Inv X pins σ H { s with heap:=h',toks:=t' }:=by
 let l:∀b u,H b\u->b≠it:=λb u e z=>by cbv
 refine I.step (g':=s.gens) (d':=s.drawn) (ch:=[it]) (λb f=>?_) (λb o _ _ hc e _=>k b o (λz=>hc (by simp[z])) e) (λb o _ _ hc e _=>⟨o.slots,k b o (λz=>hc (by simp[z])) e⟩) (λ_ _ _ _ n=>n)
  (λb o hc e=>⟨o,k b o (λz=>hc (by simp[z])) e⟩) (λ_ _ e=>e) (λ_ _ _ e=>e) (λb y e=>⟨#[],by rw[e];simp⟩) (λm t=>?_) (λb u e=>?_) I.bare
 ·let e:b=it:=by simpa using f
  subst e;rwa[g,a,d,j]
 ·let⟨o,i,w,h,r⟩:=t;rwa[o,i,w,k _ o (ahZ a) h,r]
 ·rwa[(I.aM b u e).fu (λc v hc q=>k c v ?_ q) (λ_ q=>q) λ_ _ q=>q]
  cbv
def Inv.tok (I:Inv X pins σ H s)(t:Nat):Inv X pins σ H { s with toks:=t }:=I.un (h':=s.heap) (t':=t) Un.refl I.aM
def Inv.kept {t':Nat}(I:Inv X pins σ H s)(k:∀b u,s.heap.get? b\u->h'.get? b\u):Inv X pins σ H { s with heap:=h',toks:=t' }:=I.un (Un.kept k) (I.aM.kept k)
def Inv.laid {o:HO}{t':Nat}(I:Inv X pins σ H s)(k:∀b u,s.heap.get? b\u->h'.get? b\u)(c:↥s<=a)(new:bZ X.prog X.w (upd H a o) h' a o):
 Inv X pins σ (upd H a o) { s with heap:=h',toks:=t' }:=I.un (Un.laid k c (I.aM.fresh c)) (I.aM.laid k c new)
def Inv.write {x e:Zs}{o:HO}{t':Nat}(I:Inv X pins σ H s)(mu:tN (H x))(c:e=x\/H e\.own x)(k:∀b u,b≠e->s.heap.get? b\u->h'.get? b\u)(a:∃u,h'.get? e\u)
 (new:bZ X.prog X.w (upd H x o) h' x o):Inv X pins σ (upd H x o) { s with heap:=h',toks:=t' }:=I.un (Un.write mu c k a) (I.aM.write mu c k a new)
def Inv.jh (I:Inv X pins σ H s)(h:∀p∈o,s.heap.get? p.1\p.2/\H p.1=none/\p.1≠X.env.locals/\p.1∉X.fs/\∀v,p.2.data≠.cell v):Inv X o σ H s:=
 ⟨I.ok,I.os,I.bare,I.base,I.loc,I.cell,I.free,I.gO,λp a=>(agS.mp a).elim (λz=>I.pin p (ag6 _ z)) (h p),I.aM,I.len⟩
def um (d:Z.Nodup){i j:Nat}{x:Str}(a:Z[i]?\x)(b:Z[j]?\x):i=j:=by
 let⟨g,c⟩:=agE.mp a;let⟨f,e⟩:=agE.mp b;rwa[(List.getElem_inj d).mp (c.trans e.symm)]
def ye {M:Model}{v:V}(I:Inv X pins σ H s)(hN:X.N.Nodup)(L:X.N[i]?\x)(l:Loc X.env.scope x)(r:RelV v u)
 (h:∀O,Inv X pins (σ.set i (some v)) H O->(∃a,Heap.SameBut a s.heap O.heap/\(a=X.env.locals\/X.env.cells.lookup x\a))->U () O) (hf:X.fn x=true\/X.env.scope.names.lookup x=some .local:=by trivial):wpAny M A (storeName X.env x u) U E s:=by
 let⟨m,hn,hl⟩:=id I.loc;let J:(X.env.scope.kind==.class || (X.env.scope.kind==.module && X.env.locals !=X.env.globals))=false:=by rw[I.ok.kind];rfl
 let B:i < ⇑σ:=by rw[I.len];rwa[(agE.mp L).1]
 let lg:=I.lg
 let tracked:∀{a:Zs} {h':Heap},(∃o,s.heap.get? a\o/\H a=none)->Heap.SameBut a s.heap h'->dD X.prog X.w H h':=λ{a h'} ha f b ob e=>by
  let⟨_,_,T⟩:=ha;rwa[(I.aM b ob e).fu (λc Q t q=>(f.2 c ?_).trans q) (λ_ q=>q) λ_ _ q=>q]
  cbv
 rcases l with G|G
 ·rwa[wpAny_storeName_local G hn (λh' hn' f=>?_) J];let⟨oL,_,_,hoL,_⟩:=id hn;rwa[h _ ⟨I.ok,I.os,I.bare,⟨λb o e n C l=>?_,λb o e n C l=>?_,I.base.free,λb o e l=>?_,I.base.ia,I.base.gN,I.base.ib⟩,⟨_,hn',λj y R g w e3=>?_⟩,λy c e=>?_,I.free,I.gO,λp hp=>?_,tracked ⟨oL,hoL,I.free⟩ f,by simpa using I.len⟩ ⟨_,f,.inl rfl⟩]
  ·rwa[(f.2 b (ahf (ahc (agX e) I.ok.above))).trans (I.base.keep b o e n C l)]
  ·let⟨Y,g⟩:=I.base.slot b o e n C l;rwa[Y,(f.2 b (ahf (ahc (agX e) I.ok.above))).trans g]
  ·let⟨o',g⟩:=I.base.there b o e l;rwa[o',(f.2 b (ahf (ahc (agX e) I.ok.above))).trans g]
  ·cases D:j=i
   ·subst D;rw[L]at g;ext g;rw[ahA B]at w;ext w;rwa[u,r,.inl ⟨G,by simp⟩]
   ·rw[ah2 (ahZ D)]at w;let⟨u',S,q⟩:=hl j y R g w e3;erw[u',S];rcases q with ⟨k,e⟩|⟨k,c,e,z⟩
    ·rwa[.inl ⟨k,?_⟩];have:y≠x:=λe=>D (um hN g (e ▸ L))
     simp[this,e]
    ·rwa[.inr ⟨k,c,e,z.sameBut f (lg y c e)⟩]
  ·let⟨Q,z⟩:=I.cell y c e;rwa[Q,z.sameBut f (lg y c e)]
  ·let⟨e,n,ne,nf,d⟩:=I.pin p hp;rwa[(f.2 p.1 ne).trans e,n,ne,nf,d]
 ·let F:X.fn x=true:=by
   rcases hf with z|z
   ·rwa[z]
   ·cbv
  let⟨c,t⟩:=I.ok.has x (.inl G);let⟨Q,z⟩:=I.cell x c t;rwa[wpAny_storeName_cell I.ok.kind G t z (λh' Z f=>?_)];let⟨oc,P,afj⟩:=id z;rwa[h (s<*h') ⟨I.ok,I.os,I.bare,⟨λb o e n C l=>?_,λb o e n C l=>?_,I.base.free,λb o e l=>?_,I.base.ia,I.base.gN,I.base.ib⟩,⟨m,hn.sameBut f (ahZ (lg x c t)),λj y R g w e3=>?_⟩,λy N e=>?_,I.free,I.gO,λp hp=>?_,tracked ⟨oc,P,I.gO x c t⟩ f,by simpa using I.len⟩ ⟨c,f,.inr t⟩]
  ·rwa[(f.2 b (ahf (ahc (agX e) (I.ok.zL x c F t)))).trans (I.base.keep b o e n C l)]
  ·let⟨Y,g⟩:=I.base.slot b o e n C l;rwa[Y,(f.2 b (ahf (ahc (agX e) (I.ok.zL x c F t)))).trans g]
  ·let⟨o',g⟩:=I.base.there b o e l;rwa[o',(f.2 b (ahf (ahc (agX e) (I.ok.zL x c F t)))).trans g]
  ·cases D:j=i
   ·subst D;rw[L]at g;ext g;rw[ahA B]at w;ext w;rwa[u,r,.inr ⟨.inl G,c,t,Z⟩]
   ·rw[ah2 (ahZ D)]at w;let⟨u',S,q⟩:=hl j y R g w e3;erw[u',S];rcases q with q|⟨k,N,e,z'⟩
    ·rwa[.inl q]
    ·rwa[.inr ⟨k,N,e,z'.sameBut f ?_⟩];rintro rfl;rwa[D (um hN g (I.ok.inj _ _ _ e t ▸ L))]
  ·cases W:N=c
   ·cbv
   ·let⟨w2,z2⟩:=I.cell y N e;rwa[w2,z2.sameBut f W]
  ·let⟨e,n,ne,nf,d⟩:=I.pin p hp;rwa[⟨(f.2 p.1 ?_).trans e,n,ne,nf,d⟩]
   cbv
def pC {M:Model}{v:V}(I:Inv X pins σ H s)(d:X.N.Nodup)(e:X.N[i]?\x)(f:Loc X.env.scope x)(r:RelV v u)
 (h:∀a,Inv X pins (σ.set i (some v)) H a->U () a) (b:X.fn x=true\/X.env.scope.names.lookup x=some .local:=by trivial):wpAny M A (storeName X.env x u) U E s:=
 ye I d e f r (λa c _=>h a c) b
def Inv.EW {s':Zu}{ch:Zn}(I:Inv X pins σ H s)(h:s'.os=s.os)(u:Un (cJ X.stack) ch H H' s.heap s'.heap)(aM:dD X.prog X.w H' s'.heap)(i:AllBare s'.gens)
 (a:∀b∈ch,(b∈X.ex\/X.dX.heap.objs.size<=b)/\b≠X.env.locals/\(∀x c,X.env.cells.lookup x\c->c≠b)/\∀p∈X.pn++pins,p.1≠b):Inv X pins σ H' s':=by
 let⟨h',g,d,f,j⟩:=s';let e:j=s.os:=h;subst e;rwa[I.call (g':=g) (t':=f) (d':=d) u aM i a]
end
abbrev XK:=Zt->Zo->Hp->Prop
abbrev St:=List Zc
abbrev VK:=V->Hp->Prop
abbrev TE:=St->Hp->VK->Prop
abbrev TT:=St->Hp->(Bool->Hp->Prop)->Prop
abbrev TA:=St->Hp->(Zb->Hp->Prop)->Prop
structure Ends where
 nx:St->Hp->Prop
 rt:VK
 bk:St->Hp->Prop:=λ_ _=>False
 ct:St->Hp->Prop:=λ_ _=>False
abbrev TS:=Ends->St->Hp->Prop
def EP (X:Cx)(a:List (Zs×Obj))(d:St)(Q:VK)(u:Zt)(c:Zu):Prop:=∃v b,Inv X a d b c/\RelV v u/\Q v b
def TP (X:Cx)(a:List (Zs×Obj))(e:St)(Q:Bool->Hp->Prop)(b:Bool)(d:Zu):Prop:=∃c,Inv X a e c d/\Q b c
def AP (X:Cx)(a:List (Zs×Obj))(f:St)(Q:Zb->Hp->Prop)(e:Zk)(d:Zu):Prop:=∃b c,Inv X a f c d/\Vals b e/\Q b c
def SP (X:Cx)(b:List (Zs×Obj))(D:Ends)(f:Flow)(d:Zu):Prop:=
 match f with
 |.next=>∃ a c,Inv X b a c d/\D.nx a c
 |.brk=>∃ a c,Inv X b a c d/\D.bk a c
 |.cont=>∃ a c,Inv X b a c d/\D.ct a c
 |.ret u=>∃v a c,Inv X b a c d/\RelV v u/\D.rt v c
def PE (X:Cx)(e:Expr)(t:TE):Prop:=
 ∀(a:List (Zs×Obj)) (s:Zu) (b:St) (H:Hp) (Q:VK),Inv X a b H s->t b H Q->X⁻¹ X.A (eval e X.env) (EP X a b Q) X.xe s
def PT (X:Cx)(e:Expr)(t:TT):Prop:=
 ∀(a:List (Zs×Obj)) (s:Zu) (b:St) (H:Hp) (Q:Bool->Hp->Prop),Inv X a b H s->t b H Q->X⁻¹ X.A (isTrue e X.env (eval e X.env)) (TP X a b Q) X.xe s
def PW (X:Cx)(e:Expr)(t:TT):Prop:=
 ∀(whole:Sem Zt) (a:List (Zs×Obj)) (s:Zu) (b:St) (H:Hp) (Q:Bool->Hp->Prop),Inv X a b H s->t b H Q->X⁻¹ X.A (isTrue e X.env whole) (TP X a b Q) X.xe s
def PW.pt {X:Cx}{t:TT}(h:PW X e t):PT X e t:=h _
def PA (X:Cx)(c:Zr)(t:TA):Prop:=
 ∀(pos:Pos) (a:List (Zs×Obj)) (s:Zu) (b:St) (H:Hp) (Q:Zb->Hp->Prop),Inv X a b H s->t b H Q->X⁻¹ X.A (spliced (backTo pos (starEach c X.env))) (AP X a b Q) X.xe s
def PS (X:Cx)(st:Stmt)(t:TS):Prop:=
 ∀(a:List (Zs×Obj)) (s:Zu) (b:St) (H:Hp) (D:Ends),Inv X a b H s->t D b H->X⁻¹ X.A (exec st X.env) (SP X a D) X.xe s
def iJ (X:Cx)(st:List Stmt)(t:TS):Prop:=
 ∀(a:List (Zs×Obj)) (s:Zu) (b:St) (H:Hp) (D:Ends),Inv X a b H s->t D b H->X⁻¹ X.A (execs st X.env) (SP X a D) X.xe s
def a9 {c:Type}{t:Sem c}{Q b:c->Zu->Prop}{M:Model}(h:wpAny M A t Q E s)(d:∀a s,Q a s->b a s):wpAny M A t b E s:=ahF h d λ_ _ x=>x
end L2
variable {D:L2.St}{r:L2.TE}{G:L2.Ends}{X:L2.Cx}
namespace L2
open PySem PySem.Spec PyProof.Rows
section
variable {X:Cx}
def bin {b:Expr}{l:TE}(B:PE X e r)(o:PE X b l){a:List (Zs×Obj)}{s:Zu}{c:St}{H:Hp}{R:V->V->Hp->Prop}(I:Inv X a c H s)(h:r c H λx k=>l c k λy d=>R x y d)
 {m:Type} {Q:m->Zu->Prop} {f:Zt->Zt->Sem m}
 (w:∀v u j x y d,Inv X a c d j->RelV x v->RelV y u->R x y d->X⁻¹ X.A (f v u) Q X.xe j):
 X⁻¹ X.A (eval e X.env) (λv i=>X⁻¹ X.A (eval b X.env) (λu g=>X⁻¹ X.A (f v u) Q X.xe g) X.xe i) X.xe s:=by
 rwa[a9 (B a s c H _ I h) λv z ζ=>?_];let⟨x,k,p,n,q⟩:=ζ
 rwa[a9 (o a z c k _ p q) λu j ζ=>?_];let⟨y,d,t,A,C⟩:=ζ
 rwa[w v u j x y d t n A C]
inductive i7 (i:Nat) (σ:St) (H:Hp) (Q:VK):Prop
 |mk (v:V):σ[i]?\some v->Q v H->i7 i σ H Q
def tC (v:V):TE:=λ_ H Q=>Q v H
def PY {pos:Pos}(o:X.N[i]?\x)(t:PX X.env.scope x)(f:(x==("__debug__":Str))=false:=by decide)(g:(x==("__classdict__":Str))=false:=by decide):PE X (.Name x pos) (i7 i):=by
 intro d s n H Q I h;let⟨v,e,h⟩:=h;let⟨m,p,k⟩:=I.loc;let⟨u,r,l⟩:=k i x v o e t;let fin:EP X d n Q u s:=⟨v,H,I,r,h⟩;rcases l with ⟨b,q⟩|⟨b,c,j,a⟩
 ·rwa[wpAny_Name (wpAny_loadName_local I.ok.kind b p q fin) f]
 ·rcases b with b|b
  ·rwa[wpAny_Name (wpAny_loadName_cell I.ok.kind b j a fin) f]
  ·rwa[wpAny_Name (wpAny_loadName_free I.ok.kind b j a fin g) f]
def ax {i j pos}:PE X (.Constant (.int i) j pos) (tC (.int i)):=λ_ _ _ H _ I h=>wpAny_Constant_int ⟨.int i,H,I.tok _,⟨12⟩,h⟩
def mZ {b j pos}:PE X (.Constant (.bool b) j pos) (tC (.bl b)):=λ_ _ _ H _ I h=>Constant_bool ⟨.bl b,H,I,2,h⟩
def du {j pos}:PE X (.Constant .none j pos) (tC .non):=λ_ _ _ H _ I h=>Constant_none ⟨.non,H,I,2,h⟩
def PZ {x j pos}:PE X (.Constant (.str x) j pos) (tC (.str x)):=λ_ _ _ H _ I h=>Calls.Constant_str ⟨.str x,H,I.tok _,⟨12⟩,h⟩
def Gl (X:Cx)(x:Str):Prop:=X.env.kindOf x=some .globalImplicit
def jY {pos:Pos}(I:Inv X o D H s)(c:Gl X x)(b:X.mg x\u)(h:Q u s)
 (a:(x==("__debug__":Str))=false:=by decide):X⁻¹ X.A (eval (.Name x pos) X.env) Q E s:=
 Calls.Name_function_global I.ok.kind c (Calls.loadGlobal_global ([I.ok.glob]▸I.mod.glob.keeps I.bk) b h) a
def gY {pos:Pos}(I:Inv X o D H s)(f:Gl X x)(b:X.mg x=none)(c:bootBuiltins x\u)(h:Q u s)
 (g:x≠"__name__":=by decide) (a:(x==("__debug__":Str))=false:=by decide):X⁻¹ X.A (eval (.Name x pos) X.env) Q E s:=by
 let⟨i,e,d⟩:=I.mod.blt;rwa[Calls.Name_function_global I.ok.kind f (Calls.loadGlobal_builtin ([I.ok.glob]▸I.mod.glob.keeps I.bk) b ([I.ok.blt]▸e.keeps I.bk) ((d x g).trans c) h) a]
def lO {v:V}{pos:Pos}(d:Gl X x)(b:X.mg x=none)(c:bootBuiltins x\u)(r:RelV v u)(e:x≠"__name__":=by decide)(a:(x==("__debug__":Str))=false:=by decide):PE X (.Name x pos) (tC v):=
 λ_ _ _ H _ I h=>gY I d b c ⟨v,H,I,r,h⟩ e a
def t2I (e b:TE)(k:Int->Int->Hp->Prop):St->Hp->Prop:=λ a H=>e a H λx d=>b a d λy c=>∃i j,x=.int i/\y=.int j/\k i j c
variable {a b:Expr}{ta tb:TE}{pos:Pos}
def PC (X:Cx)(g:CmpOp)(a b:Expr)(t:TE):Prop:=
 ∀(c:List (Zs×Obj)) (s:Zu) (f:St) (H:Hp) (Q:VK),Inv X c f H s->t f H Q->
  X⁻¹ X.A (eval a X.env) (λv e=>X⁻¹ X.A (eval b X.env) (λu d=>X⁻¹ X.A (compareOp g v u) (EP X c f Q) X.xe d) X.xe e) X.xe s
def Jr (b:Expr){c:CmpOp}(h:c≠.In)(f:c≠.NotIn):behindInMarks c b=false:=by
 let d:(c==CmpOp.In)=false:=by cbv
 let e:(c==CmpOp.NotIn)=false:=by cbv
 cases b <;> simp[behindInMarks,d,e]
def Yk (p:Int->Int->Bool)(ta tb:TE):TE:=λ d H Q=>t2I ta tb (λi j c=>Q (.bl (p i j)) c) d H
abbrev LC:TE->TE->TE:=Yk λi j=>decide (i<j)
def tB (t:TE):TT:=λ e H Q=>t e H λx d=>∃c,x=.bl c/\Q c d
def Gp {g:CmpOp}(h:PC X g a b r)(f:behindInMarks g b=false:=by first|rwa[Jr _ (by decide) (by decide)]|rfl):PT X (.Compare a [g] [b] pos) (tB r):=by
 intro e s o H Q I m;rwa[wpAny_isTrue_Compare1 (a9 (h e s o H _ I m) λv t f=>a9 f λu p i=>a9 i λc w ζ=>?_) f];let⟨x,n,k,j,l⟩:=ζ;let⟨d,rfl,q⟩:=l;ext j;rwa[aiY ⟨n,k,q⟩]
def ic (h:PE X e r)(m:∀whole,isTrue e X.env whole=(do let v <-whole;standAt e.pos;holding [v] (truthy v)):=by intro _;rfl):PT X e (tB r):=by
 intro c s l H Q I j;rwa[isTrue_plain (a9 (h c s l H _ I j) λv n ζ=>?_) (m _)];let⟨x,k,g,f,i⟩:=ζ;let⟨d,rfl,q⟩:=i;ext f;rwa[aiY ⟨k,g,q⟩]
variable {tA LD:TT}{rest:Zr}
def Yl (t u:TT):TT:=λ e H Q=>t e H λc d=>if c=true then u e d Q else Q false d
def tOr (t u:TT):TT:=λ e H Q=>t e H λc d=>if c=true then Q true d else u e d Q
def sJ (f:PT X a tA):PW X (.BoolOp .And [a] pos) tA:=by
 intro i d s g H Q I h;rwa[isTrue_and (a9 (f d s g H Q I h) λc j e=>?_)]
 cases c with
 |true=>exact isTrue_and_nil e
 |false=>exact e
def P1 (f:PT X a tA):PW X (.BoolOp .Or [a] pos) tA:=by
 intro i d s g H Q I h;rwa[isTrue_or (a9 (f d s g H Q I h) λc j e=>?_)]
 cases c with
 |false=>exact isTrue_or_nil e
 |true=>exact e
def vf (j:PT X a tA)(m:PW X (.BoolOp .And (b::rest) pos) LD):PW X (.BoolOp .And (a::b::rest) pos) (Yl tA LD):=by
 intro k d s i H Q I h;rwa[isTrue_and (a9 (j d s i H _ I h) λc l ζ=>?_)];let⟨e,g,f⟩:=ζ
 cases c with
 |true=>exact m k d l i e Q g f
 |false=>rwa[e,g,f]
def UI (j:PT X a tA)(m:PW X (.BoolOp .Or (b::rest) pos) LD):PW X (.BoolOp .Or (a::b::rest) pos) (tOr tA LD):=by
 intro k d s i H Q I h;rwa[isTrue_or (a9 (j d s i H _ I h) λc l ζ=>?_)];let⟨e,g,f⟩:=ζ
 cases c with
 |true=>rwa[e,g,f]
 |false=>exact m k d l i e Q g f
def UJ (ta tb:TE):TE:=λ e H Q=>ta e H λx d=>∃c,x=.bl c/\if c=true then tb e d Q else Q (.bl false) d
def P8 {e}(h:PE X a r):PE X (.BoolOp e [a] pos) r:=λc s f H Q I d=>BoolOp_one (h c s f H Q I d)
def P9 (j:PE X a ta)(m:PE X (.BoolOp .And (b::rest) pos) tb):PE X (.BoolOp .And (a::b::rest) pos) (UJ ta tb):=by
 intro d s i H Q I h;rwa[BoolOp_and (a9 (j d s i H _ I h) λv l ζ=>?_)];let⟨x,f,g,k,e⟩:=ζ;let⟨c,rfl,e⟩:=e;ext k;rwa[aiY ?_]
 cases c with
 |true=>exact m d l i f Q g e
 |false=>rwa[.bl false,f,g,2,e]
end
def aD (K:Za1)(H:Hp)(a:Zs)(c:Zb):Prop:=
 Rd H a (.lst c)\/
  ∃(o:Obj) (b:Zm) (n:Nat),K.lookup a\o/\o.cls=.type "list"/\o.dict=none/\o.data=.seq b n/\b.size<=sizeLine/\Vals c b.toList
def bN (K:Za1)(H:Hp)(a:Zs)(c:Zb):Prop:=
 Rd H a (.tup c)\/
  ∃(o:Obj) (b:Zm) (n:Nat),K.lookup a\o/\o.cls=.type "tuple"/\o.data=.seq b n/\b.size<=sizeLine/\Vals c b.toList
noncomputable def Ym:Zt->Zc
 |.none=>some .non
 |.bool b=>some (.bl b)
 |.int i _=>some (.int i)
 |.str x _=>some (.str x)
 |.bytes b _=>some (.mY b)
 |.float b _=>some (.zK b)
 |.ref a=>some ↑a
 |.type n=>some (.ty n)
 |_=>none
def RelV.abs {x:V}(r:RelV x u):Ym u\x:=by
 cases x with
 |non=>ext r;rfl
 |bl _=>ext r;rfl
 |int _=>let⟨t,rfl⟩:=r;rfl
 |str _=>let⟨t,rfl⟩:=r;rfl
 |mY _=>let⟨t,rfl⟩:=r;rfl
 |zK _=>let⟨t,rfl⟩:=r;rfl
 |ref _=>ext r;rfl
 |ty _=>ext r;rfl
def RelV.inj {x:V}(r:RelV x u)(a:RelV q u):x=q:=Za0 (r.abs.symm.trans a.abs)
theorem Vals.inj:∀{b ys:Zb} {a:Zk},Vals b a->Vals ys a->b=ys
 |_,_,_,.nil,.nil=>rfl
 |_,_,_,.cons r t,.cons c d=>by rw[r.inj c,Vals.inj t d]
section
variable {X:Cx}{pins:List (Zs×Obj)}{σ:St}{H:Hp}{s:Zu}{a:Zs}{xs ys:Zb}
def aD.of (h:H a\.lst xs):aD K H a xs:=.inl (.inl h)
def bN.of (h:H a\.tup xs):bN K H a xs:=.inl (.inl h)
def Inv.list (I:Inv X pins σ H s)(h:aD X.K H a xs):∃b:Zk,Vals xs b/\PlainL s.heap a b.toArray/\⇑xs<=sizeLine:=by
 rcases h with h|⟨o,b,n,c,hc,hd,d,hz,r⟩
 ·let⟨z,b,n,r,e⟩:=h.ok I.aM;rwa[b,r,⟨_,n,e,222⟩,z]
 ·erw[b.toList,r,⟨o,n,I.dm a o c,hc,hd,3⟩];let e:=⇑r;simp only[aio]at e;ext
def Inv.tuple (I:Inv X pins σ H s)(h:bN X.K H a xs):∃b:Zk,Vals xs b/\IsTup s.heap a b.toArray/\⇑xs<=sizeLine:=by
 rcases h with h|⟨o,b,n,c,hc,d,hz,r⟩
 ·let⟨z,b,r,p⟩:=h.ok I.aM;rwa[b,r,p,z]
 ·erw[b.toList,r,⟨o,I.dm a o c,hc,n,3⟩];let e:=⇑r;simp only[aio]at e;ext
def Inv.uo (I:Inv X pins σ H s)(h:aD X.K H a xs)(i:aD X.K H a ys):xs=ys:=by
 let⟨c,r,⟨o,n,e,_,_,d⟩,_⟩:=I.list h;let⟨b,j,⟨l,k,g,_,_,f⟩,_⟩:=I.list i;rw[e]at g;ext g;rw[d]at f;injection f with d1 _
 have:c=b:=by simpa using ahS Array.toList d1
 subst this;rwa[r.inj j]
def Inv.Gq (I:Inv X pins σ H s)(h:bN X.K H a xs)(i:bN X.K H a ys):xs=ys:=by
 let⟨c,r,⟨o,e,_,n,d⟩,_⟩:=I.tuple h;let⟨b,j,⟨l,g,_,k,f⟩,_⟩:=I.tuple i;rw[e]at g;ext g;rw[d]at f;injection f with d1 _
 have:c=b:=by simpa using ahS Array.toList d1
 subst this;rwa[r.inj j]
end
abbrev Cx.wish (X:Cx) (E:Zt->Zu->Prop):Cx:={ X with xe:=E }
abbrev Cx.tQ (X:Cx):Cx:=X.wish λ_ _=>False
def Cx.Ok.wish (ok:X.Ok)(E:Zt->Zu->Prop):(X.wish E).Ok:=
 ⟨ok.mod,ok.kind,ok.glob,ok.blt,ok.above,ok.inj,ok.has,ok.zL,ok.hd,ok.frames,ok.Dh,ok.Lz,ok.bs,ok.qN,ok.uk,ok.wZ,ok.i6,ok.tO⟩
def Cx.Ok.ie (ok:(X.wish E).Ok):X.Ok:=
 ⟨ok.mod,ok.kind,ok.glob,ok.blt,ok.above,ok.inj,ok.has,ok.zL,ok.hd,ok.frames,ok.Dh,ok.Lz,ok.bs,ok.qN,ok.uk,ok.wZ,ok.i6,ok.tO⟩
section
variable {X:Cx}{pins:List (Zs×Obj)}{σ:St}{H:Hp}{s:Zu}{E:Zt->Zu->Prop}
def Inv.wish (I:Inv X pins σ H s)(E:Zt->Zu->Prop):Inv (X.wish E) pins σ H s:=⟨I.ok.wish E,I.os,I.bare,I.base,I.loc,I.cell,I.free,I.gO,I.pin,I.aM,I.len⟩
def Inv.ie (I:Inv (X.wish E) pins σ H s):Inv X pins σ H s:=⟨I.ok.ie,I.os,I.bare,I.base,I.loc,I.cell,I.free,I.gO,I.pin,I.aM,I.len⟩
def SP.ie {f:Flow}(h:SP (X.wish E) pins G f t):SP X pins G f t:=by
 cases f with
 |next=>let⟨a,b,I,q⟩:=h;rwa[a,b,I.ie,q]
 |brk=>let⟨a,b,I,q⟩:=h;rwa[a,b,I.ie,q]
 |cont=>let⟨a,b,I,q⟩:=h;rwa[a,b,I.ie,q]
 |ret u=>let⟨v,a,b,I,r,q⟩:=h;rwa[v,a,b,I.ie,r,q]
def iJ.tQ {st:List Stmt}{t:TS}(h:iJ X.tQ st t):iJ X st t:=λpins s σ H D I a=>
 ahF (h pins s σ H D (I.wish _) a) (λ_ _ q=>q.ie) λ_ _ z=>False.elim z
end
section
variable {X:Cx}{st:Stmt}{rest:List Stmt}{t u:TS}{e:Expr}{te:TE}{pos:Pos}
def UK:TS:=λD a H=>D.nx a H
def aO (t u:TS):TS:=λD a H=>t { D with nx:=u D } a H
def bj:iJ X [] UK:=λ_ _ a H _ I h=>aiZ ⟨a,H,I,h⟩
def ai (d:PS X st t)(c:iJ X rest u):iJ X (st::rest) (aO t u):=by
 intro a s k H D I h;rwa[wpAny_execs_cons (a9 (d a s k H { D with nx:=u D } I h) λf i q=>?_)]
 cases f with
 |next=>
  let⟨b,j,g,q⟩:=q;rwa[c a i b j D g q]
 |ret v=>exact q
 |brk=>exact q
 |cont=>exact q
def au (b:PS X st t):iJ X [st] t:=by
 intro a s c H D I h;rwa[wpAny_execs_cons (a9 (b a s c H D I h) λf d q=>?_)]
 cases f with
 |next=>exact aiZ q
 |ret v=>exact q
 |brk=>exact q
 |cont=>exact q
def Qa:TS:=λD a H=>D.bk a H
def uq:PS X (.Break pos) Qa:=λ_ _ a H _ I h=>wpAny_Break ⟨a,H,I,h⟩
def Inv.quiet (I:Inv X o D H s):interactive X.env=false:=by simp[interactive,I.ok.kind]
def UL (te:TE):TS:=λD a H=>te a H λ_ b=>D.nx a b
def aV (d:PE X e te)(g:swapsWith e none pos.line X.env=pure false:=by rfl):PS X (.Expr e pos) (UL te):=by
 intro a s b H D I h;rwa[wpAny_Expr_any (a9 (d a s b H _ I h) λv k ζ=>?_) I.quiet g];let⟨x,c,i,j,f⟩:=ζ;rwa[⟨b,c,i,f⟩]
def Yn (te:TE):TS:=λD a H=>te a H D.rt
def bx (d:PE X e te):PS X (.Return (some e) pos) (Yn te):=by
 intro a s b H D I h;rwa[wpAny_Return_some (a9 (d a s b H _ I h) λv j ζ=>?_)];let⟨x,c,i,f,g⟩:=ζ;rwa[⟨x,b,c,i,f,g⟩]
def UM:TS:=λD _ H=>D.rt .non H
def w9:PS X (.Return none pos) UM:=λ_ _ a H _ I h=>wpAny_Return_none ⟨.non,a,H,I,2,h⟩
def Yo (c:TT)(t u:TS):TS:=λD a H=>c a H λb d=>if b=true then t D a d else u D a d
def bJ {c:Expr}{a b:List Stmt}{j:TT}(p:PT X c j)(o:iJ X a t)(n:iJ X b u):PS X (.If c a b pos) (Yo j t u):=by
 intro f s g H D I h;rwa[wpAny_If (a9 (p f s g H _ I h) λd m ζ=>?_)];let⟨l,i,k⟩:=ζ
 cases d with
 |true=>exact o f m g l D i k
 |false=>exact n f m g l D i k
def Gr:TS:=λ_ _ _=>False
def Js:PS X st Gr:=λ_ _ _ _ _ _ h=>h.elim
def ky {a:List Stmt}:iJ X a Gr:=λ_ _ _ _ _ _ h=>h.elim
end
abbrev TG:=V->St->Hp->(St->Hp->Prop)->Prop
abbrev Dj:=Zb->St->Hp->(St->Hp->Prop)->Prop
def PG (X:Cx)(target:Expr)(t:TG):Prop:=
 ∀(a:List (Zs×Obj)) (s:Zu) (d:St) (H:Hp) (v:V) (u:Zt) (Q:St->Hp->Prop),Inv X a d H s->RelV v u->t v d H Q->
  X⁻¹ X.A (assign target X.env u) (λ_ e=>∃ b c,Inv X a b c e/\Q b c) X.xe s
def LJ (X:Cx)(h:Zr)(t:Dj):Prop:=
 ∀(a:List (Zs×Obj)) (s:Zu) (f:St) (H:Hp) (d:Zb) (c:Zk) (Q:St->Hp->Prop),Inv X a f H s->Vals d c->t d f H Q->
  X⁻¹ X.A (assignInOrder ((assignEach h X.env).map (·.2)) c) (λ_ g=>∃ b e,Inv X a b e g/\Q b e) X.xe s
abbrev Jt:=V->V->V->Hp->(Hp->Prop)->Prop
def Qb (X:Cx)(t:Jt):Prop:=
 ∀(a:List (Zs×Obj)) (s:Zu) (e:St) (H:Hp) (o i v:V) (d b u:Zt) (Q:Hp->Prop),Inv X a e H s->RelV o d->RelV i b->RelV v u->t o i v H Q->
  X⁻¹ X.A (setItem d b u) (λ_ f=>∃c,Inv X a e c f/\Q c) X.xe s
section
variable {X:Cx}{pos:Pos}
def lA (i:Nat):TG:=λv a H Q=>Q (a.set i (some v)) H
def Dl (d:X.N.Nodup)(e:X.N[i]?\x)(f:Loc X.env.scope x)(b:X.fn x=true\/X.env.scope.names.lookup x=some .local:=by trivial):PG X (.Name x pos) (lA i):=by
 intro a s j H v u Q I r h;rwa[wpAny_assign_Name (pC I d e f r (λg c=>⟨_,H,c,h⟩) b)]
def Yp:Dj:=λb a H Q=>b=[]/\Q a H
inductive LK (t:TG) (u:Dj) (vs:Zb) (σ:St) (H:Hp) (Q:(St->Hp->Prop)):Prop
 |mk (v:V) (r:Zb):vs=v::r->(t v σ H λ fm H'=>u r fm H' Q)->LK t u vs σ H Q
def ji:LJ X [] Yp:=by
 intro a s b H d c Q I r h;let⟨e,h⟩:=h;subst e;rwa[assignInOrder_nil ⟨b,H,I,h⟩]
def cF {t:TG}{u:Dj}(g:PG X e t)(c:LJ X C u)
 (l:(assignEach (e::C) X.env).map (·.2)=assign e X.env::(assignEach C X.env).map (·.2):=by rfl):LJ X (e::C) (LK t u):=by
 intro a s m H o q Q I r h;let⟨v,p,n,h⟩:=h;subst n
 cases r with
 |cons r i=>
  rw[l];rwa[assignInOrder_cons (a9 (g a s m H _ _ _ I r h) λ_ k ζ=>?_)];let⟨b,j,d,f⟩:=ζ;rwa[c a k b j _ _ Q d i f]
inductive Qc (K:Za1) (n:Nat) (t:Dj) (v:V) (σ:St) (H:Hp) (Q:(St->Hp->Prop)):Prop
 |mk (a:Zs) (xs:Zb):v=↑a->bN K H a xs->⇑xs=n->t xs σ H Q->Qc K n t v σ H Q
def kz {k:Nat}{t:Dj}(B:X.calm=true)(h:LJ X C t)
 (y:⇑(assignEach C X.env)=n:=by rfl) (d:(assignEach C X.env).findIdx? (·.1)=none:=by rfl):PG X (.Tuple C k pos) (Qc X.K n t):=by
 intro c s g H v u Q I r f;let⟨a,x,A,m,w,f⟩:=f;subst A;ext r;let⟨p,q,i,E⟩:=I.tuple m;rwa[assign_Tuple_tuple (I.ok.hd B) i (by simp[y,<-w,⇑q]) d λl z=>?_]
 let j:Inv X c g H (s<*l):=I.kept (t':=s.toks) λb o e=>z b o (ahf (agX e)) e
 rwa[h c _ g H x _ Q j ∅ f]
def Yq (to b:TE)(t:Jt):TG:=λv a H Q=>to a H λo d=>b a d λi c=>t o i v c λe=>Q a e
def oh {i:Expr}{to:TE}{t:Jt}(q:PE X e to)(B:PE X i r)(A:Qb X t)
 (G:∀v,assign (.Subscript e i pos) X.env v=(do
  let c <-holding [v] (eval e X.env)
  let d <-holding [v,c] (eval i X.env)
  standAt pos
  holding [v,c,d] (setItem c d v)
  release [v,c,d] []):=by intro _;rfl):PG X (.Subscript e i pos) (Yq to r t):=by
 intro b s f H v u Q I a h;rwa[agB (ahQ (a9 (q b s f H _ I h) λc z ζ=>?_))];let⟨x,w,j,g,n⟩:=ζ;rwa[agB (ahQ (a9 (B b z f w _ j n) λd m ζ=>?_))];let⟨y,D,p,C,E⟩:=ζ;rwa[agB (ajB (agB (ahQ (a9 (A b m f D x y v c d u _ p g C a E) λ_ F ζ=>?_))))];let⟨k,l,o⟩:=ζ;rwa[wpAny_release ⟨f,k,l,o⟩]
def xc (b:TE)(g:TG):TS:=λD a H=>b a H λx c=>g x a c D.nx
def jE {a:Expr}{g:TG}(p:PE X a r)(f:PG X e g)(o:swapsWithSole [e] a pos.line X.env=pure false:=by rfl)(l:swappedStores [e] a X.env=pure none:=by rfl)
 (k:(assignEach [e] X.env).map (·.2)=[assign e X.env]:=by rfl):PS X (.Assign [e] a pos) (xc r g):=by
 intro b s c H D I h;rwa[wpAny_Assign_stores (a9 (p b s c H _ I h) λv n ζ=>?_) o l];let⟨x,m,i,d,j⟩:=ζ;rw[k];rwa[a9 (f b n c m x v _ i d j) λ_ t q=>q]
def Qd {pos':Pos}(o:X.N.Nodup)(l:X.N[i]?\x)(n:Loc X.env.scope x)(p:PE X e r)(k:swapsWith e (some (.Name x pos')) pos.line X.env=pure false:=by rfl)(g:X.fn x=true\/X.env.scope.names.lookup x=some .local:=by trivial):
 PS X (.Assign [.Name x pos'] e pos) (xc r (lA i)):=by
 intro a s m H D I h;rwa[wpAny_Assign_Name (a9 (p a s m H _ I h) λv t ζ=>?_) k];let⟨y,j,c,b,d⟩:=ζ;rwa[pC c o l n b (λq f=>⟨_,j,f,d⟩) g]
inductive ipI (f:Int->Int->Int) (x:V) (y:V) (H:Hp) (Q:VK):Prop
 |mk (i j:Int):x=.int i->y=.int j->Q (.int (f i j)) H->ipI f x y H Q
end
section
variable {X:Cx}{pos:Pos}
def Qe (c:TT)(h:TS):TS:=λD a H=>∃W:Nat->St->Hp->Prop,(∃m,W m a H)/\∀m a H,W m a H->
 c a H λb e=>if b=true then ∃N:St->Hp->Prop,(∀ d g,N d g->∃f,f<m/\W f d g)/\h { D with nx:=N,ct:=N,bk:=D.nx } a e else D.nx a e
def eM {body:List Stmt}{r:TT}{u:TS}(w:PassesOwn (model X.prog X.w) X.A X.env X.xe)(P:PT X e r)(E:iJ X body u):PS X (.While e body [] pos) (Qe r u):=by
 intro c s O H D I h;let⟨W,⟨J,L⟩,turn⟩:=h;rwa[wpAny_While (codeAny_whileLoop (λn B=>∃ i z,Inv X c i z B/\W n i z) ?_ J ⟨O,H,I,L⟩)];rintro n M ⟨d,x,F,C⟩;rwa[ai0 w (a9 (P c M d x _ F (turn n d x C)) λb G ζ=>?_)];let⟨y,t,k⟩:=ζ
 cases b with
 |true=>
  let⟨N,A,k⟩:=k;rwa[ai0 w (a9 (E c G d y _ t k) λf Q j=>?_)]
  cases f with
  |next=>
   let⟨a,g,o,m⟩:=j;let⟨p,q,l⟩:=A a g m;rwa[p,q,a,g,o,l]
  |cont=>
   let⟨a,g,o,m⟩:=j;let⟨p,q,l⟩:=A a g m;rwa[p,q,a,g,o,l]
  |brk=>exact j
  |ret v=>exact j
 |false=>
  rwa[aiZ ⟨d,y,t,k⟩]
end
structure It where
 go:Nat->Hp->Prop
 lT:Nat->Hp->V->Hp->Prop
 stop:Nat->Hp->Prop
def pD (X:Cx)(a:List (Zs×Obj))(H:Hp)(b:Zs):Prop:=
 H b=none/\b≠X.env.locals/\b∉X.fs/\(b∈X.ex\/X.dX.heap.objs.size<=b)/\(∀x c,X.env.cells.lookup x\c->c≠b)/\∀p∈X.pn++a,p.1≠b
def Inv.pE (a:Inv X o D H s)(d:↥s<=b)(g:I b=none):pD X o I b:=by
 rwa[⟨g,ahT (ahc a.lt d),a.EV d,.inr (agT a.sz d),λx c e z=>?_,λp f z=>?_⟩]
 ·let⟨v,q⟩:=a.cell x c e;rwa[absurd (ahc q.lt ([z]▸d)) (ahV _)]
 ·rwa[absurd (ahc (agX (a.pin p f).1) ([z]▸d)) (ahV _)]
structure Turn (P:Program) (w:World) (K:Za1) (tg:Expr) (J:It) (fp:Zn) (it:Zs) (tn:Nat->Heap->Prop):Prop where
 mem:it∈fp
 obj:∀i h,tn i h->∀b∈fp,∃o,h.get? b\o/\∀v,o.data≠.cell v
 keep:∀i h h',tn i h->(∀b∈fp,∀o,h.get? b\o->h'.get? b\o)->tn i h'
 item:∀(X:Cx),X.prog=P->X.w=w->X.K=K->X.calm=true->∀(i:Nat) (pins:List (Zs×Obj)) (s:Zu) (σ:St) (H:Hp) (E:Zt->Zu->Prop),Inv X pins σ H s->(∀b∈fp,pD X pins H b)->tn i s.heap->J.go i H->
  (P<|>w) X.A (pyNext ↑it) (λr s1=>∃u,r\u/\
   (P<|>w) X.A (letOwnedTupleGo tg ↑it u) (λ_ s2=>∃x H',Inv X pins σ H' s2/\RelV x u/\J.lT i H x H'/\tn (i+ 1) s2.heap/\∀b∈fp,H' b=none) E s1) E s
 done:∀(X:Cx),X.prog=P->X.w=w->X.K=K->X.calm=true->∀(i:Nat) (pins:List (Zs×Obj)) (s:Zu) (σ:St) (H:Hp) (E:Zt->Zu->Prop),Inv X pins σ H s->(∀b∈fp,pD X pins H b)->tn i s.heap->J.stop i H->
  (P<|>w) X.A (pyNext ↑it) (λr s1=>r=none/\Inv X pins σ H s1) E s
 self:∀(A:Around) (i:Nat) (s:Zu) (Q:Zt->Zu->Prop) (E:Zt->Zu->Prop),tn i s.heap->Q ↑it s->(P<|>w) A (pyIter ↑it) Q E s
abbrev TI:=St->Hp->(It->Hp->Prop)->Prop
def VY (X:Cx)(a:List (Zs×Obj))(h:St)(g:Expr)(R:It->Hp->Prop)(c:Zt)(s2:Zu):Prop:=
 ∃(it:Zs) (f:Zn) (e:Nat->Heap->Prop) (J:It) (d:Hp),c=↑it/\Inv X a h d s2/\Turn X.prog X.w X.K g J f it e/\e 0 s2.heap/\(∀b∈f,pD X a d b)/\R J d
def PI (X:Cx)(d iter:Expr)(c:TI):Prop:=
 ∀(a:List (Zs×Obj)) (s:Zu) (b:St) (H:Hp) (R:It->Hp->Prop),Inv X a b H s->c b H R->
  X⁻¹ X.A (eval iter X.env) (λv e=>X⁻¹ X.A (pyIter v) (VY X a b d R) X.xe e) X.xe s
def zC {M:Model}{it:Zs}{o:Obj}{n:String}{b:Zm}(d:s.heap.get? it\o)(f:o.cls=.type n)(c:o.data=.fields b)
 (g:["enumerate","zip","dict_itemiterator","dict_reverseitemiterator","odict_iterator","itertools.zip_longest","itertools.pairwise"].contains n=false) (a:U () s):wpAny M A (letOwnedTupleGo e ↑it u) U E s:=by
 cases e <;> first
  |rwa[agI a]
  |(cases u <;> first
   |rwa[agI a]
   |(rwa[agB (wpAny_load d ?_)]
     rw[f,c];show wpAny M A (if (["enumerate","zip","dict_itemiterator","dict_reverseitemiterator","odict_iterator","itertools.zip_longest","itertools.pairwise"].contains n && b[0]?==some (rawInt _))=true then _ else _) U E s;rw[ag3 (by cbv)];rwa[agI a]))
def yf (K:Za1)(a:Zs):It:=
 ⟨λi H=>∃xs x,aD K H a xs/\xs[i]?\x,λi H x b=>b=H/\∀xs,aD K H a xs->xs[i]?\x,λi H=>∃xs,aD K H a xs/\⇑xs<=i⟩
def yg (K:Za1)(a:Zs):It:=
 ⟨λi H=>∃xs x,bN K H a xs/\xs[i]?\x,λi H x b=>b=H/\∀xs,bN K H a xs->xs[i]?\x,λi H=>∃xs,bN K H a xs/\⇑xs<=i⟩
noncomputable def tR (lo:Int)(n:Nat):It:=⟨λi _=>i<n,λi H x a=>a=H/\x=.int (lo+ i),λi _=>n<=i⟩
def Gs (a it:Zs):Turn P w K e (yf K a) [it] it (λi h=>h.IsListIter it a i) where
 mem:=by simp
 obj:=λi h st b j=>by
  let f:b=it:=by simpa using j
  subst f;let⟨o,f,c,d⟩:=st
  cbv
 keep:=λi h m st k=>st.at λo f=>k it (by simp) o f
 item:=by
  intro X G B z M i g s L H E I q st r;subst G B z;let⟨T,x,n,D⟩:=r;let⟨y,A,p,R⟩:=I.list n;let⟨u,U,W⟩:=A.get D;let⟨t,v,V,J,F,C⟩:=q it (by simp);rwa[wpAny_pyNext_list_item st p.isList (x:=u) (by simpa using U) λm l Y=>?_]
  let O:Inv X g L H (s<*m):=I.turned (t':=s.toks) (λb o j f=>(Y.2 b j).trans f) t v J F C;let⟨o,f,c,d⟩:=id l;rwa[u,2,zC (s:=(s<*m)) f c d ⋯ ⟨x,H,O,W,⟨2,λys S=>[I.uo S n]▸D⟩,l,λb j=>(q b j).1⟩]
 done:=by
  intro X G B z M i g s L H E I q st r;subst G B z;let⟨T,n,D⟩:=r;let⟨y,A,p,R⟩:=I.list n;let⟨t,v,V,J,F,C⟩:=q it (by simp);let Z:=⇑A;rwa[wpAny_pyNext_list_end (I.ok.hd M) st p.isList (by simp;omega) λm Q=>⟨2,I.turned (t':=s.toks) (λb o j f=>Q b o j f) t v J F C⟩]
 self:=λ_ _ _ _ _ st h=>wpAny_pyIter_listiter st h
def EX (a it:Zs):Turn P w K e (yg K a) [it] it (λi h=>h.IsTupleIter it a i) where
 mem:=by simp
 obj:=λi h st b j=>by
  let f:b=it:=by simpa using j
  subst f;let⟨o,f,c,d⟩:=st
  cbv
 keep:=λi h n st k=>st.at λo f=>k it (by simp) o f
 item:=by
  intro X G B z M i g s L H E I r st t;subst G B z;let⟨T,x,q,D⟩:=t;let⟨l,A,p,R⟩:=I.tuple q;let⟨u,U,W⟩:=A.get D;let⟨v,y,V,J,F,C⟩:=r it (by simp);rwa[wpAny_pyNext_tuple_item st (show s.heap.IsTuple a l.toArray from p) (x:=u) (by simpa using U) λn m Y=>?_]
  let O:Inv X g L H (s<*n):=I.turned (t':=s.toks) (λb o j f=>(Y.2 b j).trans f) v y J F C;let⟨o,f,c,d⟩:=id m;rwa[u,2,zC (s:=(s<*n)) f c d ⋯ ⟨x,H,O,W,⟨2,λys S=>[I.Gq S q]▸D⟩,m,λb j=>(r b j).1⟩]
 done:=by
  intro X G B z M i g s L H E I r st t;subst G B z;let⟨T,q,D⟩:=t;let⟨l,A,p,R⟩:=I.tuple q;let⟨v,y,V,J,F,C⟩:=r it (by simp);let Z:=⇑A;rwa[wpAny_pyNext_tuple_end (I.ok.hd M) st (show s.heap.IsTuple a l.toArray from p) (by simp;omega) λn Q=>⟨2,I.turned (t':=s.toks) (λb o j f=>Q b o j f) v y J F C⟩]
 self:=λ_ _ _ _ _ st h=>wpAny_pyIter_tupleiter st h
def EY (it:Zs)(lo:Int)(n:Nat):Turn P w K e (tR lo n) [it] it (λi h=>IsRangeIter h it (lo+ (i:Nat)* 1) ((n:Int) - (i:Nat)) 1) where
 mem:=by simp
 obj:=λi h st b d=>by
  cbv
 keep:=λi h g st k=>k it (by simp) _ st
 item:=by
  intro X D A z x i c s C H E I j st l;subst D A z;let⟨m,p,L,u,r,q⟩:=j it (by simp);let W:=Walks.range (prog:=X.prog) (w:=X.w) (I.ok.hd x) it lo 1 n;rwa[W.item i s _ _ l st λv g y M f G=>?_]
  let⟨t,rfl⟩:=M;let F:Inv X c C H { s with heap:=g,toks:=y }:=I.turned (λb o d a=>G b o (by cbv) a) m p u r q;rwa[⟨12,zC (s:={ s with heap:=g,toks:=y }) (n:="range_iterator") f rfl rfl ⋯ ⟨.int (lo+ i),H,F,⟨t,5⟩,⟨22⟩,f,λb d=>(j b d).1⟩⟩]
  cbv
 done:=by
  intro X D A z x i c s C H E I j st l;let⟨m,p,L,u,r,q⟩:=j it (by simp);rwa[wpAny_pyNext_range_end (I.ok.hd x) st (by have:n<=i:=l;omega) λg J=>⟨2,I.turned (t':=s.toks) (λb o d a=>J b o d a) m p u r q⟩]
 self:=λ_ _ _ _ _ st h=>wpAny_pyIter_rangeiter st h
section
variable {X:Cx}{tg:Expr}
def UN (K:Za1)(tl:TE):TI:=λ d H R=>tl d H λx b=>∃a,x=↑a/\(∃c,aD K b a c)/\R (yf K a) b
def Yr (K:Za1)(tl:TE):TI:=λ d H R=>tl d H λx b=>∃a,x=↑a/\(∃c,bN K b a c)/\R (yg K a) b
def cX {tl:TE}(n:PE X e tl):PI X tg e (UN X.K tl):=by
 intro d s r H R I h;rwa[a9 (n d s r H _ I h) λv s1 ζ=>?_];let⟨x,m,f,g,l⟩:=ζ
 let⟨a,c,⟨y,j⟩,q⟩:=l;subst c;ext g;let⟨k,u,p,w⟩:=f.list j;rwa[ai1 p.isList ?_];rwa[⟨↥s1,[↥s1],11,m,2,f.kept (t':=s1.toks) λb o c=>agD _ c,Gs a _,⟨_,agU _ rfl,22⟩,λb i=>?_,q⟩];let c:b=↥s1:=by simpa using i
 subst c;rwa[f.pE (agJ _) (f.aM.fresh (agJ _))]
def zN {tl:TE}(n:PE X e tl):PI X tg e (Yr X.K tl):=by
 intro d s r H R I h;rwa[a9 (n d s r H _ I h) λv s1 ζ=>?_];let⟨x,m,f,i,l⟩:=ζ
 let⟨a,c,⟨y,k⟩,q⟩:=l;subst c;ext i;let⟨g,u,p,w⟩:=f.tuple k;rwa[wpAny_pyIter_tuple (show s1.heap.IsTuple a g.toArray from p) ?_];rwa[⟨↥s1,[↥s1],11,m,2,f.kept (t':=s1.toks) λb o c=>agD _ c,EX a _,⟨_,agU _ rfl,22⟩,λb j=>?_,q⟩];let c:b=↥s1:=by simpa using j
 subst c;rwa[f.pE (agJ _) (f.aM.fresh (agJ _))]
def zO {R:It->Hp->Prop}{lo:Int}{t u v:Tok}(I:Inv X o D H s)(h: -(2 ^ 62)<=lo)(d:lo<2 ^ 62)(j: -(2 ^ 62)<=z)(g:z<2 ^ 62)
 (q:R (tR lo (z - lo).toNat) H):X⁻¹ X.A (pyIter ↑↥s) (VY X o D tg R) E { s with heap:=s.heap.push ("range">>>.fields #[.int lo t,.int z u,.int 1 v]),toks:=n }:=by
 rwa[wpAny_pyIter_range (IsRange.new ..) (small_one h d j g) ?_];let c:Inv X o D H { s with heap:=s.heap.push ("range">>>.fields #[.int lo t,.int z u,.int 1 v]),toks:=n }:=I.kept λb a e=>agD _ e
 rwa[⟨(s.heap.push ("range">>>.fields #[.int lo t,.int z u,.int 1 v])).objs.size,[(s.heap.push ("range">>>.fields #[.int lo t,.int z u,.int 1 v])).objs.size],11,H,2,c.kept (t':=n) λb a e=>agD _ e,EY _ lo (z - lo).toNat,5,λb f=>?_,q⟩]
 ·let k:lo+ ((0:Nat):Int)* 1=lo:=by simp
  let i:(((z - lo).toNat:Nat):Int) - ((0:Nat):Int)=Builtin.Range.rangeSize lo z 1:=by rw[rangeSize_one];split <;> ext
  rw[k,i];rwa[agU _ rfl]
 ·let e:b=(s.heap.push ("range">>>.fields #[.int lo t,.int z u,.int 1 v])).objs.size:=by simpa using f
  subst e;rwa[c.pE (agJ _) (c.aM.fresh (agJ _))]
def UO (c:TA):TI:=λ d H R=>c d H λa b=>∃j:Int,a=[.int j]/\-(2 ^ 62)<=j/\j<2 ^ 62/\R (tR 0 j.toNat) b
def UQ (c:TA):TI:=λ d H R=>c d H λa b=>∃i j:Int,a=[.int i,.int j]/\(-(2 ^ 62)<=i/\i<2 ^ 62/\-(2 ^ 62)<=j/\j<2 ^ 62)/\R (tR i (j - i).toNat) b
def jj {d:TA}{pos:Pos}(g:Gl X "range")(n:X.mg "range"=none)(o:PA X [e] d)(l:starEach [e] X.env=[(false,eval e X.env)]:=by rfl):PI X tg (.Call (.Name "range" p) [e] [] pos) (UO d):=by
 intro a s m H R I h;rwa[Call_ (gY I g n boot_range (ahE (a9 (o pos a s m H _ I h) λy x ζ=>?_) l rfl))];let⟨v,w,i,f,c⟩:=ζ;let⟨j,b,c,u,q⟩:=c;subst b
 cases f with
 |cons r k=>
  ext k;let⟨t,rfl⟩:=r;rwa[call_range_1 (zO i ∅ ∅ c u (by simpa using q))]
def kA {b:Expr}{k:TA}{pos:Pos}(n:Gl X "range")(y:X.mg "range"=none)(z:PA X [e,b] k)(w:starEach [e,b] X.env=[(false,eval e X.env),(false,eval b X.env)]:=by rfl)(d:starEach [b] X.env=[(false,eval b X.env)]:=by rfl):
 PI X tg (.Call (.Name "range" p) [e,b] [] pos) (UQ k):=by
 intro a s x H R I h;rwa[Call_ (gY I n y boot_range (ahE (a9 (z pos a s x H _ I h) λF E ζ=>?_) (by rw[w,d]) (by rw[d];rfl)))];let⟨C,D,o,m,f⟩:=ζ;let⟨i,j,c,⟨f,A,u,v⟩,q⟩:=f;subst c
 cases m with
 |cons r g=>
  cases g with
  |cons l g=>
   ext g;let⟨t,rfl⟩:=r;let⟨B,rfl⟩:=l;rwa[call_range_2 (zO o f A u v q)]
def Ys (h:TI)(g:TG)(f:TS):TS:=λD a H=>h a H λJ k=>∃W:Nat->Nat->St->Hp->Prop,(∃m,W 0 m a k)/\∀i m a H,W i m a H->
 (J.stop i H/\D.nx a H)\/(J.go i H/\∃N:St->Hp->Prop,(∀ c b,N c b->∃e,e<m/\W (i+ 1) e c b)/\∀x b,J.lT i H x b->g x a b λ d j=>f { D with nx:=N,ct:=N,bk:=D.nx } d j)
noncomputable def vg (a:Zn)(h:Heap):List (Zs×Obj):=a.filterMap λb=>(h.get? b).map λo=>(b,o)
def iA {o:Obj}(a:b∈F)(e:h.get? b\o):(b,o)∈vg F h:=ajY.mpr ⟨b,a,by rw[e];rfl⟩
def Gu {p:Zs×Obj}(a:p∈vg F h):p.1∈F/\h.get? p.1\p.2:=by
 let⟨b,c,e⟩:=ajY.mp a
 cases q:h.get? b with
 |none=>rw[q]at e;ext e
 |some o=>
  cbv
def Inv.pinned (I:Inv X o D H s)(d:∀b∈F,pD X o H b)(h:∀b∈F,∃a,s.heap.get? b\a/\∀v,a.data≠.cell v):Inv X (o++vg F s.heap) D H s:=
 I.jh λp c=>(agS.mp c).elim (λz=>I.pin p (agL _ z)) λz=>by
  let⟨f,e⟩:=Gu z;let⟨i,f1,g,_⟩:=d p.1 f
  cbv
def Inv.ur {pl:List (Zs×Obj)}(I:Inv X (o++pl) D H s):Inv X o D H s:=I.jh λp a=>I.pin p (agL _ (ag6 _ a))
def cK {iter:Expr}{body:List Stmt}{R:TI}{g:TG}{Y:TS}{pos:Pos}(E:PassesOwn (model X.prog X.w) X.A X.env X.xe)(V:X.calm=true)(hi:PI X tg iter R)(hg:PG X tg g)(k:iJ X body Y)
 (hs:∀x,foldedSetIterable iter X.env x=pure x:=by intro _;rfl):PS X (.For tg iter body [] pos) (Ys R g Y):=by
 intro c s σ H D I h;rwa[wpAny_For (a9 (hi c s σ H _ I h) λv s1 h1=>a9 h1 λitv s2 h2=>?_) hs];let⟨it,A,tn,J,H2,e,I2,T,O,U,W,⟨m0,w0⟩,turn⟩:=h2;subst e
 let stat:∀{t:Hp},(∀b∈A,t b=none)->∀b∈A,pD X c t b:=λhn b k=>⟨hn b k,(U b k).2⟩
 rwa[codeAny_forLoop_any (λn s'=>∃i q t,Inv X c q t s'/\tn i s'.heap/\(∀b∈A,t b=none)/\W i n q t) ?_ m0 ⟨(0),σ,H2,I2,O,λb k=>(U b k).1,w0⟩];rintro n s3 ⟨i,j,F,Z,B,C,w3⟩;rcases turn i n j F w3 with ⟨stop,qn⟩|⟨go,N,hN,step⟩
 ·rwa[ai0 E (a9 (T.done X rfl rfl rfl V i c s3 j F X.xe Z (stat C) B stop) λr s4 ζ=>?_)];let⟨P,I4⟩:=ζ;subst P;rwa[aiZ ⟨j,F,I4,qn⟩]
 ·rwa[ai0 E (a9 (T.item X rfl rfl rfl V i c s3 j F X.xe Z (stat C) B go) λr s4 ζ=>?_)];let⟨u,P,h4⟩:=ζ;subst P;rwa[ai0 E (a9 h4 λ_ s5 ζ=>?_)];let⟨x,S,I5,r5,y5,y,L⟩:=ζ;let Q:=I5.pinned (stat L) (T.obj^y);rwa[ai0 E (a9 (hg _ s5 j S x u _ Q r5 (step x S y5)) λ_ s6 ζ=>?_)];let⟨M,H6,I6,q6⟩:=ζ;rwa[ai0 E (a9 (k _ s6 M H6 _ I6 q6) λf G w=>?_)]
  let again:∀{a:St} {l:Hp},Inv X (c++vg A s5.heap) a l G->N a l->∃m,m<n/\∃i q t,Inv X c q t G/\tn i G.heap/\(∀b∈A,t b=none)/\W i m q t:=λ{a l} p z=>by
   let⟨m',hm,w7⟩:=hN a l z;rwa[⟨m',hm,i+ 1,a,l,p.ur,T.keep _ _ _ y λb k o e=>(p.pin (b,o) (agL _ (agL _ (iA k e)))).1,λb k=>?_,w7⟩];let⟨o,e,d⟩:=T.obj _ _ y b k;rwa[(p.pin (b,o) (agL _ (agL _ (iA k e)))).2.1]
  cases f with
  |next=>let⟨a,l,p,z⟩:=w;rwa[again p z]
  |cont=>let⟨a,l,p,z⟩:=w;rwa[again p z]
  |brk=>let⟨a,l,p,w⟩:=w;rwa[a,l,p.ur,w]
  |ret v=>let⟨x7,a,l,p,r7,w⟩:=w;rwa[x7,a,l,p.ur,r7,w]
end
def eP {xs:Zb}{g:TG}{k:TS}(b:Nat->St->Hp->Prop)(o:b 0 D H)(r:∀i D H,i<=⇑xs->b i D H->aD K H a xs)
 (s:∀i x D H,xs[i]?\x->b i D H->g x D H λ d j=>k { G with nx:=b (i+ 1),ct:=b (i+ 1),bk:=G.nx } d j) (n:∀ D H,b ⇑xs D H->G.nx D H):
 ∃W:Nat->Nat->St->Hp->Prop,(∃m,W 0 m D H)/\∀i m D H,W i m D H->
  ((yf K a).stop i H/\G.nx D H)\/((yf K a).go i H/\∃N:St->Hp->Prop,(∀ c f,N c f->∃l,l<m/\W (i+ 1) l c f)/\∀x f,(yf K a).lT i H x f->g x D f λ d j=>k { G with nx:=N,ct:=N,bk:=G.nx } d j):=by
 erw[λi m D H=>m=⇑xs - i/\i<=⇑xs/\b i D H,⟨⇑xs,by simp,ahd _,o⟩];rintro i m D H ⟨rfl,t,p⟩;let q:=r i D H t p;cases h:i<⇑xs
 ·rwa[.inr ⟨⟨xs,xs[i],q,by simp[h]⟩,b (i+ 1),λ c f u=>⟨⇑xs - (i+ 1),32,h,u⟩,λx f y=>?_⟩];let⟨e,y⟩:=y;subst e;rwa[s i x D _ (y xs q) p]
 ·let e:i=⇑xs:=∅
  subst e;rwa[.inl ⟨⟨xs,q,agJ _⟩,n D H p⟩]
def Dm {xs:Zb}{g:TG}{k:TS}(b:Nat->St->Hp->Prop)(o:b 0 D H)(r:∀i D H,i<=⇑xs->b i D H->bN K H a xs)
 (s:∀i x D H,xs[i]?\x->b i D H->g x D H λ d j=>k { G with nx:=b (i+ 1),ct:=b (i+ 1),bk:=G.nx } d j) (n:∀ D H,b ⇑xs D H->G.nx D H):
 ∃W:Nat->Nat->St->Hp->Prop,(∃m,W 0 m D H)/\∀i m D H,W i m D H->
  ((yg K a).stop i H/\G.nx D H)\/((yg K a).go i H/\∃N:St->Hp->Prop,(∀ c f,N c f->∃l,l<m/\W (i+ 1) l c f)/\∀x f,(yg K a).lT i H x f->g x D f λ d j=>k { G with nx:=N,ct:=N,bk:=G.nx } d j):=by
 erw[λi m D H=>m=⇑xs - i/\i<=⇑xs/\b i D H,⟨⇑xs,by simp,ahd _,o⟩];rintro i m D H ⟨rfl,t,p⟩;let q:=r i D H t p;cases h:i<⇑xs
 ·rwa[.inr ⟨⟨xs,xs[i],q,by simp[h]⟩,b (i+ 1),λ c f u=>⟨⇑xs - (i+ 1),32,h,u⟩,λx f y=>?_⟩];let⟨e,y⟩:=y;subst e;rwa[s i x D _ (y xs q) p]
 ·let e:i=⇑xs:=∅
  subst e;rwa[.inl ⟨⟨xs,q,agJ _⟩,n D H p⟩]
def jk {lo:Int}{g:TG}{j:TS}(b:Nat->St->Hp->Prop)(o:b 0 D H)
 (q:∀i D H,i<n->b i D H->g (.int (lo+ i)) D H λ d h=>j { G with nx:=b (i+ 1),ct:=b (i+ 1),bk:=G.nx } d h) (l:∀ D H,b n D H->G.nx D H):
 ∃W:Nat->Nat->St->Hp->Prop,(∃m,W 0 m D H)/\∀i m D H,W i m D H->
  ((tR lo n).stop i H/\G.nx D H)\/((tR lo n).go i H/\∃N:St->Hp->Prop,(∀ c f,N c f->∃k,k<m/\W (i+ 1) k c f)/\∀x f,(tR lo n).lT i H x f->g x D f λ d h=>j { G with nx:=N,ct:=N,bk:=G.nx } d h):=by
 erw[λi m D H=>m=n - i/\i<=n/\b i D H,⟨n,by simp,ahd _,o⟩];rintro i m D H ⟨rfl,t,p⟩;cases a:i<n
 ·rwa[.inr ⟨a,b (i+ 1),λ c f r=>⟨n - (i+ 1),32,a,r⟩,λx f y=>?_⟩];let⟨e,y⟩:=y;subst e y;rwa[q i D _ a p]
 ·let e:i=n:=∅
  subst e;rwa[.inl ⟨agJ _,l D H p⟩]
abbrev R2:=V->V->Hp->VK->Prop
def fD (X:Cx)(f:Zt->Zt->Sem Zt)(r:R2):Prop:=
 ∀(a:List (Zs×Obj)) (s:Zu) (b:St) (H:Hp) (x y:V) (v u:Zt) (Q:VK),Inv X a b H s->RelV x v->RelV y u->r x y H Q->
  X⁻¹ X.A (f v u) (EP X a b Q) X.xe s
def Qf (X:Cx)(f:Zt->Sem Zt)(r:V->Hp->VK->Prop):Prop:=
 ∀(a:List (Zs×Obj)) (s:Zu) (b:St) (H:Hp) (x:V) (v:Zt) (Q:VK),Inv X a b H s->RelV x v->r x H Q->
  X⁻¹ X.A (f v) (EP X a b Q) X.xe s
def iV (X:Cx)(f:Zt)(r:Zb->Hp->VK->Prop):Prop:=
 ∀(a:List (Zs×Obj)) (s:Zu) (d:St) (H:Hp) (c:Zb) (b:Zk) (Q:VK),Inv X a d H s->Vals c b->r c H Q->
  X⁻¹ X.A (call f b) (EP X a d Q) X.xe s
noncomputable def Yt (X:Cx)(r:V->Hp->(Bool->Hp->Prop)->Prop):Prop:=
 ∀(a:List (Zs×Obj)) (s:Zu) (b:St) (H:Hp) (x:V) (v:Zt) (Q:Bool->Hp->Prop),Inv X a b H s->RelV x v->r x H Q->
  X⁻¹ X.A (truthy v) (TP X a b Q) X.xe s
def LN (r:R2)(e b:TE):TE:=λ a H Q=>e a H λx d=>b a d λy c=>r x y c Q
def tUn (r:V->Hp->VK->Prop)(b:TE):TE:=λ c H Q=>b c H λx a=>r x a Q
inductive rI (C:Int->Int->Prop) (g:Int->Int->V) (x:V) (y:V) (H:Hp) (Q:VK):Prop
 |mk (i j:Int):x=.int i->y=.int j->C i j->Q (g i j) H->rI C g x y H Q
inductive vh (g:Int->Int->V) (x:V) (y:V) (H:Hp) (Q:VK):Prop
 |mk (i j:Int):x=.int i->y=.int j->Q (g i j) H->vh g x y H Q
inductive rU (g:Int->V) (x:V) (H:Hp) (Q:VK):Prop
 |mk (i:Int):x=.int i->Q (g i) H->rU g x H Q
section
variable {X:Cx}{a b:Expr}{ta tb:TE}{pos:Pos}
def Ju (z:PE X a ta)(n:PE X b tb){d:List (Zs×Obj)}{s:Zu}{e:St}{H:Hp}{R:V->V->Hp->Prop}(I:Inv X d e H s)
 (h:ta e H λx l=>tb e l λy g=>R x y g) {Q:Zt->Zu->Prop} {f:Zt->Zt->Sem Zt}
 (r:∀v u k x y g,Inv X d e g k->RelV x v->RelV y u->R x y g->X⁻¹ X.A (f v u) Q X.xe k):
 X⁻¹ X.A (eval a X.env) (λv j=>X⁻¹ X.A (eval b X.env) (λu i=>X⁻¹ X.A (f v u) Q X.xe i) X.xe j) X.xe s:=by
 rwa[a9 (z d s e H _ I h) λv t ζ=>?_];let⟨x,l,o,m,p⟩:=ζ
 rwa[a9 (n d t e l _ o p) λu k ζ=>?_];let⟨y,g,q,w,A⟩:=ζ
 rwa[r v u k x y g q m w A]
def aP {e:Operator}{r:R2}(j:fD X (binaryOp e) r)(o:PE X a ta)(f:PE X b tb):PE X (.BinOp a e b pos) (LN r ta tb):=by
 intro d s m H Q I h;rwa[wpAny_BinOp (Ju o f I h λv u g x y n i k l q=>j d g m n x y v u Q i k l q)]
def e8 {e:UnaryOp}{r:V->Hp->VK->Prop}(g:Qf X (unaryOp e) r)(i:PE X a ta):PE X (.UnaryOp e a pos) (tUn r ta):=by
 intro d s f H Q I h;rwa[UnaryOp_ (a9 (i d s f H _ I h) λv m ζ=>?_)];let⟨x,j,n,k,l⟩:=ζ;rwa[g d m f j x v Q n k l]
def Qg {f:Zt->Zt->Sem Zt}{C:Int->Int->Prop}{g:Int->Int->Int}
 (rule:∀(i j:Int) (t u:Tok) (s:Zu) (Q:Zt->Zu->Prop) (E:Zt->Zu->Prop),C i j->Q (.int (g i j) s.toks) { s with toks:=s.toks+ 1 }->X⁻¹ X.A (f (.int i t) (.int j u)) Q E s):
 fD X f (rI C λi j=>.int (g i j)):=by
 intro d s n H x y v u Q I k l h;let⟨i,j,rfl,rfl,m,q⟩:=h;let⟨t,rfl⟩:=k;let⟨e,rfl⟩:=l;rwa[rule i j t e s _ _ m ⟨.int (g i j),H,I.tok _,⟨12⟩,q⟩]
def Qh {f:Zt->Zt->Sem Zt}{g:Int->Int->Int}
 (rule:∀(i j:Int) (t u:Tok) (s:Zu) (Q:Zt->Zu->Prop) (E:Zt->Zu->Prop),Q (.int (g i j) s.toks) { s with toks:=s.toks+ 1 }->X⁻¹ X.A (f (.int i t) (.int j u)) Q E s):
 fD X f (vh λi j=>.int (g i j)):=by
 intro d s m H x y v u Q I k l h;let⟨i,j,rfl,rfl,q⟩:=h;let⟨t,rfl⟩:=k;let⟨e,rfl⟩:=l;rwa[rule i j t e s _ _ ⟨.int (g i j),H,I.tok _,⟨12⟩,q⟩]
def EZ {f:Zt->Zt->Sem Zt}{g:Int->Int->Bool}
 (rule:∀(i j:Int) (t u:Tok) (s:Zu) (Q:Zt->Zu->Prop) (E:Zt->Zu->Prop),Q (.bool (g i j)) s->X⁻¹ X.A (f (.int i t) (.int j u)) Q E s):
 fD X f (vh λi j=>.bl (g i j)):=by
 intro d s m H x y v u Q I k l h;let⟨i,j,rfl,rfl,q⟩:=h;let⟨t,rfl⟩:=k;let⟨e,rfl⟩:=l;rwa[rule i j t e s _ _ ⟨.bl (g i j),H,I,2,q⟩]
def Yu (i j:Int):Prop:=0<j/\j<1073741824
def Jv (i j:Int):Prop:=(-(2 ^ 64)<i/\i<2 ^ 64)\/(-(2 ^ 64)<j/\j<2 ^ 64)
def Jv.ok (h:Jv z y):IntMulOk z y:=by
 rcases h with ⟨e,d⟩|⟨e,d⟩
 ·rwa[.of_left (intBits_le_64 e d)]
 ·rwa[.of_right (intBits_le_64 e d)]
def cZ:fD X (binaryOp .Add) (vh λi j=>.int (i+ j)):=Qh λ_ _ _ _ _ _ _ q=>add_int q
def jF:fD X (binaryOp .Sub) (vh λi j=>.int (i - j)):=Qh λ_ _ _ _ _ _ _ q=>sub_int q
def lU:fD X (binaryOp .Mult) (rI Jv λi j=>.int (i* j)):=Qg λ_ _ _ _ _ _ _ d q=>mul_int q d.ok
def dG:fD X (binaryOp .FloorDiv) (rI Yu λi j=>.int (i / j)):=Qg λi j _ _ _ _ _ d q=>by
 let f:(0:Int)<j:=d.1;let e:j<1073741824:=d.2;rwa[floordiv_int ∅ ([Int.fdiv_eq_ediv_of_nonneg i ∅]▸q) (.inl (PyProof.noPylong_small ∅))]
def bV:fD X (binaryOp .Mod) (rI (λ_ j=>0<j) λi j=>.int (i % j)):=Qg λi j _ _ _ _ _ d q=>by
 rwa[mod_int' ∅ ([Int.fmod_eq_emod_of_nonneg i ∅]▸q)]
def unI {f:Zt->Sem Zt}{g:Int->Int}
 (rule:∀(i:Int) (t:Tok) (s:Zu) (Q:Zt->Zu->Prop) (E:Zt->Zu->Prop),Q (.int (g i) s.toks) { s with toks:=s.toks+ 1 }->X⁻¹ X.A (f (.int i t)) Q E s):
 Qf X f (rU λi=>.int (g i)):=by
 intro d s j H x v Q I e h;let⟨i,rfl,q⟩:=h;let⟨t,rfl⟩:=e;rwa[rule i t s _ _ ⟨.int (g i),H,I.tok _,⟨12⟩,q⟩]
def dE:Qf X (unaryOp .USub) (rU λi=>.int (-i)):=unI λ_ _ _ _ _ q=>neg_int q
end
noncomputable def Jw:V->V->Bool
 |.non,.non=>true|.non,.int _=>true|.int _,.non=>true|.non,.bl _=>true|.bl _,.non=>true|.non,.str _=>true|.str _,.non=>true
 |.int _,.int _=>true|.bl _,.bl _=>true|.str _,.str _=>true|.mY _,.mY _=>true
 |.int _,.str _=>true|.str _,.int _=>true|.bl _,.str _=>true|.str _,.bl _=>true
 |_,_=>false
inductive VZ (x:V) (y:V) (H:Hp) (Q:VK):Prop
 |mk:Jw x y=true->Q (.bl (decide (x=y))) H->VZ x y H Q
inductive V0 (x:V) (y:V) (H:Hp) (Q:VK):Prop
 |mk:Jw x y=true->Q (.bl (!decide (x=y))) H->V0 x y H Q
def Dq:decide (V.int z=V.int y)=(z==y):=by
 rw[ahM];simp
def Gv {i j:Bool}:decide (V.bl i=V.bl j)=(i==j):=by
 rw[ahM];simp
def Dr:decide (V.str x=V.str f)=(x==f):=by
 rw[ahM];simp
def Ds {i j:Array UInt8}:decide (V.mY i=V.mY j)=(i.toList==j.toList):=by
 rw[ahM];ext i;ext j;simp
section
variable {X:Cx}{a b:Expr}{ta tb:TE}{pos:Pos}
def bS {Q:VK}{k d:Bool}(I:Inv X o D H s)(q:Q (.bl k) H)(e:k=d):EP X o D Q (.bool d) s:=by
 subst e;rwa[.bl k,H,I,2,q]
def fb:fD X (compareOp .Eq) VZ:=by
 intro k s l H x y v u Q I g d h;let⟨f,q⟩:=h
 cases x with
 |non=>
  ext g
  cases y with
  |non=>ext d;rwa[PySem.EqNone.eq_none_none (bS I q (by simp))]
  |bl j=>ext d;rwa[PySem.EqNone.eq_none_bool (bS I q (by simp))]
  |int j=>let⟨e,rfl⟩:=d;rwa[PySem.EqNone.eq_none_int (bS I q (by simp))]
  |str j=>let⟨e,rfl⟩:=d;rwa[PySem.EqNone.eq_none_str (bS I q (by simp))]
  |_=>exact absurd (show false=true from f) ahq
 |bl i=>
  ext g
  cases y with
  |non=>ext d;rwa[PySem.EqNone.eq_bool_none (bS I q (by simp))]
  |bl j=>ext d;rwa[eq_bool (bS I q Gv)]
  |str j=>let⟨e,rfl⟩:=d;rwa[PySem.EqMixed.eq_bool_str (bS I q (by simp))]
  |_=>exact absurd (show false=true from f) ahq
 |int i=>
  let⟨t,rfl⟩:=g
  cases y with
  |non=>ext d;rwa[PySem.EqNone.eq_int_none (bS I q (by simp))]
  |int j=>let⟨e,rfl⟩:=d;rwa[eq_int (bS I q Dq)]
  |str j=>let⟨e,rfl⟩:=d;rwa[PySem.EqMixed.eq_int_str (bS I q (by simp))]
  |_=>exact absurd (show false=true from f) ahq
 |str i=>
  let⟨t,rfl⟩:=g
  cases y with
  |non=>ext d;rwa[PySem.EqNone.eq_str_none (bS I q (by simp))]
  |bl j=>ext d;rwa[PySem.EqMixed.eq_str_bool (bS I q (by simp))]
  |int j=>let⟨e,rfl⟩:=d;rwa[PySem.EqMixed.eq_str_int (bS I q (by simp))]
  |str j=>let⟨e,rfl⟩:=d;rwa[eq_str (bS I q Dr)]
  |_=>exact absurd (show false=true from f) ahq
 |mY i=>
  let⟨t,rfl⟩:=g
  cases y with
  |mY j=>let⟨e,rfl⟩:=d;rwa[PySem.W.eq_bytes (bS I q Ds)]
  |_=>exact absurd (show false=true from f) ahq
 |_=>cases y <;> rwa[absurd (show false=true from f) ahq]
def lB:fD X (compareOp .NotEq) V0:=by
 intro k s l H x y v u Q I g d h;let⟨f,q⟩:=h
 cases x with
 |non=>
  ext g
  cases y with
  |non=>ext d;rwa[PySem.EqNone.ne_none_none (bS I q (by simp))]
  |bl j=>ext d;rwa[PySem.EqNone.ne_none_bool (bS I q (by simp))]
  |int j=>let⟨e,rfl⟩:=d;rwa[PySem.EqNone.ne_none_int (bS I q (by simp))]
  |str j=>let⟨e,rfl⟩:=d;rwa[PySem.EqNone.ne_none_str (bS I q (by simp))]
  |_=>exact absurd (show false=true from f) ahq
 |bl i=>
  ext g
  cases y with
  |non=>ext d;rwa[PySem.EqNone.ne_bool_none (bS I q (by simp))]
  |bl j=>ext d;rwa[ne_bool (bS I q (ahS not Gv))]
  |str j=>let⟨e,rfl⟩:=d;rwa[PySem.EqMixed.ne_bool_str (bS I q (by simp))]
  |_=>exact absurd (show false=true from f) ahq
 |int i=>
  let⟨t,rfl⟩:=g
  cases y with
  |non=>ext d;rwa[PySem.EqNone.ne_int_none (bS I q (by simp))]
  |int j=>let⟨e,rfl⟩:=d;rwa[ne_int (bS I q (ahS not Dq))]
  |str j=>let⟨e,rfl⟩:=d;rwa[PySem.EqMixed.ne_int_str (bS I q (by simp))]
  |_=>exact absurd (show false=true from f) ahq
 |str i=>
  let⟨t,rfl⟩:=g
  cases y with
  |non=>ext d;rwa[PySem.EqNone.ne_str_none (bS I q (by simp))]
  |bl j=>ext d;rwa[PySem.EqMixed.ne_str_bool (bS I q (by simp))]
  |int j=>let⟨e,rfl⟩:=d;rwa[PySem.EqMixed.ne_str_int (bS I q (by simp))]
  |str j=>let⟨e,rfl⟩:=d;rwa[ne_str (bS I q (ahS not Dr))]
  |_=>exact absurd (show false=true from f) ahq
 |mY i=>
  let⟨t,rfl⟩:=g
  cases y with
  |mY j=>let⟨e,rfl⟩:=d;rwa[PySem.W.ne_bytes (bS I q (ahS not Ds))]
  |_=>exact absurd (show false=true from f) ahq
 |_=>cases y <;> rwa[absurd (show false=true from f) ahq]
def m2:fD X (compareOp .Lt) (vh λi j=>.bl (decide (i<j))):=EZ λ_ _ _ _ _ _ _ q=>lt_int q
def UT:fD X (compareOp .LtE) (vh λi j=>.bl (decide (i<=j))):=EZ λ_ _ _ _ _ _ _ q=>le_int q
def zD:fD X (compareOp .Gt) (vh λi j=>.bl (decide (j<i))):=EZ λ_ _ _ _ _ _ _ q=>gt_int q
def UU:fD X (compareOp .GtE) (vh λi j=>.bl (decide (j<=i))):=EZ λ_ _ _ _ _ _ _ q=>ge_int q
def vi:fD X (compareOp .Is) (λx y H Q=>y=.non/\Q (.bl (decide (x=.non))) H):=by
 intro d s g H x y v u Q I e f h;let⟨rfl,q⟩:=h;ext f;rwa[is_none_gen (bS I q ?_)]
 cases x <;> first
  |(ext e;rfl)
  |(let⟨t,rfl⟩:=e;rfl)
noncomputable def oj:fD X (compareOp .IsNot) (λx y H Q=>y=.non/\Q (.bl (!decide (x=.non))) H):=by
 intro d s g H x y v u Q I e f h;let⟨rfl,q⟩:=h;ext f;rwa[isnot_none_gen (bS I q ?_)]
 cases x <;> first
  |(ext e;rfl)
  |(let⟨t,rfl⟩:=e;rfl)
def bh (b:Expr){d:CmpOp}(h:d≠.In:=by decide)(g:d≠.NotIn:=by decide):behindInMarks d b=false:=by
 let e:(d==CmpOp.In)=false:=by cbv
 let f:(d==CmpOp.NotIn)=false:=by cbv
 cases b <;> simp[behindInMarks,e,f]
def sL {e:CmpOp}{r:R2}(j:fD X (compareOp e) r)(p:PE X a ta)(f:PE X b tb)(n:behindInMarks e b=false):PE X (.Compare a [e] [b] pos) (LN r ta tb):=by
 intro d s m H Q I h;rwa[wpAny_Compare1 (Ju p f I h λv u g x y o i k l q=>j d g m o x y v u Q i k l q) n]
inductive Qi (x:V) (H:Hp) (Q:Bool->Hp->Prop):Prop
 |mk (k:Bool):x=.bl k->Q k H->Qi x H Q
def UX (t:TE):TT:=λ e H Q=>t e H λx d=>Qi x d Q
def aZ {g:CmpOp}{r:R2}(A:fD X (compareOp g) r)(G:PE X a ta)(l:PE X b tb)(E:behindInMarks g b=false):PT X (.Compare a [g] [b] pos) (UX (LN r ta tb)):=by
 intro d s f H Q I h
 rwa[wpAny_isTrue_Compare1 (a9 (G d s f H _ I h) λv C ζ=>?_) E];let⟨x,B,m,j,q⟩:=ζ;rwa[a9 (l d C f B _ m q) λu p ζ=>?_];let⟨y,F,w,D,J⟩:=ζ;rwa[ a9 (A d p f F x y v u _ w j D J) λc L ζ=>?_];let⟨z,n,o,i,k,e,t⟩:=ζ
 subst e;ext i;rwa[aiY ⟨n,o,t⟩]
def Qj (K:Za1)(x:V)(H:Hp)(k:Bool):Prop:=
 match x with
 |.non=>k=false
 |.bl b=>k=b
 |.int i=>k=(i !=0)
 |.str y=>⇑y<=sizeLine/\k=((⇑y:Int) !=0)
 |.mY y=>y.size<=sizeLine/\k=((y.size:Int) !=0)
 |.ref p=>(∃xs,aD K H p xs/\k=!xs.isEmpty)\/(∃xs,bN K H p xs/\k=!xs.isEmpty)\/∃d,H p\.dK d/\k=!d.isEmpty
 |_=>False
def E3 {f:Type}{d:List (f×V)}{e:List (f×Zt)}(r:KV d e):(!e.isEmpty)=!d.isEmpty:=by
 cases r <;> rfl
def vj {xs:Zb}(r:Vals xs N):(!N.toArray.isEmpty)=!xs.isEmpty:=by
 cases r <;> simp
def qO:(sizeLine:Nat)<2 ^ 63:=⋯
def Qk:Yt X (λx H Q=>∃k,Qj X.K x H k/\Q k H):=by
 intro u s C H x v Q I g h;let⟨k,e,q⟩:=h;let A:=qO;let B:sizeLine=16777216:=sizeLine_eq
 cases x with
 |non=>
  ext g;let d:k=false:=e;subst d;rwa[truthy_none ⟨H,I,q⟩]
 |bl b=>
  ext g;let d:k=b:=e;subst d;rwa[aiY ⟨H,I,q⟩]
 |int i=>
  let⟨t,rfl⟩:=g;let d:k=(i !=0):=e;subst d;rwa[PySem.P.truthy_int ⟨H,I,q⟩]
 |str y=>
  let⟨t,rfl⟩:=g;obtain⟨w,d⟩:⇑y<=sizeLine/\k=((⇑y:Int) !=0):=e;subst d;rwa[PySem.P.truthy_str ∅ ⟨H,I.tok _,q⟩]
 |mY y=>
  let⟨t,rfl⟩:=g;obtain⟨w,d⟩:y.size<=sizeLine/\k=((y.size:Int) !=0):=e;subst d;rwa[PySem.W.truthy_bytes ∅ ⟨H,I.tok _,q⟩]
 |ref p=>
  ext g;let d:(∃xs,aD X.K H p xs/\k=!xs.isEmpty)\/(∃xs,bN X.K H p xs/\k=!xs.isEmpty)\/∃f,H p\.dK f/\k=!f.isEmpty:=e;rcases d with ⟨xs,j,d⟩|⟨xs,j,d⟩|⟨f,j,d⟩
  ·subst d;let⟨n,r,pl,o⟩:=I.list j;let hlen:=⇑r;rwa[wpAny_truthy_list pl.isList (by simp only[agV];omega) ⟨H,I.tok _,[vj r]▸q⟩]
  ·subst d;let⟨n,r,pl,o⟩:=I.tuple j;let hlen:=⇑r;rwa[truthy_tuple pl (by simp only[agV];omega) ⟨H,I.tok _,[vj r]▸q⟩]
  ·subst d;obtain⟨o,z,l,r,m⟩:⇑f<=sizeLine/\(p==sysModules)=false/\∃l,KV f l/\s.heap.DictOf (bQ X.prog X.w) p l:=I.aM p _ j;let hlen:⇑f=⇑l:=Paired.length r;rwa[wpAny_truthy_dict z m ∅ ⟨H,I.tok _,[E3 r]▸q⟩]
 |_=>exact(show False from e).elim
def zP (j:PE X a ta)(i:∀whole,isTrue a X.env whole=(do let v <-whole;standAt a.pos;holding [v] (truthy v))):
 PT X a (λ e H Q=>ta e H λx f=>∃k,Qj X.K x f k/\Q k f):=by
 intro d s e H Q I h;rwa[isTrue_plain (a9 (j d s e H _ I h) λv n ζ=>?_) (i _)];let⟨x,g,o,l,m⟩:=ζ;rwa[Qk d n e g x v Q o l m]
def vals1 {x:V}(r:Vals [x] N):∃u,N=[u]/\RelV x u:=by
 cases r with
 |cons e d=>ext d;rwa[12,e]
def vals2 {x:V}(r:Vals [x,q] N):∃u d,N=[u,d]/\RelV x u/\RelV q d:=by
 cases r with
 |cons h e=>
  cases e with
  |cons g f=>ext f;rwa[112,h,g]
def Gw (g:X.calm=true):iV X (.builtin "max") (λe H Q=>∃i j,e=[.int i,.int j]/\Q (.int (if j > i then j else i)) H):=by
 intro f s p H e v Q I r h;let⟨i,j,rfl,q⟩:=h;let⟨u,l,rfl,⟨t,rfl⟩,⟨m,rfl⟩⟩:=vals2 r;rwa[max_two_ints (I.ok.hd g) λn o k=>⟨_,H,I.kept k,5,q⟩]
 cases d:j > i
 ·rw[ag8 d,ag8 d];rwa[12]
 ·rw[ag3 d,ag3 d];rwa[12]
def Gx (g:X.calm=true):iV X (.builtin "min") (λe H Q=>∃i j,e=[.int i,.int j]/\Q (.int (if j<i then j else i)) H):=by
 intro f s p H e v Q I r h;let⟨i,j,rfl,q⟩:=h;let⟨u,l,rfl,⟨t,rfl⟩,⟨m,rfl⟩⟩:=vals2 r;rwa[min_two_ints (I.ok.hd g) λn o k=>⟨_,H,I.kept k,5,q⟩]
 cases d:j<i
 ·rw[ag8 d,ag8 d];rwa[12]
 ·rw[ag3 d,ag3 d];rwa[12]
end
structure uv (h:Heap) (x dx C:Zs) (mA:Str->Zl):Prop where
 obj:h.get? x\(PySem.W.instObj C dx)
 ns:h.Ns1 dx mA
 ne:dx≠x
def Gy (n:h.Ns1 a M):∃d,h.get? a\d/\∀name,PySem.W.lookIn name d\(M name):=by
 let⟨o,k,m,i,f,g,_,l⟩:=n;rwa[⟨o,i,λname=>?_⟩];let e:=l name;unfold nsFind findBy at e;rw[<-Array.find?_toList]at e;unfold PySem.W.lookIn;rw[f];dsimp only;split
 ·cbv
 ·rename_i q;rw[q]at e
  let b:k.toList.any (·.refKey)=false:=by
   rw[List.any_eq_false];intro y j;let⟨z,t,c⟩:=g y (Array.mem_toList_iff.mp j);simp[DictEntry.refKey,c]
  cbv
def uv.look {x dx:Zs}(I:uv h x dx a M):∃b,PySem.W.InstAt h x (PySem.W.instObj a dx) a (some b)/\∀name,PySem.W.lookIn name b\(M name):=
 let ⟨b,c,d⟩:=Gy I.ns
 ⟨b,⟨I.obj,22,c⟩,d⟩
section
variable {prog:Program}{w:World}{A:Around}{E:Zt->Zu->Prop}{s:Zu}{K:Za1}{x dx C f:Zs}{mA:Str->Zl}{name:Str}{v:Zt}
def get_map {expr:Bool}(X:K.In s.heap)(I:uv s.heap x dx C mA)(g:PySem.W.plainGet K C name=true)(d:PySem.W.hasDictIn K C=true)
 (c:PySem.W.findIn K ↑C name\none) (b:mA name\v) (a:PySem.W.handedIn v=true) (h:Q v { s with toks:=s.toks+ 1 }):
 (prog<|>w) A (getAttr ↑x name expr) Q E s:=by
 let⟨i,J,e⟩:=I.look;rwa[PySem.W.get_value X J (PySem.W.plainGet_of g).1 (PySem.W.findObj_own d c rfl (by rw[e,b])) a h]
def Jx {pl:Sem Bool}{Q:Zt×Zk->Zu->Prop}(X:K.In s.heap)(I:uv s.heap x dx C mA)(a:PySem.W.plainGet K C name=true)
 (b:PySem.W.findIn K ↑C name\some ↑f) (g:PySem.W.isFn K ↑f=true) (c:mA name=none) (h:Q (↑f,[↑x]) s):
 (prog<|>w) A (getMethod ↑x name pl) Q E s:=by
 let⟨d,J,e⟩:=I.look;rwa[PySem.W.method_fn X J (PySem.W.plainGet_of a).1 (PySem.W.plainGet_of a).2 b (ajC.mp g) (by show (PySem.W.lookIn name d).map (·.isSome)\false;rw[e,c];rfl) h]
def NR {ns:Zp}(X:K.In s.heap)(I:uv s.heap x dx C mA)
 (t:PySem.W.findIn K ↑C "__setattr__"=some (some (.builtin "object.__setattr__"))) (o:PySem.W.plainOver K C=true) (l:PySem.W.takerIn K C name\none) (q:PySem.W.hasDictIn K C=true)
 (p:PySem.Within mA ns) (n:⇑ns<=sizeLine)
 (h:∀e,uv e x dx C (λy=>if y=name then some v else mA y)->Heap.SameBut dx s.heap e->U () { s with heap:=e,toks:=s.toks+ 2 }):
 (prog<|>w) A (setAttr ↑x name v) U E s:=by
 let⟨H,J,G⟩:=I.look;rwa[PySem.W.set_plain X J t (PySem.W.osa_open (s:={ s with toks:=s.toks+ 1 }) (r:=none) X J o l λb=>?_)];let⟨F,z,k⟩:=PySem.W.any_some q;let u:s.heap.get? x\⟨↑C,some dx,.plain,#[]⟩:=I.obj;rwa[agB (agI (agB (agB (wpAny_loadPart u (agB (PySem.W.Looks.here (s:={ s with toks:=s.toks+ 1 }) (PySem.W.looks_clsIn X z) ?_))))))];rw[k];rwa[agI (a:=some dx) (agB (agI (agB ?_)))];rwa[wpAny_nsSet1 (s:={ s with toks:=s.toks+ 1 }) I.ns λe d c=>?_]
 let⟨D,B,m,j,g,i⟩:=d.count (PySem.Within.cons name v p);rwa[agB (wpAny_lookBehind j ([g]▸pastItsLine_dict (agT i (by rw[aha];omega))) ?_)];rwa[agI (h _ ⟨(c.2 _ (ahZ I.ne)).trans I.obj,d,I.ne⟩ c)]
def Jy {R:Result->Zu->Prop}{a:List (Str×Zt)}(X:K.In s.heap)(b:PySem.W.makesIn K C=true)
 (d:PySem.W.findIn K ↑C "__init__"=some (some ↑f)) (c:PySem.W.typeIn K ↑f\(.type "function"))
 (h:codeAny (model prog w) (A.under (.builtin "type.__call__" ⟨↑C::N,a⟩)) (.call ↑f ⟨↑(↥s+ 1)::N,a⟩) (PySem.W.InitBack (↥s+ 1) R)
  { s with heap:=(s.heap.push PySem.W.emptyDict).push (PySem.W.instObj C ↥s) }):
 codeAny (model prog w) A (.call ↑C ⟨N,a⟩) R s:=by
 rwa[PySem.W.make_core (PySem.W.makes_of X b) (PySem.W.looks_findIn X d) (λself=>PySem.W.bind_fn X self c) (.inl rfl) h]
def Gz {R:Result->Zu->Prop}(X:K.In s.heap)(a:PySem.W.makesIn K C=true)
 (c:PySem.W.findIn K ↑C "__init__"=some (some (.builtin "object.__init__")))
 (b:∀self,PySem.W.Looks (model prog w) s.heap (bindSpecial (.builtin "object.__init__") self) (.builtin "object.__init__",[self]))
 (h:codeAny (model prog w) (A.under (.builtin "type.__call__" ⟨[↑C],[]⟩)) (.call (.builtin "object.__init__") ⟨[↑(↥s+ 1)],[]⟩) (PySem.W.InitBack (↥s+ 1) R)
  { s with heap:=(s.heap.push PySem.W.emptyDict).push (PySem.W.instObj C ↥s) }):
 codeAny (model prog w) A (.call ↑C ⟨[],[]⟩) R s:=by
 rwa[PySem.W.make_core (PySem.W.makes_of X a) (PySem.W.looks_findIn X c) b (.inr ⟨22⟩) h]
end
noncomputable def bK (f:Str)(v:V):List (Str×V)->List (Str×V)
 |[]=>[(f,v)]
 |(g,x)::r=>if g=f then (g,v)::r else (g,x)::bK f v r
theorem nM (f g:Str)(v:V):∀fs:List (Str×V),(bK f v fs).lookup g=if g=f then some v else fs.lookup g
 |[]=>by
  show List.lookup g [(f,v)]=_
  cbv
 |(k,x)::r=>by
  let a:=nM f g v r;rw[show bK f v ((k,x)::r)=(if k=f then (k,v)::r else (k,x)::bK f v r) from rfl]
  cbv
theorem kB (f:Str)(v:V):∀fs:List (Str×V),f∈(bK f v fs).map (·.1)/\∀g,g∈fs.map (·.1)->g∈(bK f v fs).map (·.1)
 |[]=>⟨by simp[bK],λg h=>by simp at h⟩
 |(k,x)::r=>by
  let⟨a,b⟩:=kB f v r;rw[show bK f v ((k,x)::r)=(if k=f then (k,v)::r else (k,x)::bK f v r) from rfl]
  cbv
theorem tS (f:Str)(v:V):∀fs:List (Str×V),⇑(bK f v fs)<=⇑fs+ 1
 |[]=>by simp[bK]
 |(k,x)::r=>by
  let a:=tS f v r;rw[show bK f v ((k,x)::r)=(if k=f then (k,v)::r else (k,x)::bK f v r) from rfl]
  cbv
def eJ.some_of {v:V}{o:Zl}(r:eJ (some v) o):∃u,o\u/\RelV v u:=by
 cases o with
 |none=>exact(show False from r).elim
 |some u=>rwa[u,2,r]
def eJ.none_of {o:Zl}(r:eJ none o):o=none:=by
 cases o with
 |none=>rfl
 |some u=>exact(show False from r).elim
def GA (r:RelV q u):PySem.W.handedIn u=true:=by
 cases q with
 |non=>cases (show u=Value.none from r);rfl
 |bl b=>cases (show u=Value.bool b from r);rfl
 |int i=>let⟨t,e⟩:=(show ∃t,u=Value.int i t from r);ext e;rfl
 |str x=>let⟨t,e⟩:=(show ∃t,u=Value.str x t from r);ext e;rfl
 |mY b=>let⟨t,e⟩:=(show ∃t,u=Value.bytes b t from r);ext e;rfl
 |zK b=>let⟨t,e⟩:=(show ∃t,u=Value.float b t from r);ext e;rfl
 |ref a=>cases (show u=Value.ref a from r);rfl
 |ty n=>cases (show u=Value.type n from r);rfl
section
variable {P:Program}{w:World}{H:Hp}{h:Heap}{a C dx:Zs}{fs:List (Str×V)}
def sM (c:dD P w H h)(e:H a\.ins C dx fs):∃b,uv h a dx C b/\(∀f,eJ (fs.lookup f) (b f))/\PySem.Within b (fs.map (·.1))/\⇑fs<=1000/\H dx\(.own a):=by
 let⟨d,z,ne,g,b,n,r,q⟩:=(show bZ P w H h a (.ins C dx fs) from c a _ e);rwa[b,⟨g,n,ne⟩,r,q,z,d]
end
structure jW (K:Za1) (C:Zs):Prop where
 pg:PySem.W.plainGet K C Str.empty=true
 hd:PySem.W.hasDictIn K C=true
 po:PySem.W.plainOver K C=true
 sa:PySem.W.findIn K ↑C "__setattr__"=some (some (.builtin "object.__setattr__"))
def jW.get (c:jW K a)(f:Str):PySem.W.plainGet K a f=true:=c.pg
def kD (K:Za1)(C:Zs)(f:Str):Prop:=PySem.W.findIn K ↑C f\none
def kD.E4 (n:kD K a f):PySem.W.takerIn K a f\none:=by
 unfold PySem.W.takerIn;rw[show PySem.W.findIn K ↑a f=some none from n];rfl
structure Con (K:Za1) (C:Zs) (f:Str) (v:V) (u:Zt):Prop where
 at_:PySem.W.findIn K ↑C f\(some u)
 rel:RelV v u
 get:PySem.W.specialIn K u "__get__"=some none
 cp:PySem.W.copiedNames.contains f=false
structure Meth (K:Za1) (C:Zs) (m:Str) (f:Zs):Prop where
 at_:PySem.W.findIn K ↑C m\(some ↑f)
 fn:PySem.W.isFn K ↑f=true
 kp:PySem.W.keepIn K ↑f=true
section
variable {X:Cx}{pins:List (Zs×Obj)}{σ:St}{H:Hp}{s:Zu}{a C dx:Zs}{fs:List (Str×V)}{f:Str}{v:V}{A:Around}{E:Zt->Zu->Prop}
def E5 {b:Bool}(I:Inv X pins σ H s)(e:H a\.ins C dx fs)(c:jW X.K C)(n:kD X.K C f)(l:fs.lookup f\v)
 (h:∀u d,Inv X pins σ H d->RelV v u->Q u d):X⁻¹ A (getAttr ↑a f b) Q E s:=by
 let⟨j,O,r,_,_,_⟩:=sM I.aM e;let⟨u,i,g⟩:=eJ.some_of (v:=v) (o:=j f) (by rw[<-l];rwa[r f]);rwa[get_map I.dm O (c.get f) c.hd n i (GA g) (h u _ (I.tok _) g)]
def vk {pl:Sem Bool}{Q:Zt×Zk->Zu->Prop}(I:Inv X pins σ H s)(e:H a\.ins C dx fs)(c:jW X.K C)(k:Meth X.K C x b)(l:fs.lookup x=none)
 (h:Q (↑b,[↑a]) s):X⁻¹ A (getMethod ↑a x pl) Q E s:=by
 let⟨g,O,r,_,_,_⟩:=sM I.aM e;let d:g x=none:=eJ.none_of (by cbv);rwa[Jx I.dm O (c.get x) k.at_ k.fn d h]
def E6 (I:Inv X pins σ H s)(e:H a\.ins C dx fs)(c:jW X.K C)(n:kD X.K C f)(J:⇑fs<1000)(D:RelV q u)
 (h:∀j,Inv X pins σ (upd H a (.ins C dx (bK f q fs))) j->U () j):X⁻¹ A (setAttr ↑a f u) U E s:=by
 let⟨F,O,r,k,_,l⟩:=sM I.aM e;let B:⇑(fs.map (·.1))<=sizeLine:=by rw[agH,sizeLine_eq];ext
 rwa[NR I.dm O c.sa c.po n.E4 c.hd k B λw i G=>h _ ?_]
 let m:∃o,w.get? dx\o:=let ⟨o,_,_,y,_⟩:=i.ns;⟨o,y⟩
 rwa[I.write (x:=a) (e:=dx) ([e]▸True.intro) (.inr l) (λb d p z=>(G.2 b p).trans z) m ?_];rwa[⟨[ak O.ne]▸l,5,O.ne,i.obj,_,i.ns,λg=>?_,λg t=>?_⟩]
 ·have:=tS f q fs;ext
 ·show eJ ((bK f q fs).lookup g) (if g=f then some u else F g);rw[nM];cases d:g=f
  ·rw[ag8 d,ag8 d];rwa[D]
  cbv
 ·cases d:g=f
  ·rw[d];rwa[(kB f q fs).1]
  ·rwa[(kB f q fs).2 g (k g λz=>t ?_)]
   cbv
def Inv.made (I:Inv X pins σ H s):Inv X pins σ (upd (upd H ↥s (.own (↥s+ 1))) (↥s+ 1) (.ins C ↥s []))
 { s with heap:=(s.heap.push PySem.W.emptyDict).push (PySem.W.instObj C ↥s) }:=by
 let c:(s.heap.push PySem.W.emptyDict).get? ↥s\PySem.W.emptyDict:=agU s.heap rfl
 let k:((s.heap.push PySem.W.emptyDict).push (PySem.W.instObj C ↥s)).get? (↥s+ 1)\(PySem.W.instObj C ↥s):=by
  have:=agU (s.heap.push PySem.W.emptyDict) (o:=PySem.W.instObj C ↥s) rfl
  rwa [air]at this
 let d:(s.heap.push PySem.W.emptyDict).Ns ↥s (λ_=>none):=⟨PySem.W.emptyDict,#[],_,c,2,(λe g=>absurd g (by simp)),λ_=>rfl⟩;let j:=I.laid (a:=↥s) (o:=.own (↥s+ 1)) (h':=s.heap.push PySem.W.emptyDict) (t':=s.toks) (λb u q=>agD _ q) (agJ _) ⟨_,c⟩;rwa[j.laid (a:=↥s+ 1) (o:=.ins C ↥s []) (t':=s.toks) (λb u q=>agD _ q) (ajR (air _ _)) ?_];let ne:↥s≠↥s+ 1:=ahf (ah6 _);rwa[⟨by rw[ak ne,ah],ahd _,ne,k,λ_=>none,(Heap.Ns1.of_empty d).at λo q=>agD _ q,λ_=>True.intro,λy h=>absurd rfl h⟩]
def NT {env:Env}{f:Str}{pos:Pos}{s:Zu}(c:attributeBase e f env (eval e env)=eval e env)
 (h:(P<|>w) A (eval e env) (λo b=>(P<|>w) A (getAttr o f true) Q E b) E s):(P<|>w) A (eval (.Attribute e f pos) env) Q E s:=
 Attribute_any_ h (by rw[arm_eval_Attribute,c])
end
inductive Ql (K:Za1) (f:Str) (x:V) (H:Hp) (Q:VK):Prop
 |mk (a C dx:Zs) (fs:List (Str×V)) (v:V):x=↑a->H a\.ins C dx fs->jW K C->kD K C f->fs.lookup f\v->Q v H->Ql K f x H Q
def Qm (K:Za1)(b:TE)(f:Str):TE:=λ c H Q=>b c H λx a=>Ql K f x a Q
inductive Qn (K:Za1) (f:Str) (y x:V) (H:Hp) (N:Hp->Prop):Prop
 |mk (a C dx:Zs) (fs:List (Str×V)):x=↑a->H a\.ins C dx fs->jW K C->kD K C f->⇑fs<1000->N (upd H a (.ins C dx (bK f y fs)))->Qn K f y x H N
def Yv (K:Za1)(e b:TE)(f:Str):TS:=λD a H=>b a H λy d=>e a d λx c=>Qn K f y x c (D.nx a)
section
variable {X:Cx}{o e value:Expr}{f:Str}{pos pos':Pos}{ta tv:TE}
def aH (p:PE X e ta)(d:attributeBase e f X.env (eval e X.env)=eval e X.env):PE X (.Attribute e f pos) (Qm X.K ta f):=by
 intro b s m H Q I h;rwa[NT d (a9 (p b s m H _ I h) λu z ζ=>?_)];let⟨x,j,g,k,a,C,A,fs,v,ex,t,c,n,l,q⟩:=ζ;subst ex;obtain rfl:u=Value.ref a:=k;rwa[E5 g t c n l λy w i r=>⟨v,j,i,r,q⟩]
def b9 (z:PE X o ta)(w:PE X value tv)(r:swapsWith value (some (.Attribute o f pos')) pos.line X.env=pure false):PS X (.Assign [.Attribute o f pos'] value pos) (Yv X.K ta tv f):=by
 intro b s d H D I h;rwa[plainObj_wpAny_Assign_Attribute (a9 (w b s d H _ I h) λu m ζ=>?_) r];let⟨y,k,g,t,q⟩:=ζ;rwa[a9 (z b m d k _ g q) λp E ζ=>?_];let⟨x,F,j,v,a,C,J,fs,ex,A,c,n,l,B⟩:=ζ;subst ex;obtain rfl:p=Value.ref a:=v;rwa[E6 j A c n l t λG i=>⟨d,_,i,B⟩]
inductive Yx (x:V) (y:V) (H:Hp) (Q:VK):Prop
 |mk (i j:Int):x=.int i->y=.int j->Q (.int (i+ j)) H->Yx x y H Q
inductive Yy (x:V) (y:V) (H:Hp) (Q:VK):Prop
 |mk (i j:Int):x=.int i->y=.int j->Q (.int (i - j)) H->Yy x y H Q
end
section
variable {X:Cx}{pins:List (Zs×Obj)}{σ:St}{H:Hp}{s:Zu}{A:Around}{E:Zt->Zu->Prop}{Q:Zt->Zu->Prop}{c:Zt}{b:Bool}
inductive jG (K:Za1) (H:Hp):V->Zt->Prop where
 |non:jG K H .non (.type "NoneType")
 |bl (x:Bool):jG K H (.bl x) (.type "bool")
 |int (i:Int):jG K H (.int i) (.type "int")
 |str (x:Str):jG K H (.str x) (.type "str")
 |zK (x:UInt64):jG K H (.zK x) (.type "float")
 |lst {a:Zs} {xs:Zb} (e:H a\.lst xs):jG K H ↑a (.type "list")
 |cS {a:Zs} {o:Obj} {xs:Zb} (e:H a\.cS o (.lst xs)):jG K H ↑a (.type "list")
 |tup {a:Zs} {xs:Zb} (e:H a\.tup xs):jG K H ↑a (.type "tuple")
 |dK {a:Zs} {kvs:List (Key×V)} (e:H a\.dK kvs):jG K H ↑a (.type "dict")
 |dT {a:Zs} {kvs:List (Zd×V)} (e:H a\.dT kvs):jG K H ↑a (.type "dict")
 |ins {a C dx:Zs} {fs:List (Str×V)} (e:H a\.ins C dx fs) (cl:jW K C) (ha:PySem.W.findIn K ↑C "__class__"=some (some (.builtin "object.__class__")))
  (hn:PySem.W.specialIn K (.builtin "object.__class__") "__get__"=some (some (.builtin "getset_descriptor.__get__"))) (htk:PySem.W.takesIn K (.builtin "object.__class__")\true)
  (hm:PySem.W.mroIn K C (.type "object")\true):jG K H ↑a ↑C
def GB {x:V}(I:Inv X pins σ H s)(d:RelV x u)(B:jG X.K H x v)(e:PySem.W.kitOne X.K v c\b)(h:∀r,Q (.bool b) { s with toks:=r }):
 X⁻¹ A (call (.builtin "isinstance") [u,c]) Q E s:=by
 cases B with
 |non=>cases (show u=Value.none from d);rwa[ah5 PySem.W.kitx_none I.dm True.intro e (λz=>nomatch z) h]
 |bl y=>cases (show u=Value.bool y from d);rwa[ah5 PySem.W.kitx_bool I.dm True.intro e (λz=>nomatch z) h]
 |int i=>let⟨v,q⟩:=(show ∃v,u=Value.int i v from d);ext q;rwa[ah5 PySem.W.kitx_int I.dm True.intro e (λz=>nomatch z) h]
 |str y=>let⟨v,q⟩:=(show ∃v,u=Value.str y v from d);ext q;rwa[ah5 PySem.W.kitx_str I.dm True.intro e (λz=>nomatch z) h]
 |zK y=>let⟨v,q⟩:=(show ∃v,u=Value.float y v from d);ext q;rwa[ah5 PySem.W.kitx_float I.dm True.intro e (λz=>nomatch z) h]
 | @lst a k f=>
   cases (show u=Value.ref a from d);let⟨_,_,n,_,g⟩:=(show bZ X.prog X.w H s.heap a (.lst k) from I.aM a _ f);rwa[ah5 PySem.W.kitx_list I.dm ⟨_,g,2⟩ e (λz=>nomatch z) h]
 | @cS a t k f=>
   cases (show u=Value.ref a from d);let⟨_,_,_,n,_,g⟩:=(show bZ X.prog X.w H s.heap a (.cS t (.lst k)) from I.aM a _ f);rwa[ah5 PySem.W.kitx_list I.dm ⟨_,g,2⟩ e (λz=>nomatch z) h]
 | @tup a k f=>
   cases (show u=Value.ref a from d);let⟨_,_,_,p⟩:=(show bZ X.prog X.w H s.heap a (.tup k) from I.aM a _ f);let⟨o,g,l,_⟩:=p;rwa[ah5 PySem.W.kitx_tuple I.dm ⟨o,g,l⟩ e (λz=>nomatch z) h]
 | @dK a j f=>
   cases (show u=Value.ref a from d);let⟨_,_,M,_,p⟩:=(show bZ X.prog X.w H s.heap a (.dK j) from I.aM a _ f);let⟨o,w,F,g,l,_⟩:=p;rwa[ah5 PySem.W.kitx_dict I.dm ⟨o,g,l.1⟩ e (λz=>nomatch z) h]
 | @dT a j f=>
   cases (show u=Value.ref a from d);let⟨_,_,k,_,o,w,F,g,l,_⟩:=(show bZ X.prog X.w H s.heap a (.dT j) from I.aM a _ f);rwa[ah5 PySem.W.kitx_dict I.dm ⟨o,g,l.1⟩ e (λz=>nomatch z) h]
 | @ins a C R fs f cl L D m G=>
   cases (show u=Value.ref a from d);let⟨N,O,_⟩:=sM I.aM f;let⟨P,J,_⟩:=O.look;rwa[ah5 (PySem.W.kitx_own (cl.get _) cl.hd L D m G) I.dm J e (λz=>nomatch z) h]
end
structure cx (k:Nat) (A:Around):Prop where
 hd:A.handled=none
 dp:A.depth+ 3* k+ 5<recursionLimit
 un:A.units+ 16* k+ 200<cLine
def cx.mono {k:Nat}(r:cx k A)(h:j<=k):cx j A:=⟨r.hd,by have:=r.dp;ext,by have:=r.un;ext⟩
def cx.Za5 {j k:Nat}{A:Around}(r:cx k A)(h:j<=k:=by decide):cx j A:=r.mono h
def cx.deeper {k:Nat}(r:cx (k+ 1) A)(env:Env):cx k (A.deeper env):=
 ⟨r.hd,by have:=r.dp;show A.depth+ 1+ 3* k+ 5<_;ext,by have:=r.un;show A.units+ 3+ 16* k+ 200<_;ext⟩
def cx.in1 {k:Nat}(r:cx (k+ 1) A):cx k A.in1:=
 ⟨r.hd,by have:=r.dp;show A.depth+ 3* k+ 5<_;ext,by have:=r.un;show A.units+ 1+ 16* k+ 200<_;ext⟩
def E7 {b:List (Str×Zt)}:(A.under (.builtin "type.__call__" ⟨↑a::N,b⟩)).depth=A.depth+ 1:=by
 first|rfl|simp[Around.under,Code.weight,Code.isCreation,Code.isGuard,Code.isCaller,Code.frames,Code.isFrame,guardIds]
def E8 {b:List (Str×Zt)}:(A.under (.builtin "type.__call__" ⟨↑a::N,b⟩)).units=A.units+ 1:=by
 first|rfl|simp[Around.under,Code.cUnits,Code.frames,Code.isFrame]
def cx.make {k:Nat}(r:cx (k+ 1) A)(C:Zs)(a:Zk)(b:List (Str×Zt)):cx k (A.under (.builtin "type.__call__" ⟨↑C::a,b⟩)):=
 ⟨r.hd,by have:=r.dp;rw[E7];ext,by have:=r.un;rw[E8];ext⟩
def cx.depth {k:Nat}(r:cx k A):A.depth<recursionLimit:=by have:=r.dp;ext
def cx.units {k:Nat}(r:cx k A):A.units+ 64<cLine:=by have:=r.un;ext
def jZ:TA:=λ_ H Q=>Q [] H
def jH (e:TE)(tr:TA):TA:=λ a H Q=>e a H λx c=>tr a c λd b=>Q (x::d) b
section
variable {X:Cx}{e:Expr}{es:Zr}{te:TE}{t:TA}{pos:Pos}
def aj:PA X [] jZ:=λ_ _ _ _ H Q I h=>aib ⟨[],H,I,.nil,h⟩
def ae (p:PE X e te)(j:PA X es t)(m:starEach (e::es) X.env=(false,eval e X.env)::starEach es X.env:=by rfl):PA X (e::es) (jH te t):=by
 intro pos a s b H Q I h;rw[m];rwa[ahC (a9 (p a s b H _ I h) λu l ζ=>?_)];let⟨x,i,d,c,f⟩:=ζ;rwa[a9 (j pos a l b i _ d f) λv r ζ=>?_];let⟨k,o,g,n,q⟩:=ζ;rwa[⟨x::k,o,g,.cons c n,q⟩]
inductive Qo (xs:Zb) (H:Hp) (Q:VK):Prop
 |mk:⇑xs<=sizeLine->(∀p,H p=none->Q ↑p (upd H p (.tup xs)))->Qo xs H Q
def Yz (t:TA):TE:=λ c H Q=>t c H λb a=>Qo b a Q
inductive Qp (xs:Zb) (H:Hp) (Q:VK):Prop
 |mk:⇑xs<=sizeLine->(∀p,H p=none->Q ↑p (upd H p (.lst xs)))->Qp xs H Q
def YB (t:TA):TE:=λ c H Q=>t c H λb a=>Qp b a Q
def cP {l}(h:PA X es t):PE X (.Tuple es l pos) (Yz t):=by
 intro a s j H Q I f;rwa[wpAny_Tuple_spliced (a9 (h pos a s j H _ I f) λk s1 ζ=>?_)];let⟨i,d,c,r,z,q⟩:=ζ;rwa[⟨by rw[<-⇑r];rwa[z],5⟩];let g:d ↥s1=none:=c.aM.fresh (agJ _);rwa[⟨↑↥s1,upd d ↥s1 (.tup i),c.laid (t':=s1.toks) (λb u e=>agD _ e) (agJ _) ?_,2,q _ g⟩];rwa[z,k,r,⟨_,agU _ rfl,212⟩]
def bT (h:PA X es t):PE X (.List es pos) (YB t):=by
 intro a s j H Q I f;rwa[wpAny_List_spliced (a9 (h pos a s j H _ I f) λk s1 ζ=>?_)];let⟨i,d,c,r,z,q⟩:=ζ;rwa[⟨by rw[<-⇑r];rwa[z],5⟩];let g:d ↥s1=none:=c.aM.fresh (agJ _);rwa[⟨↑↥s1,upd d ↥s1 (.lst i),c.laid (t':=s1.toks) (λb u e=>agD _ e) (agJ _) ?_,2,q _ g⟩];rwa[z,k,(0),r,agU _ rfl]
end
abbrev Sp:=Zb->Hp->VK->XK->Prop
abbrev lh:=Zq->Hp->Zu->XK->Zt->Zu->Prop
structure lV (P:Program) (w:World) (K:Za1) (mg:Str->Zl) (base:Heap) (A:Around) (outer:Zq) (s:Zu) (H:Hp):Prop where
 frames:A.frames\outer
 mod:Mod K mg base
 bs:∀b o,base.get? b\o->s.heap.get? b\o/\H b=none
 qN:base.objs.size<=↥s
 i6:s.heap.FunFrames base outer
 tO:∀b∈cJ outer,H b=none
 aM:dD P w H s.heap
 bare:AllBare s.gens
def CE (a:Zq)(P:Program)(w:World)(H:Hp)(s:Zu)(Q:VK)(u:Zt)(b:Zu):Prop:=
 ∃v c,b.os=s.os/\AllBare b.gens/\Un (cJ a) [] H c s.heap b.heap/\dD P w c b.heap/\RelV v u/\Q v c
def CR (c:lh)(a:Zq)(P:Program)(w:World)(H:Hp)(s:Zu)(Q:VK)(E:XK)(r:Result)(b:Zu):Prop:=
 match r with
 |.ok (.ret u)=>CE a P w H s Q u b
 |.ok _=>False
 |.error e=>c a H s E e b
structure dk (P:Program) (w:World) (K:Za1) (mg:Str->Zl) (base:Heap) (CX:lh) (k:Nat) (f:Zs) (fd:FuncData) (ps:Zp) (sp:Sp):Prop where
 len:∀vs H Q E,sp vs H Q E->⇑vs=⇑ps
 run:∀(A:Around) (outer:Zq) (s:Zu) (H:Hp) (args:Args) (us:Zk) (vs:Zb) (Q:VK) (E:XK),cx k A->lV P w K mg base A outer s H->BindsTo s fd args (ps.zip us)->Vals vs us->sp vs H Q E->
  codeAny (model P w) A (.call ↑f args) (CR CX outer P w H s Q E) s
def lV.make {mg:Str->Zl}{base:Heap}{outer:Zq}(e:lV P w K mg base A outer s H)(C:Zs)(a:Zk)(b:List (Str×Zt)):
 lV P w K mg base (A.under (.builtin "type.__call__" ⟨↑C::a,b⟩)) outer s H:=⟨by first|rwa[e.frames]|(simpa [Around.under,Code.envs,Code.isFrame,pushEnvs] using e.frames),e.mod,e.bs,e.qN,e.i6,e.tO,e.aM,e.bare⟩
def lV.in1 {mg:Str->Zl}{base:Heap}{outer:Zq}(e:lV P w K mg base A outer s H):
 lV P w K mg base A.in1 outer s H:=⟨e.frames,e.mod,e.bs,e.qN,e.i6,e.tO,e.aM,e.bare⟩
section
variable {X:Cx}{pins:List (Zs×Obj)}{σ:St}{H:Hp}{s s':Zu}
def Inv.zQ (I:Inv X pins σ H s):lV X.prog X.w X.K X.mg X.base X.A X.stack s H:=
 ⟨I.ok.frames,I.ok.mod,I.bs,agT I.ok.qN I.sz,I.stack,I.nZ,I.aM,I.bare⟩
def Inv.after {Q:VK}(I:Inv X pins σ H s)(h:CE X.stack X.prog X.w H s Q u s'):EP X pins σ Q u s':=by
 let⟨v,e,os,bare,un,aM,r,q⟩:=h;let⟨c,g,d,t,a⟩:=s';obtain rfl:a=s.os:=os;rwa[v,e,I.call (h':=c) (g':=g) (d':=d) (t':=t) (ch:=[]) un aM bare (λb z=>absurd z (by simp)),r,q]
end
def LQ (b:Sp)(a:Zb)(E:XK)(t:TA):TE:=λ e H Q=>t e H λc d=>b (c++a) d Q E
inductive Qq (C:Zs) (m:Str) (sp:Sp) (dvs:Zb) (E:XK) (t:TA) (σ:St) (x:V) (H:Hp) (Q:VK):Prop
 |mk (a dx:Zs) (fs:List (Str×V)):x=↑a->H a\.ins C dx fs->fs.lookup m=none->t σ H (λvs H2=>sp (x::(vs++dvs)) H2 Q E)->Qq C m sp dvs E t σ x H Q
def kh (C:Zs)(m:Str)(c:Sp)(a:Zb)(E:XK)(e:TE)(t:TA):TE:=λ b H Q=>e b H λx d=>Qq C m c a E t b x d Q
def UY (C:Zs)(e:Sp)(c:Zb)(E:XK)(t:TA):TE:=λ g H Q=>t g H λf b=>∀x a,b x=none->b a=none->a≠x->
 e (↑x::(f++c)) (upd (upd b a (.own x)) x (.ins C a [])) (λv d=>v=.non/\Q ↑x d) E
def Binds (K:Za1)(fd:FuncData)(c:Zp)(b:Zk):Prop:=
 ∀(s:Zu) (a:Zk),K.In s.heap->⇑(a++b)=⇑c->BindsTo s fd ⟨a,[]⟩ (c.zip (a++b))
def Binds.all {fd:FuncData}(h:∀us:Zk,⇑us=⇑Z->bindArgs fd ⟨us,[]⟩=pure (Z.zip us)):Binds K fd Z []:=λs us _ a=>by
 rw[ahe]at a ⊢;rwa[.of_eq (h us a)]
def Passes (c:lh)(X:Cx)(E:XK):Prop:=∀(a:List (Zs×Obj)) (d:St) (H:Hp) (s:Zu) (e:Zt) (b:Zu),Inv X a d H s->c X.stack H s E e b->X.xe e b
section
variable {X:Cx}{CX:lh}{k:Nat}{f C:Zs}{fd:FuncData}{ps:Zp}{sp:Sp}{dvs:Zb}{ds:Zk}{E:XK}{x m:Str}{p pos apos:Pos}{e o:Expr}{es:Zr}{ta:TE}{t:TA}
theorem zR {a:List (Zs×Obj)}{Q:VK}{us:Zk}{vs:Zb}(F:dk X.prog X.w X.K X.mg X.base CX k f fd ps sp)(l:cx k X.A)(i:Binds X.K fd ps ds)(d:Vals dvs ds)(q:Passes CX X E)
 (I:Inv X a D H s) (r:Vals vs us) (h:sp (vs++dvs) H Q E):X⁻¹ X.A (call ↑f us) (EP X a D Q) X.xe s:=by
 let c:Vals (vs++dvs) (us++ds):=r.append d;let j:⇑(us++ds)=⇑ps:=by rw[<-⇑c];rwa[F.len _ _ _ _ h]
 rwa[ajD (ai9 (F.run X.A X.stack s H ⟨us,[]⟩ (us++ds) (vs++dvs) Q E l I.zQ (i s us I.dm j) c h) λr g b=>?_)]
 cases r with
 |error e=>exact q a D H s e g I b
 |ok n=>
  cases n with
  |ret u=>exact I.after b
  |next=>exact False.elim b
  |brk=>exact False.elim b
  |cont=>exact False.elim b
def xg (F:dk X.prog X.w X.K X.mg X.base CX k f fd ps sp)(u:cx k X.A)(l:Gl X x)(y:X.mg x\↑f)(n:PySem.W.keepIn X.K ↑f=true)(j:Binds X.K fd ps ds)(i:Vals dvs ds)(w:Passes CX X E)
 (A:PA X (e::es) t) (c:(x==("__debug__":Str))=false:=by decide) (z:starEach (e::es) X.env=(false,eval e X.env)::starEach es X.env:=by rfl) (b:(backTo pos (starEach es X.env)).any (·.1)=false:=by rfl):
 PE X (.Call (.Name x p) (e::es) [] pos) (LQ sp dvs E t):=by
 intro a s v H Q I h;rwa[ahO (jY I l y ?_ c)];rwa[ajo (h₀:=X.base) I.ok.mod.ve n (a9 (A pos a s v H _ I h) λJ G ζ=>?_) z b];let⟨B,D,d,r,q⟩:=ζ;rwa[⟨d.dm,5⟩];rwa[zR F u j i w d r q]
def j0 {pl:Sem Bool}(O:PE X o ta)(c:jW X.K C)(hm:Meth X.K C m f)(F:dk X.prog X.w X.K X.mg X.base CX k f fd ps sp)(J:cx k X.A)(D:Binds X.K fd ps ds)(A:Vals dvs ds)(N:Passes CX X E)(P:PA X (e::es) t)
 (g:starEach (e::es) X.env=(false,eval e X.env)::starEach es X.env:=by rfl) (d:(backTo pos (starEach es X.env)).any (·.1)=false:=by rfl)
 (B:eval (.Call (.Attribute o m apos) (e::es) [] pos) X.env=(do
  let v <-eval o X.env
  standAt apos.atName
  let (f,first) <-holding [v] (getMethod v m pl)
  callWith pos f first (backTo pos (starEach (e::es) X.env)) (backToKw pos (keywordEach [] X.env))):=by rfl):
 PE X (.Call (.Attribute o m apos) (e::es) [] pos) (kh C m sp dvs E ta t):=by
 intro b s w H Q I h;rwa[PySem.W.methodCall_KW (pl:=pl) (a9 (O b s w H _ I h) λu L ζ=>?_) B];let⟨x,G,i,M,a,W,fs,ex,R,l,q⟩:=ζ;subst ex;obtain rfl:u=Value.ref a:=M;rwa[vk i R c hm l ?_];rwa[ajo (first:=[↑a]) (h₀:=X.base) I.ok.mod.ve hm.kp (a9 (P pos b L w G _ i q) λy T ζ=>?_) g d];let⟨j,U,n,r,S⟩:=ζ;rwa[⟨n.dm,5⟩];rwa[zR (us:=↑a::y) (vs:=↑a::j) F J D A N n (.cons rfl r) S]
def Jz {pl:Sem Bool}(z:PE X o ta)(c:jW X.K C)(hm:Meth X.K C m f)(F:dk X.prog X.w X.K X.mg X.base CX k f fd ps sp)(r:cx k X.A)(n:Binds X.K fd ps ds)(i:Vals dvs ds)(y:Passes CX X E)
 (j:eval (.Call (.Attribute o m apos) [] [] pos) X.env=(do
  let g <-eval o X.env
  standAt apos.atName
  let (f,first) <-holding [g] (getMethod g m pl)
  callWith pos f first (backTo pos (starEach [] X.env)) (backToKw pos (keywordEach [] X.env))):=by rfl):
 PE X (.Call (.Attribute o m apos) [] [] pos) (kh C m sp dvs E ta jZ):=by
 intro b s w H Q I h;rwa[PySem.W.methodCall_KW (pl:=pl) (a9 (z b s w H _ I h) λu G ζ=>?_) j];let⟨x,D,d,v,a,L,fs,ex,A,l,q⟩:=ζ;subst ex;obtain rfl:u=Value.ref a:=v;rwa[vk d A c hm l ?_];rwa[PySem.W.callWith_K0 (first:=[↑a]) d.dm hm.kp (zR (us:=[↑a]) (vs:=[↑a]) F r n i y d (.cons rfl .nil) q)]
structure Mk (K:Za1) (C f:Zs):Prop where
 makes:PySem.W.makesIn K C=true
 init:PySem.W.findIn K ↑C "__init__"=some (some ↑f)
 fn:PySem.W.isFn K ↑f=true
 kp:PySem.W.keepIn K ↑C=true
theorem JA {a:List (Zs×Obj)}{Q:VK}(M:Mk X.K C f)(F:dk X.prog X.w X.K X.mg X.base CX k f fd ps sp)(B:cx (k+ 1) X.A)(n:Binds X.K fd ps ds)(j:Vals dvs ds)
 (J:Passes CX X E) (I:Inv X a D H s) (r:Vals L N)
 (h:∀x d,H x=none->H d=none->d≠x->sp (↑x::(L++dvs)) (upd (upd H d (.own x)) x (.ins C d [])) (λv O=>v=.non/\Q ↑x O) E):
 X⁻¹ X.A (call ↑C N) (EP X a D Q) X.xe s:=by
 let g:=h (↥s+ 1) ↥s (I.aM.fresh (aiT _)) (I.aM.fresh (agJ _)) (ahf (ah6 _));let c:=Inv.made (C:=C) I;let i:Vals (V.ref (↥s+ 1)::(L++dvs)) (Value.ref (↥s+ 1)::(N++ds)):=.cons rfl (r.append j)
 let A:⇑(Value.ref (↥s+ 1)::N++ds)=⇑ps:=by
  let e:=⇑i;rw[F.len _ _ _ _ g]at e;rwa[e.symm]
 refine ajD (Jy (f:=f) I.dm M.makes M.init (ajC.mp M.fn) (ai9 (F.run _ X.stack _ _ ⟨Value.ref (↥s+ 1)::N,[]⟩ (Value.ref (↥s+ 1)::(N++ds)) _ _ E (B.make C N [])
  (c.zQ.make C N []) (n _ (Value.ref (↥s+ 1)::N) c.dm A) i g) λr l b=>?_))
 cases r with
 |error e=>exact J a D _ _ e l c b
 |ok G=>
  cases G with
  |ret u=>
   let⟨v,P,w,z,q,y⟩:=c.after b;subst q;rwa[z,⟨V.ref (↥s+ 1),P,w,2,y⟩]
  |next=>exact False.elim b
  |brk=>exact False.elim b
  |cont=>exact False.elim b
def xh (M:Mk X.K C f)(F:dk X.prog X.w X.K X.mg X.base CX k f fd ps sp)(n:cx (k+ 1) X.A)(l:Gl X x)(w:X.mg x\↑C)(j:Binds X.K fd ps ds)(i:Vals dvs ds)(v:Passes CX X E)
 (z:PA X (e::es) t) (c:(x==("__debug__":Str))=false:=by decide) (y:starEach (e::es) X.env=(false,eval e X.env)::starEach es X.env:=by rfl) (b:(backTo pos (starEach es X.env)).any (·.1)=false:=by rfl):
 PE X (.Call (.Name x p) (e::es) [] pos) (UY C sp dvs E t):=by
 intro a s u H Q I h;rwa[ahO (jY I l w ?_ c)];rwa[ajo (h₀:=X.base) I.ok.mod.ve M.kp (a9 (z pos a s u H _ I h) λG D ζ=>?_) y b];let⟨A,B,d,r,q⟩:=ζ;rwa[⟨d.dm,5⟩];rwa[JA M F n j i v d r q]
end
def PK (X:Cx)(kws:List Keyword)(t:TA):Prop:=
 ∀(pos:Pos) (a:List (Zs×Obj)) (s:Zu) (b:St) (H:Hp) (Q:Zb->Hp->Prop),Inv X a b H s->t b H Q->X⁻¹ X.A (evalAll ((backToKw pos (keywordEach kws X.env)).map (·.2))) (AP X a b Q) X.xe s
section
variable {X:Cx}{fd:FuncData}{ps ks:Zp}{x:Str}{pos YC:Pos}{e:Expr}{kws:List Keyword}{te:TE}{t:TA}{nm:Option Str}
def GC:PK X [] jZ:=λ_ _ _ _ H Q I h=>wpAny_evalAll_nil ⟨[],H,I,.nil,h⟩
def Du (w:PE X e te)(l:PK X kws t):PK X (⟨nm,e,YC⟩::kws) (jH te t):=by
 intro pos a s b H Q I h;rwa[wpAny_evalAll_cons (agB (a9 (w a s b H _ I h) λu q ζ=>?_))];let⟨x,j,d,c,g⟩:=ζ;rwa[agB (ajB (agI ?_))];rwa[a9 (l pos a q b j _ d g) λA z ζ=>?_];let⟨n,v,i,r,y⟩:=ζ;rwa[⟨x::n,v,i,.cons c r,y⟩]
structure aaO (K:Za1) (fd:FuncData) (ps ks:Zp) (g:Zk->Zk->Zk) (gV:Zb->Zb->Zb):Prop where
 to:∀(s:Zu) (us ws:Zk),K.In s.heap->⇑(g us ws)=⇑ps->BindsTo s fd ⟨us,ks.zip ws⟩ (ps.zip (g us ws))
 rel:∀{vs:Zb} {us:Zk} {zs:Zb} {ws:Zk},Vals vs us->Vals zs ws->Vals (gV vs zs) (g us ws)
end
structure aS (N P:Zp) (sc:Scope):Prop where
 kind:sc.kind=.function
 co:sc.isCoroutine=false
 gen:sc.isGenerator=false
 nd:N.Nodup
 pre:N.take ⇑P=P
 par:∀x∈P,sc.names.lookup x=some .local\/sc.names.lookup x=some .cell
 Qr:∀y∈sc.names,y.2≠.free
theorem yh {kindOf:Str->Option NameKind}:∀{binds:List (Str×Zt)} {m:Str->Zl},(∀v,(x,v)∉binds)->bindL kindOf binds m x=m x
 |[],_,_=>rfl
 |(n,v)::r,m,h=>by
  unfold bindL;rw[yh λw a=>h w (ag4 _ a)];split
  ·cbv
  ·rfl
theorem yi {kindOf:Str->Option NameKind}:∀{binds:List (Str×Zt)} {m:Str->Zl},(∀v,(x,v)∉binds)->bindC kindOf binds m x=m x
 |[],_,_=>rfl
 |(n,v)::r,m,h=>by
  unfold bindC;rw[yi λw a=>h w (ag4 _ a)];split
  ·rfl
  cbv
theorem yj {kindOf:Str->Option NameKind}{x:Str}{v:Zt}:∀{P:Zp} {a:Zk} {i:Nat} {m:Str->Zl},P.Nodup->P[i]?\x->a[i]?\v->kindOf x=some .local->
 bindL kindOf (P.zip a) m x=some v
 |[],_,_,_,_,h,_,_=>by simp at h
 |_::_,[],_,_,_,_,h,_=>by simp at h
 |p::P,w::a,0,m,d,c,b,e=>by
  simp at c b;subst c;subst b;show bindL kindOf ((p,w)::P.zip a) m p=_;unfold bindL;rw[yh λv f=>(ahk.mp d).1 (List.of_mem_zip f).1,ag8 e];simp
 |p::P,w::a,i+ 1,m,d,c,b,e=>by
  unfold bindL;rwa[yj (i:=i) (ahk.mp d).2 (by simpa using c) (by simpa using b) e]
theorem yk {kindOf:Str->Option NameKind}{x:Str}{v:Zt}:∀{P:Zp} {a:Zk} {i:Nat} {m:Str->Zl},P.Nodup->P[i]?\x->a[i]?\v->kindOf x≠some .local->
 bindC kindOf (P.zip a) m x=some v
 |[],_,_,_,_,h,_,_=>by simp at h
 |_::_,[],_,_,_,_,h,_=>by simp at h
 |p::P,w::a,0,m,d,c,b,e=>by
  simp at c b;subst c;subst b;show bindC kindOf ((p,w)::P.zip a) m p=_;unfold bindC;rw[yi λv f=>(ahk.mp d).1 (List.of_mem_zip f).1,ag3 e];simp
 |p::P,w::a,i+ 1,m,d,c,b,e=>by
  unfold bindC;rwa[yk (i:=i) (ahk.mp d).2 (by simpa using c) (by simpa using b) e]
noncomputable def start (N:Zp)(a:Zb):St:=a.map some++List.replicate (⇑N - ⇑a) none
def cy (c:lh)(P:Program)(w:World)(K:Za1)(mg:Str->Zl)(base:Heap)(N:Zp)(qual:Str)(scope:Scope)(f:Zs)(b:Zt)(A:Around)(outer:Zq)(s:Zu)(H:Hp)(E:XK):Cx where
 prog:=P
 w:=w
 K:=K
 mg:=mg
 base:=base
 A:=A.deeper (envOfC qual scope ↥s f b)
 N:=N
 dX:=s
 uj:=H
 env:=envOfC qual scope ↥s f b
 outer:=outer
 stack:=envOfC qual scope ↥s f b::outer
 ex:=[]
 calm:=true
 fn:=λ_=>true
 pn:=[]
 xe:=λe d=>(P<|>w) (A.deeper (envOfC qual scope ↥s f b)) (leaving (envOfC qual scope ↥s f b) e) (λ_ a=>c outer H s E e a) (λg a=>c outer H s E g a) d
def zS {sc:Scope}(h:sc.names.lookup x=some .cell):∃c,(cellsFrom n sc.names []).lookup x\c:=by
 let q:=aj6 sc.names n [] (.inl h);rwa[ajS.mp q]
def yl {O:lh}{base:Heap}{N:Zp}{qual:Str}{scope:Scope}{f:Zq}{E:XK}{G:Zk}
 (S:aS N Z scope) (Q:A.handled=none) (j:lV P w K M base A f s H) (X:⇑L=⇑Z) (r:Vals L G)
 (x:InCallC s ↥s (bindL (envOfC qual scope ↥s a v).kindOf (Z.zip G) λ_=>none) (cellsFrom (↥s+ 1) scope.names []) (bindC (envOfC qual scope ↥s a v).kindOf (Z.zip G) λ_=>none) t):
 Inv (cy O P w K M base N qual scope a v A f s H E) [] (start N L) H t:=by
 let R:⇑Z<=⇑N:=by have:=ahS List.length S.pre;rw[ahm]at this;ext
 let⟨D,W,rfl,I⟩:=x.done;let m:∀b:Zs,b∉(cy O P w K M base N qual scope a v A f s H E).ex:=λb z=>absurd (show b∈([]:Zn) from z) (by simp)
 erw[⟨j.mod,S.kind,22,agJ _,λy z c D l=>?_,λy B=>?_,λy c _ h=>?_,λ_=>Q,Around.frames_deeper j.frames,.inr ⟨22⟩,λb z=>absurd z (m b),j.bs,j.qN,λb _ _=>m b,λb z=>absurd z (m b),j.i6,j.tO⟩,2,j.bare,Un.kept I,⟨_,x.toInCall.ns,λi y g D l Y=>?_⟩,λy c h=>⟨_,x.cell y c h⟩,j.aM.fresh (agJ _),λy c h=>?_,λp o=>absurd (show p∈([]:List (Zs×Obj)) from o) (by simp),j.aM.kept I]
 ·rwa[name_of_addr x.apart (ah9 D) (ah9 l)]
 ·rcases B with B|B
  ·rwa[zS B]
  ·rwa[absurd rfl (S.Qr _ (ah9 B))]
 ·rwa[ajQ (x.above y c (ah9 h))]
 ·let F:i<⇑L:=by
   unfold start at l;cases F:i<⇑L
   ·rwa[F]
   ·cbv
  let U:L[i]?\g:=by
   unfold start at l;rw[agN (by simpa using F),agY]at l
   cases e:L[i]? with
   |none=>rw[e]at l;ext l
   |some d=>cbv
  let⟨u,J,T⟩:=r.get U
  let o:Z[i]?\y:=by
   rw[<-S.pre,ajT ∅];rwa[D]
  let C:Z.Nodup:=by rw[<-S.pre];rwa[S.nd.sublist (List.take_sublist _ _)]
  erw[u,T];rcases S.par y (agC o) with k|k
  ·rwa[.inl ⟨k,yj C o J k⟩]
  ·let⟨c,e⟩:=zS (n:=↥s+ 1) k;rwa[.inr ⟨.inl k,c,e,5⟩];let q:=x.cell y c e;rw[yk C o J (by show scope.names.lookup y≠_;cbv)]at q;rwa[q]
 ·rwa[j.aM.fresh (ajQ (x.above y c (ah9 h)))]
 ·unfold start;show _=⇑N;rw[agF,agH,List.length_replicate];ext
def zE {B:lh}{base:Heap}{k:Nat}{name qual:Str}{params:Arguments}{body:List Stmt}{scope:Scope}{X kV doc pm d Y Z:Zt}{W od:Zo}
 {O:Array Zl} {N z:Zp} {C:Sp} (lk:K.lookup a\⟨Z,od,.func (PySem.W.fnOf name qual params body scope X kV doc pm W d Y),O⟩) (L:PySem.W.codeIn K d qual=true) (S:aS N z scope)
 (len:∀f H Q E,C f H Q E->⇑f=⇑z)
 (j:∀(A:Around) (c:Zq) (s:Zu) (H:Hp) (f:Zb) (Q:VK) (E:XK),cx k (A.deeper (envOfC qual scope ↥s a d))->C f H Q E->
  ∃t,iJ (cy B P w K M base N qual scope a d A c s H E) body t/\t { nx:=λ_ h=>Q .non h,rt:=Q } (start N f) H):
 dk P w K M base B (k+ 1) a (PySem.W.fnOf name qual params body scope X kV doc pm W d Y) z C:=by
 rwa[⟨len,λA c s H R us f Q E G m hb r p=>?_⟩];let hl:=len _ _ _ _ p;let T:K.In s.heap:=m.mod.ve.keeps λb o e=>(m.bs b o e).1
 let lim:s.heap.NoLimit:=m.mod.nolimit.keeps λb o e=>(m.bs b o e).1
 let i:∀y∈z.zip us,scope.names.lookup y.1=some .local\/(scope.names.lookup y.1=some .cell/\((cellsFrom (↥s+ 1) scope.names []).lookup y.1).isSome=true):=λζ hy=>by
  let⟨n,v⟩:=ζ
  rcases S.par n (List.of_mem_zip hy).1 with q|q
  ·rwa[.inl q]
  ·rwa[.inr ⟨q,aj6 _ _ _ (.inl q)⟩]
 rwa[codeAny_call_function G.depth (T^lk) rfl S.co S.gen rfl (PySem.W.codeRec_of T L) (hb _ _ _ _ ?_)];rwa[wpAny_newFunctionEnv_cells S.kind i λenv he U x=>?_]
 subst he;rwa[⟨lim.keeps x.toInCall.keep,codeAny_func ?_⟩];let⟨t,ht,hq⟩:=j A c s H f Q E (G.deeper _) p;let I:Inv (cy B P w K M base N qual scope a d A c s H E) [] (start N f) H U:=yl S G.hd m hl r x;rwa[ahF (ht [] U (start N f) H _ I hq) (λfl D l=>?_) λe D l=>l]
 let fin:∀{g:St} {h:Hp} {v:V} {u:Zt},Inv (cy B P w K M base N qual scope a d A c s H E) [] g h D->RelV v u->Q v h->CE c P w H s Q u D:=
  λ{g h v u} J F q=>⟨v,h,J.os,J.bare,J.base,J.aM,F,q⟩
 cases fl with
 |ret u=>
  let⟨v,g,h,J,F,q⟩:=l;rwa[fin J F q]
 |next=>
  let⟨g,h,J,q⟩:=l;rwa[fin (v:=V.non) (u:=Value.none) J rfl q]
 |brk=>
  let⟨_,_,_,q⟩:=l;rwa[False.elim q]
 |cont=>
  let⟨_,_,_,q⟩:=l;rwa[False.elim q]
section
variable {X:Cx}{x:Str}{p pos:Pos}{e:Expr}{es:Zr}{t:TA}{id T:String}{r:Zb->Hp->VK->Prop}
def V1 (r:Zb->Hp->VK->Prop)(t:TA):TE:=λ c H Q=>t c H λa b=>r a b Q
def bz (l:iV X (.builtin id) r)(g:Gl X x)(q:X.mg x=none)(v:bootBuiltins x\.builtin id)(w:PA X (e::es) t)(o:x≠"__name__":=by decide)(c:(x==("__debug__":Str))=false:=by decide)
 (y:starEach (e::es) X.env=(false,eval e X.env)::starEach es X.env:=by rfl) (b:(backTo pos (starEach es X.env)).any (·.1)=false:=by rfl):PE X (.Call (.Name x p) (e::es) [] pos) (V1 r t):=by
 intro a s d H Q I h;rwa[ahO (gY I g q v ?_ o c)];rwa[PyProof.Rows.callWith_builtin1 (a9 (w pos a s d H _ I h) λu n ζ=>?_) y b];let⟨j,m,i,f,k⟩:=ζ;rwa[l a n d m j u Q i f k]
def fE (l:iV X (.type T) r)(g:Gl X x)(q:X.mg x=none)(v:bootBuiltins x\.type T)(w:PA X (e::es) t)(o:x≠"__name__":=by decide)(c:(x==("__debug__":Str))=false:=by decide)
 (y:starEach (e::es) X.env=(false,eval e X.env)::starEach es X.env:=by rfl) (b:(backTo pos (starEach es X.env)).any (·.1)=false:=by rfl):PE X (.Call (.Name x p) (e::es) [] pos) (V1 r t):=by
 intro a s d H Q I h;rwa[ahO (gY I g q v ?_ o c)];rwa[ahE (a9 (w pos a s d H _ I h) λu n ζ=>?_) y b];let⟨j,m,i,f,k⟩:=ζ;rwa[l a n d m j u Q i f k]
end
end L2
namespace HT
open PySem PyProof.Rows
noncomputable def lexLt:Zg->Zg->Bool
 |[],[]=>false
 |[],_::_=>true
 |_::_,[]=>false
 |x::a,y::ys=>if x=y then lexLt a ys else decide (x<y)
def vl (x y:Int)(a ys:Zg):lexLt (x::a) (y::ys)=if x=y then lexLt a ys else decide (x<y):=rfl
def y7:lexLt [] []=false:=rfl
section
variable {prog:Program}{w:World}{A:Around}{E:Zt->Zu->Prop}{s:Zu}
def NV {ws:Zk}(t:IsTup s.heap a N.toArray)(u:IsTup s.heap b ws.toArray)(o:N≠[])
 (v:ws=[]->Q ↑a s) (r:ws≠[]->Q ↑↥s { s with heap:=s.heap.push ("tuple">>>.seq (N++ws).toArray) })
 (x:⇑N+ ⇑ws<=sizeLine):(prog<|>w) A (binaryOp .Add ↑a ↑b) Q E s:=by
 let⟨⟨cls,m,data,k⟩,h,y,n,q⟩:=id t;let⟨⟨l,d,data2,f⟩,c,j,p,i⟩:=id u;subst y q j i;let e:N.toArray++ws.toArray=(N++ws).toArray:=by simp
 cases g:ws=[]
 ·exact concat_meets ⟨_,h,2⟩ ⟨_,c,2⟩ noFill_tuple_add seq_tuple_add aj7 ajZ (ajU _ _)
   (tuple_addW1 a b N.toArray ws.toArray n p m d k f (by simpa using o) (by simp[g])) ⟨h,c,v g⟩
 ·refine concat_meets ⟨_,h,2⟩ ⟨_,c,2⟩ noFill_tuple_add seq_tuple_add aj7 ajZ (ajU _ _)
   (tuple_addW2 a b N.toArray ws.toArray n p m d k f (by simpa using o) (by simpa using g) ∅) ⟨h,c,5⟩
  rw[e];rwa[r g]
noncomputable def b6 (n d:Nat):Zj->Nat
 |none=>d
 |some v=>if v<0 then (v+ (n:Int)).toNat else min v.toNat n
def xi (n d k:Nat):b6 n d (some (k:Int))=min k n:=by
 show (if (k:Int)<0 then ((k:Int)+ (n:Int)).toNat else min (k:Int).toNat n)=min k n;rw[ag3 ∅,ahg]
def Dv (v:Int)(n d:Nat):(if v<0 then max (v+ (n:Int)) 0 else min v (n:Int))=((b6 n d (some v):Nat):Int):=by
 show (if v<0 then max (v+ (n:Int)) 0 else min v (n:Int))=(((if v<0 then (v+ (n:Int)).toNat else min v.toNat n):Nat):Int);cases a:v<0
 ·cbv
 ·simp only[ag3 a];ext
def E9 (lo a:Zj)(n:Nat):Builtin.Slice.sliceAdjust lo a 1 (n:Int)=(((b6 n 0 lo:Nat):Int),((b6 n n a:Nat):Int)):=by
 let b:¬((1:Int)<0):=∅
 unfold Builtin.Slice.sliceAdjust;rwa[Prod.ext ?_ ?_]
 ·cases lo with
  |none=>rfl
  |some v=>exact Dv v n 0
 ·cases a with
  |none=>rfl
  |some v=>exact Dv v n n
def Fb (i j:Nat):Builtin.Slice.slicePlaces (i:Int) (j:Int) 1=j - i:=by
 unfold Builtin.Slice.slicePlaces;let a:(1:Int) > 0:=∅
 split <;> ext
def vm {o:Zj}{Q:Zj->Zu->Prop}(p:IsPart v o)(h:Q o s):(prog<|>w) A (Builtin.Slice.slicePartIndex v) Q E s:=by
 cases p with
 |none=>exact slicePart_none h
 |int i t=>exact slicePart_int h
def lW {lo d:Zj}{Q:Int×Int×Nat->Zu->Prop}(g:s.heap.IsSliceOf a v u .none)(pl:IsPart v lo)(e:IsPart u d)
 (h:Q (((b6 n 0 lo:Nat):Int),1,b6 n n d - b6 n 0 lo) s):(prog<|>w) A (Builtin.Slice.sliceApplied ↑a (pure (n:Int))) Q E s:=by
 let⟨os,b,f,c⟩:=id g;rwa[agB (agB (ahI b c (x:=v) rfl (agB (ahI b c (x:=u) rfl (agB (ahI b c (x:=.none) rfl (agI ?_)))))))];rwa[agB (slicePart_none ?_)];rwa[agB (vm pl (agB (vm e (agB (agI ?_)))))];show wpAny _ _ (match Builtin.Slice.sliceAdjust lo d 1 (n:Int) with|(lo,d)=>pure (lo,(1:Int),Builtin.Slice.slicePlaces lo d 1)) _ _ s;rw[E9 lo d n];show wpAny _ _ (pure (((b6 n 0 lo:Nat):Int),(1:Int),Builtin.Slice.slicePlaces ((b6 n 0 lo:Nat):Int) ((b6 n n d:Nat):Int) 1)) _ _ s;rw[Fb];rwa[agI h]
def JB (xs:Zm)(i k:Nat):((List.range k).filterMap λ(m:Nat)=>xs[((i:Int)+ (m:Int)* 1).toNat]?).toArray=((xs.toList.drop i).take k).toArray:=by
 let e:(λ(m:Nat)=>xs[((i:Int)+ (m:Int)* 1).toNat]?)=λm=>xs[i+ m]?:=by
  funext m
  have:((i:Int)+ (m:Int)* 1).toNat=i+ m:=∅
  rw[this]
 rw[e];have:=pick_run xs i k;rw[List.filterMap_map]at this;let a:((λx=>xs[x]?) ∘ λx=>i+ x)=λm=>xs[i+ m]?:=rfl
 cbv
def tE {items:Zm}{lo d:Zj}(e:IsTup s.heap a items)(k:s.heap.IsSliceOf b v u .none)(pl:IsPart v lo)(p:IsPart u d)
 (o:¬(b6 items.size 0 lo=0/\b6 items.size items.size d=items.size))
 (h:Q ↑↥s { s with heap:=s.heap.push ("tuple">>>.seq ((items.toList.drop (b6 items.size 0 lo)).take (b6 items.size items.size d - b6 items.size 0 lo)).toArray) })
 (n:items.size<=sizeLine):(prog<|>w) A (getItem ↑a ↑b) Q E s:=by
 let c:sizeOk (.seq ((items.toList.drop (b6 items.size 0 lo)).take (b6 items.size items.size d - b6 items.size 0 lo)).toArray):=by
  show ((items.toList.drop (b6 items.size 0 lo)).take (b6 items.size items.size d - b6 items.size 0 lo)).toArray.size<=sizeLine;rw[agV,ahm,ahG,aio];ext
 let⟨os,i,g,l⟩:=id k;let j:s.TypeIs ↑b "slice":=⟨os,i,g⟩;unfold getItem
 try with_reducible rwa[ahQ ?_]
 rwa[agB (wpAny_sequenceKey e.typeIs ⋯ ?_)]
 refine agB (ahH (name:=Str.ofString "__getitem__") e.typeIs ahN
  (ahL ahN e.typeIs entry_tuple_getitem ?_ (args_tuple_getitem _ _)))
 show wpAny _ _ (Builtin.Tuple.tupleItemsOf ↑a >>=_) _ _ s;rwa[agB (tupleItemsOf_ e ?_)];rwa[agB (aja j ?_)];rwa[agB (lW k pl p ?_)]
 let f:¬((((b6 items.size 0 lo:Nat):Int)==0 && (1:Int)==1 && (b6 items.size items.size d - b6 items.size 0 lo)==items.size)=true):=by
  intro q;rw[aix,aix]at q;let r:((b6 items.size 0 lo:Nat):Int)=0:=eq_of_beq q.1.1;let t:b6 items.size items.size d - b6 items.size 0 lo=items.size:=eq_of_beq q.2;rwa[o ⟨33⟩]
 show wpAny _ _ (if (((b6 items.size 0 lo:Nat):Int)==0 && (1:Int)==1 && (b6 items.size items.size d - b6 items.size 0 lo)==items.size)=true then _ else _) _ _ s;rw[ag3 f,JB]
 first
  |rwa[agB (m:=Builtin.Tuple.tupleExact _) (ahB (agI ⟨_,rfl,agI h⟩) c)]
  |rwa[agB (m:=Builtin.Tuple.tupleExact _) (ahB (agB (agI (agI ⟨_,rfl,agI h⟩))) c)]
  |rwa[agB (agB (m:=Builtin.Tuple.tupleExact _) (ahB (agI (agI ⟨_,rfl,agI h⟩)) c))]
  |rwa[agB (agB (m:=Builtin.Tuple.tupleExact _) (ahB (agI ⟨_,rfl,agI h⟩) c))]
end
end HT
namespace L2
open PySem PySem.Spec PyProof.Rows
abbrev TO:=St->Hp->(Zj->Hp->Prop)->Prop
def PO (X:Cx)(e:Option Expr)(t:TO):Prop:=
 ∀(a:List (Zs×Obj)) (s:Zu) (b:St) (H:Hp) (Q:Zj->Hp->Prop),Inv X a b H s->t b H Q->
  X⁻¹ X.A (evalPart e X.env) (λu d=>∃o c,Inv X a b c d/\IsPart u o/\Q o c) X.xe s
def NW:TO:=λ_ H Q=>Q none H
def UZ (t:TE):TO:=λ b H Q=>t b H λx a=>∃i,x=.int i/\Q (some i) a
section
variable {X:Cx}{e:Expr}{te:TE}{lo hi:Option Expr}{tl th:TO}{pos p2:Pos}
def xj:PO X none NW:=by
 intro a s b H Q I h;rwa[agI ⟨none,H,I,.none,h⟩]
def om (h:PE X e te):PO X (some e) (UZ te):=by
 intro a s j H Q I b;rwa[a9 (h a s j H _ I b) λu k ζ=>?_];let⟨x,c,g,d,f⟩:=ζ
 let⟨i,rfl,q⟩:=f;let⟨t,rfl⟩:=d;rwa[some i,c,g,.int i t,q]
def LR (X:Cx)(r:V->Zj->Zj->Hp->VK->Prop):Prop:=
 ∀(a:List (Zs×Obj)) (s:Zu) (f:St) (H:Hp) (x:V) (v d c:Zt) (lo hi:Zj) (b:Zs) (Q:VK),Inv X a f H s->RelV x v->s.heap.IsSliceOf b d c .none->IsPart d lo->IsPart c hi->r x lo hi H Q->
  ∃T id,typeLookup (.type T) "__getitem__"=pure (some (.builtin id))/\s.TypeIs v T/\X⁻¹ X.A (getItem v ↑b) (EP X a f Q) X.xe s
def tSl (r:V->Zj->Zj->Hp->VK->Prop)(te:TE)(tl th:TO):TE:=λ a H Q=>te a H λx c=>tl a c λl b=>th a b λu d=>r x l u d Q
def pF {r:V->Zj->Zj->Hp->VK->Prop}(C:LR X r)(J:PE X e te)(B:PO X lo tl)(E:PO X hi th):PE X (.Subscript e (.Slice lo hi none p2) pos) (tSl r te tl th):=by
 intro a s c H Q I h;rwa[Subscript_ (a9 (J a s c H _ I h) λv F ζ=>?_)];let⟨x,A,m,i,w⟩:=ζ;rwa[wpAny_Slice (a9 (B a F c A _ m w) λf p ζ=>?_)];let⟨l,G,z,pl,L⟩:=ζ;rwa[a9 (E a p c G _ z L) λd s3 ζ=>?_];let⟨u,g,o,D,y⟩:=ζ;rwa[agI ?_];let j:Inv X a c g { s3 with heap:=s3.heap.push ("slice">>>.fields #[f,d,.none]) }:=o.kept (t':=s3.toks) λb N q=>agD _ q
 let⟨T,id,t,k,n⟩:=C a { s3 with heap:=s3.heap.push ("slice">>>.fields #[f,d,.none]) } c g x v f d l u ↥s3 Q j i (Heap.IsSliceOf.new ..) pl D y;rwa[tail_any (ops:=[↑↥s3,v]) k t n (by with_unfolding_all rfl)]
def gP (xs:Zb)(lo hi:Zj):Zb:=(xs.drop (HT.b6 ⇑xs 0 lo)).take (HT.b6 ⇑xs ⇑xs hi - HT.b6 ⇑xs 0 lo)
def tT (xs:Zb)(lo hi:Zj):⇑(gP xs lo hi)<=⇑xs:=by
 unfold gP;rw[ahm,ahG];ext
inductive Qs (K:Za1) (x:V) (lo:Zj) (hi:Zj) (H:Hp) (Q:VK):Prop
 |mk (a:Zs) (xs:Zb):x=↑a->bN K H a xs->¬(HT.b6 ⇑xs 0 lo=0/\HT.b6 ⇑xs ⇑xs hi=⇑xs)->(∀p,H p=none->Q ↑p (upd H p (.tup (gP xs lo hi))))->Qs K x lo hi H Q
def Qt:LR X (Qs X.K):=by
 intro g s y H x v w n lo hi t Q I k l pl j h;let⟨a,xs,rfl,m,i,q⟩:=h;ext k;let⟨c,r,d,f⟩:=I.tuple m;let hlen:c.toArray.size=⇑xs:=by rwa[r.length.symm]
 erw["tuple",_,ahN.lookup,d.typeIs];rwa[HT.tE d l pl j ([hlen]▸i) ?_ ([hlen]▸f)];rw[hlen];rwa[⟨↑↥s,_,I.laid (t':=s.toks) (o:=.tup (gP xs lo hi)) (λb u q=>agD _ q) (agJ _) ?_,2,q _ (I.aM.fresh (agJ _))⟩];rwa[agT (tT xs lo hi) f,_,(r.drop (HT.b6 ⇑xs 0 lo)).take (HT.b6 ⇑xs ⇑xs hi - HT.b6 ⇑xs 0 lo),IsTup.new _ _]
inductive YD (K:Za1) (x:V) (y:V) (H:Hp) (Q:VK):Prop
 |mk (a b:Zs) (ns ms:Zg):x=↑a->y=↑b->bN K H a (ns.map V.int)->bN K H b (ms.map V.int)->Q (.bl (HT.lexLt ns ms)) H->YD K x y H Q
inductive LV (K:Za1) (x:V) (y:V) (H:Hp) (Q:VK):Prop
 |mk (a b:Zs) (xs ys:Zb):x=↑a->y=↑b->bN K H a xs->bN K H b ys->xs≠[]->⇑xs+ ⇑ys<=sizeLine->(ys=[]->Q ↑a H)->(ys≠[]->∀p,H p=none->Q ↑p (upd H p (.tup (xs++ys))))->LV K x y H Q
def Vals.sN (r:Vals L N):N=[]↔L=[]:=by
 cases r with
 |nil=>simp
 |cons _ _=>simp
def NX:fD X (binaryOp .Add) (LV X.K):=by
 intro g s E H x y v u Q I p r h;let⟨a,b,n,ys,rfl,rfl,A,j,t,f,l,B⟩:=h;ext p;ext r;let⟨k,d,m,_⟩:=I.tuple A;let⟨i,c,p2,_⟩:=I.tuple j;rwa[HT.NV m p2 (λz=>t (d.sN.mp z)) (λz=>⟨↑a,H,I,2,l (c.sN.mp z)⟩) (λz=>?_) (by rw[<-⇑d,<-⇑c];rwa[f])];rwa[⟨↑↥s,_,I.laid (t':=s.toks) (o:=.tup (n++ys)) (λb D q=>agD _ q) (agJ _) ?_,2,B (λw=>z (c.sN.mpr w)) _ (I.aM.fresh (agJ _))⟩];rwa[[agF]▸f,_,d.append c,IsTup.new _ _]
end
noncomputable def qP (n:Nat)(i:Int):Zi:=if 0<=i then (if i<n then some i.toNat else none) else if -(n:Int)<=i then some (i+ n).toNat else none
def iQ {a:Type}(xs:List a)(i:Int):Option a:=(qP ⇑xs i).bind λj=>xs[j]?
def xk (h:qP n z\j):seqIndex? z n\j/\j<n/\-(n:Int)<=z/\z<n:=by
 unfold qP at h;cases b:0<=z
 ·rw[ag8 b]at h;cases a:z<n
  ·rw[ag8 a]at h;let e:z.toNat=j:=Za0 h;rwa[by rw[seqIndex_of b a,e],33,a]
  ·rw[ag3 a]at h;ext h
 ·rw[ag3 b]at h;cases a: -(n:Int)<=z
  ·rw[ag8 a]at h;let e:(z+ n).toNat=j:=Za0 h;rwa[by rw[seqIndex_neg ∅ a,e],3,a,3]
  ·rw[ag3 a]at h;ext h
def Dw {a:Type}{xs:List a}{v:a}(h:iQ xs z\v):∃j,seqIndex? z ⇑xs\j/\xs[j]?\v/\j<⇑xs/\-(⇑xs:Int)<=z/\z<⇑xs:=by
 unfold iQ at h
 cases e:qP ⇑xs z with
 |none=>rw[e]at h;ext h
 |some j=>
  rw[e]at h;let⟨d,b,f,c⟩:=xk e;rwa[j,d,h,b,f,c]
def cD {a:Type}{xs:List a}{v:a}(h:xs[j]?\v):iQ xs (j:Int)\v:=by
 let b:j<⇑xs:=(agE.mp h).1
 let e:qP ⇑xs (j:Int)\j:=by
  unfold qP;rw[ag8 ∅,ag8 ∅];simp
 unfold iQ;rw[e];rwa[h]
def NZ (b:Expr):Prop:=∀o i,subscripted b false o i=operate [o,i] (getItem o i)
def GD (X:Cx)(r:R2):Prop:=
 ∀(value slice:Expr) (a:List (Zs×Obj)) (s:Zu) (b:St) (H:Hp) (x y:V) (v u:Zt) (Q:VK),Inv X a b H s->RelV x v->RelV y u->r x y H Q->
  subscripted slice false v u=operate [v,u] (getItem v u)->X⁻¹ X.A (subscriptTail value slice v u) (EP X a b Q) X.xe s
def Qu (X:Cx)(id:String)(r:V->Zb->Hp->VK->Prop):Prop:=
 ∀(a:List (Zs×Obj)) (s:Zu) (d:St) (H:Hp) (x:V) (c:Zb) (v:Zt) (b:Zk) (Q:VK),Inv X a d H s->RelV x v->Vals c b->r x c H Q->
  X⁻¹ X.A (call (.builtin id) (v::b)) (EP X a d Q) X.xe s
section
variable {X:Cx}{a b:Expr}{ta tb:TE}{pos:Pos}
def bC {r:R2}(g:GD X r)(n:PE X a ta)(d:PE X b tb)(j:NZ b):PE X (.Subscript a b pos) (LN r ta tb):=by
 intro c s l H Q I h;rwa[Subscript_ (Ju n d I h λv u e x y m f i k q=>g a b c e l m x y v u Q f i k q (j _ _))]
inductive JC (K:Za1) (x:V) (y:V) (H:Hp) (Q:VK):Prop
 |mk (p:Zs) (xs:Zb) (i:Int) (v:V):x=↑p->y=.int i->aD K H p xs->iQ xs i\v->Q v H->JC K x y H Q
inductive JD (K:Za1) (x:V) (y:V) (H:Hp) (Q:VK):Prop
 |mk (p:Zs) (xs:Zb) (i:Int) (v:V):x=↑p->y=.int i->bN K H p xs->iQ xs i\v->Q v H->JD K x y H Q
inductive YF (x:V) (y:V) (H:Hp) (Q:VK):Prop
 |mk (z:Str) (i:Int) (c:Nat):x=.str z->y=.int i->⇑z<=sizeLine->iQ z.cps.toList i\c->Q (.str ⟨#[c]⟩) H->YF x y H Q
def bu:GD X (JC X.K):=by
 intro value slice c s n H x y v u Q I F G h m;let⟨p,M,i,z,rfl,rfl,B,J,q⟩:=h;ext F;let⟨t,rfl⟩:=G;let⟨f,r,pl,L⟩:=I.list B;let⟨j,d,A,N,C,D⟩:=Dw J;let⟨w,l,e⟩:=r.get A;let E:=⇑r;let O:=qO;let fin:EP X c n Q w s:=⟨z,H,I,e,q⟩;cases k:0<=i
 ·let g:i.toNat=j:=by
   rw[seqIndex_of k D]at d;rwa[Za0 d]
  rwa[item_listR pl.isList k ∅ (by rw[g];simpa using l) fin m]
 ·let g:(i+ (f.toArray.size:Int)).toNat=j:=by
   rw[seqIndex_neg ∅ C]at d;rw[agV,<-E];rwa[Za0 d]
  exact subscriptTail_builtinR (x:=w) pl.isList.typeIs slot_list_getitem.lookup
   (wpAny_getItem_list_neg (Q:=λr o=>r=w/\EP X c n Q r o) pl.isList ∅ (by rw[agV] <;> omega) ∅ (by rw[g];simpa using l) ⟨2,fin⟩) m
def gj:GD X (JD X.K):=by
 intro value slice c s e H x y v u Q I n A h o;let⟨p,J,i,z,rfl,rfl,k,B,q⟩:=h;ext n;let⟨t,rfl⟩:=A;let⟨l,r,pl,F⟩:=I.tuple k;let⟨j,D,g,L,C,E⟩:=Dw B;let⟨w,m,d⟩:=r.get g;let G:=⇑r;let M:=qO;let fin:EP X c e Q w s:=⟨z,H,I,d,q⟩
 exact subscriptTail_builtinR (x:=w) pl.typeIs slot_tuple_getitem.lookup
  (getItem_tuple (j:=j) (Q:=λr f=>r=w/\EP X c e Q r f) pl ∅ ∅ (by cbv) (by simpa using m) ⟨2,fin⟩) o
def Fd (c:Zk)(n j:Nat)(u:Zt):Obj.mapSeq (·.setIfInBounds j u) ("list">>>.seq c.toArray n)=("list">>>.seq (c.set j u).toArray n):=by
 simp[Obj.mapSeq]
def Inv.lst {xs:Zb}(I:Inv X o D H s)(h:H c\.lst xs):
 ∃(d:Zk) (n:Nat),Vals xs d/\s.heap.get? c\("list">>>.seq d.toArray n)/\⇑xs<=sizeLine:=by
 let⟨z,d,n,r,e⟩:=I.aM c _ h;rwa[d,n,r,e,z]
def Inv.Qw {ys:Zb}{d:Zk}{f:Obj->Obj}(I:Inv X o D H s)(h:H c\.lst L)
 (j:s.heap.get? c\("list">>>.seq N.toArray n)) (g:f ("list">>>.seq N.toArray n)=("list">>>.seq d.toArray m)) (r:Vals ys d) (hz:⇑ys<=sizeLine) (t:Nat):
 Inv X o D (upd H c (.lst ys)) { s with heap:=s.heap.update c f,toks:=t }:=by
 let e:(s.heap.update c f).get? c\("list">>>.seq d.toArray m):=by
  rw[aht f j (by rw[g] <;> rfl),g]
 rwa[I.write (x:=c) (e:=c) (by rw[h];trivial) (.inl rfl) (λb u i q=>(ahv^ahZ i).trans q) ⟨_,e⟩ ?_];rwa[hz,d,m,r,e]
inductive LW (o:V) (i:V) (v:V) (H:Hp) (Q:(Hp->Prop)):Prop
 |mk (p:Zs) (xs:Zb) (k:Int) (j:Nat):o=↑p->i=.int k->H p\.lst xs->qP ⇑xs k\j->Q (upd H p (.lst (xs.set j v)))->LW o i v H Q
def set_list:Qb X LW:=by
 intro d s D H o i v J M u Q I A E B h;let⟨p,xs,k,j,rfl,rfl,y,F,q⟩:=h;ext A;let⟨t,rfl⟩:=E;let⟨c,n,r,g,C⟩:=I.lst y;let⟨e,G,z,w⟩:=xk F;let l:=⇑r;let L:=qO
 let x:Inv X d D (upd H p (.lst (xs.set j v))) { s with heap:=s.heap.update p (Obj.mapSeq (·.setIfInBounds j u)) }:=
  I.Qw y g (Fd c n j u) (r.set B j) ([ahb]▸C) s.toks
 cases m:0<=k
 ·let f:k.toNat=j:=by
   rw[seqIndex_of m w]at e;rwa[Za0 e]
  rwa[PySem.W.ki_setAt g m ∅ (by rw[agV,<-l];rwa[w]) ([f]▸⟨_,x,q⟩)]
 ·let f:(k+ (c.toArray.size:Int)).toNat=j:=by
   rw[seqIndex_neg ∅ z]at e;rw[agV,<-l];rwa[Za0 e]
  rwa[PySem.W.ki_setBack g ∅ (by rw[agV,<-l];rwa[z]) ∅ ([f]▸⟨_,x,q⟩)]
def zT (lo c:Zj)(n:Nat):(sliceBounds lo c none n).1=((HT.b6 n 0 lo:Nat):Int)/\(sliceBounds lo c none n).2.1=((HT.b6 n n c:Nat):Int)/\(sliceBounds lo c none n).2.2=1:=by
 rwa[⟨552⟩]
 ·cases lo with
  |none=>simp[sliceBounds,HT.b6]
  |some i=>
   simp only[sliceBounds,HT.b6,Option.getD_none,show (1:Int) > 0 by decide,akc];cases h:i<0
   ·simp only[h,akc] <;> ext
   ·simp only[h,ajE] <;> ext
 ·cases c with
  |none=>simp[sliceBounds,HT.b6]
  |some i=>
   simp only[sliceBounds,HT.b6,Option.getD_none,show (1:Int) > 0 by decide,akc];cases h:i<0
   ·simp only[h,akc] <;> ext
   ·simp only[h,ajE] <;> ext
def y8 (c:Zk)(lo d:Zj):slicePick c.toArray lo d none=((c.drop (HT.b6 ⇑c 0 lo)).take (HT.b6 ⇑c ⇑c d - HT.b6 ⇑c 0 lo)).toArray:=by
 let⟨f,e,g⟩:=zT lo d c.toArray.size;unfold slicePick;rw[f,e,g];simp only[sliceRange_one,pick_run,agV] <;> rfl
inductive Qx (K:Za1) (x:V) (lo:Zj) (hi:Zj) (H:Hp) (Q:VK):Prop
 |mk (a:Zs) (xs:Zb):x=↑a->aD K H a xs->(∀p,H p=none->Q ↑p (upd H p (.lst (gP xs lo hi))))->Qx K x lo hi H Q
def Dx:LR X (Qx X.K):=by
 intro e s w H x v u m lo c p Q I j k pl i h;let⟨a,xs,rfl,l,q⟩:=h;ext j;let⟨f,r,d,g⟩:=I.list l;let hlen:=⇑r;erw["list",_,slot_list_getitem.lookup,d.isList.typeIs];rwa[wpAny_getItem_list_slice d.isList k pl i .none (by simp) ?_ (by rw[agV] <;> omega)];rw[y8,<-hlen];rwa[⟨↑↥s,_,I.laid (t':=s.toks) (o:=.lst (gP xs lo c)) (λb t q=>agD _ q) (agJ _) ?_,2,q _ (I.aM.fresh (agJ _))⟩];rwa[agT (tT xs lo c) g,_,(0),(r.drop (HT.b6 ⇑xs 0 lo)).take (HT.b6 ⇑xs ⇑xs c - HT.b6 ⇑xs 0 lo),agU _ rfl]
noncomputable def LX:V->Bool
 |.non=>true
 |.bl _=>true
 |.int _=>true
 |.str _=>true
 |_=>false
noncomputable def eqV:V->V->Bool
 |.non,.non=>true
 |.bl a,.bl b=>a==b
 |.bl a,.int b=>(if a then 1 else 0)==b
 |.int a,.bl b=>a==(if b then 1 else 0)
 |.int a,.int b=>a==b
 |.str a,.str b=>a==b
 |_,_=>false
def V2 (x:V)(xs:Zb):Bool:=xs.any λy=>eqV y x
inductive rIn (K:Za1) (neg:Bool) (x:V) (y:V) (H:Hp) (Q:VK):Prop
 |mk (p:Zs) (xs:Zb):y=↑p->(aD K H p xs\/bN K H p xs)->LX x=true->xs.all LX=true->Q (.bl (if neg then !V2 x xs else V2 x xs)) H->rIn K neg x y H Q
inductive Fe (K:Za1) (xs:Zb) (H:Hp) (Q:VK):Prop
 |mk (p:Zs) (ys:Zb):xs=[↑p]->(aD K H p ys\/bN K H p ys)->Q (.int ⇑ys) H->Fe K xs H Q
def bf:iV X (.builtin "len") (Fe X.K):=by
 intro f s k H j m Q I r h;let⟨p,ys,rfl,c,q⟩:=h;let⟨u,rfl,i⟩:=vals1 r;ext i;let l:=qO;rcases c with c|c
 ·let⟨e,d,pl,g⟩:=I.list c;let hlen:=⇑d;rwa[Calls.call_len_list pl.isList (by simp only[agV] <;> omega) ⟨.int ⇑ys,H,I.tok _,⟨s.toks+ 1,by cbv⟩,q⟩]
 ·let⟨e,d,pl,g⟩:=I.tuple c;let hlen:=⇑d;rwa[len_tuple pl (by simp only[agV] <;> omega) ⟨.int ⇑ys,H,I.tok _,⟨s.toks+ 1,by cbv⟩,q⟩]
def zU:iV X (.type "list") (λw H Q=>∃p ys,w=[↑p]/\(aD X.K H p ys\/bN X.K H p ys)/\∀l,H l=none->Q ↑l (upd H l (.lst ys))):=by
 intro k s z H w B Q I r h;let⟨p,ys,rfl,i,q⟩:=h;let⟨u,rfl,y⟩:=vals1 r;ext y
 let fin:∀(c:Zk),Vals ys c->⇑ys<=sizeLine->∀(d:Heap) (g:Nat),(∀b x,s.heap.get? b\x->d.get? b\x)->
  d.get? ↥s=some { cls:=.type "list",dict:=none,data:=.seq c.toArray g,slots:=#[] }->EP X k z Q ↑↥s (s<*d):=λc f j d g kp e=>
  ⟨↑↥s,_,I.laid (t':=s.toks) kp (agJ _) (show bZ X.prog X.w _ d _ (.lst ys) from ⟨j,c,g,f,e⟩),2,q _ (I.aM.fresh (agJ _))⟩
 rcases i with i|i
 ·let⟨c,f,pl,j⟩:=I.list i;let hlen:=⇑f;let⟨o,t,v,n,m⟩:=pl.isList;rwa[call_list_seq p (.inl rfl) t v m (λd g kp e=>fin c f j d g kp e) (by simp only[agV] <;> omega)]
 ·let⟨c,f,pl,j⟩:=I.tuple i;let hlen:=⇑f;let⟨o,t,v,n,m⟩:=pl;rwa[call_list_seq p (.inr rfl) t v m (λd g kp e=>fin c f j d g kp e) (by simp only[agV] <;> omega)]
def qg:iV X (.type "tuple") (λm H Q=>∃p ys,m=[↑p]/\((aD X.K H p ys/\∀l,H l=none->Q ↑l (upd H l (.tup ys)))\/(bN X.K H p ys/\Q ↑p H))):=by
 intro c s n H m x Q I r h;let⟨p,ys,rfl,h⟩:=h;let⟨u,rfl,w⟩:=vals1 r;ext w;rcases h with ⟨i,q⟩|⟨i,q⟩
 ·let⟨d,g,pl,k⟩:=I.list i;let hlen:=⇑g;rwa[call_tuple_list pl.isList (λf kp=>?_) (by simp only[agV] <;> omega)];let j:Inv X c n H (s<*f):=I.kept (t':=s.toks) kp
  let v:Inv X c n (upd H f.objs.size (.tup ys)) { s with heap:=f.push ("tuple">>>.seq d.toArray) }:=
   j.laid (t':=s.toks) (λb o e=>agD _ e) (agJ _) (show bZ X.prog X.w _ _ _ (.tup ys) from ⟨k,d,g,IsTup.new _ _⟩)
  rwa[↑f.objs.size,_,v,2,q _ (j.aM.fresh (agJ _))]
 ·let⟨d,g,pl,k⟩:=I.tuple i;rwa[call_tuple_same pl ⟨↑p,H,I,2,q⟩]
def LY (K:Za1)(T:String)(x:V)(H:Hp):Prop:=match x with
 |.str _=>T="str"
 |.int _=>T="int"
 |.ref p=>(T="list"/\∃d,aD K H p d)\/(T="tuple"/\∃o,K.lookup p\o/\o.cls=.type "tuple"/\o.dict=none)\/
  (T="dict"/\((∃c,H p\.dK c)\/∃c,H p\.dT c))\/(T="set"/\∃S n,H p\.set S n)
 |_=>False
def GF {T:String}{x:V}(I:Inv X o D H s)(r:RelV x v)(g:LY X.K T x H):
 s.TypeIs v T/\∀a,v=↑a->∃l,s.heap.get? a\l/\l.dict=none:=by
 cases x with
 |str z=>
  let⟨t,rfl⟩:=r;cases (show T="str" from g);rwa[typeIs_str s z t,λ_ e=>nomatch e]
 |int i=>
  let⟨t,rfl⟩:=r;cases (show T="int" from g);rwa[typeIs_int s i t,λ_ e=>nomatch e]
 |ref p=>
  ext r;rcases g with ⟨rfl,w,m⟩|⟨rfl,d,f,u,h⟩|⟨rfl,f⟩|⟨rfl,S,n,f⟩
  ·let⟨q,_,pl,_⟩:=I.list m;rwa[⟨pl.isList.typeIs,λa e=>?_⟩];ext e;let⟨d,n,e,c,h,_⟩:=pl;rwa[d,e,h]
  ·rwa[⟨⟨d,I.dm p d f,u⟩,λa e=>?_⟩];ext e;rwa[d,I.dm _ d f,h]
  ·let z:∃d,s.heap.get? p\d/\d.ExactDict:=by
    rcases f with ⟨j,f⟩|⟨j,f⟩
    ·let⟨_,_,_,_,d,_,_,e,ex,_⟩:=I.aM p _ f;rwa[d,e,ex]
    ·let⟨_,_,_,_,d,_,_,e,ex,_⟩:=I.aM p _ f;rwa[d,e,ex]
   let⟨d,e,ex⟩:=z;rwa[⟨⟨d,e,ex.1⟩,λa k=>?_⟩];ext k;rwa[d,e,ex.2.1]
  ·let⟨d,_,_,_,e,ex,_⟩:=I.aM p _ f;rwa[⟨⟨d,e,ex.1⟩,λa k=>?_⟩];ext k;rwa[d,e,ex.2.1]
 |_=>exact False.elim g
def YG (K:Za1)(T:String)(r:V->Zb->Hp->VK->Prop)(to:TE):TE:=λ d H Q=>to d H λx c=>LY K T x c/\r x [] c Q
def tBM (K:Za1)(T:String)(r:V->Zb->Hp->VK->Prop)(to:TE)(t:TA):TE:=λ d H Q=>to d H λx c=>LY K T x c/\t d c λf e=>r x f e Q
variable {o e:Expr}{es:Zr}{to:TE}{t:TA}{name:Str}{apos cG:Pos}{T id:String}{r:V->Zb->Hp->VK->Prop}
def GH (y:PlainAttrs T)(slot:Slot T name id)(f:typeOf (.builtin id)=pure (.type "method_descriptor"))(w:Qu X id r)(n:PE X o to)
 (d:attributeBase o name X.env (eval o X.env)=eval o X.env:=by rfl) (hline:(apos.endLine==cG.line)=true:=by rfl):PE X (.Call (.Attribute o name apos) [] [] cG) (YG X.K T r to):=by
 intro c s j H Q I h;rwa[wpAny_Call_method0_late d hline (a9 (n c s j H _ I h) λv q ζ=>?_)];let⟨x,p,i,g,u,l⟩:=ζ;let⟨m,k⟩:=GF i g u;rwa[T,id,y,slot,f,m,k,ahK rfl (PySem.evalArgs_none (w c q j p x [] v [] Q i g .nil l))]
def cH (M:PlainAttrs T)(slot:Slot T name id)(i:typeOf (.builtin id)=pure (.type "method_descriptor"))(F:Qu X id r)(z:PE X o to)(L:PA X (e::es) t)
 (f:attributeBase o name X.env (eval o X.env)=eval o X.env:=by rfl)
 (g:((backTo cG (starEach (e::es) X.env)).all (λx=>!x.1) && (backToKw cG (keywordEach [] X.env)).all (λx=>x.1.isSome)
  && decide (⇑(e::es)+ ⇑([]:List Keyword)+ (if ([]:List Keyword).isEmpty then 0 else 1)<30))=true:=by rfl)
 (hline:(apos.endLine==cG.line)=true:=by rfl) (C:starEach (e::es) X.env=(false,eval e X.env)::starEach es X.env:=by rfl) (d:(backTo cG (starEach es X.env)).any (·.1)=false:=by rfl):
 PE X (.Call (.Attribute o name apos) (e::es) [] cG) (tBM X.K T r to t):=by
 intro c s j H Q I h;rwa[wpAny_Call_method_late f g hline rfl (a9 (z c s j H _ I h) λv B ζ=>?_)];let⟨x,A,l,k,D,u⟩:=ζ;let⟨w,n⟩:=GF l k D;erw[T,id,M,slot,i,w,n];let m:=L cG c B j A _ l u;rw[C]at m ⊢;rwa[ahK (by show (false || (backTo cG (starEach es X.env)).any (·.1))=false;rw[d] <;> rfl) (aij ?_)];rwa[a9 m λJ q ζ=>?_];let⟨p,G,y,E,N⟩:=ζ;rwa[F c q j G x p v J Q y k E N]
/- xs.append(e),list.index on a module's tuple .. are Qu facts of 06m -/
end
def zV (X:Cx)(id:String)(r:V->Zb->Hp->VK->Prop):Prop:=
 ∀(a:List (Zs×Obj)) (s:Zu) (d:St) (H:Hp) (x:V) (c:Zb) (v:Zt) (b:Zk) (Q:VK),Inv X a d H s->RelV x v->Vals c b->r x c H Q->
  X⁻¹ X.A (call (.builtin id) (v::b)) (EP X a d Q) X.xe s
theorem Vals.one:∀{x:V} {a:Zk},Vals [x] a->∃u,a=[u]/\RelV x u
 |_,_,.cons r .nil=>⟨12,r⟩
theorem Vals.zero:∀{a:Zk},Vals [] a->a=[]
 |_,.nil=>rfl
def Vals.dropLast {xs:Zb}{us:Zk}(h:Vals xs us):Vals xs.dropLast us.dropLast:=by
 induction h with
 |nil=>exact .nil
 |cons r t a=>
  cases t with
  |nil=>exact .nil
  |cons q b=>exact .cons r a
theorem Vals.eraseIdx:∀{xs:Zb} {us:Zk} (i:Nat),Vals xs us->Vals (xs.eraseIdx i) (us.eraseIdx i)
 |_,_,_,.nil=>.nil
 |_,_,0,.cons _ t=>t
 |_,_,i+ 1,.cons r t=>.cons r (Vals.eraseIdx i t)
theorem Vals.rep (h:Vals L N):∀k:Nat,Vals (List.replicate k L).flatten (List.replicate k N).flatten
 |0=>.nil
 |k+ 1=>by
  rwa[Vals.append h (Vals.rep h k)]
theorem ym {a:Type}:∀(l:List a) (i:Nat),⇑(l.eraseIdx i)<=⇑l
 |[],_=>agJ _
 |_::_,0=>aiT _
 |_::r,i+ 1=>Nat.succ_le_succ (ym r i)
theorem foldl_rep (a:Zk):∀(k:Nat) (acc:Zk),
 List.foldl (λc d=>c++d) acc.toArray (List.replicate k a.toArray)=(acc++(List.replicate k a).flatten).toArray
 |0,acc=>by simp
 |k+ 1,acc=>by
  let e:acc.toArray++a.toArray=(acc++a).toArray:=by simp
  let b:(acc++a)++(List.replicate k a).flatten=acc++(List.replicate (k+ 1) a).flatten:=by
   rw[aiI,ai2,ahy]
  rw[<-b,<-foldl_rep a k (acc++a),<-e,aiI,List.foldl_cons]
section
variable {X:Cx}{pins:List (Zs×Obj)}{σ:St}{H:Hp}{s:Zu}{l:Zs}{xs ys:Zb}
def Inv.zW {JF:Zk}{f:Zm->Zm}{t':Nat}(I:Inv X pins σ H s)(d:H l\.lst xs)
 (e:s.heap.get? l\("list">>>.seq N.toArray n)) (a:f N.toArray=JF.toArray) (c:Vals ys JF) (hz:⇑ys<=sizeLine):
 Inv X pins σ (upd H l (.lst ys)) { s with heap:=s.heap.update l (Obj.mapSeq f),toks:=t' }:=by
 let q:=PySem.IsL.update e f;rw[a]at q;rwa[I.write (x:=l) (e:=l) ([d]▸trivial) (.inl rfl) (λi u h g=>(ahv s.heap (Obj.mapSeq f) (ahZ h)).trans g) ⟨_,q⟩ ?_];rwa[hz,JF,_,c,q]
def Inv.Qy {t':Nat}(I:Inv X pins σ H s)(a:Vals ys N)(hz:⇑ys<=sizeLine):
 Inv X pins σ (upd H ↥s (.lst ys)) { s with heap:=s.heap.push ("list">>>.seq N.toArray),toks:=t' }:=
 I.laid (λ_ _ q=>agD _ q) (agJ _) ⟨hz,N,(0),a,agU _ rfl⟩
def Inv.fresh (I:Inv X pins σ H s):H ↥s=none:=I.aM.fresh (agJ _)
def Inv.nS (I:Inv X pins σ H s)(c:H l\.lst xs):⇑xs<=sizeLine/\∃(a:Zk) (n:Nat),Vals xs a/\⇑xs=⇑a/\s.heap.get? l\("list">>>.seq a.toArray n):=by
 let⟨z,a,n,r,e⟩:=I.aM l _ c;rwa[z,a,n,r,⇑r,e]
def zX (h:n<=sizeLine):Builtin.List.listTooLong n=false:=by
 rwa[ahD ∅]
end
section
variable {X:Cx}
inductive Dy (x:V) (vs:Zb) (H:Hp) (Q:VK):Prop
 |mk (l:Zs) (xs:Zb) (y:V):x=↑l->vs=[y]->H l\.lst xs->⇑xs<sizeLine->Q .non (upd H l (.lst (xs++[y])))->Dy x vs H Q
theorem bO:zV X "list.append" Dy:=by
 intro d s p H x j v t Q I g f h;let⟨l,o,y,rfl,rfl,c,k,q⟩:=h;ext g;let⟨u,rfl,i⟩:=f.one;let⟨z,a,n,r,m,e⟩:=I.nS c;rwa[ajj F.slot_list_append ⟨_,e,2⟩ F.entry_list_append (F.args_list_append_2 _ _) (PySem.list_append l a.toArray n u (by rw[agV];omega)) ⟨e,5⟩];rwa[⟨.non,_,I.zW (JF:=a++[u]) c e (by simp) (r.append (.cons i .nil)) ?_,2,q⟩];rw[agF,ahP];ext
inductive xl (x:V) (vs:Zb) (H:Hp) (Q:VK):Prop
 |mk (l b:Zs) (xs zs:Zb):x=↑l->vs=[↑b]->H l\.lst xs->H b\.lst zs->⇑xs+ ⇑zs<=sizeLine->Q .non (upd H l (.lst (xs++zs)))->xl x vs H Q
theorem yn:zV X "list.extend" xl:=by
 intro j s J H x C v L Q I p m h;let⟨l,b,G,B,rfl,rfl,i,y,D,q⟩:=h;ext p;let⟨u,rfl,w⟩:=m.one;ext w;let⟨z,c,n,r,E,e⟩:=I.nS i;let⟨z2,a,A,t,k,o⟩:=I.nS y;let f:c.toArray.size+ a.toArray.size<=sizeLine:=by rw[agV,agV];ext
 let d:¬(!c.toArray.isEmpty && Builtin.List.listTooLong (c.toArray.size+ a.toArray.size))=true:=by
  rw[zX f,Bool.and_false];rwa[ahq]
 refine ajj F.slot_list_extend ⟨_,e,2⟩ F.entry_list_extend (F.args_list_extend_2 _ _)
  (AutoSeq1.list_extend_list_list_0 l c.toArray n b a.toArray A d ∅ ∅) ⟨e,o,5⟩
 rwa[⟨.non,_,I.zW (JF:=c++a) i e (by simp) (r.append t) ?_,2,q⟩];rw[agF];ext
inductive Qz (x:V) (vs:Zb) (H:Hp) (Q:VK):Prop
 |mk (l:Zs) (xs:Zb) (y:V):x=↑l->vs=[]->H l\.lst xs->xs[⇑xs - 1]?\y->Q y (upd H l (.lst xs.dropLast))->Qz x vs H Q
theorem GJ:zV X "list.pop" Qz:=by
 intro g s A H x t v B Q I o i h;let⟨l,w,y,rfl,rfl,f,k,q⟩:=h;ext o;let b:=i.zero;subst b;let⟨z,a,n,r,j,e⟩:=I.nS f;let⟨u,m,p⟩:=r.get k
 let c:a.toArray[a.toArray.size - 1]?\u:=by
  show a.toArray[⇑a - 1]?\u
  rw[<-ajr,<-j];rwa[m]
 rwa[ajj F.slot_list_pop ⟨_,e,2⟩ F.entry_list_pop (F.args_list_pop_1 _) (MeetsSeq.list_pop_last l a.toArray n u c (by rw[agV];omega)) ⟨e,5⟩];rwa[⟨y,_,I.zW (JF:=a.dropLast) f e ?_ r.dropLast ?_,p,q⟩]
 ·cbv
 ·rw[List.length_dropLast];ext
inductive GK (x:V) (vs:Zb) (H:Hp) (Q:VK):Prop
 |mk (l:Zs) (xs:Zb) (i:Int) (k:Nat) (y:V):x=↑l->vs=[.int i]->H l\.lst xs-> -(2 ^ 63)<=i->i<2 ^ 63->seqIndex? i ⇑xs\k->xs[k]?\y->Q y (upd H l (.lst (xs.eraseIdx k)))->GK x vs H Q
theorem JG:zV X "list.pop" GK:=by
 intro f s J H x D v L Q I A m h;let⟨l,p,i,k,y,rfl,rfl,d,j,g,C,o,q⟩:=h;ext A;let⟨u,rfl,B⟩:=m.one;let⟨t,rfl⟩:=B;let⟨z,a,n,r,G,e⟩:=I.nS d;let⟨w,E,b⟩:=r.get o
 refine ajj F.slot_list_pop ⟨_,e,2⟩ F.entry_list_pop (F.args_list_pop_2 _ _)
  (MeetsSeq.list_pop_at l a.toArray n i t k w (fitsIndex_both j g) (by cbv) (by cbv) (by rw[agV];omega)) ⟨e,5⟩
 rwa[⟨y,_,I.zW (JF:=a.eraseIdx k) d e ?_ (r.eraseIdx k) ?_,b,q⟩]
 ·cbv
 ·have:=ym p k;ext
inductive QB (x:V) (vs:Zb) (H:Hp) (Q:VK):Prop
 |mk (l:Zs) (xs:Zb):x=↑l->vs=[]->H l\.lst xs->Q .non (upd H l (.lst []))->QB x vs H Q
inductive QC (x:V) (y:V) (H:Hp) (Q:VK):Prop
 |mk (l b:Zs) (xs zs:Zb):x=↑l->y=↑b->H l\.lst xs->H b\.lst zs->⇑xs+ ⇑zs<=sizeLine->(∀p,H p=none->Q ↑p (upd H p (.lst (xs++zs))))->QC x y H Q
def zY:fD X (binaryOp .Add) QC:=by
 intro d s D H x y v u Q I j k h;let⟨l,b,C,w,rfl,rfl,i,p,A,q⟩:=h;ext j;ext k;let⟨z,c,n,r,B,e⟩:=I.nS i;let⟨z2,a,E,m,f,g⟩:=I.nS p;rwa[PySem.P.add_list e g ?_ (by rw[agV,agV];omega)];let o:c.toArray++a.toArray=(c++a).toArray:=by simp
 rw[o];rwa[↑_,_,I.Qy (t':=s.toks) (r.append m) (by rw[agF];omega),2,q _ I.fresh]
inductive QD (x:V) (y:V) (H:Hp) (Q:VK):Prop
 |mk (l:Zs) (k:Int) (xs:Zb):x=↑l->y=.int k->H l\.lst xs-> -(2 ^ 63)<=k->k<2 ^ 63->⇑xs* k.toNat<=sizeLine->(∀p,H p=none->Q ↑p (upd H p (.lst (List.replicate k.toNat xs).flatten)))->QD x y H Q
def len_rep {a:Type}(xs:List a)(k:Nat):(List.replicate k xs).flatten.length=k* ⇑xs:=by
 induction k with
 |zero=>simp
 |succ k b=>cbv
theorem QF:fD X (binaryOp .Mult) QD:=by
 intro p s O H x y v u Q I G J h;let⟨l,k,N,rfl,rfl,E,C,A,o,q⟩:=h;ext G;let⟨t,rfl⟩:=J;let⟨z,b,n,r,D,e⟩:=I.nS E;let hlen:b.toArray.size* k.toNat<=sizeLine:=by rw[agV,<-D];rwa[o]
 let d:¬b.toArray.size* k.toNat > (2 ^ 63 - 1) / 8:=by
  have:(sizeLine:Nat)<=(2 ^ 63 - 1) / 8:=⋯
  ext
 let g:¬(!Builtin.List.listFitsIndex k)=true:=by
  rw[fitsIndex_both C A];rwa[ahq]
 let c:¬Builtin.List.listTooLong (b.toArray.size* k.toNat)=true:=by
  rw[zX hlen];rwa[ahq]
 let f:List.foldl (λj i=>j++i) #[] (List.replicate (if b.toArray.isEmpty=true then 0 else k.toNat) b.toArray)=(List.replicate k.toNat b).flatten.toArray:=by
  let B:∀m:Nat,List.foldl (λj i=>j++i) #[] (List.replicate m b.toArray)=(List.replicate m b).flatten.toArray:=λm=>by
   have:=foldl_rep b m []
   cbv
  rw[B]
  cases b with
  |nil=>simp
  |cons a L=>rw[ag3 (by simp)]
 refine wpAny_binaryOp_repeat_ref (T:="list") (U:="int") ⋯ ⟨_,e,2⟩ (λw=>typeIs_int w k t) noFill_list_mul F.fills_int_mul F.slot_int_rmul repeat_list F.slot_int_index.lookup
  (ajj F.slot_int_rmul (typeIs_int s k t) F.entry_int_rmul (F.args_int_rmul_2 _ _) (int___rmul___int_list k t l b.toArray n)
   ⟨e,2,⟨_,e,2⟩,ajj F.slot_list_mul ⟨_,e,2⟩ F.entry_list_mul (F.args_list_mul_2 _ _) (AutoListH.list___mul___list_int_3 l b.toArray n k t g d c) ⟨e,5⟩⟩)
 rw[f];rwa[↑_,_,I.Qy (t':=s.toks) (r.rep k.toNat) ([len_rep,Nat.mul_comm]▸o),2,q _ I.fresh]
end
end L2
namespace Att
open PySem PySem.W PySem.Calls PyProof.Rows
def vn {P:Params}:∀(ns:Zg) (c:Zk),WellAll P h c (ns.map WData.int)->IntsAre c ns:=by
 intro ns
 induction ns with
 |nil=>
  intro c w;ext w;rwa[.nil]
 |cons n ns d=>
  intro c w
  cases w with
  |cons a b=>
   ext a;rwa[.cons _ _ (d _ b)]
def GN {l:OpenLaw}(v:l.most\n){P:Params}{h:Heap}{b:List WData}{c:Zk}
 (e:l.row.toRowW.claim.pre b=true) (i:WellAll P h c b):
 ∃a m ns,c=[Value.ref a]/\b=[WData.list (ns.map WData.int)]/\h.get? a\("list">>>.seq m.toArray)/\IntsAre m ns/\⇑ns<=n:=by
 let k:WShape.hasAll [] b [.list .int]=true:=(pre_splitW e).1;let x:l.pre.holds [] { args:=b }=true:=(pre_splitW e).2;let⟨d,r,rfl,s,p⟩:=hasAllW_cons k;obtain rfl:=hasAllW_nil p;let⟨y,rfl,u⟩:=hasW_list s;let⟨ns,rfl⟩:=items_int u
 let hlen:⇑ns<=n:=by
  let g:(WTm.not (.lt (.lit (.int (n:Int))) (.len (.arg 0)))).holds [] { args:=[.list (ns.map .int)] }=true:=by
   let g:=(holds_andW x).1;rw[v]at g;rwa[g]
  let j:=condW_of g (w_not (w_lt w_lit (w_len_list (w_arg rfl))));rwa[Nat.le_of_not_lt λq=>?_]
  first
   |(rw[ahh z]at j;rwa[absurd j (by decide)])
   |(simp at j;omega)
 cases i with
 |cons o w=>
  ext w
  cases o with
  |list t f=>rwa[11,ns,22,t,vn ns _ f,hlen]
def GO (l:OpenLaw)(a:List WData):l.row.toRowW.claim.post a (.bool true) a=true:=
 postW_of (r:=l.row.toRowW) (X:=(true==true))
  (show WShape.has [] (.bool true) .bool=true by first|rfl|decide|simp[WShape.has,WShape.arms,WShape.armsAll])
  (show (WTm.eq .res (.lit (.bool true))).value [] { args:=a,res:=some (.bool true),after:=a }=some (.bool (true==true)) from w_eq_bool (w_res rfl) w_lit) rfl
def CF {l:OpenLaw}{loose:Zp}{XP:(Str->Zl)->Heap->Prop}{z:World->Heap->Prop}{d:DefRec}
 (I:l.most\n) (q:d.params.defaults=[])
 (call:∀(w:World) (c b:Zu) (m s:Str->Zl) (h:Zs) (o:Obj) (pm k doc:Zt) (a:Zs) (e:Zk) (ns:Zg),
  Ground P loose [] XP w c m s b.heap->z w b.heap->
  b.heap.get? h=some o->o.data=.func (docDef d.name d.params d.body d.scope pm k doc)->b.heap.CodeRec k d.name->m d.name\↑h->
  b.heap.get? a=some ("list">>>.seq e.toArray)->IntsAre e ns->⇑ns<=n->b.gens=#[]->
  codeAny (model l.prog w) callerA (.call ↑h ⟨[↑a],[]⟩) (λr j=>r=.ok (.ret (.bool true))/\OldK b.heap j.heap/\j.os=b.os/\AllBare j.gens) b):
 WalkO P loose XP z l.row.toRowW d [] (λf e=>PySem.call f e):=by
 intro w c b m s G Y h o pm k doc M kV F A u y t C v x as i hlay N p L;obtain rfl:M=.none:=Dflts.none y q;obtain rfl:kV=.none:=Dflts.noKw y;let⟨a,e,ns,rfl,rfl,g,hints,hlen⟩:=GN I i p;rwa[enter_call (ai9 (call w c b m s h o pm k doc a e ns G Y F (fd_plain A) u t g hints hlen C) λr j D=>?_)];let⟨rfl,B,H,E⟩:=D;rwa[.inl ⟨.bool true,.bool true,[],2,λ_=>rfl,.bool true,GO l _,λ_=>⟨List.Pairwise.nil,λ_ J=>(nomatch J)⟩⟩,B,H,E]
end Att
namespace L2
open PySem PySem.Spec PyProof.Rows
theorem yo:∀{a:Zk} {ns:Zg},IntsAre a ns->Vals (ns.map V.int) a
 |_,_,.nil=>.nil
 |_,_,.cons n t h=>.cons ⟨t,2⟩ (yo h)
noncomputable def inClass (s:Stmt)(j:Nat):Stmt:=match s with
 |.ClassDef _ _ _ body _ _ _ _ _ _ _=>body.getD j (.Pass ⟨(0),(0),(0),(0)⟩)
 |_=>.Pass ⟨(0),(0),(0),(0)⟩
noncomputable def dB (s:Stmt):Arguments:=match s with
 |.FunctionDef _ a _ _ _ _ _ _ _ _=>a
 |_=>{ posonlyargs:=[],args:=[],vararg:=none,kwonlyargs:=[],kw_defaults:=[],kwarg:=none,defaults:=[] }
noncomputable def cE (s:Stmt):List Stmt:=match s with
 |.FunctionDef _ _ b _ _ _ _ _ _ _=>b
 |_=>[]
noncomputable def aB (s:Stmt):Scope:=match s with
 |.FunctionDef _ _ _ _ _ _ a _ _ _=>a
 |_=>{ kind:=.function,names:=[],isGenerator:=false,isCoroutine:=false }
abbrev V3:lh:=λ_ _ _ _ _ _=>False
abbrev E0:XK:=λ_ _ _=>False
structure qQ (K:Za1) (x qual:Str) (st:Stmt) (f:Zs) (fd:FuncData):Prop where
 ex:∃(oc:Zt) (od:Zo) (kV doc pm:Zt) (an:Zo) (cz ct:Zt) (zZ:Array Zl),
  fd=PySem.W.fnOf x qual (dB st) (cE st) (aB st) .none kV doc pm an cz ct/\K.lookup f\⟨oc,od,.func fd,zZ⟩/\PySem.W.codeIn K cz qual=true
 kp:PySem.W.keepIn K ↑f=true
section
variable {K:Za1}
theorem qQ.binds {qual:Str}{st:Stmt}{fd:FuncData}{ps:Zp}(F:qQ K x qual st a fd)
 (h:∀(kV doc pm:Zt) (c:Zo) (b ct:Zt) (us:Zk),⇑us=⇑ps->bindArgs (PySem.W.fnOf x qual (dB st) (cE st) (aB st) .none kV doc pm c b ct) ⟨us,[]⟩=pure (ps.zip us)):Binds K fd ps []:=by
 let⟨g,f,kV,doc,pm,c,b,ct,e,rfl,lk,d⟩:=F.ex;rwa[.all (h kV doc pm c b ct)]
def GP {qual:Str}{st:Stmt}{f d:Zo}{b:Array Zl}{kV doc pm e:Zt}(l:K.lookup a\⟨v,f,.func (PySem.W.fnOf x qual (dB st) (cE st) (aB st) .none kV doc pm d u e),b⟩)
 (c:PySem.W.codeIn K u qual=true) (k:PySem.W.keepIn K ↑a=true):qQ K x qual st a (PySem.W.fnOf x qual (dB st) (cE st) (aB st) .none kV doc pm d u e):=⟨⟨v,f,kV,doc,pm,d,u,e,b,2,l,c⟩,k⟩
end
def hV {k:Nat}(a:cx k A):A.units+ 1<cLine:=agO (Nat.add_le_add_left (by decide:1<=64) _) a.units
section
variable {X:Cx}
def pv (i:Nat){x:Str}{pos:Pos}(d:X.N[i]?\x:=by rfl)(c:PX X.env.scope x:=by trivial)(b:(x==("__debug__":Str))=false:=by decide)
 (a:(x==("__classdict__":Str))=false:=by decide):PE X (.Name x pos) (i7 i):=PY d c b a
end
def dY {A B:Prop}(h:B):if false=true then A else B:=by
 cbv
def jI {A B:Prop}(h:A):if true=true then A else B:=by
 cbv
def bW {c A B:Prop} [Decidable c](b:c->A)(a:¬c->B):if c then A else B:=by
 cbv
def ki {c A B:Prop} [Decidable c](a:c)(h:B):if (!decide c)=true then A else B:=by
 cbv
def aq (H a:Hp):Prop:=∀b o,H b\o->a b\o
def aq.refl (H:Hp):aq H H:=λ_ _ h=>h
def aq.trans (a:aq H I)(b:aq I J):aq H J:=λc o h=>b c o (a c o h)
def aq.free (e:aq H I){l:Zs}(h:I l=Option.none):H l=Option.none:=by
 cases q:H l with
 |none=>rfl
 |some o=>
  rw[e l o q]at h;ext h
def aq.seq (e:aq H I)(h:aD K H a L):aD K I a L:=by
 rcases h with (h|⟨o,h⟩)|h
 ·rwa[.inl (.inl (e^h))]
 ·rwa[.inl (.inr ⟨o,e^h⟩)]
 ·rwa[.inr h]
end L2
namespace L2
open PySem PySem.Spec PyProof.Rows
section
variable {prog:Program}{w:World}{A:Around}{R:Result->Zu->Prop}{s:Zu}
def CH {elt target iter:Expr}{scope:Scope}{pos:Pos}{it acc:Zt}{env:Env}(I:Nat->Zu->Prop)
 (turn:∀n s,I n s->(prog<|>w) A (pyNext it) (λr a=>match r with
  |none=>R (.ok .next) a
  |some v=>(prog<|>w) A (letOwnedTupleGo target it v) (λ_ g=>(prog<|>w) A (assign target env v) (λ_ c=>(prog<|>w) A (eval elt env) (λx d=>
   (prog<|>w) A (call (.builtin "list.append") [acc,x]) (λ_ f=>∃m,m<n/\I m f) (λ_ _=>False) d) (λ_ _=>False) c) (λ_ _=>False) g) (λ_ _=>False) a) (λ_ _=>False) s)
 (n:Nat) (h:I n s):codeAny (model prog w) A (.compLoop (.ListComp elt [⟨target,iter,[],(0)⟩] scope pos) 0 it acc env) R s:=by
 rwa[codeAny_loop rfl I (λn s o=>?_) n h];rwa[wpAny_noted ?_];rw[compTurn_list1];rwa[agB (ajB (agB (ahF (turn n s o) (λr a e=>?_) λ_ _ b=>b.elim)))]
 cases r with
 |none=>exact agI e
 |some v=>
  rwa[agB (ahF e (λ_ g i=>?_) λ_ _ b=>b.elim)]
  exact agB (ahF i (λ_ c j=>agB (agB (ahF j (λx d k=>agB (ahF k
   (λ_ f l=>agI (agI ⟨2,l⟩)) λ_ _ b=>b.elim)) λ_ _ b=>b.elim))) λ_ _ b=>b.elim)
end
noncomputable def dv (X:Cx)(a:Zp)(scope:Scope)(cl:List (Str×Zs))(C:Zs)(s:Zu)(H:Hp)(ex:Zn):Cx where
 prog:=X.prog
 w:=X.w
 K:=X.K
 mg:=X.mg
 base:=X.base
 A:=X.A
 N:=a
 dX:=s
 uj:=H
 env:=compEnvC scope cl C X.env
 outer:=X.stack
 stack:=X.stack
 ex:=ex
 fn:=λ_=>false
 calm:=X.calm
 pn:=[]
 xe:=λ_ _=>False
def qR (d:TE)(g:St)(Q:VK)(J:It)(f:Hp):Prop:=∃W:Nat->Nat->Zb->Hp->Prop,(∃m,W 0 m [] f)/\∀i m ys a,W i m ys a->
 (J.stop i a/\⇑ys<=sizeLine/\∀D,a D=none->Q ↑D (upd a D (.lst ys)))\/
 (J.go i a/\⇑ys<sizeLine/\∀x c,J.lT i a x c->d (some x::g) c λy e=>∃b,b<m/\W (i+ 1) b (ys++[y]) e)
def LZ (b:TI)(d:St->St)(c:TE):TE:=λ a H Q=>b a H (qR c (d a) Q)
structure dR (X:Cx) (x:Str) (fns:Zp) (ixs:Zh) (scope:Scope) (cl:List (Str×Zs)):Prop where
 Aa:closureFor scope X.env=pure cl
 sub:∀y c,cl.lookup y\c->X.env.cells.lookup y\c
 cell:∀y∈scope.names,y.2≠.cell
 kind:scope.kind=.function
 names:∀y∈scope.names,y.2=.local->scope.names.lookup y.1=some .local
 own:scope.names.lookup x=some .local
 has:∀y,((relabel scope X.env).names.lookup y=some .cell\/(relabel scope X.env).names.lookup y=some .free)->∃c,cl.lookup y\c
 nd:(x::fns).Nodup
 len:⇑ixs=⇑fns
 at_:∀(j:Nat) (y:Str),fns[j]?\y->∃i:Nat,ixs[j]?\i/\X.N[i]?\y/\(X.env.kindOf y=some .cell\/X.env.kindOf y=some .free)/\∃c,cl.lookup y\c/\((relabel scope X.env).names.lookup y=some .cell\/(relabel scope X.env).names.lookup y=some .free)
noncomputable def iO (ixs:Zh):St->St:=λ a=>ixs.map λi=>(a[i]?).join
section
variable {X:Cx}{x:Str}{scope:Scope}
def tU (a:scope.names.lookup x=some .local):(relabel scope X.env).names.lookup x=some .local:=lookup_relabel_local a
end
def lC {scope:Scope}(a:∀y∈scope.names,y.2≠.free)(b:∀y∈scope.names,y.2≠.cell)(d:scope.kind=.function)
 (g:∀y∈scope.names,y.2=.local->scope.names.lookup y.1=some .local) (f:scope.names.lookup x=some .local):dR X x [] [] scope [] where
 Aa:=closureFor_none a
 sub:=λy c h=>nomatch h
 cell:=b
 kind:=d
 names:=g
 own:=f
 has:=λy h=>by
  let e:(relabel scope X.env).names=scope.names:=by
   rwa[map_eq_self λz i=>?_]
   let⟨n,k⟩:=z;have:(k==NameKind.free)=false:=by simpa using a _ i
   simp[this]
  rw[e]at h;rcases h with h|h
  ·rwa[absurd rfl (b _ (ah9 h))]
  ·rwa[absurd rfl (a _ (ah9 h))]
 nd:=by simp
 len:=rfl
 at_:=λj y h=>by simp at h
def kF {J:It}{Q:VK}(xs:Zb)(g:V->V)(h:∀i:Nat,i<⇑xs->J.go i H)(p:∀(i:Nat) (x:V) (c:Hp),i<⇑xs->J.lT i H x c->c=H/\xs[i]?\x)
 (d:J.stop ⇑xs H) (j:⇑xs<=sizeLine) (s:∀(i:Nat) (x:V),xs[i]?\x->∀R:VK,R (g x) H->r (some x::D) H R) (n:∀a,H a=none->Q ↑a (upd H a (.lst (xs.map g)))):
 qR r D Q J H:=by
 erw[λi m ys l=>m=⇑xs - i/\i<=⇑xs/\ys=(xs.take i).map g/\l=H,⟨⇑xs,by simp,ahd _,by simp,2⟩];rintro i m ys l ⟨rfl,t,rfl,rfl⟩;cases b:i<⇑xs
 ·rwa[.inr ⟨h i b,by rw[agH,ahm];ext,λx c f=>?_⟩];let⟨q,k⟩:=p i x c b f;subst q;rwa[s i x k _ ⟨⇑xs - (i+ 1),32,b,52⟩];rw[aiD,k];simp
 ·let e:i=⇑xs:=∅
  subst e;rwa[.inl ⟨d,by rw[agH,ahm];ext,λa o=>?_⟩];rw[ail];rwa[n a o]
def QG {xs:Zb}(h:bN K H a xs):∀i,i<⇑xs->(yg K a).go i H:=λi b=>⟨xs,xs[i],h,agG b⟩
def N0 {xs:Zb}(h:bN K H a xs):∀i x b,i<⇑xs->(yg K a).lT i H x b->b=H/\xs[i]?\x:=λi x b _ y=>⟨y.1,y.2 xs h⟩
def JH {xs:Zb}(h:bN K H a xs):(yg K a).stop ⇑xs H:=⟨xs,h,agJ _⟩
def kH {xs:Zb}(h:aD K H a xs):∀i,i<⇑xs->(yf K a).go i H:=λi b=>⟨xs,xs[i],h,agG b⟩
def jl {xs:Zb}(h:aD K H a xs):∀i x b,i<⇑xs->(yf K a).lT i H x b->b=H/\xs[i]?\x:=λi x b _ y=>⟨y.1,y.2 xs h⟩
def ig {xs:Zb}(h:aD K H a xs):(yf K a).stop ⇑xs H:=⟨xs,h,agJ _⟩
inductive QH (t:TS) (D:Ends) (σ:St) (H:Hp):Prop
 |mk (G:St->Hp->Prop):t { D with nx:=G } σ H->(∀ fm H',G fm H'->D.nx fm H')->QH t D σ H
def bP {st:Stmt}{t:TS}(h:PS X st t):PS X st (QH t):=by
 intro a s j H D I ⟨G,e,d⟩;rwa[a9 (h a s j H { D with nx:=G } I e) λf k q=>?_]
 cases f with
 |next=>let⟨b,c,i,g⟩:=q;rwa[b,c,i,d b c g]
 |_=>exact q
def g9 {scope:Scope}{env:Env}{k:NameKind}(h:(relabel scope env).names.lookup x\k)(g:k=.cell\/k=.free)(i:∀z∈scope.names,z.2≠.cell):(x,NameKind.free)∈scope.names:=by
 let f:=ah9 h;unfold relabel at f;let⟨⟨n,c⟩,d,e⟩:=ahu.mp f;dsimp only at e;cases hf:(c==NameKind.free && env.scope.kind==.function && env.kindOf n==some .cell)=true
 ·rw[ag8 hf]at e;let a:n=x:=ahS Prod.fst e;rw[aix,aix]at hf;let b:c=.free:=eq_of_beq hf.1.1;rw[<-a,<-b];rwa[d]
 ·rw[ag3 hf]at e;let a:n=x:=ahS Prod.fst e;let b:c=k:=ahS Prod.snd e;subst a b;rcases g with rfl|rfl
  ·rwa[absurd rfl (i _ d)]
  ·rwa[d]
theorem cM {env:Env}(a:env.scope.kind=.function){y:Str}(b:env.kindOf y=some .cell):∀{names:List (Str×NameKind)},names.lookup y=some .free->
 (names.map λ(n,k)=>if (k==NameKind.free && env.scope.kind==.function && env.kindOf n==some .cell) then (n,NameKind.cell) else (n,k)).lookup y=some .cell
 |[],h=>by simp at h
 |(n,k)::r,h=>by
  let c:=@cM env a y b r
  cbv
def lD {scope:Scope}(b:closureFor scope X.env=pure [(f,c)])(s:X.env.cells.lookup f\c)(m:∀z∈scope.names,z.2≠.cell)(o:scope.kind=.function)
 (r:∀z∈scope.names,z.2=.local->scope.names.lookup z.1=some .local) (q:scope.names.lookup x=some .local) (a:∀z∈scope.names,z.2=.free->z.1=f) (l:x≠f) (p:X.N[i]?\f)
 (g:X.env.kindOf f=some .cell) (n:X.env.scope.kind=.function) (k:scope.names.lookup f=some .free):dR X x [f] [i] scope [(f,c)] where
 Aa:=b
 sub:=λz d h=>by
  cbv
 cell:=m
 kind:=o
 names:=r
 own:=q
 has:=λz h=>by
  let e:z=f:=by
   rcases h with h|h
   ·rwa[a _ (g9 h (.inl rfl) m) rfl]
   ·rwa[a _ (g9 h (.inr rfl) m) rfl]
  subst e;rwa[c,by simp[aiN]]
 nd:=by simp[l]
 len:=rfl
 at_:=λj z h=>by
  cases j with
  |zero=>
   let e:f=z:=by simpa using h
   subst e;rwa[i,2,p,.inl g,c,by simp[aiN],.inl (cM n g k)]
  |succ j=>simp at h
namespace Rv
def GQ:Slot "reversed" "__init__" "object.__init__":=
 .of (owner:="object") (n:="__init__") (by rw[typeLookup_type,builtinLookup_eq_fast];kernel_rfl) ⋯ ⋯ ⋯
  (by first|rwa[.inl (by decide)]|rwa[.inr (by decide)]) (by rw[isSubtype_type];kernel_rfl)
def called:TypeCalled "reversed" "reversed.__new__" "object.__init__":=
 ⟨44,⟨11,PySem.F.mro_reversed⟩,PySem.F.made_reversed,4,by rw[isSubtype_type];kernel_rfl,GQ⟩
def afk (h:Heap)(it t:Zs)(i:Int):Prop:=∃o,h.get? it\o/\o.cls=.type "reversed"/\o.data=.fields #[↑t,rawInt i]
end Rv
def ao (ns:Zg):Zb:=ns.map V.int
def bU (h:l[i]?\z):(ao l)[i]?\(V.int z):=by
 unfold ao;rw[agY,h];rfl
def aI (ns:Zg):⇑(ao ns)=⇑ns:=agH ..
def cI (h:(ao l)[i]?\q):∃z,q=V.int z/\l[i]?\z:=by
 unfold ao at h
 cbv
def ints_app (a b:Zg):ao (a++b)=ao a++ao b:=ahi ..
def all_eq (ns ms:Zg):((List.range (min ⇑ns ⇑ms)).all (λj=>decide (ns[j]?=ms[j]?)) && ⇑ns==⇑ms)=decide (ns=ms):=by
 rw[ahM,aix,List.all_eq_true,ahr,ajC];constructor
 ·rintro ⟨b,a⟩;rwa[aiF λi=>?_]
  cbv
 cbv
section
variable {X:Cx}
inductive U0 (K:Za1) (x:V) (y:V) (H:Hp) (Q:VK):Prop
 |mk (a b:Zs) (ns ms:Zg):x=↑a->y=↑b->bN K H a (ao ns)->bN K H b (ao ms)->Q (.bl (decide (ns=ms))) H->U0 K x y H Q
inductive L1 (K:Za1) (x:V) (y:V) (H:Hp) (Q:VK):Prop
 |mk (a b:Zs) (ns ms:Zg):x=↑a->y=↑b->bN K H a (ao ns)->bN K H b (ao ms)->Q (.bl (!decide (ns=ms))) H->L1 K x y H Q
def xm {b:Zg}{a:Zk}(c:Vals (ao l) N)(g:Vals (ao b) a)(j:Nat)(n:j<N.toArray.size)(i:j<a.toArray.size):
 SeqAt.EqAt A s N.toArray[j] a.toArray[j] (decide (l[j]?=b[j]?)):=by
 let w:=⇑c;let x:=⇑g;rw[aI]at w x;let o:j<⇑N:=by simpa using n
 let k:j<⇑a:=by simpa using i
 let h:l[j]?=some l[j]:=agG ∅
 let f:b[j]?=some b[j]:=agG ∅
 let⟨u,p,t,rfl⟩:=c.get (bU h);let⟨v,r,d,rfl⟩:=g.get (bU f)
 let m:N.toArray[j]=Value.int l[j] t:=by
  rw[List.getElem_toArray];rwa[Za0 ((agG o).symm.trans p)]
 let q:a.toArray[j]=Value.int b[j] d:=by
  rw[List.getElem_toArray];rwa[Za0 ((agG k).symm.trans r)]
 rw[m,q,h,f];have:=SeqAt.EqAt.int_int (A:=A) (s:=s) l[j] t b[j] d
 let e:decide (some l[j]=some b[j])=(l[j]==b[j]):=by
  rw[ahM,ahr,ajC];rwa[Za0,ahS some]
 rw[e];rwa[this]
def N1 (z:X.A.units<cLine):fD X (compareOp .NotEq) (L1 X.K):=by
 intro k s D H x y v u Q I A B h;let⟨a,b,f,d,rfl,rfl,C,r,q⟩:=h;ext A;ext B;let⟨g,i,w,_⟩:=I.tuple C;let⟨c,l,p,_⟩:=I.tuple r;rwa[SeqAt.RcNeAt.tuples (e:=λj=>decide (f[j]?=d[j]?)) (show s.heap.IsTuple a g.toArray from w) (show s.heap.IsTuple b c.toArray from p) z (λj t o=>xm i l j t o) X.prog X.w X.xe _ ⟨.bl (!decide (f=d)),H,I,5,q⟩];let m:=⇑i;let n:=⇑l;rw[aI]at m n;show _=Value.bool (!decide (f=d));rw[<-all_eq,agV,agV,<-m,<-n]
inductive QI (K:Za1) (xs:Zb) (H:Hp) (Q:VK):Prop
 |mk (x:V) (T:String) (t:Zt) (b:Bool):xs=[x,.ty T]->jG K H x t->PySem.W.kitOne K t (.type T)\b->Q (.bl b) H->QI K xs H Q
def j1:iV X (.builtin "isinstance") (QI X.K):=by
 intro a s k H j l Q I r h;let⟨x,T,t,b,rfl,d,e,q⟩:=h;let⟨u,i,rfl,f,g⟩:=vals2 r;ext g;rwa[GB I f d e λc=>⟨.bl b,H,I.tok c,2,q⟩]
def JK (K:Za1)(T:String):PySem.W.kitOne K (.type T) (.type T)\true:=by
 unfold PySem.W.kitOne
 cbv
end
def aq.upd {o:HO}(h:H a=Option.none):aq H (upd H a o):=λb u e=>by
 rw[ak (av e h)];rwa[e]
section
variable {X:Cx}
inductive GR (x:V) (y:V) (H:Hp) (Q:VK):Prop
 |mk (a b:Zs) (xs ys:Zb):x=↑a->y=↑b->H a\.tup xs->H b\.tup ys->⇑xs+ ⇑ys<=sizeLine->(∀p H',aq H H'->H' p\.tup (xs++ys)->Q ↑p H')->GR x y H Q
def JL {ws:Zk}(m:IsTup s.heap a ([]:Zk).toArray)(o:IsTup s.heap b ws.toArray)
 (h:Q ↑b s):(P<|>w) A (binaryOp .Add ↑a ↑b) Q E s:=by
 let⟨⟨cls,q,data,p⟩,k,l,n,i⟩:=id m;let⟨⟨j,f,data2,g⟩,e,d,r,c⟩:=id o;simp only at l i d c;subst l i d c
 exact concat_meets ⟨_,k,2⟩ ⟨_,e,2⟩ noFill_tuple_add seq_tuple_add aj7 ajZ (ajU _ _)
  (tuple_addW0 a b ([]:Zk).toArray ws.toArray n r q f p g rfl) ⟨k,e,h⟩
def JM:fD X (binaryOp .Add) GR:=by
 intro c s z H x y v u Q I j k h;let⟨a,b,i,ys,rfl,rfl,g,d,r,q⟩:=h;cases l:i=[]
 ·subst l;ext j;ext k;let⟨f,o,w,_⟩:=I.tuple (bN.of g);let⟨m,A,n,_⟩:=I.tuple (bN.of d);let e:f=[]:=o.sN.mpr rfl;subst e;rwa[JL w n ⟨↑b,H,I,2,q b H (aq.refl H) d⟩]
 ·rwa[NX c s z H ↑a ↑b v u Q I j k ⟨a,b,i,ys,22,bN.of g,bN.of d,l,r,λe=>?_,λ_ p t=>q p _ (aq.upd t) ah⟩];subst e;rwa[q a H (aq.refl H) ([ahe]▸g)]
inductive L3 (x:V) (lo:Zj) (hi:Zj) (H:Hp) (Q:VK):Prop
 |mk (a:Zs) (xs:Zb):x=↑a->H a\.tup xs->(∀p H',aq H H'->H' p\.tup (gP xs lo hi)->Q ↑p H')->L3 x lo hi H Q
end
end L2
namespace HT
open PySem PyProof.Rows
section
variable {prog:Program}{w:World}{A:Around}{E:Zt->Zu->Prop}{s:Zu}
def qI {items:Zm}{lo j:Zj}(c:IsTup s.heap a items)(i:s.heap.IsSliceOf b v u .none)(pl:IsPart v lo)(o:IsPart u j)
 (hw:b6 items.size 0 lo=0/\b6 items.size items.size j=items.size) (h:Q ↑a s):(prog<|>w) A (getItem ↑a ↑b) Q E s:=by
 let⟨os,f,e,k⟩:=id i;let g:s.TypeIs ↑b "slice":=⟨os,f,e⟩;unfold getItem
 try with_reducible rwa[ahQ ?_]
 first|rwa[agB (agI ?_)]|skip
 rwa[agB (wpAny_sequenceKey c.typeIs (by decide) ?_)]
 refine agB (ahH (name:=Str.ofString "__getitem__") c.typeIs ahN
  (ahL ahN c.typeIs entry_tuple_getitem ?_ (args_tuple_getitem _ _)))
 show wpAny _ _ (Builtin.Tuple.tupleItemsOf ↑a >>=_) _ _ s;rwa[agB (tupleItemsOf_ c ?_)];rwa[agB (aja g ?_)];rw[ag8 ⋯];rwa[agB (lW i pl o ?_)];rw[hw.1,hw.2];let d:((((0:Nat):Int)==0 && (1:Int)==1 && (items.size - 0)==items.size)=true):=by simp
 show wpAny _ _ (if (((0:Nat):Int)==0 && (1:Int)==1 && (items.size - 0)==items.size)=true then _ else _) _ _ s;rw[ag8 d];let⟨p,l,n,_⟩:=id c;rwa[agB (m:=Builtin.Tuple.tupleIsExact _) ?_];unfold Builtin.Tuple.tupleIsExact;rwa[agB (aja c.typeIs (agI ?_))];show wpAny _ _ (if (Value.type "tuple"==Value.type "tuple")=true then _ else _) _ _ s;rw[ag8 ⋯];rwa[agB (akd (agI ⟨12,agI h⟩))]
end
def ux:fillsNumberSlot (.type "tuple") "mul"=pure false:=
 PySem.fillsNumberSlot_seq (id:="tuple.__mul__") (r:=some (.builtin "tuple.__rmul__")) PySem.F.slot_tuple_mul.lookup ⋯ PySem.F.slot_tuple_rmul.lookup ⋯
def Ab:seqRepeat? (.type "tuple")=pure (some (.builtin "tuple.__mul__")):=by
 unfold seqRepeat?;rw[PySem.seqSlot_of (T:="tuple") (name:="__mul__") (id:="tuple.__mul__") PySem.F.slot_tuple_mul.lookup ⋯,PySem.seqSlot_of (T:="tuple") (name:="__rmul__") (id:="tuple.__rmul__") PySem.F.slot_tuple_rmul.lookup ⋯];rfl
def xn (a:Int)(t:Tok)(l:Zs)(items:Zm)(n:Nat)(e:Zo)(c:Array Zl):
 Meets (Builtin.«int.__rmul__» ⟨[.int a t,↑l],[]⟩) (λ_ R s=>s.heap.get? l\{ cls:=.type "tuple",dict:=e,data:=.seq items n,slots:=c }/\R (.ok (.ret Value.notImplemented)) s):=
 .of_wp λb w A R s h=>by let⟨f,g,d,i,os⟩:=s;let⟨j,h⟩:=h;wp_walk;rwa[12,h]
def xo (l:Zs)(items:Zm)(n:Nat)(j:Zo)(c:Array Zl)(x:Int)(u:Tok)(b:¬(decide (x < -(2 ^ 63)) || decide (x>=2 ^ 63))=true)(m:(items.isEmpty || x==1)=true):
 Meets (Builtin.«tuple.__mul__» ⟨[↑l,.int x u],[]⟩) (λ_ R s=>s.heap.get? l\{ cls:=.type "tuple",dict:=j,data:=.seq items n,slots:=c }/\R (.ok (.ret ↑l)) s):=
 .of_wp λa w A R s h=>by
  let⟨f,g,d,e,os⟩:=s;let⟨i,h⟩:=h;let k:(⟨f,g,d,e,os⟩:Zu).TypeIs ↑l "tuple":=⟨_,i,2⟩
  wp_walk
  rwa[wpAny_ite_false (ahD b) ?_]
  wp_walk
  rwa[12,h]
def xq (l:Zs)(items:Zm)(n:Nat)(j:Zo)(c:Array Zl)(x:Int)(u:Tok)(b:¬(decide (x < -(2 ^ 63)) || decide (x>=2 ^ 63))=true)(o:¬(items.isEmpty || x==1)=true)(m:(decide (x<=0) || items.isEmpty)=true):
 Meets (Builtin.«tuple.__mul__» ⟨[↑l,.int x u],[]⟩) (λ_ R s=>s.heap.get? l\{ cls:=.type "tuple",dict:=j,data:=.seq items n,slots:=c }/\R (.ok (.ret ↑↥s)) { s with heap:=s.heap.push ("tuple">>>.seq #[]) }):=
 .of_wp λa w A R s h=>by
  let⟨f,g,d,e,os⟩:=s;let⟨i,h⟩:=h;let k:(⟨f,g,d,e,os⟩:Zu).TypeIs ↑l "tuple":=⟨_,i,2⟩
  wp_walk
  rwa[wpAny_ite_false (ahD b) ?_]
  wp_walk
  rwa[12,h]
def xr (l:Zs)(items:Zm)(n:Nat)(o:Zo)(f:Array Zl)(x:Int)(u:Tok)(e:¬(decide (x < -(2 ^ 63)) || decide (x>=2 ^ 63))=true)(v:¬(items.isEmpty || x==1)=true)(t:¬(decide (x<=0) || items.isEmpty)=true)
 (j:¬((items.size:Int)* x > (2 ^ 63 - 1) / 8)) (p:¬(Builtin.Tuple.tupleTooMany ((items.size:Int)* x))=true) (r:(List.foldl (λb a=>b++a) #[] (List.replicate x.toNat items)).size<=sizeLine):
 Meets (Builtin.«tuple.__mul__» ⟨[↑l,.int x u],[]⟩) (λ_ R s=>s.heap.get? l\{ cls:=.type "tuple",dict:=o,data:=.seq items n,slots:=f }/\R (.ok (.ret ↑↥s)) { s with heap:=s.heap.push ("tuple">>>.seq (List.foldl (λb a=>b++a) #[] (List.replicate x.toNat items))) }):=
 .of_wp λc w A R s h=>by
  let⟨k,g,d,i,os⟩:=s;let⟨m,h⟩:=h;let q:(⟨k,g,d,i,os⟩:Zu).TypeIs ↑l "tuple":=⟨_,m,2⟩
  wp_walk
  rwa[wpAny_ite_false (ahD e) ?_]
  wp_walk
  rwa[wpAny_ite_false (ahD j) ?_]
  wp_walk
  rwa[12,h]
end HT
namespace L2
open PySem PySem.Spec PyProof.Rows
section
variable {X:Cx}{e:Expr}{lo hi:Option Expr}
def Ac:LR X L3:=by
 intro b s o H x v n k lo hi l Q I i j pl g h;let⟨a,xs,rfl,d,q⟩:=h;cases hw:HT.b6 ⇑xs 0 lo=0/\HT.b6 ⇑xs ⇑xs hi=⇑xs
 ·ext i;let⟨c,r,f,t⟩:=I.tuple (bN.of d);let hlen:c.toArray.size=⇑xs:=by rw[agV];rwa[r.length.symm]
  erw["tuple",_,ahN.lookup,f.typeIs];rwa[HT.qI f j pl g ([hlen]▸hw) ⟨↑a,H,I,2,q a H (aq.refl H) ?_⟩];unfold gP;rw[hw.1,hw.2,List.drop_zero,Nat.sub_zero,ail];rwa[d]
 ·rwa[Qt b s o H ↑a v n k lo hi l Q I i j pl g ⟨a,xs,2,bN.of d,hw,λp m=>q p _ (aq.upd m) ah⟩]
inductive L5 (x:V) (y:V) (H:Hp) (Q:VK):Prop
 |mk (a:Zs) (k:Int) (xs:Zb):x=↑a->y=.int k->H a\.tup xs-> -(2 ^ 63)<=k->k<2 ^ 63->⇑xs* k.toNat<=sizeLine->(∀p H',aq H H'->H' p\.tup (List.replicate k.toNat xs).flatten->Q ↑p H')->L5 x y H Q
theorem Dz:fD X (binaryOp .Mult) L5:=by
 intro d s L H x y v u Q I V Y h;let⟨l,k,xs,rfl,rfl,J,h1,h2,G,q⟩:=h;ext V;let⟨t,rfl⟩:=Y;let⟨a,r,P,W⟩:=I.tuple (bN.of J);let B:=⇑r;let⟨⟨cls,z,data,g⟩,j,hc,n,E⟩:=id P;simp only at hc E;subst hc E
 let A:¬(decide (k < -(2 ^ 63)) || decide (k>=2 ^ 63))=true:=by
  rw[aj0,ahr,ahr];ext
 let go:∀{S:PySem.Spec},Meets (Builtin.«tuple.__mul__» ⟨[↑l,.int k t],[]⟩) (λO R c=>c.heap.get? l\{ cls:=.type "tuple",dict:=z,data:=.seq a.toArray n,slots:=g }/\S O R c)->
  S X.A (wants (EP X d L Q) X.xe) s->X⁻¹ X.A (binaryOp .Mult ↑l (.int k t)) (EP X d L Q) X.xe s:=λ{S} m Z=>
  wpAny_binaryOp_repeat_ref (T:="tuple") (U:="int") ⋯ ⟨_,j,2⟩ (λc=>typeIs_int c k t) HT.ux F.fills_int_mul F.slot_int_rmul HT.Ab F.slot_int_index.lookup
   (ajj F.slot_int_rmul (typeIs_int s k t) F.entry_int_rmul (F.args_int_rmul_2 _ _) (HT.xn k t l a.toArray n z g)
    ⟨j,2,⟨_,j,2⟩,ajj F.slot_tuple_mul ⟨_,j,2⟩ F.entry_tuple_mul (F.args_tuple_mul_2 _ _) m ⟨j,Z⟩⟩)
 cases hc:(a.toArray.isEmpty || k==1)=true
 ·rwa[go (S:=λ_ R c=>R (.ok (.ret ↑l)) c) (HT.xo l a.toArray n z g k t A hc) ⟨↑l,H,I,2,q l H (aq.refl H) ?_⟩]
  let e:(List.replicate k.toNat xs).flatten=xs:=by
   rw[aj0]at hc;rcases hc with hc|hc
   ·have:a=[]:=by simpa using hc
    have:xs=[]:=by
     let w:=B;rw[this]at w;rwa[ah7 w]
    subst this;simp
   ·have:k=1:=by simpa using hc
    subst this;simp
  rw[e];rwa[J]
 ·cases f:(decide (k<=0) || a.toArray.isEmpty)=true
  ·rwa[go (S:=λ_ R c=>R (.ok (.ret ↑↥c)) { c with heap:=c.heap.push ("tuple">>>.seq #[]) }) (HT.xq l a.toArray n z g k t A hc f) ?_];rwa[⟨↑↥s,_,I.laid (t':=s.toks) (o:=.tup []) (λb N q=>agD _ q) (agJ _) ?_,2,q _ _ (aq.upd (I.aM.fresh (agJ _))) ?_⟩]
   ·rwa[ahd _,[],.nil,IsTup.new _ _]
   ·let e:k.toNat=0:=by
     rw[aj0,ahr]at f;rcases f with f|f
     ·ext
     ·rwa[absurd (by rw[aj0];rwa[.inl f]) hc]
    rw[e,ah];rfl
  ·let hk:0<k:=by
    rw[aj0,ahr]at f;ext
   let p:List.foldl (λD C=>D++C) #[] (List.replicate k.toNat a.toArray)=(List.replicate k.toNat a).flatten.toArray:=by
    have:=foldl_rep a k.toNat [];rw[ajs]at this;rwa[this]
   let hlen:(List.replicate k.toNat a).flatten.length<=sizeLine:=by rw[len_rep,Nat.mul_comm,<-B];rwa[G]
   let i:((a.toArray.size:Int)* k)=((⇑xs* k.toNat:Nat):Int):=by
    rw[agV,<-B,Int.natCast_mul,Int.toNat_of_nonneg ∅]
   let hline:(sizeLine:Nat)<=(2 ^ 63 - 1) / 8:=⋯
   refine go (S:=λ_ R c=>R (.ok (.ret ↑↥c)) { c with heap:=c.heap.push ("tuple">>>.seq (List.foldl (λD C=>D++C) #[] (List.replicate k.toNat a.toArray))) })
    (HT.xr l a.toArray n z g k t A hc f (by rw[i];omega) (by unfold Builtin.Tuple.tupleTooMany;rw[ahr,i];omega) ([p,agV]▸hlen)) ?_
   rw[p];rwa[⟨↑↥s,_,I.laid (t':=s.toks) (o:=.tup (List.replicate k.toNat xs).flatten) (λb N q=>agD _ q) (agJ _) ?_,2,q _ _ (aq.upd (I.aM.fresh (agJ _))) ah⟩];rwa[[len_rep,Nat.mul_comm]▸G,_,r.rep k.toNat,IsTup.new _ _]
end
noncomputable def tx (l:Zh):Str:=⟨l.toArray⟩
def GU (l:Zh):⇑(tx l)=⇑l:=by
 show l.toArray.size=⇑l;simp
def QJ {b:Zh}(h:tx B=tx b):B=b:=by
 have:=ahS (λs:Str=>s.cps.toList) h;rwa[this]
def DB (h:x.cps.toList=f.cps.toList):x=f:=by
 let⟨a⟩:=x;let⟨b⟩:=f;have:a=b:=Array.toList_inj.mp h;rw[this]
def U1 (x:Str):x=tx x.cps.toList:=DB rfl
def GV (a b:Zh):tx a++tx b=tx (a++b):=by
 rwa[DB ?_];show ((tx a).cps++(tx b).cps).toList=(a++b);rw[Array.toList_append];rfl
section
variable {X:Cx}{pos:Pos}
def fA {l:Zh}{j}(h:x=tx l):PE X (.Constant (.str x) j pos) (tC (.str (tx l))):=by
 rw[<-h];rwa[PZ]
noncomputable def Ad (n:Int):Zh:=(toString n:Str).cps.toList
def GW (h:n<10000000000):n.log2<1920:=by
 rcases Nat.eq_zero_or_pos n with e|e
 ·subst e;decide
 ·let a:HPow.hPow 2 n.log2<=n:=Nat.log2_self_le ∅;let b:(10000000000:Nat)<2 ^ 1920:=⋯
  rwa[(Nat.pow_lt_pow_iff_right (by decide:1<2)).mp (agO a (ajV h b))]
def JN {n:Int}(a:0<=n)(h:n<10000000000):⇑(Ad n)<=10:=by
 have:=toString_length_le (v:=n) a (k:=10) ⋯ h;rwa[this]
end
structure Def (K:Za1) (mg:Str->Zl) (x:Str) (st:Stmt) (ps:Zp) (f:Zs) (fd:FuncData):Prop where
 F:qQ K x x st f fd
 m:mg x\↑f
 b:Binds K fd ps []
inductive U2 (t:TE) (σ:St) (H:Hp) (Q:VK):Prop
 |mk (G:V->Hp->Prop):t σ H G->(∀v H',G v H'->Q v H')->U2 t σ H Q
def Ae (ns:Zg)(lo a:Zj):gP (ao ns) lo a=ao ((ns.drop (HT.b6 ⇑ns 0 lo)).take (HT.b6 ⇑ns ⇑ns a - HT.b6 ⇑ns 0 lo)):=by
 unfold gP ao;rw[agH,List.map_take,List.map_drop]
def j2 (r:Int){n:Nat}(h:0<n):∃j:Nat,r % (n:Int)=(j:Int)/\j<n:=by
 let b:=aif r (show (n:Int)≠0 by omega);let a:=ah3 r (show (0:Int)<(n:Int) by omega);rwa[(r % (n:Int)).toNat,33]
section
variable {κ:Type} [DecidableEq κ]
noncomputable def bB (a:List (κ×V))(k:κ):Zc:=(a.find? λb=>decide (b.1=k)).map (·.2)
noncomputable def putK (a:List (κ×V))(k:κ)(v:V):List (κ×V):=
 if (a.any λb=>decide (b.1=k))=true then a.map (λb=>if b.1=k then (b.1,v) else b) else a++[(k,v)]
noncomputable def fe (a:List (κ×V))(k:κ):List (κ×V):=a.filter λb=>decide (b.1≠k)
def cU {p:κ×V}{r:List (κ×V)}{k:κ}(e:p.1=k):bB (p::r) k\p.2:=by simp[bB,ajt,e]
def cO {p:κ×V}{r:List (κ×V)}{k:κ}(e:¬p.1=k):bB (p::r) k=bB r k:=by simp[bB,ajt,e]
theorem lX (k:κ):∀a:List (κ×V),(a.any λb=>decide (b.1=k))=(bB a k).isSome
 |[]=>rfl
 |p::r=>by
  rw[List.any_cons];cases e:p.1=k
  ·simp only[cU e,ahh e,Bool.true_or,Option.isSome_some]
  ·rw[cO e,ahD e,Bool.false_or];rwa[lX k r]
theorem Af (k j:κ)(y:V):∀a:List (κ×V),bB (a.map λb=>if b.1=k then (b.1,y) else b) j=(bB a j).map λx=>if j=k then y else x
 |[]=>rfl
 |p::r=>by
  let c:=Af k j y r;rw[ahW];cases h:p.1=k
  ·rw[ag8 h];cases e:p.1=j
   ·rw[cU (p:=(p.1,y)) e,cU e,Option.map_some,ag8 (e.symm.trans h)]
   ·rw[cO (p:=(p.1,y)) e,cO e,c]
  ·rw[ag3 h];cases e:p.1=j
   ·rw[cU (p:=p) e,cU e,Option.map_some,ag3 (λz=>h (e.trans z))]
   ·rw[cO (p:=p) e,cO e,c]
theorem yp (k j:κ)(y:V):∀a:List (κ×V),bB a k=none->bB (a++[(k,y)]) j=if j=k then some y else bB a j
 |[],_=>by
  cases e:k=j
  ·rw[ag8 e.symm];rwa[cU (p:=(k,y)) e]
  ·rw[ag3 (λz=>e z.symm)];rwa[cO (p:=(k,y)) e]
 |p::r,b=>by
  rw[aiO];let c:¬p.1=k:=λz=>by rw[cU z]at b;ext b
  rw[cO c]at b;let d:=yp k j y r b;cases e:p.1=j
  ·rw[cU e,cU e,ag3 (λz=>c (e.trans z))]
  ·rw[cO e,cO e,d]
def j3 (b:List (κ×V))(k j:κ)(y:V):bB (putK b k y) j=if j=k then some y else bB b j:=by
 unfold putK;cases a:(b.any λc=>decide (c.1=k))=true
 ·rw[ag8 a,Af];rw[lX]at a;cases e:j=k
  ·let⟨x,d⟩:=ajS.mp a
   cbv
  ·rw[ag3 e]
   cases bB b j with
   |none=>rfl
   |some x=>cbv
 ·rw[ag3 a];rwa[yp k j y b ?_];rw[lX]at a
  cases q:bB b k with
  |none=>rfl
  |some x=>rw[q]at a;rwa[(a rfl).elim]
def fP (a:List (κ×V))(k:κ)(v:V):⇑(putK a k v)<=⇑a+ 1:=by
 unfold putK;split
 ·rw[agH];ext
 ·rw[agF,aha,aih];ext
def Ag {a:List (κ×V)}{k:κ}(v:V)(h:bB a k=none):putK a k v=a++[(k,v)]:=by
 unfold putK;rw[lX,h];rwa[ag3 ⋯]
def eJ.qS {o:Zc}{u:Zl}(r:eJ o u):o.isSome=u.isSome:=by
 cases o with
 |none=>cases u with
  |none=>rfl
  |some _=>exact(show False from r).elim
 |some _=>cases u with
  |none=>exact(show False from r).elim
  |some _=>rfl
def eJ.getD {o:Zc}{u:Zl}(r:eJ o u)(rd:RelV q v):RelV (o.getD q) (u.getD v):=by
 cases o with
 |none=>cases u with
  |none=>exact rd
  |some _=>exact(show False from r).elim
 |some _=>cases u with
  |none=>exact(show False from r).elim
  |some _=>exact r
def KV.val {a:List (κ×V)}{f:List (κ×Zt)}(r:KV a f)(k:κ):eJ (bB a k) (valueAt f k):=by
 induction r with
 |nil=>exact True.intro
 | @cons p q l c h t i=>
   let⟨g,j⟩:=h;cases e:p.1=k
   ·let d:q.1=k:=g.symm.trans e;let b:valueAt (q::c) k\q.2:=by simp[valueAt,ajt,d]
    rw[cU e,b];rwa[j]
   ·let d:¬q.1=k:=λz=>e (g.trans z)
    let b:valueAt (q::c) k=valueAt c k:=by simp[valueAt,ajt,d]
    rw[cO e,b];rwa[i]
def KV.any {a:List (κ×V)}{c:List (κ×Zt)}(r:KV a c)(k:κ):(a.any λb=>decide (b.1=k))=c.any λb=>decide (b.1=k):=by
 induction r with
 |nil=>rfl
 |cons h t d=>rw[List.any_cons,List.any_cons,d,h.1]
def KV.repl {b:List (κ×V)}{c:List (κ×Zt)}(r:KV b c)(k:κ){y:V}{u:Zt}(g:RelV y u):
 KV (b.map λa=>if a.1=k then (a.1,y) else a) (c.map λa=>if a.1=k then (a.1,u) else a):=by
 induction r with
 |nil=>exact .nil
 | @cons p q e f h t d=>
   rw[ahW,ahW];rwa[.cons ?_ d]
   cbv
def KV.put {a:List (κ×V)}{b:List (κ×Zt)}(r:KV a b)(k:κ){y:V}{u:Zt}(c:RelV y u):KV (putK a k y) (stored b k u):=by
 unfold putK stored;rw[r.any k];cases e:(b.any λd=>decide (d.1=k))=true
 ·rw[ag8 e,ag8 e];rwa[r.repl k c]
 ·rw[ag3 e,ag3 e];rwa[Paired.snoc r ⟨2,c⟩]
def KV.drop {c:List (κ×V)}{d:List (κ×Zt)}(r:KV c d)(k:κ):KV (fe c k) (without d k):=by
 unfold fe without
 induction r with
 |nil=>exact .nil
 | @cons p q l m h t g=>
   let⟨f,i⟩:=h;rw[List.filter_cons,List.filter_cons];cases e:p.1=k
   ·cbv
   ·let j:¬q.1=k:=λz=>e (f.trans z)
    let a:decide (p.1≠k)=true:=by simp[e]
    let b:decide (q.1≠k)=true:=by simp[j]
    rw[ag8 a,ag8 b];rwa[.cons ⟨f,i⟩ g]
def KV.length {a:List (κ×V)}{b:List (κ×Zt)}(r:KV a b):⇑a=⇑b:=Paired.length r
def JP (a:List (κ×V))(k:κ):⇑(fe a k)<=⇑a:=ait _ _
end
def jJ {k:Key}(r:RelV (kV k) u):(bQ P w).is k u=true:=by
 cases k with
 |inl i=>let⟨t,e⟩:=(show ∃t,u=Value.int i t from r);subst e;rwa[CB P w i t]
 |inr x=>let⟨t,e⟩:=(show ∃t,u=Value.str x t from r);subst e;rwa[CD P w x t]
theorem yq:∀{a:Zd} {b:Zk},Vals (a.map kV) b->ItemsAre (bQ P w) a b
 |[],_,r=>by ext r;rwa[.nil]
 |k::a,_,r=>by
  cases r with
  |cons h t=>exact .cons (jJ h) (yq t)
abbrev KT (H:Hp):List (Zd×V)->List (Zd×Zs×Zt)->Prop:=Paired λp q=>p.1=q.1/\H q.2.1\.tup (p.1.map kV)/\RelV p.2 q.2.2
def KT.val {a:List (Zd×V)}{g:List (Zd×Zs×Zt)}(r:KT H a g)(k:Zd):eJ (bB a k) ((atKey g k).map (·.2)):=by
 induction r with
 |nil=>exact True.intro
 | @cons p q l c h t i=>
   let⟨f,_,j⟩:=h;cases e:p.1=k
   ·let d:q.1=k:=f.symm.trans e;let b:atKey (q::c) k\q.2:=by simp[atKey,ajt,d]
    rw[cU e,b];rwa[j]
   ·let d:¬q.1=k:=λz=>e (f.trans z)
    let b:atKey (q::c) k=atKey c k:=by simp[atKey,ajt,d]
    rw[cO e,b];rwa[i]
def KT.repl {a:List (Zd×V)}{xs:List (Zd×Zs×Zt)}(r:KT H a xs)(k:Zd){y:V}{u:Zt}(j:RelV y u):
 KT H (a.map λb=>if b.1=k then (b.1,y) else b) (xs.map (putAt k u)):=by
 induction r with
 |nil=>exact .nil
 | @cons p q d e h t c=>
   rw[ahW,ahW];rwa[.cons ?_ c];let⟨g,f,i⟩:=h;unfold putAt
   cbv
def KT.put {a:List (Zd×V)}{c:List (Zd×Zs×Zt)}(r:KT H a c)(k:Zd){b:Zs}{y:V}{u:Zt}(g:H b\.tup (k.map kV))(d:RelV y u):
 KT H (putK a k y) (storedH c k b u):=by
 let e:(a.any λf=>decide (f.1=k))=(atKey c k).isSome:=by
  rw[lX,(r.val k).qS,Option.isSome_map]
 unfold putK storedH;rw[e];cases q:(atKey c k).isSome=true
 ·rw[ag8 q,ag8 q];rwa[r.repl k d]
 ·rw[ag3 q,ag3 q];rwa[Paired.snoc r ⟨2,g,d⟩]
def KT.keeps {a:List (Zd×V)}{c:List (Zd×Zs×Zt)}(r:KT H a c)(d:∀b ys,H b\.tup ys->I b\.tup ys):KT I a c:=
 Paired.Jq r λ_ _ z=>⟨z.1,d^z.2.1,z.2.2⟩
section
variable {P:Program}{w:World}{H:Hp}{h:Heap}{a:Zs}
def L6 {u:HO}(ok:dD P w H h)(e:Rd H a u):bZ P w H h a u:=e.ok ok
def pG {b:List (Key×V)}(ok:dD P w H h)(e:Rd H a (.dK b)):⇑b<=sizeLine/\(a==sysModules)=false/\∃c,KV b c/\h.DictOf (bQ P w) a c:=
 show bZ P w H h a (.dK b) from L6 ok e
def sO {b:List (Key×V)}(ok:dD P w H h)(e:H a\.dK b):⇑b<=sizeLine/\(a==sysModules)=false/\∃c,KV b c/\h.DictOf (bQ P w) a c:=pG ok (.inl e)
def lY {c:Zd}(ok:dD P w H h)(e:H a\.tup (c.map kV)):(tupleKind (bQ P w)).is h c a:=by
 let⟨_,b,r,o,f,d,n,g⟩:=(show bZ P w H h a (.tup (c.map kV)) from ok a _ e);rwa[o,b.toArray,n,f,d,g,by simpa using yq r]
def pH {b:List (Zd×V)}(ok:dD P w H h)(e:Rd H a (.dT b)):⇑b<=sizeLine/\(a==sysModules)=false/\
 ∃d,KT H b d/\h.DictOfH (tupleKind (bQ P w)) a d:=by
 let⟨z,y,d,r,o,n,u,j,g,s,i,k⟩:=(show bZ P w H h a (.dT b) from L6 ok e);rwa[⟨z,y,d,r,o,n,u,j,g,s,i,λx c=>?_,k⟩]
 let all:∀{l:List (Zd×V)} {m:List (Zd×Zs×Zt)},KT H l m->∀x∈m,(tupleKind (bQ P w)).is h x.1 x.2.1:=by
  intro l m q
  induction q with
  |nil=>intro x c;rwa[nomatch c]
  | @cons p q A B f t v=>
    intro x c;rcases agW.mp c with e|c
    ·subst e;rwa[lY ok (by rw[<-f.1];rwa[f.2.1])]
    ·rwa[v x c]
 rwa[all r x c]
def L7 {b:List (Zd×V)}(ok:dD P w H h)(e:H a\.dT b):⇑b<=sizeLine/\(a==sysModules)=false/\
 ∃c,KT H b c/\h.DictOfH (tupleKind (bQ P w)) a c:=pH ok (.inl e)
end
def eQ (H:Hp)(a:Zs)(y:V)(r:Zc):Prop:=
 (∃c k,Rd H a (.dK c)/\y=kV k/\r=bB c k)\/∃c k b,Rd H a (.dT c)/\y=↑b/\H b\.tup (k.map kV)/\r=bB c k
def pJ (H:Hp)(a:Zs)(y v:V)(d:Hp):Prop:=
 (∃c k,H a\.dK c/\y=kV k/\⇑c<sizeLine/\d=upd H a (.dK (putK c k v)))\/
 ∃c k b,H a\.dT c/\y=↑b/\H b\.tup (k.map kV)/\⇑c<sizeLine/\d=upd H a (.dT (putK c k v))
def eQ.k {b:List (Key×V)}{k:Key}(e:H a\.dK b):eQ H a (kV k) (bB b k):=.inl ⟨b,k,.inl e,22⟩
def pJ.k {b:List (Key×V)}{k:Key}(e:H a\.dK b)(c:⇑b<sizeLine):pJ H a (kV k) q (upd H a (.dK (putK b k q))):=.inl ⟨b,k,e,2,c,2⟩
section
variable {X:Cx}{pins:List (Zs×Obj)}{σ:St}{H:Hp}{s:Zu}{a:Zs}{y v:V}{u r:Zt}{o:Zc}{A:Around}{E:Zt->Zu->Prop}
def Inv.big (I:Inv X pins σ H s):sysModules<↥s:=by
 let h:mainGlobals<↥s:=(I.mod.glob.keeps I.bk).lt;rwa[ajV ⋯ h]
def GX (F:A.units+ 1<cLine)(I:Inv X pins σ H s)(g:eQ H a y (some v))(t:RelV y u)(h:∀d q,Inv X pins σ H q->RelV v d->Q d q):
 X⁻¹ A (getItem ↑a u) Q E s:=by
 rcases g with ⟨f,k,e,n,l⟩|⟨f,k,b,e,n,B,l⟩
 ·subst n;let⟨z,w,x,rel,m⟩:=pG I.aM e;let⟨d,j,c⟩:=eJ.some_of (v:=v) (o:=valueAt x k) ([l]▸rel.val k);rwa[wpAny_getItem_of (jJ t) m.mapOf j (h d _ (I.tok _) c)]
 ·subst n;cases (show u=Value.ref b from t);let⟨z,w,D,rel,m⟩:=pH I.aM e;let⟨d,j,c⟩:=eJ.some_of (v:=v) (o:=(atKey D k).map (·.2)) ([l]▸rel.val k);let⟨p,C,i⟩:=ahU.mp j;rwa[wpAny_getItem_heap (aiP F) (lY I.aM B) m C ?_];rw[i];rwa[h d _ (I.tok _) c]
def N2 (p:A.units+ 1<cLine)(I:Inv X pins σ H s)(g:eQ H a y o)(m:RelV y u)(h:∀j,Inv X pins σ H j->Q (.bool (!o.isSome)) j):
 X⁻¹ A (compareOp .NotIn u ↑a) Q E s:=by
 rcases g with ⟨d,k,e,i,l⟩|⟨d,k,b,e,i,n,l⟩
 ·subst i;let⟨z,c,t,rel,f⟩:=pG I.aM e;rwa[wpAny_notIn_of (jJ m) c f.mapOf ?_];rw[<-(rel.val k).qS,<-l];rwa[h _ (I.tok _)]
 ·subst i;cases (show u=Value.ref b from m);let⟨z,c,w,rel,f⟩:=pH I.aM e;rwa[wpAny_notIn_heap (aiP p) (lY I.aM n) c f ?_];let q:=(rel.val k).qS;rw[Option.isSome_map]at q;rw[<-q,<-l];rwa[h _ (I.tok _)]
def j4 {t':Nat}{c:HO}(I:Inv X pins σ H s)(mu:tN (H a))(g:Heap.SameBut a s.heap h)(d:∃q,h.get? a\q)(new:bZ X.prog X.w (upd H a c) h a c):
 Inv X pins σ (upd H a c) { s with heap:=h,toks:=t' }:=
 I.write (x:=a) (e:=a) mu (.inl rfl) (λb q f z=>(g.2 b f).trans z) d new
def qT {b:List (Key×V)}{c:List (Key×Zt)}(z:⇑b<=sizeLine)(d:(a==sysModules)=false)(rel:KV b c)(e:h.DictOf (bQ P w) a c):
 bZ P w I h a (.dK b):=⟨z,d,c,rel,e⟩
def GY (S:A.units+ 1<cLine)(d:Inv X pins σ H s)(g:pJ H a y v I)(M:RelV y u)(L:RelV v r)(h:∀D,Inv X pins σ I D->U () D):
 X⁻¹ A (setItem ↑a u r) U E s:=by
 rcases g with ⟨f,k,e,C,l,n⟩|⟨f,k,b,e,C,J,l,n⟩
 ·subst C n;let⟨z,m,O,rel,B⟩:=sO d.aM e;let p:⇑O<=sizeLine:=by rw[<-⇑rel];rwa[z]
  let w:⇑(putK f k v)<=sizeLine:=by have:=fP f k v;ext
  rwa[wpAny_setItem_pairs (hsz:=p) (jJ M) B λG i x=>h _ ?_]
  let Y:∃q,G.get? a\q:=let ⟨q,_,_,j,_⟩:=i;⟨q,j⟩
  rwa[j4 d ([e]▸True.intro) x Y (qT w m (rel.put k L) i)]
 ·subst C n;cases (show u=Value.ref b from M);let⟨z,m,xs,rel,B⟩:=L7 d.aM e;let p:⇑xs<=sizeLine:=by rw[<-Paired.length rel];rwa[z]
  let w:⇑(putK f k v)<=sizeLine:=by have:=fP f k v;ext
  rwa[wpAny_setItem_heap (hsz:=p) (aiP S) (lY d.aM J) B λG i x=>h _ ?_]
  let⟨q,R,W,j,N,T,P,_,Q⟩:=i;rwa[j4 d ([e]▸True.intro) x ⟨q,j⟩ ⟨w,m,_,(rel.put k J L).keeps λc ys F=>?_,q,R,W,j,N,T,P,Q⟩];rw[ak (bY F e (λz=>nomatch z))];rwa[F]
end
section
variable {X:Cx}{pins:List (Zs×Obj)}{σ:St}{H:Hp}{s:Zu}{a:Zs}{kvs:List (Key×V)}{k:Key}{u:Zt}{A:Around}{E:Zt->Zu->Prop}
def L8 {more:Zk}(I:Inv X pins σ H s)(e:H a\.dK kvs)(g:RelV (kV k) u)(l:bB kvs k\q)(p:more=[]\/∃x,more=[x])
 (h:∀c j,Inv X pins σ (upd H a (.dK (fe kvs k))) j->RelV q c->Q c j):X⁻¹ A (call (.builtin "dict.pop") (↑a::u::more)) Q E s:=by
 let⟨z,r,m,rel,n⟩:=sO I.aM e;let⟨c,y,f⟩:=eJ.some_of (v:=q) (o:=valueAt m k) (by rw[<-l];rwa[rel.val k])
 let B:(keyPart u).isSome=true:=by
  cases k with
  |inl i=>let⟨t,b⟩:=(show ∃t,u=Value.int i t from g);subst b;rfl
  |inr x=>let⟨t,b⟩:=(show ∃t,u=Value.str x t from g);subst b;rfl
 let D:argsOk "dict.pop" ⟨↑a::u::more,[]⟩:=by
  rcases p with b|⟨x,b⟩
  ·subst b;rwa[PySem.F.args_dict_pop_2 _ _]
  ·subst b;rwa[PySem.F.args_dict_pop_3^_]
 refine ajb aju n.typeIs PySem.F.entry_dict_pop D (meets_dict_pop_there (bQ X.prog X.w) a (jJ g) more p B)
  ⟨m,c,n,by rw[<-⇑rel];rwa[z],y,λv d C=>h c _ ?_ f⟩
 let F:∃b,v.get? a\b:=let ⟨b,_,_,w,_⟩:=d;⟨b,w⟩
 rwa[j4 I ([e]▸True.intro) C F (qT (agT (JP kvs k) z) r (rel.drop k) d)]
def QK (I:Inv X pins σ H s)(e:H a\.dK kvs)(b:RelV (kV k) u)(l:bB kvs k=none)(h:∀c,Inv X pins σ H c->Q v c):
 X⁻¹ A (call (.builtin "dict.pop") [↑a,u,v]) Q E s:=by
 let⟨z,g,d,rel,f⟩:=sO I.aM e;let m:valueAt d k=none:=eJ.none_of (by rw[<-l];rwa[rel.val k])
 let j:(keyPart u).isSome=true:=by
  cases k with
  |inl i=>let⟨t,q⟩:=(show ∃t,u=Value.int i t from b);subst q;rfl
  |inr x=>let⟨t,q⟩:=(show ∃t,u=Value.str x t from b);subst q;rfl
 rwa[ajb aju f.typeIs PySem.F.entry_dict_pop (PySem.F.args_dict_pop_3^_) (meets_dict_pop_default (bQ X.prog X.w) a (jJ b) g j v) ⟨d,f,m,h _ (I.tok _)⟩]
end
def QL (i:Expr):Prop:=∀b a,subscripted i false b a=operate [b,a] (getItem b a)
def N3 {env:Env}{value slice:Expr}{pos:Pos}{T id:String}
 (j:typeLookup (.type T) "__getitem__"=pure (some (.builtin id))) (k:QL slice)
 (h:(P<|>w) A (eval value env) (λo d=>(P<|>w) A (eval slice env) (λi a=>a.TypeIs o T/\(P<|>w) A (getItem o i) Q E a) E d) E s):
 (P<|>w) A (eval (.Subscript value slice pos) env) Q E s:=by
 rwa[Subscript_ (ahF h (λo d e=>ahF e (λi a b=>?_) λ_ _ x=>x) λ_ _ x=>x)];let⟨g,b⟩:=b;rwa[agB ?_];rwa[agB (wpAny_specialOf g j ?_)]
 let fin:(P<|>w) A (subscripted slice false o i) (λr c=>(P<|>w) A (letTemporaryGo value o r >>=λ_=>pure r) Q E c) E a:=by
  rw[k o i];rwa[wpAny_operating (ahF b (λr c f=>agB (wpAny_letTemporaryGo (agI f))) λ_ _ x=>x)]
 first
  |rwa[agI (agB fin)]
  |rwa[agB (agI (agB fin))]
  |rwa[agB fin]
def CJ {c:Zc}(I:Inv X o D H s)(g:eQ H a q c):s.TypeIs ↑a "dict":=by
 rcases g with ⟨d,k,e,_,_⟩|⟨d,k,b,e,_,_,_⟩
 ·let⟨_,_,h,_,f⟩:=pG I.aM e;rwa[f.typeIs]
 ·let⟨_,_,i,_,f⟩:=pH I.aM e;rwa[f.typeIs]
inductive QM (x y:V) (H:Hp) (Q:VK):Prop
 |mk (a:Zs) (v:V):x=↑a->eQ H a y (some v)->Q v H->QM x y H Q
def U4 (td d:TE):TE:=λ a H Q=>td a H λx c=>d a c λy b=>QM x y b Q
def N4 (e td:TE):TE:=λ c H Q=>e c H λy d=>td c d λx b=>∃a o,x=↑a/\eQ b a y o/\Q (.bl (!o.isSome)) b
inductive QN (x y v:V) (H:Hp) (N:Hp->Prop):Prop
 |mk (a:Zs) (H4:Hp):x=↑a->pJ H a y v H4->N H4->QN x y v H N
def U6 (td e b:TE):TS:=λD a H=>b a H λv d=>td a d λx c=>e a c λy f=>QN x y v f (D.nx a)
section
variable {X:Cx}{o i value:Expr}{pos pos':Pos}{td ty tv:TE}
def sP (p:X.A.units+ 1<cLine)(m:PE X o td)(z:PE X i ty)(t:QL i):PE X (.Subscript o i pos) (U4 td ty):=by
 intro b s f H Q I h;rwa[N3 PySem.F.slot_dict_getitem.lookup t (a9 (m b s f H _ I h) λu q ζ=>?_)];let⟨x,n,j,r,l⟩:=ζ;rwa[a9 (z b q f n _ j l) λF D ζ=>?_];let⟨y,A,d,w,a,v,ex,g,B⟩:=ζ;subst ex;obtain rfl:u=Value.ref a:=r;rwa[CJ d g,GX p d g w λC E k c=>⟨v,A,k,c,B⟩]
def yr (n:X.A.units+ 1<cLine)(v:PE X i ty)(l:PE X o td):PC X .NotIn i o (N4 ty td):=by
 intro b s c H Q I h;rwa[a9 (v b s c H _ I h) λC p ζ=>?_];let⟨y,m,d,t,j⟩:=ζ;rwa[a9 (l b p c m _ d j) λu A ζ=>?_];let⟨x,w,k,q,a,r,ex,g,z⟩:=ζ
 subst ex;obtain rfl:u=Value.ref a:=q;rwa[N2 n k g t λB f=>⟨.bl (!r.isSome),w,f,2,z⟩]
def oq (z:X.A.units+ 1<cLine)(t:PE X o td)(F:PE X i ty)(J:PE X value tv)(C:swapsWith value (some (.Subscript o i pos')) pos.line X.env=pure false):
 PS X (.Assign [.Subscript o i pos'] value pos) (U6 td ty tv):=by
 intro b s c H D I h;rwa[wpAny_Assign_Subscript (a9 (J b s c H _ I h) λr A ζ=>?_) C];let⟨v,w,f,q,m⟩:=ζ;rwa[a9 (t b A c w _ f m) λu l ζ=>?_];let⟨x,G,p,B,L⟩:=ζ;rwa[a9 (F b l c G _ p L) λP O ζ=>?_];let⟨y,N,j,E,a,k,ex,g,n⟩:=ζ;subst ex;obtain rfl:u=Value.ref a:=B;rwa[GY z j g E q λM d=>⟨c,k,d,n⟩]
end
def Ah (h:Heap)(a:sysModules<h.objs.size):bZ P w H (h.push ("dict">>>.dict #[])) h.objs.size (.dK []):=
 ⟨ahd _,agZ.mpr (ahZ (ahf a)),[],.nil,Heap.DictOf.new h⟩
def JQ (h:Heap)(a:sysModules<h.objs.size):bZ P w H (h.push ("dict">>>.dict #[])) h.objs.size (.dT []):=
 ⟨ahd _,agZ.mpr (ahZ (ahf a)),[],.nil,_,#[],(0),agU _ rfl,⟨222⟩,22,ais⟩
def QO:TE:=λ_ H Q=>∀p,H p=none->Q ↑p (upd H p (.dK []))
def QP:TE:=λ_ H Q=>∀p,H p=none->Q ↑p (upd H p (.dT []))
section
variable {X:Cx}{pos:Pos}
def fQ:PE X (.Dict [] [] pos) QO:=λb s d H Q I h=>
 wpAny_Dict_empty ⟨↑↥s,_,I.laid (a:=↥s) (o:=.dK []) (t':=s.toks) (λ_ _ q=>agD _ q) (agJ _) (Ah s.heap I.big),2,h _ (I.aM.fresh (agJ _))⟩
def JR:PE X (.Dict [] [] pos) QP:=λb s d H Q I h=>
 wpAny_Dict_empty ⟨↑↥s,_,I.laid (a:=↥s) (o:=.dT []) (t':=s.toks) (λ_ _ q=>agD _ q) (agJ _) (JQ s.heap I.big),2,h _ (I.aM.fresh (agJ _))⟩
end
def Ai:List (TE×TE)->St->Hp->(List (V×V)->Hp->Prop)->Prop
 |[],_,H,Q=>Q [] H
 |(e,b)::r,a,H,Q=>e a H λx f=>b a f λy c=>Ai r a c λd g=>Q ((x,y)::d) g
abbrev VV:List (V×V)->List (Zt×Zt)->Prop:=Paired λp q=>RelV p.1 q.1/\RelV p.2 q.2
def L9 (X:Cx)(pos:Pos)(keys:List (Option Expr))(values:Zr)(b:List (TE×TE)):Prop:=
 ∀(a:List (Zs×Obj)) (s:Zu) (c:St) (H:Hp) (Q:List (V×V)->Hp->Prop),Inv X a c H s->Ai b c H Q->
  X⁻¹ X.A (evalPairs (pairTrees keys values X.env pos)) (λg f=>∃d e,Inv X a c e f/\VV d g/\Q d e) X.xe s
def DC {pos:Pos}:L9 X pos [] [] []:=λa s b H Q I h=>pairTrees_nil_walk ⟨[],H,I,.nil,h⟩
def Aj {pos:Pos}{k:Expr}{d:List (Option Expr)}{f:TE}{b:List (TE×TE)}(j:PE X k r)(D:PE X e f)(v:L9 X pos d C b):
 L9 X pos (some k::d) (e::C) ((r,f)::b):=λa s c H Q I h=>
 pairTrees_cons_walk (a9 (j a s c H _ I h) λu w ⟨x,t,g,z,o⟩=>a9 (D a w c t _ g o) λJ m ⟨y,B,q,A,E⟩=>
  a9 (v a m c B _ q E) λF G ζ=>by let⟨l,i,n,rel,p⟩:=ζ;rwa[⟨(x,y)::l,i,n,.cons ⟨z,A⟩ rel,p⟩])
def fF (a more:List (Key×V)):List (Key×V):=more.foldl (λacc b=>putK acc b.1 b.2) a
def KV.merge:∀{more:List (Key×V)} {rs:List (Key×Zt)} {a:List (Key×V)} {b:List (Key×Zt)},KV more rs->KV a b->KV (fF a more) (merged b rs):=by
 intro more rs a b r
 induction r generalizing a b with
 |nil=>intro q;rwa[q]
 | @cons p q f g h t c=>
   intro d
   let e:KV (putK a p.1 p.2) (stored b q.1 q.2):=by
    have:=d.put p.1 h.2;rw[<-h.1];rwa[this]
   rwa[c e]
theorem kU:∀(more a:List (Key×V)),⇑(fF a more)<=⇑a+ ⇑more
 |[],a=>by show ⇑a<=⇑a+ 0;ext
 |p::r,a=>by
  let b:=kU r (putK a p.1 p.2);let c:=fP a p.1 p.2;show ⇑(fF (putK a p.1 p.2) r)<=_;rw[aha];ext
theorem vo {P:Program}{w:World}:∀{d:List (Key×V)} {g:List (Zt×Zt)},VV (d.map λf=>(kV f.1,f.2)) g->∃e,Carries (bQ P w) g e/\KV d e
 |[],_,r=>by ext r;rwa[[],True.intro,.nil]
 |p::d,_,r=>by
  cases r with
  | @cons a b as bs h t=>
    let⟨e,c,q⟩:=vo (P:=P) (w:=w) t;let⟨j,i⟩:=b;rwa[(p.1,i)::e,⟨jJ h.1,2,c⟩,.cons ⟨2,h.2⟩ q]
def U9 (b:List (TE×TE)):TE:=λ f H Q=>∀p,H p=none->Ai b f (upd H p (.dK [])) λe c=>c p\.dK []/\∃a:List (Key×V),e=a.map (λd=>(kV d.1,d.2))/\⇑a<=15/\Q ↑p (upd c p (.dK (fF [] a)))
def DE {pos:Pos}{keys:List (Option Expr)}{values:Zr}{d:List (TE×TE)}(h:L9 X pos keys values d)(g:keys.all (·.isSome)=true)(A:⇑keys=⇑values)(n:keys≠[])
 (j:⇑keys<=15):PE X (.Dict keys values pos) (U9 d):=by
 intro f s C H Q I q;let D:=I.aM.fresh (agJ ↥s);let p:=I.laid (a:=↥s) (o:=.dK []) (h':=s.heap.push ("dict">>>.dict #[])) (t':=s.toks) (λ_ _ q=>agD _ q) (agJ _) (Ah s.heap I.big);rwa[wpAny_Dict_walk (knd:=bQ X.prog X.w) g A n j (a9 (h f _ C _ _ p (q _ D)) λR O ζ=>?_)];let⟨N,S,l,rel,e,b,F,lk,L⟩:=ζ;subst F;let⟨y,c,rk⟩:=vo (P:=X.prog) (w:=X.w) rel;let⟨z,m,G,u,E⟩:=sO l.aM e;ext u;rwa[⟨y,c,E,λk i B=>⟨↑↥s,152,L⟩⟩]
 let x:⇑(fF [] b)<=sizeLine:=by
  let v:=kU b [];rw[aih]at v;rw[sizeLine_eq];ext
 let J:∃q,k.get? ↥s\q:=let ⟨q,_,_,t,_⟩:=i;⟨q,t⟩
 rwa[j4 l ([e]▸True.intro) B J (qT x m (rk.merge .nil) i)]
structure M1 (X:Cx) (o:Expr) (m:Str) (apos:Pos) (e:Expr) (cG:Pos):Prop where
 base:attributeBase o m X.env (eval o X.env)=eval o X.env
 few:((backTo cG (starEach [e] X.env)).all (λx=>!x.1) && (backToKw cG (keywordEach [] X.env)).all (λx=>x.1.isSome)
  && decide (⇑([e]:Zr)+ ⇑([]:List Keyword)+ (if ([]:List Keyword).isEmpty then 0 else 1)<30))=true
 line:(apos.endLine==cG.line)=true
 trees:backTo cG (starEach [e] X.env)=[(false,eval e X.env)]
structure M2 (X:Cx) (o:Expr) (m:Str) (apos:Pos) (e f:Expr) (cG:Pos):Prop where
 base:attributeBase o m X.env (eval o X.env)=eval o X.env
 few:((backTo cG (starEach [e,f] X.env)).all (λx=>!x.1) && (backToKw cG (keywordEach [] X.env)).all (λx=>x.1.isSome)
  && decide (⇑([e,f]:Zr)+ ⇑([]:List Keyword)+ (if ([]:List Keyword).isEmpty then 0 else 1)<30))=true
 line:(apos.endLine==cG.line)=true
 trees:backTo cG (starEach [e,f] X.env)=[(false,eval e X.env),(false,eval f X.env)]
def DF (H:Hp)(a:Zs):Prop:=(∃b,Rd H a (.dK b))\/∃b,Rd H a (.dT b)
def lZ (I:Inv X o D H s)(d:DF H a):
 s.TypeIs ↑a "dict"/\(∀b,Value.ref a=↑b->∃c,s.heap.get? b\c/\c.dict=none)/\(a==sysModules)=false:=by
 rcases d with ⟨h,e⟩|⟨h,e⟩
 ·let⟨_,g,k,_,f⟩:=pG I.aM e;rwa[⟨f.typeIs,λb q=>?_,g⟩];ext q;let⟨c,_,_,j,i,_⟩:=f;rwa[c,j,i.2.1]
 ·let⟨_,g,l,_,f⟩:=pH I.aM e;rwa[⟨f.typeIs,λb q=>?_,g⟩];ext q;let⟨c,_,_,j,i,_⟩:=f;rwa[c,j,i.2.1]
section
variable {X:Cx}{pins:List (Zs×Obj)}{σ:St}{H:Hp}{s:Zu}{a:Zs}{y d:V}{u r:Zt}{o:Zc}{A:Around}{E:Zt->Zu->Prop}
def QQ (v:A.units+ 1<cLine)(I:Inv X pins σ H s)(g:eQ H a y o)(p:RelV y u)(h:∀n m,Inv X pins σ H m->RelV (o.getD .non) n->Q n m):
 X⁻¹ A (call (.builtin "dict.get") [↑a,u]) Q E s:=by
 rcases g with ⟨i,k,e,j,l⟩|⟨i,k,b,e,j,q,l⟩
 ·subst j;let⟨z,f,w,rel,c⟩:=pG I.aM e;rwa[ajb aiu c.typeIs ajl (PySem.F.args_dict_get_2 _ _) (meets_dict_get (bQ X.prog X.w) a (jJ p) f) ⟨_,c.mapOf,h _ _ (I.tok _) ?_⟩];rw[l];rwa[(rel.val k).getD rfl]
 ·subst j;cases (show u=Value.ref b from p);let⟨z,f,t,rel,c⟩:=pH I.aM e;rwa[ajb aiu c.typeIs ajl (PySem.F.args_dict_get_2 _ _) (meetsH_dict_get (tupleKind (bQ X.prog X.w)) a b f) ⟨aiP v,k,t,lY I.aM q,c,h _ _ (I.tok _) ?_⟩];rw[l];rwa[(rel.val k).getD rfl]
def QR (v:A.units+ 1<cLine)(I:Inv X pins σ H s)(g:eQ H a y o)(p:RelV y u)(rd:RelV d r)(h:∀n m,Inv X pins σ H m->RelV (o.getD d) n->Q n m):
 X⁻¹ A (call (.builtin "dict.get") [↑a,u,r]) Q E s:=by
 rcases g with ⟨i,k,e,j,l⟩|⟨i,k,b,e,j,q,l⟩
 ·subst j;let⟨z,f,w,rel,c⟩:=pG I.aM e;rwa[ajb aiu c.typeIs ajl (PySem.F.args_dict_get_3^_) (meets_dict_get_default (bQ X.prog X.w) a (jJ p) f r) ⟨_,c.mapOf,h _ _ (I.tok _) ?_⟩];rw[l];rwa[(rel.val k).getD rd]
 ·subst j;cases (show u=Value.ref b from p);let⟨z,f,t,rel,c⟩:=pH I.aM e;rwa[ajb aiu c.typeIs ajl (PySem.F.args_dict_get_3^_) (meetsH_dict_get_default (tupleKind (bQ X.prog X.w)) a b f r) ⟨aiP v,k,t,lY I.aM q,c,h _ _ (I.tok _) ?_⟩];rw[l];rwa[(rel.val k).getD rd]
end
inductive DG (x:V) (H:Hp) (G:Zs->Prop):Prop
 |mk (a:Zs):x=↑a->DF H a->G a->DG x H G
def QS (td e:TE):TE:=λ d H Q=>td d H λx c=>DG x c λa=>e d c λy b=>∃o,eQ b a y o/\Q (o.getD .non) b
inductive QT (ty tx:TE) (σ:St) (x:V) (H1:Hp) (Q:VK):Prop
 |mk (a:Zs):x=↑a->DF H1 a->(ty σ H1 λy H2=>tx σ H2 λz H3=>∃o,eQ H3 a y o/\Q (o.getD z) H3)->QT ty tx σ x H1 Q
def QV (td c tx:TE):TE:=λ a H Q=>td a H λx b=>QT c tx a x b Q
inductive QW (a:Zs) (y:V) (H:Hp) (Q:VK):Prop
 |mk (kvs:List (Key×V)) (k:Key) (v:V):H a\.dK kvs->y=kV k->bB kvs k\v->Q v (upd H a (.dK (fe kvs k)))->QW a y H Q
def QX (td e:TE):TE:=λ c H Q=>td c H λx b=>DG x b λa=>e c b λy d=>QW a y d Q
inductive JS (a:Zs) (y z:V) (H:Hp) (Q:VK):Prop
 |mk (kvs:List (Key×V)) (k:Key):H a\.dK kvs->y=kV k->(∀v,bB kvs k\v->Q v (upd H a (.dK (fe kvs k))))->(bB kvs k=none->Q z H)->JS a y z H Q
def QY (td e tx:TE):TE:=λ b H Q=>td b H λx c=>DG x c λa=>e b c λy d=>tx b d λz f=>JS a y z f Q
section
variable {X:Cx}{o e f:Expr}{apos cG:Pos}{td ty tx:TE}
def JT (v:X.A.units+ 1<cLine)(q:PE X o td)(C:PE X e ty)(m:M1 X o "get" apos e cG):PE X (.Call (.Attribute o "get" apos) [e] [] cG) (QS td ty):=by
 intro b s j H Q I h;rwa[ai3 m.base m.few m.line ah0 aiu PySem.F.type_dict_get (a9 (q b s j H _ I h) λu w ζ=>?_)];let⟨x,t,i,z,a,ex,d,n⟩:=ζ;subst ex;obtain rfl:u=Value.ref a:=z;let⟨r,k,_⟩:=lZ i d;erw[r,k];rw[m.trees];rwa[ahK rfl (aij (ahC (a9 (C b w j t _ i n) λL F ζ=>?_)))];let⟨y,B,p,A,G,g,D⟩:=ζ;rwa[aib ?_];rwa[QQ v p g A λE J l c=>⟨_,B,l,c,D⟩]
def l0 (D:X.A.units+ 1<cLine)(A:PE X o td)(M:PE X e ty)(w:PE X f tx)(m:M2 X o "get" apos e f cG):PE X (.Call (.Attribute o "get" apos) [e,f] [] cG) (QV td ty tx):=by
 intro b s i H Q I h;rwa[ai3 m.base m.few m.line ah0 aiu PySem.F.type_dict_get (a9 (A b s i H _ I h) λu E ζ=>?_)];let⟨x,C,j,F,a,ex,d,r⟩:=ζ;subst ex;obtain rfl:u=Value.ref a:=F;let⟨B,k,_⟩:=lZ j d;erw[B,k];rw[m.trees]
 rwa[ahK rfl (aij (ahC (a9 (M b E i C _ j r) λT q ζ=>?_)))];let⟨y,L,v,G,N⟩:=ζ;rwa[ ahC (a9 (w b q i L _ v N) λU S ζ=>?_)];let⟨z,n,p,J,R,g,t⟩:=ζ;rwa[aib ?_]
 rwa[QR D p g G J λP O l c=>⟨_,n,l,c,t⟩]
def JV (t:PE X o td)(D:PE X e ty)(m:M1 X o "pop" apos e cG):PE X (.Call (.Attribute o "pop" apos) [e] [] cG) (QX td ty):=by
 intro b s i H Q I h;rwa[ai3 m.base m.few m.line ah0 aju PySem.F.type_dict_pop (a9 (t b s i H _ I h) λu A ζ=>?_)];let⟨x,z,g,B,a,ex,d,q⟩:=ζ;subst ex;obtain rfl:u=Value.ref a:=B;let⟨w,j,_⟩:=lZ g d;erw[w,j];rw[m.trees];rwa[ahK rfl (aij (ahC (a9 (D b A i z _ g q) λO L ζ=>?_)))];let⟨y,M,r,C,n,k,v,F,E,l,G⟩:=ζ;rwa[aib ?_];subst E;rwa[L8 r F C l (.inl rfl) λJ N p c=>⟨v,_,p,c,G⟩]
def uy (G:PE X o td)(S:PE X e ty)(F:PE X f tx)(m:M2 X o "pop" apos e f cG):PE X (.Call (.Attribute o "pop" apos) [e,f] [] cG) (QY td ty tx):=by
 intro b s j H Q I h;rwa[ai3 m.base m.few m.line ah0 aju PySem.F.type_dict_pop (a9 (G b s j H _ I h) λu N ζ=>?_)];let⟨x,L,n,O,a,ex,d,C⟩:=ζ;subst ex;obtain rfl:u=Value.ref a:=O;let⟨J,t,_⟩:=lZ n d;erw[J,t];rw[m.trees]
 rwa[ahK rfl (aij (ahC (a9 (S b N j L _ n C) λZ B ζ=>?_)))];let⟨y,R,E,q,V⟩:=ζ;rwa[ ahC (a9 (F b B j R _ E V) λU Y ζ=>?_)];let⟨z,A,p,P,c,k,r,T,D,M⟩:=ζ;rwa[aib ?_]
 subst T
 cases l:bB c k with
 |some v=>exact L8 p r q l (.inr ⟨U,2⟩) λW w g i=>⟨v,_,g,i,D v l⟩
 |none=>exact QK p r q l λw g=>⟨z,A,g,P,M l⟩
end
section
variable {X:Cx}{pins:List (Zs×Obj)}{σ:St}{H:Hp}{s:Zu}{h':Heap}
def Inv.uz {fp:Zn}{o:HO}{t':Nat}(I:Inv X pins σ H s)(k:∀b u,b∉fp->s.heap.get? b\u->h'.get? b\u)(f:∀b∈fp,pD X pins H b)
 (h:↥s<=a) (new:bZ X.prog X.w (upd H a o) h' a o):Inv X pins σ (upd H a o) { s with heap:=h',toks:=t' }:=by
 let g:=I.aM.fresh h;let i:∀b u,H b\u->b∉fp:=λb u e z=>by rw[(f b z).1]at e;ext e
 refine I.step (g':=s.gens) (d':=s.drawn) (ch:=fp) (λb d=>⟨(f b d).2.2.2.1,(f b d).2.1,(f b d).2.2.2.2.1,(f b d).2.2.2.2.2⟩) (λb o _ _ hc e _=>k b o hc e) (λb o _ _ hc e _=>⟨o.slots,k b o hc e⟩)
  (λb o _ e n=>[ak (ahf (ahc (agX e) h))]▸n) (λb o hc e=>⟨o,k b o hc e⟩) (λb l e=>[ak (av e g)]▸e)
  (λb o u e=>[ak (av e g)]▸e) (λb x e=>⟨#[],by rw[ak (av e g),e];simp⟩) (λm t=>?_) (λb u e=>?_) I.bare
 ·let⟨o,p,w,j,r⟩:=t;rwa[o,p,w,k _ o (λz=>(f _ z).2.1 rfl) j,r]
 ·cases d:b=a
  ·subst d;rw[ah]at e;ext e;rwa[new]
  ·rw[ak d]at e;refine(I.aM b u e).fu (λc v hc q=>k c v ?_ q) (λc q=>[ak (av q g)]▸q) λc l q=>by rw[ak (av q g)];rwa[q]
   rcases hc with z|z
   ·rw[z];rwa[i b u e]
   ·rwa[i c _ z]
def Inv.xt {fp:Zn}{t':Nat}(I:Inv X pins σ H s)(k:∀b u,b∉fp->s.heap.get? b\u->h'.get? b\u)(a:∀b∈fp,pD X pins H b):Inv X pins σ H { s with heap:=h',toks:=t' }:=by
 let f:∀b u,H b\u->b∉fp:=λb u e z=>by rw[(a b z).1]at e;ext e
 refine I.step (g':=s.gens) (d':=s.drawn) (ch:=fp) (λb d=>⟨(a b d).2.2.2.1,(a b d).2.1,(a b d).2.2.2.2.1,(a b d).2.2.2.2.2⟩) (λb o _ _ hc e _=>k b o hc e) (λb o _ _ hc e _=>⟨o.slots,k b o hc e⟩)
  (λb o _ e n=>n) (λb o hc e=>⟨o,k b o hc e⟩) (λb h e=>e) (λb o u e=>e) (λb p e=>⟨#[],by rw[e];simp⟩) (λm j=>?_) (λb u e=>?_) I.bare
 ·let⟨o,i,l,g,r⟩:=j;rwa[o,i,l,k _ o (λz=>(a _ z).2.1 rfl) g,r]
 ·rwa[(I.aM b u e).fu (λc v hc q=>k c v ?_ q) (λc q=>q) λc h q=>q]
  rcases hc with z|z
  ·rw[z];rwa[f b u e]
  ·rwa[f c _ z]
end
namespace En
section
variable {prog:Program}{w:World}{A:Around}{E:Zt->Zu->Prop}{s:Zu}
theorem yt {it:Zs}{fp:Zn}{P:Nat->Zt->Prop}{St:Nat->Heap->Prop}{old:Zt}{Q:Zl->Zu->Prop}(D:Draws prog w A.in1 it fp n P St)
 (he:IsEnum s.heap a it z old) (hst:St i s.heap) (ou:i<n) (tV:a≠it) (V4:a∉fp)
 (hQ:∀x h' H,P i x->IsEnumOut h' a it (z+ 1) x ↥s->St (i+ 1) h'->h'.get? ↥s\("tuple">>>.seq #[.int z H,x])->
  (∀b o,b≠a->b≠it->s.heap.get? b\o->h'.get? b\o)->Q (some ↑↥s) { s with heap:=h',toks:=H+ 1 }):
 (prog<|>w) A (pyNext ↑a) Q E s:=by
 let hT:s.TypeIs ↑a "enumerate":=⟨_,he,2⟩;unfold pyNext;rwa[agB (wpAny_attempt (ahH (name:=Str.ofString "__next__") hT ajv (ahL ajv hT F.entry_enumerate_next ?_ (F.args_enumerate_next_1 _))))];let⟨T,g,d,ae9,os⟩:=s;show wpAny _ _ (field ↑a 2 >>=_) _ _ _;rwa[agB (ahI he rfl (x:=↑it) rfl (agB (D.item i _ _ _ ou hst λx j H hPx M h=>?_)))];replace h:Heap.SameBut it T j:=h;let r:IsEnum j a it z old:=(h.2 a tV).trans he;show wpAny _ _ (field ↑a 3 >>=_) _ _ ⟨j,g,d,H,os⟩;rwa[agB (ahI r rfl (x:=rawInt z) rfl ?_)];show wpAny _ _ (field ↑a 4 >>=_) _ _ ⟨j,g,d,H,os⟩;rwa[agB (ahI r rfl (x:=.none) rfl ?_)];show wpAny _ _ (mkInt z >>=_) _ _ ⟨j,g,d,H,os⟩;rwa[agB (wpAny_mkInt ?_)];show wpAny _ _ (setField ↑a 3 (rawInt (z+ 1)) >>=_) _ _ ⟨j,g,d,H+ 1,os⟩;rwa[agB (ahX r (by simp) λG t f=>?_)];replace f:Heap.SameBut a j G:=f;replace t:IsEnum G a it (z+ 1) old:=t;show wpAny _ _ (setField ↑a 4 .none >>=_) _ _ ⟨G,g,d,H+ 1,os⟩;rwa[agB (ahX t (by simp) λl u e=>?_)];replace e:Heap.SameBut a G l:=e;replace u:IsEnum l a it (z+ 1) old:=u;show wpAny _ _ (newTuple [.int z H,x] >>=_) _ _ ⟨l,g,d,H+ 1,os⟩;rwa[agB (wpAny_newTuple ?_)];let v:IsEnum (l.push ("tuple">>>.seq #[.int z H,x])) a it (z+ 1) old:=agD _ u;generalize B:l.push ("tuple">>>.seq #[.int z H,x])=C at v;let Y:l.objs.size=T.objs.size:=by rw[e.1,f.1,h.1]
 let W:a<T.objs.size:=agX he;let Z:C.get? T.objs.size\("tuple">>>.seq #[.int z H,x]):=by rw[<-B,<-Y];rwa[agU _ rfl]
 let U:∀b o,b≠a->b≠it->T.get? b\o->C.get? b\o:=λb o c X V=>by
  rw[<-B];rwa[agD _ (e.extBut b o c (f.extBut b o c (h.extBut b o X V)))]
 let S:St (i+ 1) C:=D.frame _ _ _ M λb V o y=>by
  let c:b≠a:=λq=>V4 (q ▸ V)
  rw[<-B];rwa[agD _ (e.extBut b o c (f.extBut b o c y))]
 show wpAny _ _ (Builtin.SmallTypes.ownedTupleIsFree ↑a >>=_) _ _ ⟨C,g,d,H+ 1,os⟩;rw[Y];clear B u e t f r h M Y l G j;rwa[agB ?_];unfold Builtin.SmallTypes.ownedTupleIsFree;rwa[agB (ahI v rfl (x:=.none) rfl (agI ?_))];simp only[akc];rwa[agB (akd (agB (ahI v rfl (x:=old) rfl (agB (ahX v (by simp) λN L m=>?_)))))];replace m:Heap.SameBut a C N:=m;replace L:IsEnum N a it (z+ 1) x:=L;show wpAny _ _ (Builtin.SmallTypes.ownedTupleHandOut ↑a ↑T.objs.size >>=_) _ _ ⟨N,g,d,H+ 1,os⟩;rwa[agB ?_];unfold Builtin.SmallTypes.ownedTupleHandOut;rwa[agB (ahX L (by simp) λO J p=>?_)];replace p:Heap.SameBut a N O:=p;replace J:IsEnumOut O a it (z+ 1) x T.objs.size:=J;rwa[ahX J (by simp) λR I k=>?_]
 replace k:Heap.SameBut a O R:=k;replace I:IsEnumOut R a it (z+ 1) x T.objs.size:=I;rwa[agB (ake (agI ⟨12,agI (hQ x R H hPx I ?_ ?_ ?_)⟩))]
 ·exact D.frame _ _ _ S λb V o y=>by
   let c:b≠a:=λq=>V4 (q ▸ V)
   rwa[k.extBut b o c (p.extBut b o c (m.extBut b o c y))]
 ·rwa[k.extBut _ _ (ahT W) (p.extBut _ _ (ahT W) (m.extBut _ _ (ahT W) Z))]
 ·rwa[λb o c X V=>k.extBut b o c (p.extBut b o c (m.extBut b o c (U b o c X V)))]
def N5 {T newId:String}{self a:Zt}{kw:List (Str×Zt)}(f:typeLookup (.type T) "__init__"=pure (some (.builtin "object.__init__")))(e:Bind.madeBy (.type T)=pure (some newId))(c:(some newId !=some "object.__new__")=true):
 Meets (Builtin.«object.__init__» ⟨[self,a],kw⟩) (λ_ R s=>s.TypeIs self T/\R (.ok (.ret .none)) s):=by
 rwa[Meets.of_wp λprog w A R s d=>?_]
 let⟨g,b⟩:=d
 repeat (any_goals (first|assumption|wp_step))
 rwa[12,b]
def Va (a b:Zt):checkTypeCall "enumerate" ⟨[a],[("start",b)]⟩=pure ():=by kernel_rfl
def Vb (a b:Zt):checkBuiltinCall "enumerate.__new__" ⟨[.type "enumerate",a],[("start",b)]⟩=pure ():=by kernel_rfl
theorem Vc (a b c:Zt):argsOk "object.__init__" ⟨[a,b],[("start",c)]⟩:=by
 unfold argsOk;rw[signature?_of (id:="object.__init__") (n:=['_','_','t','i','n','i','_','_']) (o:=['t','c','e','j','b','o']) (by kernel_rfl) F.owner_object]
 kernel_rfl
end
end En
inductive Vd (t:TT) (σ:St) (H:Hp) (Q:(Bool->Hp->Prop)):Prop
 |mk (G:Bool->Hp->Prop):t σ H G->(∀c H',G c H'->Q c H')->Vd t σ H Q
def CXw (P:Program)(w:World):lh:=λa H s E e c=>∃(x C:Zs) (B:Heap) (d:Hp) (f:Zt),e=↑x/\c.os=s.os/\AllBare c.gens/\Heap.FlyingW B a x ↑C f c.heap/\
 Un (cJ a) [] H d s.heap c.heap/\dD P w d B/\(∀b o,s.heap.get? b\o->H b=none->b∉cJ a->B.get? b\o)/\(∀b o,s.heap.get? b\o->b∉cJ a->∃g,B.get? b\g)/\E ↑C none d
section
variable {X:Cx}{pos:Pos}
abbrev TJ:=St->Hp->Zh->VK->Prop
def PJ (X:Cx)(c:Zr)(t:TJ):Prop:=
 ∀(a:List (Zs×Obj)) (s:Zu) (b:St) (H:Hp) (acc:Zh) (Q:VK),Inv X a b H s->t b H acc Q->X⁻¹ X.A (joinParts (tx acc) (evalEach c X.env)) (EP X a b Q) X.xe s
def QZ:PJ X [] (λ b H acc Q=>⇑acc<=1000000/\Q (.str (tx acc)) H):=λa s b H acc Q I h=>
 joinParts_nil ⟨.str (tx acc),H,I.tok _,⟨12⟩,h.2⟩ ([GU]▸agT h.1 ⋯)
def DH {t:TJ}(n:PE X e r)(i:PJ X C t)(k:evalEach (e::C) X.env=eval e X.env::evalEach C X.env:=by rfl):
 PJ X (e::C) (λ c H acc Q=>r c H λv d=>∃l,v=.str (tx l)/\⇑acc+ ⇑l<=1000000/\t c d (acc++l) Q):=by
 intro b s c H acc Q I h;rw[k];rwa[joinParts_cons (a9 (n b s c H _ I h) λv j ζ=>?_)];let⟨x,d,f,a,l,m,g,q⟩:=ζ;subst m;let⟨o,rfl⟩:=a;erw[5]
 ·rw[GV,GU,agF];rwa[agT g ⋯]
 ·rw[GV];rwa[i b j c d (acc++l) Q f q]
def GZ {b:Expr}{t:TJ}(h:PJ X (e::b::C) t)(d:evalEach (e::b::C) X.env=eval e X.env::eval b X.env::evalEach C X.env):PE X (.JoinedStr (e::b::C) pos) (λ c H Q=>t c H [] Q):=by
 intro a s c H Q I q;rwa[JoinedStr_many ?_];have:=h a s c H [] Q I q;rw[d]at this;rwa[this]
def N6 (j:PE X e r):PE X (.FormattedValue e (-1) none pos) (λ d H Q=>r d H λv c=>∃n:Int,v=.int n/\n.natAbs<10000000000/\Q (.str (tx (Ad n))) c):=by
 intro b s d H Q I h;rwa[FormattedValue_plain (a9 (j b s d H _ I h) λv l ζ=>?_)];let⟨x,c,f,a,n,i,g,q⟩:=ζ;subst i;let⟨k,rfl⟩:=a;rwa[formatField_int_small (GW g) ?_];rwa[.str (tx (Ad n)),c,f.tok _,⟨_,by rw[U1 (toString n:Str)];rfl⟩,q]
abbrev Ak:Zk:=[.type "ValueError",.type "Exception",.type "BaseException",.type "object"]
end
def bZ.get {o:HO}(x:bZ P w H h a o):∃u,h.get? a\u:=by
 cases o with
 |lst d=>let⟨_,_,_,_,e⟩:=x;rwa[_,e]
 |tup d=>let⟨_,_,_,c,e,_⟩:=x;rwa[_,e]
 |dK b=>let⟨_,_,_,_,o,_,_,e,_⟩:=x;rwa[_,e]
 |dT b=>let⟨_,_,_,_,o,_,_,e,_⟩:=x;rwa[_,e]
 |set S n=>let⟨o,_,_,_,e,_⟩:=x;rwa[_,e]
 |ins C dx fs=>let⟨_,_,_,e,_⟩:=x;rwa[_,e]
 |own y=>exact x
 |xd fs=>let⟨_,⟨_,_,_,e,_⟩,_⟩:=x;rwa[_,e]
 |eK lo j=>let⟨_,_,_,e⟩:=x;rwa[_,e]
 |cS c u=>let⟨e,_⟩:=x;rwa[_,e]
 |fB i=>rwa[_,show h.get? a=some _ from x]
 |met f y=>rwa[_,show h.get? a=some _ from x]
 |ext g=>let⟨_,e,_⟩:=x;rwa[e]
def Ff (x C:Zs)(h:Heap):Prop:=∃a b,h.get? x\a/\a.cls=↑C/\a.data=.fields b
noncomputable def ExO (x C:Zs):HO:=.ext (Ff x C)
def Thr (X:Cx)(a:List (Zs×Obj))(g:St)(d:Hp)(x C:Zs)(s:Zu):Prop:=
 ∃(B:Heap) (c:Hp) (s1:Zu) (e:Zt),Inv X a g c s1/\s.os=s1.os/\AllBare s.gens/\Heap.FlyingW B X.stack x ↑C e s.heap/\Un (cJ X.stack) [] c d s1.heap s.heap/\dD X.prog X.w d B/\
  (∀b o,s1.heap.get? b\o->c b=none->b∉cJ X.stack->B.get? b\o)/\(∀b o,s1.heap.get? b\o->b∉cJ X.stack->∃f,B.get? b\f)
section
variable {X:Cx}{pins:List (Zs×Obj)}{σ:St}{x:Zs}{s:Zu}
def Inv.Ma {s1:Zu}(I:Inv X pins σ H s1){b:Zs}(c:b∈cJ X.stack):∃o,s1.heap.get? b\o/\∀a,o.data≠.fields a:=by
 let⟨_,o,e,n⟩:=I.stack.mem c;rwa[o,e,n]
abbrev Cx.yu (X:Cx) (x:Zs):Cx:={ X with A:=X.A.mark (some ↑x),calm:=false,xe:=λ_ _=>False }
def Inv.yu (I:Inv X pins σ H s)(x:Zs):Inv (X.yu x) pins σ H s:=
 ⟨⟨I.ok.mod,I.ok.kind,I.ok.glob,I.ok.blt,I.ok.above,I.ok.inj,I.ok.has,I.ok.zL,(λz=>by ext z),I.ok.frames,I.ok.Dh,I.ok.Lz,I.ok.bs,I.ok.qN,I.ok.uk,I.ok.wZ,I.ok.i6,I.ok.tO⟩,I.os,I.bare,I.base,I.loc,I.cell,I.free,I.gO,I.pin,I.aM,I.len⟩
def Inv.zF (ok:X.Ok)(I:Inv (X.yu x) pins σ H s):Inv X pins σ H s:=⟨ok,I.os,I.bare,I.base,I.loc,I.cell,I.free,I.gO,I.pin,I.aM,I.len⟩
def sQ {M:Model}{pos:Pos}(I:Inv X pins σ H s)(Y:X.N.Nodup)(J:X.N[i]?\f)(l:X.env.scope.names.lookup f=some .local)
 (h:∀F,Inv X pins (σ.set i none) H F->U () F):wpAny M A (do bindName X.env f .none;unbindBehindTheSuite X.env f pos) U E s:=by
 let⟨m,T,S⟩:=id I.loc;let t:(X.env.scope.kind==.class || (X.env.scope.kind==.module && X.env.locals !=X.env.globals))=false:=by rw[I.ok.kind];rfl
 let r:i < ⇑σ:=by rw[I.len];rwa[(agE.mp J).1]
 rwa[wpAny_nameGoes_keeps l T t λh' v B g=>?_]
 let a:∀b o,X.dX.heap.get? b\o->b≠X.env.locals:=λb o e=>ahf (ahc (agX e) I.ok.above)
 rwa[h _ ⟨I.ok,I.os,I.bare,⟨λb o e k w l=>(g.2 b (a b o e)).trans (I.base.keep b o e k w l),λb o e k w l=>?_,I.base.free,λb o e l=>?_,I.base.ia,I.base.gN,I.base.ib⟩,⟨_,B,λj y N n u W=>?_⟩,λy c e=>?_,I.free,I.gO,λp R=>?_,λb P e=>?_,by simpa using I.len⟩]
 ·let⟨O,n⟩:=I.base.slot b o e k w l;rwa[O,(g.2 b (a b o e)).trans n]
 ·let⟨V,n⟩:=I.base.there b o e l;rwa[V,(g.2 b (a b o e)).trans n]
 ·cases D:j=i
  ·subst D;rw[ahA r]at u;ext u
  ·rw[ah2 (ahZ D)]at u;let⟨Q,L,q⟩:=S j y N n u W;erw[Q,L];rcases q with ⟨k,e⟩|⟨k,c,e,z⟩
   ·rwa[.inl ⟨k,?_⟩];have:y≠f:=λe=>D (um Y n (e ▸ J))
    simp[this,e]
   ·rwa[.inr ⟨k,c,e,z.sameBut g (I.lg y c e)⟩]
 ·let⟨G,z⟩:=I.cell y c e;rwa[G,z.sameBut g (I.lg y c e)]
 ·let⟨e,k,ne,Z,d⟩:=I.pin p R;rwa[(g.2 p.1 ne).trans e,k,ne,Z,d]
 ·rwa[(I.aM b P e).fu (λc G hc q=>(g.2 c ?_).trans q) (λ_ q=>q) λ_ _ q=>q]
  rintro rfl;rcases hc with rfl|hc
  ·rw[I.free]at e;ext e
  ·rw[I.free]at hc;ext hc
end
abbrev XR:=Zs->St->Hp->Prop
def XP (X:Cx)(a:List (Zs×Obj))(R:XR)(e:Zt)(s:Zu):Prop:=∃x C b H,e=↑x/\Thr X a b H x C s/\R C b H
abbrev TH:=Ends->Zs->St->Hp->Prop
def Ff.Fh {M:Model}{x:Zs}(p:Ff x a h):PySem.W.Looks M h (typeOf ↑x) ↑a:=by
 let⟨o,_,c,b,_⟩:=p;rwa[b ▸ (PySem.W.Looks.ld c).andThen .now]
end L2
namespace L2
open PySem PySem.Spec PyProof.Rows PySem.Calls PySem.W Builtin Builtin.ObjectAttr Builtin.Getset_descriptor
structure afl (K:Za1) (C:Zs):Prop where
 ga:findIn K ↑C "__getattribute__"=some (some (.builtin "BaseException.__getattribute__"))
 gt:findIn K ↑C "__getattr__"=some none
 cl:isClsIn K C=true
 at_:findIn K ↑C "__class__"=some (some (.builtin "object.__class__"))
 gs:specialIn K (.builtin "object.__class__") "__get__"=some (some (.builtin "getset_descriptor.__get__"))
 tk:takesIn K (.builtin "object.__class__")\true
 mo:mroIn K C (.type "object")\true
 be:subIn K ↑C (.type "BaseException")\true
end L2
namespace L2
open PySem PySem.Spec PyProof.Rows
section
variable {P:Program}{w:World}{K:Za1}{mg:Str->Zl}{base:Heap}
theorem qQ.okN {h:lh}{qual:Str}{st:Stmt}{fd:FuncData}{e:Zp}{k:Nat}{sp:Sp}(F:qQ K x qual st a fd)(S:aS Z e (aB st))(len:∀c H Q E,sp c H Q E->⇑c=⇑e)
 (d:∀(b:Zt) (A:Around) (outer:Zq) (s:Zu) (H:Hp) (c:Zb) (Q:VK) (E:XK),cx k (A.deeper (envOfC qual (aB st) ↥s a b))->sp c H Q E->
  ∃t,iJ (cy h P w K mg base Z qual (aB st) a b A outer s H E).tQ (cE st) t/\t { nx:=λ_ m=>Q .non m,rt:=Q } (start Z c) H):dk P w K mg base h (k+ 1) a fd e sp:=by
 let⟨o,q,kV,doc,pm,p,b,ct,n,rfl,lk,g⟩:=F.ex;rwa[zE lk g S len λA outer s H c Q E l f=>?_]
 let⟨t,j,i⟩:=d b A outer s H c Q E l f;rwa[t,j.tQ,i]
end
section
variable {prog:Program}{w:World}{A:Around}{R:Result->Zu->Prop}{s:Zu}
def y9 {elt target iter:Expr}{scope:Scope}{pos:Pos}{it acc:Zt}{env:Env}(I:Nat->Zu->Prop)
 (turn:∀n s,I n s->(prog<|>w) A (pyNext it) (λr d=>match r with
  |none=>R (.ok .next) d
  |some v=>(prog<|>w) A (letOwnedTupleGo target it v) (λ_ i=>(prog<|>w) A (assign target env v) (λ_ l=>(prog<|>w) A (isTrue e env (eval e env)) (λb c=>
   match b with
   |true=>(prog<|>w) A (eval elt env) (λx j=>(prog<|>w) A (call (.builtin "list.append") [acc,x]) (λ_ g=>∃m,m<n/\I m g) (λ_ _=>False) j) (λ_ _=>False) c
   |false=>∃m,m<n/\I m c) (λ_ _=>False) l) (λ_ _=>False) i) (λ_ _=>False) d) (λ_ _=>False) s)
 (n:Nat) (h:I n s):codeAny (model prog w) A (.compLoop (.ListComp elt [⟨target,iter,[e],(0)⟩] scope pos) 0 it acc env) R s:=by
 rwa[codeAny_loop rfl I (λn s u=>?_) n h];rwa[wpAny_noted ?_];rwa[agB (ajB (agB (ahF (turn n s u) (λr d f=>?_) λ_ _ a=>a.elim)))]
 cases r with
 |none=>exact agI f
 |some v=>
  rwa[agB (ahF f (λ_ i t=>?_) λ_ _ a=>a.elim)];rwa[agB (ahF t (λ_ l p=>agB (wpAny_tests_one (ahF p (λok j k=>?_) λ_ _ a=>a.elim))) λ_ _ a=>a.elim)]
  cases ok with
  |false=>exact agI ⟨2,k⟩
  |true=>
   rwa[agB (agB (ahF k (λx g o=>agB (ahF o (λ_ c q=>agI (agI ⟨2,q⟩)) λ_ _ a=>a.elim)) λ_ _ a=>a.elim))]
end
def Al (k:TT)(g:TE)(e:St)(Q:VK)(J:It)(h:Hp):Prop:=∃W:Nat->Nat->Zb->Hp->Prop,(∃m,W 0 m [] h)/\∀i m ys a,W i m ys a->
 (J.stop i a/\⇑ys<=sizeLine/\∀D,a D=none->Q ↑D (upd a D (.lst ys)))\/
 (J.go i a/\⇑ys<sizeLine/\∀x f,J.lT i a x f->k (some x::e) f λb d=>match b with
  |true=>g (some x::e) d λy j=>∃c,c<m/\W (i+ 1) c (ys++[y]) j
  |false=>∃c,c<m/\W (i+ 1) c ys d)
def oy (b:TI)(e:St->St)(d:TT)(c:TE):TE:=λ a H Q=>b a H (Al d c (e a) Q)
end L2
namespace L2
open PySem PySem.Spec PyProof.Rows
def JW {x:Int}(b:0<=x)(a:x<=100000):¬(!Builtin.List.listFitsIndex x)=true:=by
 have:Builtin.List.listFitsIndex x=true:=by
  unfold Builtin.List.listFitsIndex;simp;ext
 cbv
noncomputable def Q0 (x:Int)(a:Zt):Zm->Zm:=λxs=>have k:=if x<0 then (x+ ((xs.size:Nat):Int)).toNat else min x.toNat xs.size;(xs.extract 0 k).push a++xs.extract k
def G0 (l:Zs)(a:Zk)(n:Nat)(x:Int)(t:Tok)(b:Zt)(e:0<=x)(d:x<=100000)(c:a.toArray.size<=sizeLine):
 Meets (Builtin.«list.insert» ⟨[↑l,.int x t,b],[]⟩) (λ_ R s=>s.heap.get? l\{ cls:=.type "list",dict:=none,data:=.seq a.toArray n,slots:=#[] }/\R (.ok (.ret Value.none)) { s with heap:=s.heap.update l (Obj.mapSeq (Q0 x b)),toks:=s.toks }):=
 PySem.AutoListH.list_insert_list_int_val_1 l a.toArray n x t b (JW e d) c
def N7 {w':Zt}(b:i<=⇑N):Q0 (i:Int) w' N.toArray=(N.take i++[w']++N.drop i).toArray:=by
 let a:(if (i:Int)<0 then ((i:Int)+ ((N.toArray.size:Nat):Int)).toNat else min (i:Int).toNat N.toArray.size)=i:=by
  rw[ag3 ∅,agV,ahg];ext
 show (N.toArray.extract 0 (if (i:Int)<0 then ((i:Int)+ ((N.toArray.size:Nat):Int)).toNat else min (i:Int).toNat N.toArray.size)).push w'++N.toArray.extract (if (i:Int)<0 then ((i:Int)+ ((N.toArray.size:Nat):Int)).toNat else min (i:Int).toNat N.toArray.size)=_
 cbv
section
variable {X:Cx}
inductive DJ (x:V) (vs:Zb) (H:Hp) (Q:VK):Prop
 |mk (l:Zs) (xs:Zb) (i:Nat) (y:V):x=↑l->vs=[.int i,y]->H l\.lst xs->⇑xs<sizeLine->i<=⇑xs->i<=100000->Q .non (upd H l (.lst (xs.take i++[y]++xs.drop i)))->DJ x vs H Q
theorem xu:zV X "list.insert" DJ:=by
 intro j s L H x D v N Q I w o h;let⟨l,xs,i,y,rfl,rfl,g,p,G,m,q⟩:=h;ext w;let⟨u,b,rfl,⟨t,rfl⟩,A⟩:=vals2 o;let⟨z,a,n,r,E,e⟩:=I.nS g;let rl:=⇑r
 let c:a.toArray.size<=sizeLine:=by
  rw[agV,<-rl];rwa[ajQ p]
 let B:Vals (xs.take i++[y]++xs.drop i) (a.take i++[b]++a.drop i):=((r.take i).append (.cons A .nil)).append (r.drop i)
 let hlen:⇑(xs.take i++[y]++xs.drop i)<=sizeLine:=by
  simp only[agF,ahm,ahG,aha,aih];ext
 let J:=I.zW (t':=s.toks) g e (N7 (w':=b) (show i<=⇑a by omega)) B hlen;let d:(0:Int)<=(i:Int):=Int.natCast_nonneg i;let f:(i:Int)<=100000:=∅
 change (i:Int)=k at d f J ⊢;let M:=G0 l a n k t b d f c;rwa[ajj F.slot_list_insert ⟨_,e,2⟩ F.entry_list_insert (F.args_list_insert_3^_) M ⟨e,5⟩];rwa[.non,_,J,2,q]
end
end L2
namespace L2
open PySem PySem.Spec PyProof.Rows
def mh (h:n∈B):∃i:Nat,B[i]?\n/\∀j,j<i->B[j]?≠some n:=by
 induction B with
 |nil=>ext h
 |cons a B b=>
  cases e:a=n
  ·rwa[(0),by rw[e];rfl,λj c=>∅]
  ·let⟨i,f,d⟩:=b ((agW.mp h).resolve_left (ahZ e));rwa[⟨i+ 1,f,λj c=>?_⟩]
   cases j with
   |zero=>exact λz=>e (Za0 z)
   |succ j=>exact d j ∅
inductive Ve (x:V) (y:V) (H:Hp) (Q:VK):Prop
 |mk (a b:Zs) (ns ms:Zg):x=↑a->y=↑b->H a\.lst (ao ns)->H b\.lst (ao ms)->Q (.bl (decide (ns=ms))) H->Ve x y H Q
noncomputable def eK (lo:Int)(n:Nat):Zg:=(List.range n).map λi:Nat=>lo+ (i:Int)
def oz (lo:Int)(n:Nat):⇑(eK lo n)=n:=by unfold eK;cbv
def Q5 {lo:Int}(h:i<n):(eK lo n)[i]?\(lo+ (i:Int)):=by
 unfold eK;rw[agY,aip h];rfl
theorem Am:∀(zs:Zg) (us:Zk),⇑us=⇑zs->(∀(i:Nat) (z:Int) (u:Zt),zs[i]?\z->us[i]?\u->∃t,u=.int z t)->Vals (ao zs) us
 |[],[],_,_=>.nil
 |z::zs,u::us,a,h=>.cons (h 0 z u rfl rfl) (Am zs us (by simpa using a) λi z u c b=>h (i+ 1) z u c b)
 |[],_::_,a,_=>by simp at a
 |_::_,[],a,_=>by simp at a
def Fi {lo:Int}{acc:Zm}(h:ItemsOf (λi v=>∃t,v=Value.int (lo + (i:Int)* 1) t) acc n):Vals (ao (eK lo n)) acc.toList:=by
 rwa[Am _ _ ?_ λi z u a c=>?_]
 ·rw[oz,aio];rwa[h.1]
 ·let b:i<n:=by
   have:=(agE.mp a).1;rw[oz]at this;rwa[this]
  rw[Q5 b]at a;let⟨t,e⟩:=h.2 i u (by cbv)
  cbv
section
variable {X:Cx}{a:Expr}{ta:TA}{p p2 pos An:Pos}
def YH (ta:TA):TE:=λ e H Q=>ta e H λd c=>∃j:Nat,d=[.int j]/\j<=10000/\∀l,c l=none->Q ↑l (upd c l (.lst (ao (eK 0 j))))
def list_range {Q:VK}{lo:Int}{t u v:Tok}(k:X.calm=true)(I:Inv X o D H s)(A:0<=lo)(m:lo<=10000)(B:0<=z)(y:z<=10000)
 (q:∀l,H l=none->Q ↑l (upd H l (.lst (ao (eK lo (z - lo).toNat))))):X⁻¹ X.A (call (.type "list") [↑↥s]) (EP X o D Q) X.xe { s with heap:=s.heap.push ("range">>>.fields #[.int lo t,.int z u,.int 1 v]),toks:=n }:=by
 let i:Inv X o D H { s with heap:=s.heap.push ("range">>>.fields #[.int lo t,.int z u,.int 1 v]),toks:=n }:=I.kept λb c e=>agD _ e
 let g:Builtin.Range.rangeSize lo z 1=(((z - lo).toNat:Nat):Int):=by rw[rangeSize_one];split <;> ext
 rwa[call_list_range (n:=(z - lo).toNat) (I.ok.hd k) (IsRange.new ..) (small_one ∅ ∅ ∅ ∅) g ∅ λx h f j kp w hit=>?_]
 rwa[⟨↑_,_,i.laid (t':=h) (o:=.lst (ao (eK lo (z - lo).toNat))) kp (agJ _) ⟨5,f.toList,j,Fi hit,5⟩,2,q _ (i.aM.fresh (agJ _))⟩]
 ·rw[aI,oz];rwa[agT (show (z - lo).toNat<=10000 by omega) ⋯]
 ext
def qh (x:X.calm=true)(g:Gl X "list")(f:X.mg "list"=none)(k:Gl X "range")(v:X.mg "range"=none)(w:PA X [a] ta)(o:starEach [a] X.env=[(false,eval a X.env)]:=by rfl)
 (d:starEach [.Call (.Name "range" p) [a] [] pos] X.env=[(false,eval (.Call (.Name "range" p) [a] [] pos) X.env)]:=by rfl):PE X (.Call (.Name "list" p2) [.Call (.Name "range" p) [a] [] pos] [] An) (YH ta):=by
 intro c s u H Q I h;rwa[ahO (gY I g f boot_list ?_)];rwa[ahE ?_ d rfl];rw[d];show wpAny _ _ (spliced ((false,eval (.Call (.Name "range" p) [a] [] pos) X.env)::backTo An [])) _ _ s;rwa[ahC ?_];rwa[Call_ (gY I k v boot_range (ahE (a9 (w pos c s u H _ I h) λB A ζ=>?_) o rfl))];let⟨y,z,l,i,m⟩:=ζ;let⟨j,e,C,q⟩:=m;subst e
 cases i with
 |cons r n=>
  ext n;let⟨t,rfl⟩:=r;rwa[call_range_1 (aib ?_)];rwa[list_range x l ∅ ∅ ∅ ∅ (by simpa using q)]
end
def eh (H:Hp)(rs:Zn)(rows:Za3):Prop:=⇑rs=⇑rows/\∀(i:Nat) (r:Zs) (a:Zg),rs[i]?\r->rows[i]?\a->H r\(.lst (ao a))
def TabAt (H:Hp)(a:Zs)(rows:Za3):Prop:=∃rs:Zn,H a\.lst (rs.map V.ref)/\eh H rs rows
def eh.same {rs:Zn}{rows:Za3}(h:eh H rs rows)(s:aq H I):eh I rs rows:=⟨h.1,λi r ns b a=>s^h.2 i r ns b a⟩
def TabAt.same {rows:Za3}(h:TabAt H a rows)(s:aq H I):TabAt I a rows:=by
 let⟨rs,c,b⟩:=h;rwa[rs,s^c,b.same s]
def qU {rs:Zn}:∀{a:Zk},Vals (rs.map V.ref) a->a=rs.map Value.ref:=by
 induction rs with
 |nil=>intro a r;ext r;rfl
 |cons c rs b=>
  intro a r
  cases r with
  |cons e d=>ext e;rw[b d];rfl
def DK {a:Type} [DecidableEq a]{ns ms:List a}(h:⇑ns=⇑ms):(List.range ⇑ns).all (λj=>decide (ns[j]?=ms[j]?))=decide (ns=ms):=by
 rw[ahM,List.all_eq_true,ahr];constructor
 ·intro b;rwa[aiF λi=>?_]
  cbv
 cbv
section
variable {X:Cx}
inductive Vf (x:V) (y:V) (H:Hp) (Q:VK):Prop
 |mk (a b:Zs) (ns ms:Za3):x=↑a->y=↑b->TabAt H a ns->TabAt H b ms->Q (.bl (decide (ns=ms))) H->Vf x y H Q
inductive Vg (x:V) (y:V) (H:Hp) (Q:VK):Prop
 |mk (a b:Zs) (ns ms:Za3):x=↑a->y=↑b->TabAt H a ns->TabAt H b ms->Q (.bl (!decide (ns=ms))) H->Vg x y H Q
inductive Mb (x:V) (y:V) (H:Hp) (Q:VK):Prop
 |mk (a b:Zs) (ns ms:Zg):x=↑a->y=↑b->H a\.lst (ao ns)->H b\.lst (ao ms)->Q (.bl (!decide (ns=ms))) H->Mb x y H Q
def DL (i:X.A.units<cLine):fD X (compareOp .NotEq) Mb:=by
 intro k s D H x y v u Q I w A h;let⟨a,b,ns,ms,rfl,rfl,B,p,q⟩:=h;ext w;ext A;let⟨r,d,f,_⟩:=I.list (aD.of B);let⟨m,l,c,_⟩:=I.list (aD.of p);let n:=⇑d;let C:=⇑l;rw[aI]at n C;cases g:⇑ns=⇑ms
 ·rwa[SeqAt.RcNeAt.lists (e:=λj=>decide (ns[j]?=ms[j]?)) f.isList c.isList (by cbv) i (λj t o=>xm d l j t o) X.prog X.w X.xe _ ⟨.bl (!decide (ns=ms)),H,I,5,q⟩];show _=Value.bool (!decide (ns=ms));rw[agV,<-n,DK g]
 ·let e:decide (ns=ms)=false:=ahD (λz=>g (by rw[z]));rw[e]at q;rwa[SeqAt.RcNeAt.lists_lengths f.isList c.isList ?_ i X.prog X.w X.xe _ ⟨.bl true,H,I,2,q⟩]
  cbv
inductive Md (xs:Zb) (H:Hp) (Q:VK):Prop
 |mk (b:Bool):xs=[.bl b]->Q (.int (if b=true then 1 else 0)) H->Md xs H Q
def G3:iV X (.type "int") Md:=by
 intro a s f H e d Q I r h;let⟨b,rfl,q⟩:=h;let⟨u,rfl,c⟩:=vals1 r;ext c;rwa[call_int_bool ⟨.int _,H,I.tok _,⟨12⟩,q⟩]
def Ao (h:X.K=K):GD X (JC K):=by subst h;rwa[bu]
def N8 (h:X.K=K):GD X (JD K):=by subst h;rwa[gj]
def za (h:X.K=K):iV X (.builtin "len") (Fe K):=by subst h;rwa[bf]
def jK {z:Str}{scope:Scope}(g:closureFor scope X.env=pure [(f,c),(z,d)])(C:X.env.cells.lookup f\c)(B:X.env.cells.lookup z\d)(r:∀q∈scope.names,q.2≠.cell)(t:scope.kind=.function)
 (y:∀q∈scope.names,q.2=.local->scope.names.lookup q.1=some .local) (v:scope.names.lookup x=some .local) (a:∀q∈scope.names,q.2=.free->q.1=f\/q.1=z) (b:x≠f/\x≠z/\f≠z) (u:X.N[i]?\f) (A:X.N[j]?\z)
 (l:X.env.kindOf f=some .cell) (m:X.env.kindOf z=some .cell) (n:X.env.scope.kind=.function) (o:scope.names.lookup f=some .free) (p:scope.names.lookup z=some .free):dR X x [f,z] [i,j] scope [(f,c),(z,d)] where
 Aa:=g
 sub:=λw e h=>by
  cbv
 cell:=r
 kind:=t
 names:=y
 own:=v
 has:=λw h=>by
  let e:w=f\/w=z:=by
   rcases h with h|h
   ·rwa[a _ (g9 h (.inl rfl) r) rfl]
   ·rwa[a _ (g9 h (.inr rfl) r) rfl]
  cbv
 nd:=by simp[b.1,b.2.1,b.2.2]
 len:=rfl
 at_:=λk w h=>by
  match k,h with
  |0,h=>
   let e:f=w:=by simpa using h
   subst e;rwa[i,2,u,.inl l,c,by simp[aiN],.inl (cM n l o)]
  |1,h=>
   let e:z=w:=by simpa using h
   subst e;let s:(z==f)=false:=agZ.mpr (λq=>b.2.2 q.symm);rwa[j,2,A,.inl m,d,by simp[aiN,s],.inl (cM n m p)]
  |k+ 2,h=>simp at h
end
def bX (H:Hp)(a:Zn)(ws:Za3):Prop:=⇑a=⇑ws/\∀(i:Nat) (p:Zs) (w:Zg),a[i]?\p->ws[i]?\w->H p\(.tup (ao w))
def b8 (H:Hp)(a:Zs)(c:Za3):Prop:=∃b:Zn,H a\.lst (b.map V.ref)/\bX H b c
def bX.keep {ws:Za3}(h:bX H F ws)(s:∀p a,H p\.tup a->I p\.tup a):bX I F ws:=⟨h.1,λi p w c b=>s^h.2 i p w c b⟩
def bX.same {ws:Za3}(h:bX H F ws)(s:aq H I):bX I F ws:=h.keep λp a e=>s^e
def b8.same {ws:Za3}(h:b8 H a ws)(s:aq H I):b8 I a ws:=by
 let⟨b,d,c⟩:=h;rwa[b,s^d,c.same s]
def bX.snoc {ps:Zn}{ws:Za3}(h:bX H ps ws)(e:H a\.tup (ao l)):bX H (ps++[a]) (ws++[l]):=by
 rwa[⟨by rw[agF,agF,h.1];rfl,λi q u c b=>?_⟩];cases d:i<⇑ps
 ·rw[agN d]at c;rw[agN (by rw[<-h.1];rwa[d])]at b;rwa[h.2 i q u c b]
 ·rw[agR ∅]at c;rw[agR (by rw[<-h.1];omega)]at b;rw[agK.mp (agC c),agK.mp (agC b)];rwa[e]
section
variable {X:Cx}{pins:List (Zs×Obj)}{σ:St}{H:Hp}{s:Zu}{A:Around}
def N9 (I:Inv X pins σ H s){r q:Zs}{g f:Zg}(k:H r\.tup (ao g))(c:H q\.tup (ao f))(v:A.units<cLine):SeqAt.EqAt A s ↑r ↑q (decide (g=f)):=by
 cases e:r=q
 ·subst e
  have:g=f:=by
   rw[k]at c;injection c with c
   injection c with c
   unfold ao at c;rwa[(List.map_inj_right (λa b z=>V.int.inj z)).mp c]
  rw[ahh this];rwa[SeqAt.EqAt.same _]
 ·rwa[SeqAt.EqAt.of_refs e ?_];let⟨h,i,u,_⟩:=I.tuple (bN.of k);let⟨d,l,p,_⟩:=I.tuple (bN.of c);let m:=⇑i;let n:=⇑l;rw[aI]at m n;have:=SeqAt.RcAt.tuples (A:=A) (e:=λj=>decide (g[j]?=f[j]?)) (show s.heap.IsTuple r h.toArray from u) (show s.heap.IsTuple q d.toArray from p) v (λj t o=>xm i l j t o);rw[agV,agV,<-m,<-n,all_eq]at this;ext
def Fj (I:Inv X pins σ H s){rs a:Zn}{ns ms:Za3}(g:bX H rs ns)(e:bX H a ms)(n:A.units<cLine)(j:Nat)(m:j<(rs.map Value.ref).toArray.size)(i:j<(a.map Value.ref).toArray.size):
 SeqAt.EqAt A s (rs.map Value.ref).toArray[j] (a.map Value.ref).toArray[j] (decide (ns[j]?=ms[j]?)):=by
 let f:j<⇑rs:=by simpa using m
 let c:j<⇑a:=by simpa using i
 let b:j<⇑ns:=by rw[<-g.1];rwa[f]
 let d:j<⇑ms:=by rw[<-e.1];rwa[c]
 let h:(rs.map Value.ref).toArray[j]=↑rs[j]:=by simp
 let o:(a.map Value.ref).toArray[j]=↑a[j]:=by simp
 rw[h,o];let k:=g.2 j rs[j] ns[j] (agG f) (agG b);let l:=e.2 j a[j] ms[j] (agG c) (agG d);have:=N9 (A:=A) I k l n;rw[agG b,agG d]
 let p:decide (some ns[j]=some ms[j])=decide (ns[j]=ms[j]):=by
  rw[ahM,ahr,ahr];rwa[Za0,ahS some]
 rw[p];rwa[this]
end
section
variable {X:Cx}
inductive Mf (x:V) (y:V) (H:Hp) (Q:VK):Prop
 |mk (a b:Zs) (ns ms:Za3):x=↑a->y=↑b->b8 H a ns->b8 H b ms->Q (.bl (decide (ns=ms))) H->Mf x y H Q
def Ob (w:X.A.units+ 1<cLine):fD X (compareOp .Eq) Mf:=by
 intro k s J H x y v u Q I A B h;let⟨a,b,ns,ms,rfl,rfl,⟨F,E,c⟩,⟨G,o,d⟩,q⟩:=h;ext A;ext B;let⟨p,n,i,_⟩:=I.list (aD.of E);let⟨l,C,g,_⟩:=I.list (aD.of o);let D:=qU n;let t:=qU C;subst D t;cases f:⇑ns=⇑ms
 ·rwa[SeqAt.eq_listAt (e:=λj=>decide (ns[j]?=ms[j]?)) i.isList g.isList (by simp[c.1,d.1,f]) ∅ (λj r m=>Fj I c d w j r m) ⟨.bl (decide (ns=ms)),H,I,5,q⟩];show _=Value.bool (decide (ns=ms));rw[agV,agH,c.1,DK f]
 ·let e:decide (ns=ms)=false:=ahD (λz=>f (by rw[z]));rw[e]at q;rwa[SeqAt.eq_list_lengthsAt i.isList g.isList ?_ ∅ ⟨.bl false,H,I,2,q⟩];simp[c.1,d.1,f]
end
theorem jL:∀{a:Zg} {b:Zk},Vals (ao a) b->IntsAre b a
 |[],_,h=>by ext h;rwa[.nil]
 |n::a,_,h=>by
  cases h with
  |cons d c=>
   let⟨t,rfl⟩:=d;rwa[.cons n t (jL c)]
def DM (ns:Zg)(k:Int):(ns.any λx=>x==k)=decide (k∈ns):=by
 cbv
section
variable {X:Cx}
inductive Mg (x:V) (y:V) (H:Hp) (Q:VK):Prop
 |mk (k:Int) (a:Zs) (ns:Zg):x=.int k->y=↑a->H a\.lst (ao ns)->Q (.bl (decide (k∈ns))) H->Mg x y H Q
def Oc:fD X (compareOp .In) Mg:=by
 intro b s i H x y v u Q I d e h;let⟨k,a,g,rfl,rfl,f,q⟩:=h;let⟨t,rfl⟩:=d;ext e;let⟨c,r,p,_⟩:=I.list (aD.of f);rwa[in_list_ints p.isList (jL r) ?_];rw[DM];rwa[.bl _,H,I,2,q]
inductive Ap (x:V) (y:V) (H:Hp) (Q:VK):Prop
 |mk (k:Int) (a:Zs) (ns:Zg):x=.int k->y=↑a->H a\.lst (ao ns)->Q (.bl (!decide (k∈ns))) H->Ap x y H Q
def Fm:fD X (compareOp .NotIn) Ap:=by
 intro b s i H x y v u Q I d e h;let⟨k,a,g,rfl,rfl,f,q⟩:=h;let⟨t,rfl⟩:=d;ext e;let⟨c,r,p,_⟩:=I.list (aD.of f);rwa[notin_list_ints p.isList (jL r) ?_];rw[DM];rwa[.bl _,H,I,2,q]
noncomputable def isInt (k:Int):Zt->Bool
 |.int z _=>z==k
 |_=>false
inductive DN (x:V) (vs:Zb) (H:Hp) (Q:VK):Prop
 |mk (a:Zs) (ns:Zg) (k:Int):x=↑a->vs=[.int k]->H a\.lst (ao ns)->k∈ns->(∀i:Nat,ns[i]?\k->(∀j,j<i->ns[j]?≠some k)->Q (.int i) H)->DN x vs H Q
def G4 (h:z∈l):∃i:Nat,l[i]?\z/\∀j,j<i->l[j]?≠some z:=by
 induction l with
 |nil=>ext h
 |cons a l c=>
  cases e:a=z
  ·rwa[(0),by rw[e];rfl,λj d=>∅]
  ·let⟨i,g,f⟩:=c ((agW.mp h).resolve_left (ahZ e));rwa[⟨i+ 1,g,λj d=>?_⟩]
   cases j with
   |zero=>exact λb=>e (Za0 b)
   |succ j=>exact f j ∅
theorem zb:zV X "list.index" DN:=by
 intro B s R H x O v S Q I L C h;let⟨a,ns,k,rfl,rfl,J,d,q⟩:=h;ext L;let⟨u,rfl,M⟩:=C.one;let⟨t,rfl⟩:=M;let⟨z,b,n,r,E,e⟩:=I.nS J;rw[aI]at z E;let⟨i,o,A⟩:=G4 d;let P:i<⇑ns:=(agE.mp o).1
 let at_:∀(m:Nat) (d:m<b.toArray.size),isInt k b.toArray[m]=decide (ns[m]?\k):=λm d=>by
  let c:m<⇑b:=by simpa using d
  let g:ns[m]?\(ns[m]'∅):=agG ∅
  let⟨w,p,f,rfl⟩:=r.get (bU g)
  let l:b.toArray[m]=Value.int (ns[m]'∅) f:=by
   rw[List.getElem_toArray];rwa[Za0 ((agG c).symm.trans p)]
  rw[l,g];show (ns[m]'∅==k)=_;rw[ahM,ajC,ahr];rwa[λz=>by rw[z],λz=>Za0 z]
 let D:(sizeLine:Nat)<2 ^ 62:=⋯
 refine ajj F.slot_list_index ⟨_,e,2⟩ F.entry_list_index (F.args_list_index_2 _ _)
  (SeqAt.list_indexAt a b.toArray n none #[] (.int k t) (isInt k) i (by rw[agV];omega) ∅ ([at_]▸ahh o) (λm d j=>[at_]▸ahD (A m j))) ⟨e,λy G=>?_,5⟩
 ·let⟨m,d,N⟩:=aiz.mp (Array.mem_toList_iff.mpr G);let c:m<⇑b:=by simpa using d
  let g:ns[m]?\(ns[m]'∅):=agG ∅
  let⟨w,p,f,rfl⟩:=r.get (bU g)
  let l:y=Value.int (ns[m]'∅) f:=by
   rw[<-N];rwa[Za0 ((agG c).symm.trans p)]
  rw[l];rwa[SeqAt.EqAt.int_int _ f k t]
 ·rwa[.int i,H,I.tok _,⟨12⟩,q i o A]
end
def Aq (K:Za1)(a:Zs):It:=
 ⟨λi H=>∃xs x,aD K H a xs/\xs[i]?\x,λi H x b=>∃p v,H p=none/\(∀ys,aD K H a ys->ys[i]?\v)/\x=↑p/\b=upd H p (.tup [.int (i:Int),v]),λi H=>∃xs,aD K H a xs/\⇑xs=i⟩
def oB {o u:Obj}(c:h.get? a\o)(d:h.get? b\u)(e:o.cls≠u.cls):a≠b:=λz=>by
 cbv
theorem Fo {elts:Zr}{x1:Nat}{tp:Pos}(e it a:Zs)(Y:e≠it):
 Turn P w K (.Tuple elts x1 tp) (Aq K a) [e,it] e (λi h=>(∃old,IsEnum h e it (i:Int) old)/\h.IsListIter it a i) where
 mem:=by simp
 obj:=λi h st b d=>by
  let⟨⟨old,j⟩,o,ho,J,hd⟩:=st
  cbv
 keep:=λi h h' st k=>by
  let⟨⟨old,j⟩,hl⟩:=st;rwa[⟨old,k e (by simp) _ j⟩,hl.at λo e=>k it (by simp) o e]
 item:=by
  intro X hP hw hK J i B s σ H E I L st T;subst hP hw hK;let⟨⟨old,j⟩,f⟩:=st;let⟨xs,x,M,G⟩:=T;let⟨c,U,p,hz⟩:=I.list M;let⟨u,hu,ru⟩:=U.get G;let hit:=p.isList;let⟨o1,m,mj,G5⟩:=id hit;let⟨o2,l,W,Z⟩:=id f;let n:a≠it:=oB m l (by cbv);let hea:e≠a:=oB j m (by cbv);let D:=Draws.list (prog:=X.prog) (w:=X.w) (A:=X.A.in1) (I.ok.hd J) it a n c.toArray;let DP:e<↥s:=agX j;let V5:i<⇑c:=(agE.mp hu).1;rwa[En.yt D j ⟨f,hit⟩ ∅ Y (by cbv) λy h' R V ho Q6 t hk=>?_]
  let ey:u=y:=by
   let h2:c[i]?\y:=by simpa using V
   rwa[Za0 (hu.symm.trans h2)]
  subst ey;erw[12];rwa[wpAny_letOwnedTupleGo_enum ho λr he' g=>?_]
  let N:r.get? ↥s\("tuple">>>.seq #[.int (i:Int) R,u]):=(g.2 _ (ahT DP)).trans t
  let O:∀b C,b∉[e,it]->s.heap.get? b\C->r.get? b\C:=λb C d q=>by
   let h1:b≠e:=λz=>d (by simp[z])
   let h2:b≠it:=λz=>d (by simp[z])
   rwa[(g.2 b h1).trans (hk b C h1 h2 q)]
  let Q7:=I.aM.fresh (agJ ↥s);rwa[⟨↑↥s,_,I.uz (fp:=[e,it]) (a:=↥s) (o:=.tup [.int (i:Int),x]) (h':=r) (t':=R+ 1) O L (agJ _) ?_,2,⟨_,x,Q7,λys hy=>[I.uo hy M]▸G,22⟩,⟨⟨u,5⟩,5⟩,λb d=>?_⟩]
  ·rwa[by show 2<=sizeLine;decide,[.int (i:Int) R,u],.cons ⟨12⟩ (.cons ru .nil),_,N,212]
  ·cbv
  ·exact(D.frame _ _ _ Q6 λb d o q=>(g.2 b (by
    cbv)).trans q).1
  ·rw[ak]
   ·rwa[(L b d).1]
   ·intro z;subst z;rcases agW.mp d with z|d
    ·cbv
    ·rwa[absurd (agX l) (by rw[<-agK.mp d];rwa[ahV _])]
 done:=by
  intro X hP hw hK J i B s σ H E I L st T;subst hP hw hK;let⟨⟨old,j⟩,f⟩:=st;let⟨xs,M,G⟩:=T;let⟨c,U,p,hz⟩:=I.list M;let hit:=p.isList;let⟨o1,m,mj,G5⟩:=id hit;let⟨o2,l,W,Z⟩:=id f;let n:a≠it:=oB m l (by cbv);let D:=Draws.list (prog:=X.prog) (w:=X.w) (A:=X.A.in1) (I.ok.hd J) it a n c.toArray;let S:c.toArray.size=i:=by rw[agV,<-⇑U];rwa[G]
  rwa[wpAny_pyNext_enum_endD D j ([S]▸⟨f,hit⟩) λh' eb=>⟨2,I.xt (fp:=[e,it]) (t':=s.toks) (λb o d q=>eb b o (λz=>d (by simp[z])) q) L⟩]
 self:=λA i s Q E st h=>by
  let⟨⟨old,j⟩,_⟩:=st;let t:s.TypeIs ↑e "enumerate":=⟨_,j,2⟩;rwa[wpAny_pyIter_slot t ajw (ahL ajw t F.entry_enumerate_iter ?_ (F.args_enumerate_iter_1 _))];show wpAny _ _ (ret ↑e) _ _ s;rwa[agI ⟨12,"enumerate",_,t,ajv.lookup,h⟩]
section
variable {X:Cx}
def Q8 (K:Za1)(e:TA):TI:=λ f H R=>e f H λc b=>∃a,c=[↑a]/\(∃d,aD K b a d)/\R (Aq K a) b
def uA {elts:Zr}{c pos:Pos}(v:Gl X "enumerate")(D:X.mg "enumerate"=none)(E:PE X e r)(m:starEach [e] X.env=[(false,eval e X.env)]:=by rfl):
 PI X (.Tuple elts n p) (.Call (.Name "enumerate" c) [e] [] pos) (Q8 X.K (jH r jZ)):=by
 intro a s o H R I h;rwa[Call_ (gY I v D boot_enumerate (ahE (a9 ((ae E aj m) pos a s o H _ I h) λO s1 ζ=>?_) m rfl))];let⟨J,k,f,t,B⟩:=ζ;let⟨l,rfl,⟨N,z⟩,q⟩:=B;let⟨u,rfl,F⟩:=vals1 t;ext F;let⟨A,L,pl,M⟩:=f.list z;rwa[call_enumerate_list pl.isList λj g hit C x=>?_]
 let y:Inv X a o k (s1<*j):=f.kept (t':=s1.toks) x;let T:=Fo (P:=X.prog) (w:=X.w) (K:=X.K) (elts:=elts) (x1:=n) (tp:=p) (↥s1+ 1) ↥s1 l (Nat.succ_ne_self _);rwa[T.self _ 0 (s1<*j) _ _ ⟨⟨_,g⟩,hit⟩ ⟨1111,k,2,y,T,⟨⟨_,g⟩,hit⟩,λb i=>?_,q⟩];rcases agW.mp i with d|i
 ·subst d;rwa[f.pE (aiT _) (f.aM.fresh (aiT _))]
 ·rw[agK.mp i];rwa[f.pE (agJ _) (f.aM.fresh (agJ _))]
end
def qV {xs:Zb}{g:TG}{k:TS}(b:Nat->St->Hp->Prop)(o:b 0 D H)(s:∀i D H,i<=⇑xs->b i D H->aD K H a xs)
 (u:∀i v D H p,xs[i]?\v->H p=none->b i D H->g ↑p D (upd H p (.tup [.int (i:Int),v])) λ d j=>k { G with nx:=b (i+ 1),ct:=b (i+ 1),bk:=G.nx } d j) (n:∀ D H,b ⇑xs D H->G.nx D H):
 ∃W:Nat->Nat->St->Hp->Prop,(∃m,W 0 m D H)/\∀i m D H,W i m D H->
  ((Aq K a).stop i H/\G.nx D H)\/((Aq K a).go i H/\∃N:St->Hp->Prop,(∀ c f,N c f->∃l,l<m/\W (i+ 1) l c f)/\∀x f,(Aq K a).lT i H x f->g x D f λ d j=>k { G with nx:=N,ct:=N,bk:=G.nx } d j):=by
 erw[λi m D H=>m=⇑xs - i/\i<=⇑xs/\b i D H,⟨⇑xs,by simp,ahd _,o⟩];rintro i m D H ⟨rfl,w,p⟩;let q:=s i D H w p;cases h:i<⇑xs
 ·rwa[.inr ⟨⟨xs,_,q,agG h⟩,b (i+ 1),λ c f A=>⟨⇑xs - (i+ 1),32,h,A⟩,λx f y=>?_⟩];let⟨r,v,t,z,rfl,rfl⟩:=y;rwa[u i v D H r (z xs q) t p]
 ·let e:i=⇑xs:=∅
  subst e;rwa[.inl ⟨⟨xs,q,2⟩,n D H p⟩]
namespace En
open AutoSeq1 (wpAny_loadPart')
def Fq (l:Zs)(items:Zm)(n:Nat)(dct:Zo)(m:Array Zl)(k:Int)(u:Tok)(q:0<=k)(j:k<1000):
 Meets (Builtin.«enumerate.__new__» ⟨[.type "enumerate",↑l],[("start",.int k u)]⟩) (λ_ R s=>s.heap.get? l\{ cls:=.type "list",dict:=dct,data:=.seq items n,slots:=m }/\
  R (.ok (.ret (↑(s.heap.push ("list_iterator">>>.fields #[↑l,.int 0 0])).objs.size)))
    { s with heap:=(s.heap.push ("list_iterator">>>.fields #[↑l,.int 0 0])).push ("enumerate">>>.fields #[.none,.bool false,↑↥s,rawInt k,.none,.none]) }):=
 .of_wp λf w A R s h=>by
  let⟨p,g,d,o,os⟩:=s;let⟨a,h⟩:=h;let i:=sub_enumerate;let r:=AutoSeq1.idx_int;let b:Heap.IsList (Shared.heap ⟨p,g,d,o,os⟩) l items:=⟨_,a,2,n,2⟩
  let e:(!Builtin.SmallTypes.fitsIndex k)=false:=by
   unfold Builtin.SmallTypes.fitsIndex;simp;ext
  wp_walk using ai4 a
  rwa[wpAny_stack_any λst=>agI ?_]
  split
  ·rename_i c _ _ _ _ _;cases (c==Value.type "enumerate")
   ·wp_walk using ai4 a,ai1 b
    rwa[12,h]
   ·wp_walk using ai4 a,ai1 b
    rwa[12,h]
  ·wp_walk using ai4 a,ai1 b
   rwa[12,h]
section
variable {prog:Program}{w:World}{A:Around}{E:Zt->Zu->Prop}{s:Zu}
theorem CK {items:Zm}{k:Int}{u:Tok}(U:s.heap.IsList a items)(N:0<=k)(v:k<1000)
 (h:∀p,IsEnum p (↥s+ 1) ↥s k .none->p.IsListIter ↥s a 0->(∀b o,s.heap.get? b\o->p.get? b\o)->Q ↑(↥s+ 1) (s<*p)):
 (prog<|>w) A (call (.type "enumerate") [↑a] [("start",.int k u)]) Q E s:=by
 let⟨⟨Z,dct,V,O⟩,W,j,n,t⟩:=U;replace j:Z=.type "list":=j;replace t:V=.seq items n:=t;subst j t;let ft:=F.called_enumerate;let⟨c,tl,M⟩:=ft.mro;let z:=ft.made;let J:=ft.sub;let S:=Va ↑a (.int k u);let x:=Vb ↑a (.int k u);rwa[ajD (codeAny_of_tree ?_)];show wpAny _ _ (callAny (.type "enumerate") _) _ _ _;rwa[agI ⟨Code.quiet_builtin _ ⋯,aj1 F.entry_type_call ?_⟩];rw[Around.under_plain (weight_type_call_type "enumerate" [↑a] [("start",.int k u)]) (units_type_call_type "enumerate" [↑a] [("start",.int k u)])];let h1:=ft.notType;let h2:=ft.canCreate
 repeat (any_goals (first|assumption|wp_step))
 rwa[ai9 (aiA ft.plain F.entry_enumerate_new (wpAny_of_eq x (Fq a items n dct O k u N v prog w A.in1 (wants (λobj f=>f.TypeIs obj "enumerate"/\Q obj f) E) s ⟨W,5⟩))) λr f C=>?_]
 ·let I:(s.heap.push ("list_iterator">>>.fields #[↑a,.int 0 0])).objs.size=↥s+ 1:=air ..;show _/\_;rw[I]
  let L:IsEnum ((s.heap.push ("list_iterator">>>.fields #[↑a,.int 0 0])).push ("enumerate">>>.fields #[.none,.bool false,↑↥s,rawInt k,.none,.none])) (↥s+ 1) ↥s k .none:=by
   let q:=agU (s.heap.push ("list_iterator">>>.fields #[↑a,.int 0 0])) (o:=("enumerate">>>.fields #[.none,.bool false,↑↥s,rawInt k,.none,.none])) rfl;rw[I]at q;rwa[q]
  rwa[⟨_,L,2⟩,h _ L ⟨_,agD _ (agU _ rfl),22⟩ λb o y=>agD _ (agD _ y)]
 cases r with
 |error e=>exact C
 |ok X=>
  cases X with
  |ret obj=>
   let⟨H,G⟩:=C;let Y:=ft.init.lookup;let P:=ft.init.bind obj;let D:=Vc obj ↑a (.int k u);let B:(λ(_:Around) (R:Result->Zu->Prop) (s:Zu)=>s.TypeIs obj "enumerate"/\R (.ok (.ret .none)) s) A.in1 (wants (λr i=>r=.none/\Q obj i) E) f:=⟨H,2,G⟩;let gi:=N5 (T:="enumerate") (self:=obj) (a:=↑a) (kw:=[("start",.int k u)]) ft.init.lookup ft.made ⋯
   repeat (any_goals (first|assumption|wp_step))
   rwa[ai9 (aiA ft.init.plain F.entry_object_init (ft.init.check _ _ _ _ _ _ _ _ H D (gi prog w A.in1 _ f B))) λm i g=>?_]
   cases m with
   |error e=>exact g
   |ok l=>
    cases l with
    |ret r=>
     let⟨rfl,G⟩:=g
     repeat (any_goals (first|assumption|wp_step))
    |_=>exact g.elim
  |_=>exact C.elim
end
end En
def sR (K:Za1)(a:Zs)(n:Int):It:=
 ⟨λi H=>∃xs x,aD K H a xs/\xs[i]?\x,λi H x b=>∃p v,H p=none/\(∀ys,aD K H a ys->ys[i]?\v)/\x=↑p/\b=upd H p (.tup [.int (n+ (i:Int)),v]),λi H=>∃xs,aD K H a xs/\⇑xs=i⟩
theorem CL {elts:Zr}{x1:Nat}{tp:Pos}(e it a:Zs)(n:Int)(Z:e≠it):
 Turn P w K (.Tuple elts x1 tp) (sR K a n) [e,it] e (λi h=>(∃old,IsEnum h e it (n+ (i:Int)) old)/\h.IsListIter it a i) where
 mem:=by simp
 obj:=λi h st b d=>by
  let⟨⟨old,j⟩,o,ho,L,hd⟩:=st
  cbv
 keep:=λi h h' st k=>by
  let⟨⟨old,j⟩,hl⟩:=st;rwa[⟨old,k e (by simp) _ j⟩,hl.at λo e=>k it (by simp) o e]
 item:=by
  intro X hP hw hK L i C s σ H E I M st U;subst hP hw hK;let⟨⟨old,j⟩,f⟩:=st;let⟨xs,x,N,J⟩:=U;let⟨c,V,p,hz⟩:=I.list N;let⟨u,hu,ru⟩:=V.get J;let hit:=p.isList;let⟨o1,m,mj,G5⟩:=id hit;let⟨o2,l,Y,hd2⟩:=id f;let r:a≠it:=oB m l (by cbv);let hea:e≠a:=oB j m (by cbv);let D:=Draws.list (prog:=X.prog) (w:=X.w) (A:=X.A.in1) (I.ok.hd L) it a r c.toArray;let DP:e<↥s:=agX j;let V5:i<⇑c:=(agE.mp hu).1;rwa[En.yt D j ⟨f,hit⟩ ∅ Z (by cbv) λy h' S W ho Q6 v hk=>?_]
  let ey:u=y:=by
   let h2:c[i]?\y:=by simpa using W
   rwa[Za0 (hu.symm.trans h2)]
  subst ey;erw[12];rwa[wpAny_letOwnedTupleGo_enum ho λt he' g=>?_]
  let O:t.get? ↥s\("tuple">>>.seq #[.int (n+ (i:Int)) S,u]):=(g.2 _ (ahT DP)).trans v
  let R:∀b G,b∉[e,it]->s.heap.get? b\G->t.get? b\G:=λb G d q=>by
   let h1:b≠e:=λz=>d (by simp[z])
   let h2:b≠it:=λz=>d (by simp[z])
   rwa[(g.2 b h1).trans (hk b G h1 h2 q)]
  let Q7:=I.aM.fresh (agJ ↥s);rwa[⟨↑↥s,_,I.uz (fp:=[e,it]) (a:=↥s) (o:=.tup [.int (n+ (i:Int)),x]) (h':=t) (t':=S+ 1) R M (agJ _) ?_,2,⟨_,x,Q7,λys hy=>[I.uo hy N]▸J,22⟩,⟨⟨u,5⟩,5⟩,λb d=>?_⟩]
  ·rwa[by show 2<=sizeLine;decide,[.int (n+ (i:Int)) S,u],.cons ⟨12⟩ (.cons ru .nil),_,O,212]
  ·cbv
  ·exact(D.frame _ _ _ Q6 λb d o q=>(g.2 b (by
    cbv)).trans q).1
  ·rw[ak]
   ·rwa[(M b d).1]
   ·intro z;subst z;rcases agW.mp d with z|d
    ·cbv
    ·rwa[absurd (agX l) (by rw[<-agK.mp d];rwa[ahV _])]
 done:=by
  intro X hP hw hK L i C s σ H E I M st U;subst hP hw hK;let⟨⟨old,j⟩,f⟩:=st;let⟨xs,N,J⟩:=U;let⟨c,V,p,hz⟩:=I.list N;let hit:=p.isList;let⟨o1,m,mj,G5⟩:=id hit;let⟨o2,l,Y,hd2⟩:=id f;let r:a≠it:=oB m l (by cbv);let D:=Draws.list (prog:=X.prog) (w:=X.w) (A:=X.A.in1) (I.ok.hd L) it a r c.toArray;let T:c.toArray.size=i:=by rw[agV,<-⇑V];rwa[J]
  rwa[wpAny_pyNext_enum_endD D j ([T]▸⟨f,hit⟩) λh' eb=>⟨2,I.xt (fp:=[e,it]) (t':=s.toks) (λb o d q=>eb b o (λz=>d (by simp[z])) q) M⟩]
 self:=λA i s Q E st h=>by
  let⟨⟨old,j⟩,_⟩:=st;let v:s.TypeIs ↑e "enumerate":=⟨_,j,2⟩;rwa[wpAny_pyIter_slot v ajw (ahL ajw v F.entry_enumerate_iter ?_ (F.args_enumerate_iter_1 _))];show wpAny _ _ (ret ↑e) _ _ s;rwa[agI ⟨12,"enumerate",_,v,ajv.lookup,h⟩]
def Fs {xs:Zb}{g:TG}{k:TS}(b:Nat->St->Hp->Prop)(o:b 0 D H)(s:∀i D H,i<=⇑xs->b i D H->aD K H a xs)
 (u:∀i v D H p,xs[i]?\v->H p=none->b i D H->g ↑p D (upd H p (.tup [.int (z+ (i:Int)),v])) λ d j=>k { G with nx:=b (i+ 1),ct:=b (i+ 1),bk:=G.nx } d j) (n:∀ D H,b ⇑xs D H->G.nx D H):
 ∃W:Nat->Nat->St->Hp->Prop,(∃m,W 0 m D H)/\∀i m D H,W i m D H->
  ((sR K a z).stop i H/\G.nx D H)\/((sR K a z).go i H/\∃N:St->Hp->Prop,(∀ c f,N c f->∃l,l<m/\W (i+ 1) l c f)/\∀x f,(sR K a z).lT i H x f->g x D f λ d j=>k { G with nx:=N,ct:=N,bk:=G.nx } d j):=by
 erw[λi m D H=>m=⇑xs - i/\i<=⇑xs/\b i D H,⟨⇑xs,by simp,ahd _,o⟩];rintro i m D H ⟨rfl,w,p⟩;let q:=s i D H w p;cases h:i<⇑xs
 ·rwa[.inr ⟨⟨xs,_,q,agG h⟩,b (i+ 1),λ c f B=>⟨⇑xs - (i+ 1),32,h,B⟩,λx f y=>?_⟩];let⟨r,v,t,A,rfl,rfl⟩:=y;rwa[u i v D H r (A xs q) t p]
 ·let e:i=⇑xs:=∅
  subst e;rwa[.inl ⟨⟨xs,q,2⟩,n D H p⟩]
def dZ (h:Heap)(d:Zs)(b:Array DictEntry)(a:Nat):Prop:=∃o,h.get? d\o/\o.ExactDict/\o.data=.dict b a
namespace Dk
section
variable {prog:Program}{w:World}{A:Around}{E:Zt->Zu->Prop}{s:Zu}{d:Zs}{es:Array DictEntry}{ep:Nat}
def typ (b:dZ s.heap d es ep):s.TypeIs ↑d "dict":=let ⟨o,a,c,_⟩:=b;⟨o,a,c.1⟩
theorem iter (g:(d==sysModules)=false)(c:dZ s.heap d es ep)
 (f:Q ↑↥s { s with heap:=s.heap.push ("dict_keyiterator">>>.fields #[↑d,.int 0 0,.int es.size 0,.int ep 0]) }):(prog<|>w) A (pyIter ↑d) Q E s:=by
 let b:=typ c;let⟨o,e,h,a⟩:=c;rwa[wpAny_pyIter_slot b F.slot_dict_iter (ahL F.slot_dict_iter b F.entry_dict_iter ?_ (F.args_dict_iter_1 _))];unfold Builtin.«dict.__iter__»;rwa[agB ?_];unfold Builtin.Dict.dictSlotNone;rwa[agB (ajx b ?_)];show wpAny _ _ (pure (Value.ref d)) _ _ s;rwa[agI ?_];show wpAny _ _ (Builtin.Dict.showsAll d >>=_) _ _ s;unfold Builtin.Dict.showsAll;rw[ag3 (by cbv)];rwa[agB (agI (agB (aiG e a (agB (ajy e a ?_)))))];rwa[agB (ahB (agI ⟨12,"dict_keyiterator",_,⟨_,agU _ rfl,2⟩,aid.lookup,by simpa [rawInt] using f⟩))]
theorem item {it:Zs}{en:DictEntry}{Q:Zl->Zu->Prop}(hit:s.heap.IsKeyIter it d i es.size ep)(g:dZ s.heap d es ep)(l:es[i]?\en)
 (j:∀g1,g1.IsKeyIter it d (i+ 1) es.size ep->Heap.SameBut it s.heap g1->Q (some en.key) (s<*g1)):(prog<|>w) A (pyNext ↑it) Q E s:=by
 let⟨o,e,k,c⟩:=id hit;let⟨m,b,h,a⟩:=id g;unfold pyNext;rwa[agB (wpAny_attempt (ahH (name:=Str.ofString "__next__") hit.typeIs aid (ahL aid hit.typeIs F.entry_dict_keyiterator_next ?_ (F.args_dict_keyiterator_next_1 _))))];rwa[agB (agI (agB (agB ?_)))]
 first|rwa[agB (aiy hit.typeIs (agI ?_))]|rwa[agB (ai5 hit.typeIs (agI ?_))]
 rwa[agB (wpAny_fieldsOf e c ?_)];let own:Builtin.Dict_items.ownsTuple "dict_keyiterator"=false:=⋯
 simp only[own,ajp,ajE];show wpAny _ _ (if (Value.ref d==Value.none)=true then _ else _) _ _ s;rw[ag3 (show ¬((Value.ref d==Value.none)=true) from ahq)];rwa[agB (agI (agB (aiG b a ?_)))];rw[ag3 (by simp)];rwa[agB (agI (agB (ajy b a ?_)))];rw[ag3 (by simp)];rwa[agI ?_];simp only[show ¬((i:Int)<0) from by ext,ajE,ahg,l];rwa[agB ?_]
 first|rwa[agB (aiy hit.typeIs (agI ?_))]|rwa[agB (ai5 hit.typeIs (agI ?_))]
 rwa[agB (wpAny_isOneOf_keyiter hit.typeIs ?_)];show wpAny _ _ (setField ↑it 1 (rawInt ((i:Int)+ 1)) >>=_) _ _ s;rwa[agB (aiU e c (by simp) ?_)]
 let f:(s.heap.update it (Obj.mapFields (·.setIfInBounds 1 (rawInt ((i:Int)+ 1))))).IsKeyIter it d (i+ 1) es.size ep:=
  ⟨_,aht _ e (aiQ (aii c _)),(Obj.cls_mapFields ..).trans k,by rw[aii c];simp[rawInt]⟩
 rwa[agB (ahQ ?_)];rwa[agB (wpAny_isOneOf_keyiter (s:={ s with heap:=s.heap.update it (Obj.mapFields (·.setIfInBounds 1 (rawInt ((i:Int)+ 1)))) }) f.typeIs ?_)];show wpAny _ _ (pure en.key) _ _ _;rwa[agI (agI ⟨12,agI (j _ f (aia ..))⟩)]
theorem fin {it:Zs}{Q:Zl->Zu->Prop}(k:A.handled=none)(hit:s.heap.IsKeyIter it d i es.size ep)(n:dZ s.heap d es ep)(l:es[i]?=none)
 (j:∀h,Heap.ExtBut it s.heap h->Q none (s<*h)):(prog<|>w) A (pyNext ↑it) Q E s:=by
 let⟨o,g,r,f⟩:=id hit;let⟨q,e,p,c⟩:=id n;unfold pyNext;rwa[agB (wpAny_attempt (ahH (name:=Str.ofString "__next__") hit.typeIs aid (ahL aid hit.typeIs F.entry_dict_keyiterator_next ?_ (F.args_dict_keyiterator_next_1 _))))];rwa[agB (agI (agB (agB ?_)))]
 first|rwa[agB (aiy hit.typeIs (agI ?_))]|rwa[agB (ai5 hit.typeIs (agI ?_))]
 rwa[agB (wpAny_fieldsOf g f ?_)];let own:Builtin.Dict_items.ownsTuple "dict_keyiterator"=false:=⋯
 simp only[own,ajp,ajE];show wpAny _ _ (if (Value.ref d==Value.none)=true then _ else _) _ _ s;rw[ag3 (show ¬((Value.ref d==Value.none)=true) from ahq)];rwa[agB (agI (agB (aiG e c ?_)))];rw[ag3 (by simp)];rwa[agB (agI (agB (ajy e c ?_)))];rw[ag3 (by simp)];rwa[agI ?_];simp only[show ¬((i:Int)<0) from by ext,ajE,ahg,l];rwa[agB ?_]
 first|rwa[agB (aiy hit.typeIs (agI ?_))]|rwa[agB (ai5 hit.typeIs (agI ?_))]
 show wpAny _ _ (setField ↑it 0 .none >>=_) _ _ s;rwa[agB (aiU g f (by simp) ?_)];show wpAny _ _ (newExc (.type "StopIteration") [] >>=_) _ _ _;rwa[agB ?_];simp only[newExc,newTuple];rwa[agB (ahB ?_ (by size_fits))];rwa[agB (m:=firstArgMember _ _) (wpAny_of_eq (a:=Value.none) (by first|rfl|(simp only[firstArgMember];rfl)) ?_)];rwa[ahB ?_ (by size_fits)];simp only[raiseNew];rwa[agB (wpAny_handled ?_)];rw[show A.in1.handled=none from k];rwa[agB (agI (wpAny_throw ?_))];rwa[agB (wpAny_isInstance (T:="StopIteration") (b:=true) ⟨_,agU _ rfl,2⟩ isSubtype_stop ?_)];rwa[agI (j _ (((aia ..).extBut.push _).push _))]
def dZ.at (x:dZ h d es ep)(e:∀o,h.get? d\o->g.get? d\o):dZ g d es ep:=let ⟨o,a,r⟩:=x;⟨o,e _ a,r⟩
def walks (n:A.handled=none)(I:Zs)(j:d≠I):Walks prog w A I [I,d] [I] es.size (λi v=>∃k,es[i]?\k/\v=k.key) (λi h=>h.IsKeyIter I d i es.size ep/\dZ h d es ep) where
 sub:=λb f=>by cbv
 frame:=λ_ _ _ st l=>⟨st.1.at λo e=>l I (by simp) o e,dZ.at st.2 λo e=>l d (by simp) o e⟩
 item:=λi s Q E m st a=>by
  rwa[item (en:=es[i]) st.1 st.2 (by simp[m]) λg p c=>?_]
  rwa[a _ g s.toks ⟨_,by simp[m],2⟩ ⟨p,dZ.at st.2 λo e=>c.extBut _ _ j e⟩ λb o f e=>c.extBut b o (λh=>f (by simp[h])) e]
 done:=λs Q E st a=>fin n st.1 st.2 (by simp) λg c=>a g s.toks λb o f e=>c b o (λh=>f (by simp[h])) e
 self:=λ_ _ _ _ st a=>wpAny_pyIter_keyiter st.1 a
theorem hint {Q:Bool->Zu->Prop}(e:dZ s.heap d es ep)(h:Q false s):(prog<|>w) A (Builtin.List.listLengthHint ↑d) Q E s:=by
 unfold Builtin.List.listLengthHint;rwa[agB (wpAny_specialOf (typ e) F.slot_dict_len.lookup ?_)];generalize c:("dict.__len__":String)=f
 wp_delta
 rw[show splitId f=some ("dict","__len__") from by subst c;decide];subst c;rwa[agB (wpAny_isInstance (T:="dict") (b:=true) (typ e) (by rw[isSubtype_type];kernel_rfl) ?_)];rwa[aj2 (λa=>absurd a ⋯) (λ_=>?_)];rwa[aj2 (λ_=>?_) (λa=>absurd ⋯ a)];rwa[agB (aja (T:="dict") (typ e) (agI h))]
theorem extend {R:Result->Zu->Prop}(X:A.handled=none)(O:(d==sysModules)=false)(y:dZ s.heap d es ep)(hlen:es.size<=sizeLine)(S:Zs)(res:Zt)(n:Nat)(N:s.heap.get? S\("list">>>.seq #[] n))
 (Z:∀g1 Q c m,(∀b o,b≠S->s.heap.get? b\o->g1.get? b\o)->g1.get? S\{ cls:=.type "list",dict:=none,data:=.seq c m,slots:=#[] }->
  ItemsOf (λi v=>∃M,es[i]?\M/\v=M.key) c es.size->R (.ok (.ret res)) { s with heap:=g1,toks:=Q }):
 (prog<|>w) A.in1 (Builtin.List.listExtendWith ↑S ↑d res)
  (λfin g=>match fin with|.done f=>R (.ok f) g|.again m=>m.quiet=true/\codeAny (model prog w) A m R g) (λe g=>R (.error e) g) s:=by
 let l:S≠d:=λe=>by
  let⟨o,L,hc,J⟩:=y
  cbv
 let H:d<↥s:=by let⟨o,L,_⟩:=y;rwa[agX L]
 let z:S≠↥s:=ahf (agX N);let I:d≠↥s:=ahf H;unfold Builtin.List.listExtendWith;rwa[agB (aja (T:="dict") (typ y) ?_)];let U:Builtin.List.listSameRef ↑S ↑d=false:=by simp[Builtin.List.listSameRef,l]
 let P:(Value.type "dict"==Value.type "list")=false:=⋯
 let Y:(Value.type "dict"==Value.type "tuple")=false:=⋯
 simp only[U,P,Y,Bool.or_false,ajp,ajE];rwa[agB (iter O y ?_)];let j:dZ (s.heap.push ("dict_keyiterator">>>.fields #[↑d,.int 0 0,.int es.size 0,.int ep 0])) d es ep:=dZ.at y λo e=>agD _ e
 rwa[agB (ahQ (hint (s:={ s with heap:=s.heap.push ("dict_keyiterator">>>.fields #[↑d,.int 0 0,.int es.size 0,.int ep 0]) }) j ?_))];let k:=agD ("dict_keyiterator">>>.fields #[↑d,.int 0 0,.int es.size 0,.int ep 0]) N;let r:(s.heap.push ("dict_keyiterator">>>.fields #[↑d,.int 0 0,.int es.size 0,.int ep 0])).IsKeyIter ↥s d 0 es.size ep:=⟨_,agU _ rfl,22⟩;let kp:∀b o,s.heap.get? b\o->(s.heap.push ("dict_keyiterator">>>.fields #[↑d,.int 0 0,.int es.size 0,.int ep 0])).get? b\o:=λb o e=>agD _ e
 change s.heap.push ("dict_keyiterator">>>.fields #[↑d,.int 0 0,.int es.size 0,.int ep 0])=x at k r kp j ⊢;rwa[aj2 (λ_=>?_) (λB=>absurd ⋯ B)];rwa[agB (akd ?_)];rwa[agB ?_];show wpAny _ _ (updateSeq S (·.push .none) >>=λ_=>updateSeq S (·.pop)) _ _ _;rwa[agB (ai6 k rfl ?_)];let t:=aht (Obj.mapSeq (·.push Value.none)) k rfl;rwa[ai6 (hz:=by seq_fits) t rfl ?_];let G:=aht (Obj.mapSeq (·.pop)) t rfl;let h:∀b o,b≠S->x.get? b\o->((x.update S (Obj.mapSeq (·.push Value.none))).update S (Obj.mapSeq (·.pop))).get? b\o:=λb o p e=>(ahv^ahZ p).trans ((ahv^ahZ p).trans e)
 let W:=(walks (prog:=prog) (w:=w) (A:=A.in1) (d:=d) (es:=es) (ep:=ep) X ↥s I).toS
 let C:S∉[↥s,d]:=λa=>by
  rcases agW.mp a with e|a
  ·rwa[z e]
  ·rwa[l (agK.mp a)]
 rwa[agI ⟨ajc F.plain_extend_loop _,?_⟩];rwa[codeAny_extend_loopS W hlen S C res es.size 0 _ #[] _ rfl (ahd _) ⟨r.at λo e=>h _ o (ahZ z) e,dZ.at j λo e=>h _ o (ahZ l) e⟩ G (ItemsOf.nil _) λg c m q D u=>?_]
 rw[Moved.eq_with q];rwa[Z g.heap g.toks c m (λb o p e=>q.heap b o (λa=>?_) (h b o p (kp b o e))) D u];rcases agW.mp a with V|a
 ·rwa[p V]
 ·rwa[absurd (agX e) (by rw[agK.mp a];rwa[ahV _])]
def init {R:Result->Zu->Prop}(z:A.handled=none)(x:(d==sysModules)=false)(u:dZ s.heap d es ep)(hlen:es.size<=sizeLine)(S:Zs)(q:s.heap.get? S\("list">>>.seq #[]))
 (B:∀g1 l a c,(∀b o,b≠S->s.heap.get? b\o->g1.get? b\o)->g1.get? S\{ cls:=.type "list",dict:=none,data:=.seq a c,slots:=#[] }->
  ItemsOf (λi v=>∃t,es[i]?\t/\v=t.key) a es.size->R (.ok (.ret .none)) { s with heap:=g1,toks:=l }):
 (prog<|>w) A.in1 (Builtin.«list.__init__» ⟨[↑S,↑d],[]⟩)
  (λfin j=>match fin with|.done f=>R (.ok f) j|.again c=>c.quiet=true/\codeAny (model prog w) A c R j) (λe j=>R (.error e) j) s:=by
 let p:d≠S:=λe=>by
  let⟨o,C,D,r⟩:=u
  cbv
 show wpAny _ _ (do let old <-Builtin.List.listItems ↑S;Builtin.List.listUpdate ↑S (λ_=>#[]);letGo old.toList.reverse;Builtin.List.listExtendWith ↑S ↑d .none) _ _ s;rwa[agB ?_];unfold Builtin.List.listItems;rwa[agB (ajk q rfl (agI ?_))];show wpAny _ _ (updateSeq S (λ_=>#[]) >>=λ_=>letGo (#[]:Zm).toList.reverse >>=λ_=>Builtin.List.listExtendWith ↑S ↑d .none) _ _ s;rwa[agB (ai6 q rfl ?_)];let m:=aht (Obj.mapSeq (λ_=>(#[]:Zm))) q rfl;let g:∀b o,b≠S->s.heap.get? b\o->(s.heap.update S (Obj.mapSeq (λ_=>(#[]:Zm)))).get? b\o:=λb o k e=>(ahv^ahZ k).trans e
 rwa[agB (ake ?_)];rwa[extend (s:={ s with heap:=s.heap.update S (Obj.mapSeq (λ_=>(#[]:Zm))) }) z x (dZ.at u λo e=>g _ o p e) hlen S .none _ m λg1 l a c y n h=>?_]
 rwa[B g1 l a c (λb o k e=>y b o k (g b o k e)) n h]
theorem G6 (t:A.handled=none)(p:(d==sysModules)=false)(u:dZ s.heap d es ep)(hlen:es.size<=sizeLine)
 (q:∀g1 j a h,(∀b o,s.heap.get? b\o->g1.get? b\o)->g1.get? ↥s\{ cls:=.type "list",dict:=none,data:=.seq a h,slots:=#[] }->ItemsOf (λi v=>∃l,es[i]?\l/\v=l.key) a es.size->Q ↑↥s { s with heap:=g1,toks:=j }):
 (prog<|>w) A (call (.type "list") [↑d]) Q E s:=by
 rwa[callType_codes (Q₁:=λobj c=>obj=↑↥s/\c={ s with heap:=s.heap.push ("list">>>.seq #[]) }) F.called_list (F.typeCall_list_1 _) F.entry_list_init (code_list_new _ ⟨22⟩) λobj c f=>?_]
 let⟨rfl,rfl⟩:=f;let n:(s.heap.push ("list">>>.seq #[])).get? ↥s\("list">>>.seq #[]):=agU _ rfl;rwa[⟨⟨_,n,2⟩,F.args_list_init_2 _ _,init (A:=A.in1) (s:={ s with heap:=s.heap.push ("list">>>.seq #[]) }) t p (dZ.at u λo e=>agD _ e) hlen _ n λg1 j a h r k g=>?_⟩];rwa[2,q g1 j a h (λb o e=>r b o (ahf (agX e)) (agD _ e)) k g]
end
end Dk
structure MDef (K:Za1) (C:Zs) (x q:Str) (st:Stmt) (ps:Zp) (f:Zs) (fd:FuncData):Prop where
 F:qQ K x q st f fd
 m:Meth K C x f
 b:Binds K fd ps []
open PySem.W (KasT kas_rev kas_asc kas_desc kas_tail3 kas_descPart kas_count kas_place kas_bin kas_sort kas_ask kas_ask_eq kas_runs kas_st kas_range kas_item kas_item_eq)
namespace Srt
def Gd {b:Type}(P:Nat->Nat->Prop)(f:Nat->Nat->Bool):KasT b->(b->Prop)->Prop
 |.ret a,Q=>Q a
 |.ask i j k,Q=>P i j/\Gd P f (k (f i j)) Q
section
variable {n:Nat}{key:Nat->Int}
structure Pr (n:Nat) (p:Array Nat):Prop where
 sz:p.size=n
 lt:∀i,i<n->p.getD i 0<n
 inj:∀i j,i<n->j<n->p.getD i 0=p.getD j 0->i=j
def Up (key:Nat->Int)(p:Array Nat)(m:Nat):Prop:=∀i j,i<j->j<m->key (p.getD i 0)<key (p.getD j 0)
def Dn (key:Nat->Int)(p:Array Nat)(m:Nat):Prop:=∀i j,i<j->j<m->key (p.getD j 0)<key (p.getD i 0)
def Ok (n:Nat)(key:Nat->Int)(i j:Nat):Prop:=i<n/\j<n/\key i≠key j
def Inj (n:Nat)(key:Nat->Int):Prop:=∀i j,i<n->j<n->key i=key j->i=j
abbrev ask (key:Nat->Int) (i j:Nat):Bool:=decide (key i<key j)
end
end Srt
end L2
namespace L2
open PySem PySem.Spec PyProof.Rows
def G7:typeLookup (.type "list") "keys"=pure none:=by rw[typeLookup_type,builtinLookup_eq_fast];kernel_rfl
theorem JX {m:Zm}{k:Nat}{Q:Zl->Zu->Prop}
 (n:s.heap.get? a\("list">>>.seq m k)) (p:A.handled=none)
 (h:∀i j,(∀b o,s.heap.get? b\o->i.get? b\o)->Q none { s with heap:=i,toks:=j }):
 (P<|>w) A (getAttr? ↑a "keys") Q E s:=by
 let⟨q,g,d,j,os⟩:=s;let l:∀f,(⟨q,g,d,f,os⟩:Zu).TypeIs ↑a "list":=λ_=>⟨_,n,2⟩
 let t:=sub_AttributeError;let z:=F.slot_list_getattribute.lookup;let x:=F.slot_list_getattribute.bind ↑a;let v:=am_list_getattr_none;unfold getAttr? getAttrBy? getAttrBy
 repeat (any_goals (first|assumption|rwa[l _]|((with_reducible show wpAny _ _ (call (Value.builtin "list.__getattribute__") _ _) _ _ _);rwa[ajj F.slot_list_getattribute (l _) am_entry_list_getattribute (F.args_list_getattribute_2 _ _) (meets_getattribute_miss_list a m k #[] "keys" _ G7 (by decide) (by decide)) ⟨n,p,λi f e c=>?_⟩])|wp_step))
 let⟨r,u,y⟩:=c.there;show wpAny _ _ (getattributeRaised _ _ _ _ _ _ _) _ _ _;unfold getattributeRaised
 repeat (any_goals (first|assumption|wp_step))
 rwa[h^c.keeps]
def oC:entryFor table "dict.update.loop"=some Builtin.«dict.update.loop»:=entryFor_of_fast (by kernel_rfl)
def iB:plainId "dict.update.loop"=true:=⋯
section
variable {prog:Program} {w:World} {K:Type} [DecidableEq K] {knd:KeyKind prog w K} {A:Around} {E:Zt->Zu->Prop}
def Ft {R:Result->Zu->Prop}{it l:Zs}{its:Zk}{rs:List (K×Zt)}(hh:A.in1.handled=none)(N:l≠it)(t:d≠it)(O:d≠l)(hlen:⇑its=⇑rs)(hsz:⇑rs<=sizeLine):
 ∀(k i:Nat) (s:Zu),⇑its - i=k->i<=⇑its->s.heap.IsListIter it l i->s.heap.IsList l its.toArray->s.heap.DictOf knd d (merged [] (rs.take i))->
 (∀(j:Nat) (u:Zt) (m:K×Zt),its[j]?\u->rs[j]?\m->∃p a,u=↑p/\p≠d/\p≠it/\knd.is m.1 a=true/\IsTup s.heap p #[a,m.2])->
 (∀h J,h.DictOf knd d (merged [] rs)->(∀b o,b≠d->b≠it->s.heap.get? b\o->h.get? b\o)->R (.ok (.ret .none)) { s with heap:=h,toks:=J })->
 codeAny (model prog w) A (.builtin "dict.update.loop" ⟨[↑d,↑it,rawInt (i:Int),.none],[]⟩) R s:=by
 let W:=Walks.list (prog:=prog) (w:=w) (A:=A.in1) hh it l N its.toArray;let c:∀b:Zs,b≠it->b∉[it]:=λb f z=>f (agK.mp z)
 intro k
 induction k with
 |zero=>
  intro i s hk L hit hl H Y hR;let ei:i=⇑its:=∅
  rwa[aj1 oC ?_];rw[ajJ iB _];show wpAny _ A.in1 (pyNext ↑it >>=_) _ _ s;rwa[agB (W.done s _ _ ⟨by cbv,hl⟩ λh J kp=>?_)];show wpAny _ A.in1 (Builtin.Dict.addKeywords d [] >>=_) _ _ _;rwa[agB (agI (agI ?_))];rw[ajm ∅]at H;let⟨od,x1,x2,D,q⟩:=id H;rwa[hR h J ⟨od,x1,x2,kp _ _ (c _ t) D,q⟩ λb o _ f e=>kp b o (c _ f) e]
 |succ k ih=>
  intro i s hk L hit hl H Y hR;let ou:i<⇑its:=∅
  rwa[aj1 oC ?_];rw[ajJ iB _];show wpAny _ A.in1 (pyNext ↑it >>=_) _ _ s;rwa[agB (W.item i s _ _ ∅ ⟨hit,hl⟩ λv h J hP P kp=>?_)];let⟨B,Q⟩:=P;let Z:its[i]?\v:=by simpa using hP
  let x:rs[i]?\(rs[i]'∅):=agG ∅
  change rs[i]'∅=m at x;let⟨p,a,rfl,pd,pi,C,o,ho,hc,n,y⟩:=Y i v m Z x;let F:=kp _ _ (c _ pi) ho;let V:rs.take (i+ 1)=rs.take i++[m]:=by rw[aiD,x];rfl
  let M:h.DictOf knd d (merged [] (rs.take i)):=by
   let⟨od,x1,x2,D,q⟩:=id H;rwa[od,x1,x2,kp _ _ (c _ t) D,q]
  let hml:=merged_length_le ([]:List (K×Zt)) (rs.take i)
  let G:⇑(merged [] (rs.take i))<=sizeLine:=by
   rw[ahm,aih]at hml;ext
  show wpAny _ A.in1 (holding [Value.ref p] _ >>=_) _ _ _;rwa[agB (ahQ ?_)];rwa[agB (akh ?_)];show wpAny _ A.in1 (typeOf (Value.ref p) >>=_) _ _ _;rwa[agB (aja (T:="tuple") ⟨o,F,hc⟩ ?_)];rw[ag8 ⋯];rwa[agB (ajk F y ?_)];rwa[agI ?_];show wpAny _ A.in1 (holding [a,m.2] (dictSet d a m.2)) _ _ _;rwa[ahQ (wpAny_dictSet_pairs C M (λg S sb=>?_) G)];let I:∀b o,b≠d->h.get? b\o->g.get? b\o:=λb o f e=>(sb.2 b f).trans e
  rwa[agI ⟨ajc iB _,5⟩];let r:rawInt ((i:Int)+ 1)=rawInt (((i+ 1:Nat)):Int):=rfl;rw[r];rwa[ih (i+ 1) _ ∅ ∅ (B.at λo e=>I _ _ (ahZ t) e) (Q.at λo e=>I _ _ (ahZ O) e) ?_ ?_ ?_]
  ·rw[V,merged,aiH];rwa[S]
  ·intro j u kv2 D q;let⟨p,a,rfl,a1,a2,a3,o,b1,b2⟩:=Y j u kv2 D q;rwa[p,a,2,a1,a2,a3,o,I _ _ a1 (kp _ _ (c _ a2) b1),b2]
  ·intro q U Mh X;rwa[hR q U Mh λb o f L e=>X b o f L (I _ _ f (kp _ _ (c _ L) e))]
theorem xA {rs:List (K×Zt)}(J:A.handled=none)(hlen:⇑N=⇑rs)(B:⇑rs<=sizeLine)
 (I:s.heap.get? a\("list">>>.seq N.toArray n))
 (S:∀(j:Nat) (u:Zt) (r:K×Zt),N[j]?\u->rs[j]?\r->∃p d,u=↑p/\knd.is r.1 d=true/\IsTup s.heap p #[d,r.2])
 (P:∀m H,m.DictOf knd ↥s (merged [] rs)->(∀b o,s.heap.get? b\o->m.get? b\o)->Q ↑↥s { s with heap:=m,toks:=H }):
 (prog<|>w) A (call (.type "dict") [↑a]) Q E s:=by
 rwa[callType_codes (Q₁:=λobj f=>obj=↑↥s/\f={ s with heap:=s.heap.push ("dict">>>.dict #[]) }) F.kt_called_dict (F.kt_typeCall_dict_1 _) F.entry_dict_init (kt_code_dict_new _ ⟨22⟩) ?_];rintro obj f ⟨rfl,rfl⟩;let c:(s.heap.push ("dict">>>.dict #[])).DictOf knd ↥s []:=Heap.DictOf.new s.heap;let h:(s.heap.push ("dict">>>.dict #[])).get? a\("list">>>.seq N.toArray n):=agD _ I;let t:=agX I;erw[c.typeIs,F.args_dict_init_2 _ _];unfold Builtin.«dict.__init__»;rwa[agB ?_];unfold Builtin.Dict.selfAndRest;rwa[agB (ajx c.typeIs ?_)];show wpAny _ _ (pure (↥s,[Value.ref a])) _ _ _;rwa[agI ?_];show wpAny _ _ (Builtin.Dict.updateFrom "dict.__init__" ↥s ↑a [] .none) _ _ _;unfold Builtin.Dict.updateFrom;rwa[agB (aja (T:="list") ⟨_,h,2⟩ ?_)];rw[ag8 ⋯];rwa[agB (JX h J λg H kp=>?_)];rw[ag8 ⋯];rwa[agB (akd ?_)];let i:=kp^h;rwa[agB (ai1 (items:=N.toArray) ⟨_,i,2,n,2⟩ ?_)]
 let k:↥s<g.objs.size:=by
  let⟨O,_,_,q,_⟩:=id c;rwa[agX (kp^q)]
 let z:=agX i;let M:∀b o,s.heap.get? b\o->(g.push ("list_iterator">>>.fields #[↑a,.int 0 0])).get? b\o:=λb o e=>agD _ (kp^agD _ e)
 rwa[agI ⟨ajc iB _,Ft (knd:=knd) (A:=A.in1) (rs:=rs) (its:=N) (l:=a) (it:=g.objs.size) J (ahf z) (ahf k) (ahT t) hlen B ⇑N 0 _ rfl (ahd _) ?_ ⟨_,agD _ i,2,n,2⟩ ?_ ?_ ?_⟩]
 ·rwa[_,agU _ rfl,22]
 ·let⟨O,W,V,q,v⟩:=id c;rwa[O,W,V,agD _ (kp^q),v]
 ·intro j u r q v;let⟨p,d,rfl,R,o,D,U⟩:=S j u r q v;let l:=agX D;rwa[p,d,2,ahf l,ahf (ajV l k),R,o,M^D,U]
 ·intro m x C y;rwa[⟨2,P m x C λb o e=>?_⟩];let G:=agX e;rwa[y b o (ahf G) (ahf (ajV G k)) (M^e)]
end
section
variable {X:Cx}
inductive G8 (xs:Zb) (H:Hp) (Q:VK):Prop
 |mk (l:Zs) (ps:Zn) (kvs:List (Key×V)):xs=[↑l]->H l\.lst (ps.map V.ref)->⇑ps=⇑kvs->(∀(i:Nat) (p:Zs) (kv:Key×V),ps[i]?\p->kvs[i]?\kv->H p\.tup [kV kv.1,kv.2])->(∀d,H d=none->Q ↑d (upd H d (.dK (fF [] kvs))))->G8 xs H Q
def JY (ok:dD P w H h):∀(c:Zn) (a:List (Key×V)),⇑c=⇑a->(∀(i:Nat) (p:Zs) (b:Key×V),c[i]?\p->a[i]?\b->H p\.tup [kV b.1,b.2])->
 ∃k:List (Key×Zt),KV a k/\∀(j:Nat) (p:Zs) (b:Key×Zt),c[j]?\p->k[j]?\b->∃e,(bQ P w).is b.1 e=true/\IsTup h p #[e,b.2]:=by
 intro c
 induction c with
 |nil=>exact λa l _=>by cases a with|nil=>exact⟨[],.nil,λj p b d=>by simp at d⟩|cons=>ext l
 |cons p c y=>
  intro a l n
  cases a with
  |nil=>ext l
  |cons b a=>
   let⟨k,o,x⟩:=y a (by simpa using l) λi q b d g=>n (i+ 1) q b (by simpa using d) (by simpa using g)
   obtain⟨-,s,t,r⟩:=ok p _ (n 0 p b rfl rfl);let⟨u,v,rfl,z,m⟩:=vals2 t;rwa[⟨(b.1,v)::k,.cons ⟨2,m⟩ o,λj q f d g=>?_⟩]
   cases j with
   |zero=>
    obtain rfl:p=q:=by simpa using d
    obtain rfl:(b.1,v)=f:=by simpa using g
    rwa[u,jJ z,r]
   |succ j=>exact x j q f (by simpa using d) (by simpa using g)
def vq (M:X.calm=true):iV X (.type "dict") G8:=by
 intro m s P H O R Q I r h;let⟨l,k,a,rfl,C,hlen,B,q⟩:=h;let⟨u,rfl,D⟩:=vals1 r;ext D;let⟨A,y,c,z,v⟩:=I.aM l _ C;obtain rfl:=qU z;let⟨rs,i,G⟩:=JY I.aM k a hlen B;let t:⇑a=⇑rs:=⇑i;rw[agH]at A;rwa[xA (knd:=bQ X.prog X.w) (rs:=rs) (I.ok.hd M) (by cbv) ∅ v (λj u E b o=>?_) λg w F kp=>?_]
 ·rw[agY]at b
  cases e:k[j]? with
  |none=>rw[e]at b;ext b
  |some p=>
   rw[e]at b;let⟨d,n,J⟩:=G j p E e o;rwa[p,d,(Za0 b).symm,n,J]
 ·let L:KV (fF [] a) (merged [] rs):=KV.merge i .nil;let f:=kU a [];rw[aih]at f;rwa[↑↥s,_,I.laid (t':=w) kp (agJ _) (qT ∅ (agZ.mpr (ahZ (ahf I.big))) L F),2,q _ (I.aM.fresh (agJ _))]
end
section
variable {X:Cx}{pins:List (Zs×Obj)}{σ:St}{H:Hp}{s:Zu}{d:Zs}{u:HO}{o:Obj}
def Inv.freeze (I:Inv X pins σ H s)(e:H d\u)(mu:tN (some u))(g:s.heap.get? d\o):Inv X pins σ (upd H d (.cS o u)) s:=by
 let a:tN (H d):=by rw[e];rwa[mu]
 let b:∀c y,H c\.own y->c≠d:=λc y r z=>by subst z;rw[r]at a;rwa[a]
 let i5:∀c f,H c\.tup f->c≠d:=λc f r z=>by subst z;rw[r]at a;rwa[a]
 let new:bZ X.prog X.w (upd H d (.cS o u)) s.heap d u:=(I.aM d u e).fu (λc v _ r=>r) (λc r=>[ak (b^r)]▸r) λc f r=>by rw[ak (i5^r)];rwa[r]
 rwa[j4 (t':=s.toks) I a (Heap.SameBut.refl _ _) ⟨o,g⟩ ⟨g,new⟩]
def Inv.Fu (I:Inv X pins σ H s)(e:H d\.cS o u)(mu:tN (some u))(l:∀o u,X.uj d≠some (.cS o u)):Inv X pins σ (upd H d u) s:=by
 let j:∀b,H b=none->b≠d:=λb n z=>by cbv
 let g:∀c y,H c\.own y->c≠d:=λc y r z=>by cbv
 let i5:∀c h,H c\.tup h->c≠d:=λc h r z=>by cbv
 rwa[⟨I.ok,I.os,I.bare,⟨I.base.keep,I.base.slot,λb i q n A=>?_,I.base.there,λb h q=>?_,λb i v q=>?_,λb t q=>?_⟩,I.loc,I.cell,5,λx c q=>?_,λp w=>?_,λb v q=>?_,I.len⟩]
 ·let f:=I.base.free b i q n A;rw[ak (j b f)];rwa[f]
 ·let f:=I.base.ia b h q;rw[ak (i5^f)];rwa[f]
 ·let f:=I.base.gN b i v q;rw[ak (λz=>l i v (by rw[<-z];rwa[q]))];rwa[f]
 ·let⟨m,f⟩:=I.base.ib b t q;erw[m];rw[ak (λz=>by cbv)];rwa[f]
 ·rw[ak (j _ I.free)];rwa[I.free]
 ·let f:=I.gO x c q;rw[ak (j _ f)];rwa[f]
 ·let⟨a,b,c⟩:=I.pin p w;rwa[⟨a,5,c⟩];rw[ak (j _ b)];rwa[b]
 ·let st:∀b v,bZ X.prog X.w H s.heap b v->bZ X.prog X.w (upd H d u) s.heap b v:=λb v q=>q.fu (λc v _ r=>r) (λc r=>[ak (g^r)]▸r) λc h r=>by rw[ak (i5^r)];rwa[r]
  cases k:b=d
  ·subst k;rw[ah]at q;obtain rfl:=Za0 q;rwa[st^(I.aM^e).2]
  ·rw[ak k]at q;rwa[st^I.aM b v q]
def Inv.JZ (I:Inv X pins σ H s)(e:H d\u)(mu:tN (some u)):∀o u,X.uj d≠some (.cS o u):=λo v q=>by
 rw[I.base.gN d o v q]at e;ext e;rwa[mu]
def Vh (t:TS):TS:=λD σ H=>∃(d:Zs) (u:HO),H d\u/\tN (some u)/\
 t { nx:=λ b a=>∃o,a d\.cS o u/\D.nx b (upd a d u),rt:=λv a=>∃o,a d\.cS o u/\D.rt v (upd a d u),
     bk:=λ b a=>∃o,a d\.cS o u/\D.bk b (upd a d u),ct:=λ b a=>∃o,a d\.cS o u/\D.ct b (upd a d u) } σ H
def DQ {st:Stmt}{t:TS}(h:PS X st t):PS X st (Vh t):=by
 intro pins s σ H D I q;let⟨d,u,e,mu,q⟩:=q;let i:=I.JZ e mu;rwa[a9 (h pins s σ H _ I q) λf l p=>?_]
 cases f with
 |next=>let⟨a,j,b,o,c,g⟩:=p;rwa[a,_,b.Fu c mu i,g]
 |brk=>let⟨a,j,b,o,c,g⟩:=p;rwa[a,_,b.Fu c mu i,g]
 |cont=>let⟨a,j,b,o,c,g⟩:=p;rwa[a,_,b.Fu c mu i,g]
 |ret v=>let⟨k,a,j,b,r,o,c,g⟩:=p;rwa[k,a,_,b.Fu c mu i,r,g]
end
def Ar (d:Zs)(o:Obj)(a:List (Key×V)):It:=
 ⟨λi H=>i<⇑a/\H d\.cS o (.dK a),λi H x c=>c=H/\∃b,a[i]?\b/\x=kV b.1,λi H=>⇑a<=i/\H d\.cS o (.dK a)⟩
def Od {k:Key}(h:(bQ P w).is k v=true):RelV (kV k) v:=by
 cases k with
 |inl i=>
  let a:Value.isInt i v=true:=h
  cases v with
  |int j t=>simp[Value.isInt]at a;subst a;rwa[12]
  |_=>simp[Value.isInt]at a
 |inr x=>
  let a:Value.isStrOf x v=true:=h
  cases v with
  |str j t=>simp[Value.isStrOf]at a;subst a;rwa[12]
  |_=>simp[Value.isStrOf]at a
inductive Dt where
 |i (n:Int)|s (l:Zh)|n|b (k:Bool)|t (xs:List Dt)|l (xs:List Dt)
inductive bR (H:Hp):Nat->V->Dt->Prop where
 |i {k:Nat} {n:Int}:bR H k (.int n) (.i n)
 |s {k:Nat} {l:Zh}:bR H k (.str (tx l)) (.s l)
 |n {k:Nat}:bR H k .non .n
 |b {k:Nat} {c:Bool}:bR H k (.bl c) (.b c)
 |t {k:Nat} {a:Zs} {vs:Zb} {ds:List Dt}:H a\.tup vs->⇑vs=⇑ds->(∀(j:Nat) (v:V) (d:Dt),vs[j]?\v->ds[j]?\d->bR H k v d)->bR H (k+ 1) ↑a (.t ds)
 |l {k:Nat} {a:Zs} {vs:Zb} {ds:List Dt}:H a\.lst vs->⇑vs=⇑ds->(∀(j:Nat) (v:V) (d:Dt),vs[j]?\v->ds[j]?\d->bR H k v d)->bR H (k+ 1) ↑a (.l ds)
def bR.keep (j:∀a e,H a\.tup e->I a\.tup e)(g:∀a e,H a\.lst e->I a\.lst e){k:Nat}{v:V}{d:Dt}(h:bR H k v d):bR I k v d:=by
 induction h with
 |i=>exact .i
 |s=>exact .s
 |n=>exact .n
 |b=>exact .b
 |t a b c f=>exact .t (j^a) b f
 |l a b c f=>exact .l (g^a) b f
def bR.same (s:aq H I){k:Nat}{v:V}{d:Dt}(h:bR H k v d):bR I k v d:=h.keep (λ_ _ e=>s^e) (λ_ _ e=>s^e)
def bR.up {k:Nat}{d:Dt}(h:bR H k q d):bR H (k+ 1) q d:=by
 induction h with
 |i=>exact .i
 |s=>exact .s
 |n=>exact .n
 |b=>exact .b
 |t a b c e=>exact .t a b e
 |l a b c e=>exact .l a b e
def bR.le {k:Nat}{d:Dt}(h:bR H k q d)(a:k<=m):bR H m q d:=by
 let⟨j,rfl⟩:=Nat.exists_eq_add_of_le a;clear a
 induction j with
 |zero=>exact h
 |succ j b=>exact b.up
inductive Vi (x:V) (y:V) (H:Hp) (Q:VK):Prop
 |mk (d:Dt) (a b:Zs):x=↑a->y=↑b->bR H 8 x d->bR H 8 y d->Q (.bl true) H->Vi x y H Q
inductive Vj (x:V) (y:V) (H:Hp) (Q:VK):Prop
 |mk (d:Dt) (a b:Zs):x=↑a->y=↑b->bR H 8 x d->bR H 8 y d->Q (.bl false) H->Vj x y H Q
noncomputable def nI (l:Zh):Zg:=l.map λn:Nat=>(n:Int)
def bF (l:Zh):⇑(nI l)=⇑l:=agH ..
def gk (h:B[i]?\n):(nI B)[i]?\(n:Int):=by unfold nI;rw[agY,h];rfl
def gn (a b:Zh):nI (a++b)=nI a++nI b:=ahi ..
def Q9 (l:Zh)(i n:Nat):(nI l).set i (n:Int)=nI (l.set i n):=by unfold nI;rw[List.map_set]
structure RS where
 L:Nat
 q:Nat
 rows:List Dt
 ways:List (List (Int×Nat))
 gaps:Za3
 aU:Zh
 called:List Zh
 aY:Zh
def wK (l:List (Int×Nat)):List (Key×V):=l.map λp=>(Sum.inl p.1,V.int p.2)
noncomputable def gK (l:Zg):List (Key×V):=l.map λs=>(Sum.inl s,V.bl true)
noncomputable def fx (l:List (Int×Nat))(s:Int):Zi:=(l.find? λp=>decide (p.1=s)).map (·.2)
noncomputable def iP (l:List (Int×Nat))(s:Int)(r:Nat):List (Int×Nat):=if (l.any λp=>decide (p.1=s))=true then l.map λp=>if p.1=s then (p.1,r) else p else l++[(s,r)]
def As (l:List (Int×Nat)):⇑(wK l)=⇑l:=agH ..
def Rb (l:Zg):⇑(gK l)=⇑l:=agH ..
def Rc (a b:Int):decide ((Sum.inl a:Key)=Sum.inl b)=decide (a=b):=by
 cbv
theorem kI (s:Int):∀l:List (Int×Nat),bB (wK l) (Sum.inl s)=(fx l s).map λr:Nat=>V.int (r:Int)
 |[]=>rfl
 |p::l=>by
  let b:=kI s l;cases h:p.1=s
  ·let e:bB (wK (p::l)) (Sum.inl s)\(V.int p.2):=cU (p:=(Sum.inl p.1,V.int p.2)) (by rw[h]);let a:fx (p::l) s\p.2:=by unfold fx;rw[List.find?_cons_of_pos (by cbv)];rfl
   rw[e,a];rfl
  ·let e:bB (wK (p::l)) (Sum.inl s)=bB (wK l) (Sum.inl s):=cO (p:=(Sum.inl p.1,V.int p.2)) (λz=>h (Sum.inl.inj z));let a:fx (p::l) s=fx l s:=by unfold fx;rw[ajn (by simpa using h)]
   rw[e,a,b]
def Au (l:List (Int×Nat))(s:Int)(r:Nat):putK (wK l) (Sum.inl s) (.int r)=wK (iP l s r):=by
 unfold putK iP
 let a:((wK l).any λb=>decide (b.1=Sum.inl s))=l.any λp=>decide (p.1=s):=by
  unfold wK;rw[List.any_map]
  congr 1
  funext p
  rwa[Rc _ _]
 rw[a];split
 ·unfold wK;rw[ahw,ahw];rwa[ahJ λp _=>?_]
  cbv
 ·unfold wK;rw[ahi];rfl
def J0 (l:List (Int×Nat))(s t:Int)(r:Nat):fx (iP l s r) t=if t=s then some r else fx l t:=by
 let c:=kI t (iP l s r);rw[<-Au,j3,kI]at c
 let inj:∀a b:Zi,(a.map λr:Nat=>V.int (r:Int))=(b.map λr:Nat=>V.int (r:Int))->a=b:=λa b h=>by
  cases a <;> cases b <;> simp at h ⊢
  ext
 apply inj;rw[<-c];cases e:t=s
 ·rw[ag8 e,ag8 (by rw[e])];rfl
 ·rw[ag3 e,ag3 (λz=>e (Sum.inl.inj z))]
def J1 (l:List (Int×Nat))(s:Int)(r:Nat):⇑(iP l s r)<=⇑l+ 1:=by
 unfold iP;split
 ·rw[agH];ext
 ·rw[agF];rwa[agJ _]
def Oe (l:Zg)(s:Int):fe (gK l) (Sum.inl s)=gK (l.filter λx=>decide (x≠s)):=by
 unfold fe gK;rw[List.filter_map]
 congr 1
 rwa[ajF λx _=>?_]
 cbv
theorem G9 (s:Int):∀l:Zg,bB (gK l) (Sum.inl s)=if s∈l then some (V.bl true) else none
 |[]=>rfl
 |x::l=>by
  cases h:x=s
  ·rw[ag8 (by cbv)];rwa[cU (p:=(Sum.inl x,V.bl true)) (by rw[h])]
  ·let e:bB (gK (x::l)) (Sum.inl s)=bB (gK l) (Sum.inl s):=cO (p:=(Sum.inl x,V.bl true)) (λz=>h (Sum.inl.inj z));rw[e,G9 s l]
   cbv
theorem yw:∀(more acc:List (Key×V)),((acc++more).map (·.1)).Nodup->fF acc more=acc++more
 |[],acc,_=>(ahe _).symm
 |p::more,acc,h=>by
  let b:bB acc p.1=none:=by
   unfold bB;rw[List.find?_eq_none.mpr ?_];rfl;intro q a;rw[ahr];intro e;rw[ahi,ahz]at h;rwa[h.2.2 q.1 (ajd a) p.1 (ajd agP) e]
  show fF (putK acc p.1 p.2) more=_;rw[Ag _ b,yw more (acc++[(p.1,p.2)]) ([ahy]▸h),ahy];rfl
structure RA where
 dx:Zs
 aR:Zs
 aW:Zs
 aG:Zs
 aE:Zs
 aC:Zs
 aN:Zs
 rs:Zn
 ws:Zn
 gs:Zn
 cs:Zn
noncomputable def fy (L made:Int)(a:RA):List (Str×V):=[("letters",.int L),("made",.int made),("rows",↑a.aR),("ways",↑a.aW),("gaps",↑a.aG),("elders",↑a.aE),("called",↑a.aC),("went",↑a.aN)]
def Hc (L m n:Int)(a:RA):bK "made" (.int n) (fy L m a)=fy L n a:=by
 let h:¬(("letters":Str)="made"):=⋯
 unfold fy;simp only[bK,ag3 h,akc]
def vr (L m:Int)(a:RA):(fy L m a).lookup ("letters":Str)\(.int L):=by kernel_rfl
def sS (L m:Int)(a:RA):(fy L m a).lookup ("made":Str)\(.int m):=by kernel_rfl
def sT (L m:Int)(a:RA):(fy L m a).lookup ("rows":Str)\↑a.aR:=by kernel_rfl
def iC (L m:Int)(a:RA):(fy L m a).lookup ("ways":Str)\↑a.aW:=by kernel_rfl
def sU (L m:Int)(a:RA):(fy L m a).lookup ("gaps":Str)\↑a.aG:=by kernel_rfl
def jm (L m:Int)(a:RA):(fy L m a).lookup ("elders":Str)\↑a.aE:=by kernel_rfl
def m3 (L m:Int)(a:RA):(fy L m a).lookup ("called":Str)\↑a.aC:=by kernel_rfl
def sV (L m:Int)(a:RA):(fy L m a).lookup ("went":Str)\↑a.aN:=by kernel_rfl
def cL (L m:Int)(a:RA){x:Str}(h:x∉(["letters","made","rows","ways","gaps","elders","called","went"]:Zp)):(fy L m a).lookup x=none:=by
 simp only[agW,ahx,aiR,not_or]at h;let⟨f,d,i,e,g,b,j,c⟩:=h;unfold fy;simp only[List.lookup,agZ.mpr f,agZ.mpr d,agZ.mpr i,agZ.mpr e,agZ.mpr g,agZ.mpr b,agZ.mpr j,agZ.mpr c]
theorem dH:∀{fs:List (Str×V)},fs.lookup f=none->bK f q fs=fs++[(f,q)]
 |[],_=>rfl
 |(g,x)::r,h=>by
  cases e:g=f
  ·cbv
  ·let a:(f==g)=false:=agZ.mpr (ahZ e);simp only[List.lookup,a]at h;show (if g=f then _ else _)=_;rw[ag3 e,dH h];rfl
inductive ml:Dt->Prop where
 |i {n:Int}:ml (.i n)
 |s {l:Zh}:ml (.s l)
 |t {ds:List Dt}:⇑ds<=100000->(∀d∈ds,ml d)->ml (.t ds)
def bR.fY (q:∀a g,H a\.tup g->I a\.tup g){k:Nat}{v:V}{d:Dt}(h:bR H k v d)(m:ml d):bR I k v d:=by
 induction h with
 |i=>exact .i
 |s=>exact .s
 |n=>exact .n
 |b=>exact .b
 |t a b c e=>
  cases m with
  |t _ o=>exact .t (q^a) b λj v d p f=>e j v d p f (o d (agC f))
 |l a b c e=>ext m
def Each {a:Type}(R:Zs->a->Prop)(b:Zn)(xs:List a):Prop:=⇑b=⇑xs/\∀(i:Nat) (p:Zs) (x:a),b[i]?\p->xs[i]?\x->R p x
def Each.imp {e:Type}{R c:Zs->e->Prop}{a:List e}(h:Each R F a)(f:∀p x,p∈F->x∈a->R p x->c p x):Each c F a:=
 ⟨h.1,λi p x d b=>f p x (agC d) (agC b) (h.2 i p x d b)⟩
def Each.snoc {d:Type}{R:Zs->d->Prop}{ps:Zn}{xs:List d}{x:d}(h:Each R ps xs)(f:R a x):Each R (ps++[a]) (xs++[x]):=by
 rwa[⟨by rw[agF,agF,h.1];rfl,λi q y c b=>?_⟩];cases e:i<⇑ps
 ·rw[agN e]at c;rw[agN (by rw[<-h.1];rwa[e])]at b;rwa[h.2 i q y c b]
 ·rw[agR ∅]at c;rw[agR (by rw[<-h.1];omega)]at b;rw[agK.mp (agC c),agK.mp (agC b)];rwa[f]
def Each.at {a:Type}{R:Zs->a->Prop}{b:List a}(h:Each R F b){i:Nat}{x:a}(d:b[i]?\x):∃p,F[i]?\p/\R p x:=by
 let c:i<⇑F:=by rw[h.1];rwa[(agE.mp d).1]
 rwa[_,agG c,h.2 i _ x (agG c) d]
def Each.mem {b:Type}{R:Zs->b->Prop}{xs:List b}(h:Each R F xs){p:Zs}(d:p∈F):∃x,x∈xs/\R p x:=by
 let⟨i,c⟩:=ahs d;let a:i<⇑xs:=by rw[<-h.1];rwa[(agE.mp c).1]
 rwa[_,agC (agG a),h.2 i p _ c (agG a)]
theorem Each.set {d:Type}{R b:Zs->d->Prop}{xs:List d}{x:d}(h:Each R F xs)(g:F[i]?\a)(m:b a x)(l:F.Nodup)(f:∀q y,q∈F->q≠a->R q y->b q y):Each b F (xs.set i x):=by
 rwa[⟨[ahb]▸h.1,λj q y c k=>?_⟩];cases e:i=j
 ·cbv
 ·rw[ah2 e]at k;rwa[f q y (agC c) (λz=>?_) (h.2 j q y c k)];subst z;rwa[e ((akf (agE.mp g).1 l).mp (g.trans c.symm))]
noncomputable def RA.lists (a:RA):Zn:=a.aR::a.aW::a.aG::a.aE::a.aC::a.aN::a.cs
noncomputable def RA.eA (a:RA):Zn:=a.ws++a.gs
def RA.own (a:RA)(r b:Zs):Prop:=b=r\/b∈a.lists\/b∈a.eA
structure ay (C:Zs) (H:Hp) (r:Zs) (S:RS) (a:RA):Prop where
 ins:H r\(.ins C a.dx (fy S.L S.q a))
 hR:H a.aR\(.lst (a.rs.map V.ref))
 hW:H a.aW\(.lst (a.ws.map V.ref))
 hG:H a.aG\(.lst (a.gs.map V.ref))
 hE:H a.aE\(.lst (ao (nI S.aU)))
 hC:H a.aC\(.lst (a.cs.map V.ref))
 hN:H a.aN\(.lst (ao (nI S.aY)))
 rR:Each (λp d=>bR H 4 ↑p d) a.rs S.rows
 rW:Each (λp l=>H p\.dK (wK l)) a.ws S.ways
 rG:Each (λp l=>H p\.dK (gK l)) a.gs S.gaps
 rC:Each (λp l=>H p\.lst (ao (nI l))) a.cs S.called
 flat:∀d∈S.rows,ml d
 iK:a.lists.Nodup
 mn:a.eA.Nodup
section
variable {C:Zs}{H H':Hp}{r:Zs}{S:RS}{a:RA}
def ay.keep (h:ay C H r S a)(k:∀b o,a.own r b->H b\o->H' b\o)(j:∀b g,H b\.tup g->H' b\.tup g):ay C H' r S a:=by
 let c:∀b o,b∈a.lists->H b\o->H' b\o:=λb o f=>k b o (.inr (.inl f))
 let i:∀b o,b∈a.eA->H b\o->H' b\o:=λb o f=>k b o (.inr (.inr f))
 rwa[k _ _ (.inl rfl) h.ins,c _ _ (by simp[RA.lists]) h.hR,c _ _ (by simp[RA.lists]) h.hW,c _ _ (by simp[RA.lists]) h.hG,c _ _ (by simp[RA.lists]) h.hE,c _ _ (by simp[RA.lists]) h.hC,c _ _ (by simp[RA.lists]) h.hN,h.rR.imp λp x _ l e=>e.fY j (h.flat x l),h.rW.imp λp x d _ e=>i _ _ (ag6 _ d) e,h.rG.imp λp x d _ e=>i _ _ (agL _ d) e,h.rC.imp λp x d _ e=>c _ _ (by simp[RA.lists,d]) e,h.flat,h.iK,h.mn]
def ay.same (h:ay C H r S a)(s:aq H H'):ay C H' r S a:=h.keep (λ_ _ _ e=>s^e) (λ_ _ e=>s^e)
def ay.there (h:ay C H r S a){b:Zs}(c:a.own r b):∃o,H b\o:=by
 rcases c with rfl|c|c
 ·rwa[⟨_,h.ins⟩]
 ·unfold RA.lists at c;simp only[agW]at c;rcases c with rfl|rfl|rfl|rfl|rfl|rfl|c
  ·rwa[⟨_,h.hR⟩]
  ·rwa[⟨_,h.hW⟩]
  ·rwa[⟨_,h.hG⟩]
  ·rwa[⟨_,h.hE⟩]
  ·rwa[⟨_,h.hC⟩]
  ·rwa[⟨_,h.hN⟩]
  ·let⟨x,_,e⟩:=h.rC.mem c;rwa[_,e]
 ·rcases agS.mp c with c|c
  ·let⟨x,_,e⟩:=h.rW.mem c;rwa[_,e]
  ·let⟨x,_,e⟩:=h.rG.mem c;rwa[_,e]
def ay.sW (h:ay C H r S a){b:Zs}{f:Zb}(e:H b\.tup f):¬a.own r b:=λc=>by
 rcases c with rfl|c|c
 ·rw[h.ins]at e;ext e
 ·unfold RA.lists at c;simp only[agW]at c;rcases c with rfl|rfl|rfl|rfl|rfl|rfl|c
  ·rw[h.hR]at e;ext e
  ·rw[h.hW]at e;ext e
  ·rw[h.hG]at e;ext e
  ·rw[h.hE]at e;ext e
  ·rw[h.hC]at e;ext e
  ·rw[h.hN]at e;ext e
  ·let⟨x,_,d⟩:=h.rC.mem c;cbv
 ·rcases agS.mp c with c|c
  ·let⟨x,_,d⟩:=h.rW.mem c;cbv
  ·let⟨x,_,d⟩:=h.rG.mem c;cbv
end
end L2
variable {S T:L2.RS}{O:L2.RA}
namespace L2
open PySem PySem.Spec PyProof.Rows
section
variable {C:Zs}{H:Hp}{r:Zs}{S:RS}{a:RA}
def fZ:a.aR∈a.lists:=by simp[RA.lists]
def gb:a.aW∈a.lists:=by simp[RA.lists]
def iW:a.aG∈a.lists:=by simp[RA.lists]
def gQ:a.aE∈a.lists:=by simp[RA.lists]
def iD:a.aC∈a.lists:=by simp[RA.lists]
def hX:a.aN∈a.lists:=by simp[RA.lists]
def gq (h:b∈a.cs):b∈a.lists:=by simp[RA.lists,h]
def dw (h:b∈a.ws):b∈a.eA:=ag6 _ h
def gu (h:b∈a.gs):b∈a.eA:=agL _ h
def ay.Mi (h:ay C H r S a){b:Zs}(c:b∈a.lists):∃d,H b\(.lst d):=by
 unfold RA.lists at c;simp only[agW]at c;rcases c with rfl|rfl|rfl|rfl|rfl|rfl|c
 ·rwa[⟨_,h.hR⟩]
 ·rwa[⟨_,h.hW⟩]
 ·rwa[⟨_,h.hG⟩]
 ·rwa[⟨_,h.hE⟩]
 ·rwa[⟨_,h.hC⟩]
 ·rwa[⟨_,h.hN⟩]
 ·let⟨x,_,e⟩:=h.rC.mem c;rwa[_,e]
def ay.qi (h:ay C H r S a){b:Zs}(c:b∈a.eA):∃d,H b\(.dK d):=by
 rcases agS.mp c with c|c
 ·let⟨x,_,e⟩:=h.rW.mem c;rwa[_,e]
 ·let⟨x,_,e⟩:=h.rG.mem c;rwa[_,e]
def ay.rl (h:ay C H r S a){b:Zs}(c:b∈a.lists):r≠b:=by let⟨d,e⟩:=h.Mi c;rwa[bY h.ins e (by cbv)]
def ay.rd (h:ay C H r S a){b:Zs}(c:b∈a.eA):r≠b:=by let⟨d,e⟩:=h.qi c;rwa[bY h.ins e (by cbv)]
def ay.ld (h:ay C H r S a){b c:Zs}(d:b∈a.lists)(hc:c∈a.eA):b≠c:=by
 let⟨f,e⟩:=h.Mi d;let⟨ys,g⟩:=h.qi hc
 cbv
def ay.tl (h:ay C H r S a){b c:Zs}{d:Zb}(e:H b\.tup d)(hc:c∈a.lists):b≠c:=λz=>h.sW e (.inr (.inl ([z]▸hc)))
def ay.td (h:ay C H r S a){b c:Zs}{d:Zb}(e:H b\.tup d)(hc:c∈a.eA):b≠c:=λz=>h.sW e (.inr (.inr ([z]▸hc)))
def ay.tr (h:ay C H r S a){b:Zs}{c:Zb}(d:H b\.tup c):b≠r:=λz=>h.sW d (.inl z)
def ay.Og (h:ay C H r S a)(n:Nat):ay C (upd H r (.ins C a.dx (fy S.L n a))) r { S with q:=n } a:=by
 let c:∀b o,b∈a.lists->H b\o->upd H r (.ins C a.dx (fy S.L n a)) b\o:=λb o f e=>by rw[ak (h.rl f).symm];rwa[e]
 let g:∀b o,b∈a.eA->H b\o->upd H r (.ins C a.dx (fy S.L n a)) b\o:=λb o f e=>by rw[ak (h.rd f).symm];rwa[e]
 rwa[ah,c _ _ fZ h.hR,c _ _ gb h.hW,c _ _ iW h.hG,c _ _ gQ h.hE,c _ _ iD h.hC,c _ _ hX h.hN,h.rR.imp λp x _ j e=>e.fY (λb k i=>[ak (h.tr i)]▸i) (h.flat x j),h.rW.imp λp x d _ e=>g _ _ (dw d) e,h.rG.imp λp x d _ e=>g _ _ (gu d) e,h.rC.imp λp x d _ e=>c _ _ (gq d) e,h.flat,h.iK,h.mn]
def ay.jn (h:ay C H r S a){q:Zs}{o:HO}(c:q∈a.lists):upd H q o r\.ins C a.dx (fy S.L S.q a)/\(∀b x,b∈a.lists->b≠q->H b\x->upd H q o b\x)/\(∀b x,b∈a.eA->H b\x->upd H q o b\x)/\∀b d,H b\.tup d->upd H q o b\(.tup d):=
 ⟨[ak (h.rl c)]▸h.ins,λb x _ n e=>[ak n]▸e,λb x f e=>[ak (h.ld c f).symm]▸e,λb d e=>[ak (h.tl e c)]▸e⟩
def vt (b:a.lists.Nodup):(a.aR≠a.aW/\a.aR≠a.aG/\a.aR≠a.aE/\a.aR≠a.aC/\a.aR≠a.aN)/\(a.aW≠a.aG/\a.aW≠a.aE/\a.aW≠a.aC/\a.aW≠a.aN)/\(a.aG≠a.aE/\a.aG≠a.aC/\a.aG≠a.aN)/\(a.aE≠a.aC/\a.aE≠a.aN)/\a.aC≠a.aN/\∀p∈a.cs,p≠a.aR/\p≠a.aW/\p≠a.aG/\p≠a.aE/\p≠a.aC/\p≠a.aN:=by
 unfold RA.lists at b
 cbv
def ay.Av (h:ay C H r S a){p:Zs}{d:Dt}(j:bR H 4 ↑p d)(hd:ml d):ay C (upd H a.aR (.lst (a.rs.map V.ref++[↑p]))) r { S with rows:=S.rows++[d] } { a with rs:=a.rs++[p] }:=by
 let⟨m,c,i,g⟩:=h.jn (o:=.lst (a.rs.map V.ref++[↑p])) (fZ (a:=a));obtain⟨⟨n1,n2,n,s,k⟩,-,-,-,-,l⟩:=vt h.iK
 rwa[⟨m,5,c _ _ gb n1.symm h.hW,c _ _ iW n2.symm h.hG,c _ _ gQ n.symm h.hE,c _ _ iD s.symm h.hC,c _ _ hX k.symm h.hN,(h.rR.imp λq x _ f e=>e.fY g (h.flat x f)).snoc (j.fY g hd),h.rW.imp λq x b _ e=>i _ _ (dw b) e,h.rG.imp λq x b _ e=>i _ _ (gu b) e,h.rC.imp λq x b _ e=>c _ _ (gq b) (l q b).1 e,λx f=>?_,h.iK,h.mn⟩]
 ·rw[ah,ahi];rfl
 ·rcases agS.mp f with f|f
  ·rwa[h.flat x f]
  cbv
def ay.Rf (h:ay C H r S a){p:Zs}{l:List (Int×Nat)}(g:H p\.dK (wK l))(t:p∉a.eA):ay C (upd H a.aW (.lst (a.ws.map V.ref++[↑p]))) r { S with ways:=S.ways++[l] } { a with ws:=a.ws++[p] }:=by
 let⟨j,c,f,n⟩:=h.jn (o:=.lst (a.ws.map V.ref++[↑p])) (gb (a:=a));obtain⟨⟨n1,-⟩,⟨n2,k,m,i⟩,-,-,-,u⟩:=vt h.iK;let d:upd H a.aW (.lst (a.ws.map V.ref++[↑p])) p\(.dK (wK l)):=by rw[ak (bY g h.hW (by cbv))];rwa[g]
 erw[j,c _ _ fZ n1 h.hR,5,c _ _ iW n2.symm h.hG,c _ _ gQ k.symm h.hE,c _ _ iD m.symm h.hC,c _ _ hX i.symm h.hN,h.rR.imp λq x _ s e=>e.fY n (h.flat x s),(h.rW.imp λq x b _ e=>f _ _ (dw b) e).snoc d,h.rG.imp λq x b _ e=>f _ _ (gu b) e,h.rC.imp λq x b _ e=>c _ _ (gq b) (u q b).2.1 e,h.flat,h.iK]
 ·rw[ah,ahi];rfl
 ·show (a.ws++[p]++a.gs).Nodup;rw[ahy];rwa[(List.perm_middle.nodup_iff).mpr (ahk.mpr ⟨t,h.mn⟩)]
def ay.Rg (h:ay C H r S a){p:Zs}{l:Zg}(i:H p\.dK (gK l))(u:p∉a.eA):ay C (upd H a.aG (.lst (a.gs.map V.ref++[↑p]))) r { S with gaps:=S.gaps++[l] } { a with gs:=a.gs++[p] }:=by
 let⟨k,c,g,s⟩:=h.jn (o:=.lst (a.gs.map V.ref++[↑p])) (iW (a:=a));obtain⟨⟨-,n1,-⟩,⟨n2,-⟩,⟨m,n,j⟩,-,-,v⟩:=vt h.iK;let d:upd H a.aG (.lst (a.gs.map V.ref++[↑p])) p\(.dK (gK l)):=by rw[ak (bY i h.hG (by cbv))];rwa[i]
 erw[k,c _ _ fZ n1 h.hR,c _ _ gb n2 h.hW,5,c _ _ gQ m.symm h.hE,c _ _ iD n.symm h.hC,c _ _ hX j.symm h.hN,h.rR.imp λq x _ f e=>e.fY s (h.flat x f),h.rW.imp λq x b _ e=>g _ _ (dw b) e,(h.rG.imp λq x b _ e=>g _ _ (gu b) e).snoc d,h.rC.imp λq x b _ e=>c _ _ (gq b) (v q b).2.2.1 e,h.flat,h.iK]
 ·rw[ah,ahi];rfl
 ·show (a.ws++(a.gs++[p])).Nodup;rw[<-ahy];rwa[ahz.mpr ⟨h.mn,by simp,λx f y t z=>?_⟩];rw[agK.mp t]at z;rwa[u (z ▸ f)]
def ay.yx (h:ay C H r S a)(d:Zh):ay C (upd H a.aE (.lst (ao (nI d)))) r { S with aU:=d } a:=by
 let⟨k,c,f,g⟩:=h.jn (o:=.lst (ao (nI d))) (gQ (a:=a));obtain⟨⟨-,-,n1,-⟩,⟨-,n2,-⟩,⟨l,-⟩,⟨n,i⟩,-,j⟩:=vt h.iK
 rwa[k,c _ _ fZ n1 h.hR,c _ _ gb n2 h.hW,c _ _ iW l h.hG,ah,c _ _ iD n.symm h.hC,c _ _ hX i.symm h.hN,h.rR.imp λq x _ m e=>e.fY g (h.flat x m),h.rW.imp λq x b _ e=>f _ _ (dw b) e,h.rG.imp λq x b _ e=>f _ _ (gu b) e,h.rC.imp λq x b _ e=>c _ _ (gq b) (j q b).2.2.2.1 e,h.flat,h.iK,h.mn]
def ay.Oh (h:ay C H r S a)(d:Zh):ay C (upd H a.aN (.lst (ao (nI d)))) r { S with aY:=d } a:=by
 let⟨k,c,f,g⟩:=h.jn (o:=.lst (ao (nI d))) (hX (a:=a));obtain⟨⟨-,-,-,-,n1⟩,⟨-,-,-,n2⟩,⟨-,-,l⟩,⟨-,n⟩,i,j⟩:=vt h.iK
 rwa[k,c _ _ fZ n1 h.hR,c _ _ gb n2 h.hW,c _ _ iW l h.hG,c _ _ gQ n h.hE,c _ _ iD i h.hC,ah,h.rR.imp λq x _ m e=>e.fY g (h.flat x m),h.rW.imp λq x b _ e=>f _ _ (dw b) e,h.rG.imp λq x b _ e=>f _ _ (gu b) e,h.rC.imp λq x b _ e=>c _ _ (gq b) (j q b).2.2.2.2.2 e,h.flat,h.iK,h.mn]
def ay.Hd (h:ay C H r S a){p:Zs}{l:Zh}(t:H p\.lst (ao (nI l)))(u:p∉a.lists):ay C (upd H a.aC (.lst (a.cs.map V.ref++[↑p]))) r { S with called:=S.called++[l] } { a with cs:=a.cs++[p] }:=by
 let⟨k,c,g,s⟩:=h.jn (o:=.lst (a.cs.map V.ref++[↑p])) (iD (a:=a));obtain⟨⟨-,-,-,n1,-⟩,⟨-,-,n2,-⟩,⟨-,m,-⟩,⟨n,-⟩,j,v⟩:=vt h.iK;let f:p≠a.aC:=λz=>u ([z]▸iD)
 let d:upd H a.aC (.lst (a.cs.map V.ref++[↑p])) p\(.lst (ao (nI l))):=by rw[ak f];rwa[t]
 rwa[⟨k,c _ _ fZ n1 h.hR,c _ _ gb n2 h.hW,c _ _ iW m h.hG,c _ _ gQ n h.hE,5,c _ _ hX j.symm h.hN,h.rR.imp λq x _ i e=>e.fY s (h.flat x i),h.rW.imp λq x b _ e=>g _ _ (dw b) e,h.rG.imp λq x b _ e=>g _ _ (gu b) e,(h.rC.imp λq x b _ e=>c _ _ (gq b) (v q b).2.2.2.2.1 e).snoc d,h.flat,5,h.mn⟩]
 ·rw[ah,ahi];rfl
 ·rwa[ahz.mpr ⟨h.iK,by simp,λx i y w z=>?_⟩]
  cbv
def ay.He (h:ay C H r S a){i:Nat}{p:Zs}(g:a.cs[i]?\p)(l:Zh):ay C (upd H p (.lst (ao (nI l)))) r { S with called:=S.called.set i l } a:=by
 let j:=agC g;let⟨m,b,f,u⟩:=h.jn (o:=.lst (ao (nI l))) (gq j);obtain⟨-,-,-,-,-,z⟩:=vt h.iK;let⟨n1,n2,s,t,k,v⟩:=z p j
 let d:a.cs.Nodup:=by
  have:=h.iK;unfold RA.lists at this;simp only[ahk]at this;rwa[this.2.2.2.2.2.2]
 rwa[m,b _ _ fZ n1.symm h.hR,b _ _ gb n2.symm h.hW,b _ _ iW s.symm h.hG,b _ _ gQ t.symm h.hE,b _ _ iD k.symm h.hC,b _ _ hX v.symm h.hN,h.rR.imp λq x _ w e=>e.fY u (h.flat x w),h.rW.imp λq x c _ e=>f _ _ (dw c) e,h.rG.imp λq x c _ e=>f _ _ (gu c) e,h.rC.set g ah d λq y c n e=>b _ _ (gq c) n e,h.flat,h.iK,h.mn]
def ay.DR (h:ay C H r S a){q:Zs}{o:HO}(c:q∈a.eA):upd H q o r\.ins C a.dx (fy S.L S.q a)/\(∀b x,b∈a.eA->b≠q->H b\x->upd H q o b\x)/\(∀b x,b∈a.lists->H b\x->upd H q o b\x)/\∀b d,H b\.tup d->upd H q o b\(.tup d):=
 ⟨[ak (h.rd c)]▸h.ins,λb x _ n e=>[ak n]▸e,λb x f e=>[ak (h.ld f c)]▸e,λb d e=>[ak (h.td e c)]▸e⟩
def ay.Aw (h:ay C H r S a){i:Nat}{p:Zs}(f:a.ws[i]?\p)(l:List (Int×Nat)):ay C (upd H p (.dK (wK l))) r { S with ways:=S.ways.set i l } a:=by
 let g:=agC f;let⟨j,d,b,k⟩:=h.DR (o:=.dK (wK l)) (dw g);let nd:=ahz.mp h.mn
 rwa[j,b _ _ fZ h.hR,b _ _ gb h.hW,b _ _ iW h.hG,b _ _ gQ h.hE,b _ _ iD h.hC,b _ _ hX h.hN,h.rR.imp λq x _ m e=>e.fY k (h.flat x m),h.rW.set f ah nd.1 λq y c n e=>d _ _ (dw c) n e,h.rG.imp λq x c _ e=>d _ _ (gu c) (λz=>nd.2.2 p g q c z.symm) e,h.rC.imp λq x c _ e=>b _ _ (gq c) e,h.flat,h.iK,h.mn]
def ay.Rh (h:ay C H r S a){i:Nat}{p:Zs}(f:a.gs[i]?\p)(l:Zg):ay C (upd H p (.dK (gK l))) r { S with gaps:=S.gaps.set i l } a:=by
 let g:=agC f;let⟨j,d,b,k⟩:=h.DR (o:=.dK (gK l)) (gu g);let nd:=ahz.mp h.mn
 rwa[j,b _ _ fZ h.hR,b _ _ gb h.hW,b _ _ iW h.hG,b _ _ gQ h.hE,b _ _ iD h.hC,b _ _ hX h.hN,h.rR.imp λq x _ m e=>e.fY k (h.flat x m),h.rW.imp λq x c _ e=>d _ _ (dw c) (λz=>nd.2.2 q c p g z) e,h.rG.set f ah nd.2.1 λq y c n e=>d _ _ (gu c) n e,h.rC.imp λq x c _ e=>b _ _ (gq c) e,h.flat,h.iK,h.mn]
end
noncomputable def RS.j5 (S:RS)(i:Nat)(l:List (Int×Nat)):RS:={ S with ways:=S.ways.set i l }
noncomputable def RS.setG (S:RS)(i:Nat)(l:Zg):RS:={ S with gaps:=S.gaps.set i l }
noncomputable def RS.way (S:RS)(c:Nat):List (Int×Nat):=S.ways.getD c []
def RS.gap (S:RS)(c:Nat):Zg:=S.gaps.getD c []
def RS.by (S:RS)(c:Nat)(z:Int):Zi:=fx (S.way c) z
def RS.cf (S:RS)(c:Nat)(z:Int)(d:Nat):RS:=S.j5 c (iP (S.way c) z d)
def RS.lE (S:RS)(c:Nat)(z:Int):RS:=S.setG c ((S.gap c).filter λx=>decide (x≠z))
def RS.keep (S:RS)(c:Nat)(z:Int)(d:Nat):RS:=(((S.cf c z d).cf d (-z) c).lE c z).lE d (-z)
noncomputable def qW (c:Nat)(z:Int)(n:Nat):Dt:=.t [.s [110,101,119],.i c,.i z,.i n]
def RS.grown (S:RS)(c:Nat)(z:Int)(gaps:Zg):RS:={ S with q:=S.q+ 1,rows:=S.rows++[qW c z S.q],ways:=S.ways++[[]],gaps:=S.gaps++[gaps],aU:=S.aU++[S.q],called:=S.called++[[S.q]] }
def RS.make (S:RS)(c:Nat)(z:Int)(gaps:Zg):RS:=(S.grown c z gaps).keep c z S.q
noncomputable def RS.new (L:Nat)(gaps:Zg):RS:=⟨L,(1),[],[[]],[gaps],[0],[[0]],[]⟩
structure RS.Wf (S:RS):Prop where
 w:⇑S.ways=S.q
 g:⇑S.gaps=S.q
 e:⇑S.aU=S.q
 c:⇑S.called=S.q
section
variable {X:Cx}{e:Expr}{f:Str}{ta:TE}{pos:Pos}
def Oi (a:X.K=K)(b:PE X e ta)(c:attributeBase e f X.env (eval e X.env)=eval e X.env):PE X (.Attribute e f pos) (Qm K ta f):=by
 subst a;rwa[aH b c]
end
def m4 {J:It}{Q:VK}(n:Nat)(u:Nat->V)(R:Hp->V->Nat->Prop)(G:∀q b v i,aq q b->R q v i->R b v i)(p:n<=sizeLine)
 (l:∀(i:Nat) b,aq H b->i<n->J.go i b) (C:∀(i:Nat) (x:V) (b d:Hp),aq H b->i<n->J.lT i b x d->d=b/\x=u i) (g:∀b,aq H b->J.stop n b)
 (E:∀(i:Nat) (b:Hp) (y:VK),i<n->aq H b->(∀v d,aq b d->R d v i->y v d)->r (some (u i)::D) b y)
 (z:∀a b ys,aq H b->b a=none->⇑ys=n->(∀(i:Nat) (v:V),ys[i]?\v->R b v i)->Q ↑a (upd b a (.lst ys))):qR r D Q J H:=by
 erw[λi m ys b=>m=n - i/\i<=n/\⇑ys=i/\aq H b/\∀(j:Nat) (v:V),ys[j]?\v->R b v j,⟨n,by simp,ahd _,2,λ_ _ e=>e,λj v h=>by simp at h⟩];rintro i m ys b ⟨rfl,M,s,s2,t⟩;cases c:i<n
 ·rwa[.inr ⟨l i b s2 c,3,λx d k=>?_⟩];let⟨rfl,rfl⟩:=C i x b d s2 c k;rwa[E i _ _ c s2 λv L o F=>⟨n - (i+ 1),32,c,by rw[agF,s];rfl,s2.trans o,λj w f=>?_⟩]
  cases I:j<⇑ys
  ·rw[agN I]at f;rwa[G _ _ _ _ o (t j w f)]
  ·rw[agR ∅]at f
   let B:j - ⇑ys=0:=by
    have:=(agE.mp f).1;rw[ahP]at this;ext
   rw[B]at f;have:j=i:=∅
   subst this;rw[<-Za0 f];rwa[F]
 ·let e:i=n:=∅
  subst e;rwa[.inl ⟨g b s2,3,λa A=>z a b ys s2 A s t⟩]
theorem sX {P:Nat->Zs->Prop}:∀(ys:Zb) (k:Nat),(∀(i:Nat) (v:V),ys[i]?\v->∃p,v=↑p/\P (k+ i) p)->∃a:Zn,ys=a.map V.ref/\∀(i:Nat) (p:Zs),a[i]?\p->P (k+ i) p
 |[],_,_=>⟨[],2,λi p h=>by simp at h⟩
 |v::ys,k,h=>by
  let⟨p,rfl,f⟩:=h 0 v rfl
  let⟨a,rfl,b⟩:=sX (P:=P) ys (k+ 1) λi w c=>by
   let⟨q,e,d⟩:=h (i+ 1) w (by simpa using c)
   cbv
  rwa[⟨p::a,2,λi q d=>?_⟩]
  cases i with
  |zero=>cbv
  |succ i=>
   cbv
theorem jo {f:Str}{v:V}{n:Nat}:∀{fs:List (Str×V)},⇑fs<=n->⇑(bK f v fs)<=n+ 1
 |[],h=>by show 1<=n+ 1;ext
 |(g,x)::r,h=>by
  show ⇑(if g=f then (g,v)::r else (g,x)::bK f v r)<=n+ 1;rw[aha]at h;split
  ·rw[aha];ext
  ·have:=jo (f:=f) (v:=v) (n:=n - 1) (fs:=r) ∅;rw[aha];ext
def qj (K:Za1):PySem.W.kitOne K (.type "int") (.type "tuple")\false:=by first|rfl|kernel_rfl
def qX (K:Za1):PySem.W.kitOne K (.type "int") (.type "list")\false:=by first|rfl|kernel_rfl
def qY (K:Za1):PySem.W.kitOne K (.type "int") (.type "dict")\false:=by first|rfl|kernel_rfl
def qk (K:Za1):PySem.W.kitOne K (.type "str") (.type "tuple")\false:=by first|rfl|kernel_rfl
def qZ (K:Za1):PySem.W.kitOne K (.type "str") (.type "list")\false:=by first|rfl|kernel_rfl
def q9 (K:Za1):PySem.W.kitOne K (.type "str") (.type "dict")\false:=by first|rfl|kernel_rfl
theorem rh:∀{d:List DictEntry} {f:List (Key×Zt)} {c:List (Key×V)},Pairs (bQ P w) d f->KV c f->Vals (c.map λi=>kV i.1) (d.map (·.key))
 |[],_,_,.nil,r=>by ext r;rwa[.nil]
 |e::d,_,_,.cons g j h,r=>by
  cases r with
  |cons a b=>
   rw[ahW,ahW];rwa[.cons ?_ (rh h b)];rw[a.1];rwa[Od g]
theorem pairs_len:∀{b:List DictEntry} {a:List (Key×Zt)},Pairs (bQ P w) b a->⇑b=⇑a
 |_,_,.nil=>rfl
 |_,_,.cons _ _ h=>by rw[aha,aha,pairs_len h]
section
variable {X:Cx}
inductive Hf (xs:Zb) (H:Hp) (Q:VK):Prop
 |mk (d:Zs) (kvs:List (Key×V)):xs=[↑d]->H d\.dK kvs->(∀l,H l=none->Q ↑l (upd H l (.lst (kvs.map λkv=>kV kv.1))))->Hf xs H Q
def jM (O:X.calm=true):iV X (.type "list") Hf:=by
 intro w s U H S Y Q I r h;let⟨d,c,rfl,x,q⟩:=h;let⟨u,rfl,G⟩:=vals1 r;ext G;let⟨C,n,A,rel,o,g,W,E,k,e,R,t,V⟩:=sO I.aM x;let hlen:⇑c=⇑A:=⇑rel;let m:=pairs_len t;let D:g.size=⇑c:=by rw[<-aio,m,hlen]
 rwa[Dk.G6 (I.ok.hd O) n ⟨o,E,k,e⟩ ∅ λF z a y l f b=>?_]
 let N:a.toList=g.toList.map (·.key):=by
  rwa[aiF λi=>?_]
  rw[ajr,agY,ajr]
  cases j:a[i]? with
  |none=>
   let L:g.size<=i:=by
    let p:a.size<=i:=Array.getElem?_eq_none_iff.mp j;rw[b.1]at p;rwa[p]
   rw[aj8 L];rfl
  |some v=>
   let⟨T,M,rfl⟩:=b.2 i v j;rw[M];rfl
 let B:a=(g.toList.map (·.key)).toArray:=by rw[<-N]
 rw[B]at f;let j:=rh t rel;rwa[↑↥s,_,I.laid (t':=z) l (agJ _) (show bZ X.prog X.w _ F _ (.lst (c.map λJ=>kV J.1)) from ⟨[agH]▸C,_,y,j,f⟩),2,q _ (I.aM.fresh (agJ _))]
end
section
variable {C:Zs}{H:Hp}{r:Zs}{S:RS}{a:RA}
theorem ay.Ri (h:ay C H r S a){i:Nat}(v:i<⇑a.ws){q:Zs}{l:List (Int×Nat)}(d:H q\.dK (wK l))(w:q∉a.eA):ay C (upd H a.aW (.lst ((a.ws.map V.ref).set i ↑q))) r { S with ways:=S.ways.set i l } { a with ws:=a.ws.set i q }:=by
 let⟨D,g,n,G⟩:=h.jn (o:=.lst ((a.ws.map V.ref).set i ↑q)) (gb (a:=a));obtain⟨⟨n1,-⟩,⟨n2,E,F,B⟩,-,-,-,Q⟩:=vt h.iK;let k:upd H a.aW (.lst ((a.ws.map V.ref).set i ↑q)) q\(.dK (wK l)):=by rw[ak (bY d h.hW f!"")];rwa[d]
 let nd:=ahz.mp h.mn
 erw[D,g _ _ fZ n1 h.hR,5,g _ _ iW n2.symm h.hG,g _ _ gQ E.symm h.hE,g _ _ iD F.symm h.hC,g _ _ hX B.symm h.hN,h.rR.imp λq x _ f e=>e.fY G (h.flat x f),5,h.rG.imp λq x d _ e=>n _ _ (gu d) e,h.rC.imp λq x d _ e=>g _ _ (gq d) (Q q d).2.1 e,h.flat,h.iK]
 ·show upd H a.aW _ a.aW\.lst ((a.ws.set i q).map V.ref);rw[ah,List.map_set]
 ·rwa[⟨by show ⇑(a.ws.set i q)=⇑(S.ways.set i l);rw[ahb,ahb];rwa[h.rW.1],λj p x O L=>?_⟩];let b:(a.ws.set i q)[j]?\p:=O
  let c:(S.ways.set i l)[j]?\x:=L
  cases z:i=j
  ·subst z;rw[ahA v]at b;rw[ahA (by rw[<-h.rW.1];rwa[v])]at c;obtain rfl:=Za0 b;obtain rfl:=Za0 c;rwa[k]
  ·rw[ah2 z]at b c;rwa[n _ _ (dw (agC b)) (h.rW.2 j p x b c)]
 ·show (a.ws.set i q++a.gs).Nodup;let M:q∉a.ws:=λz=>w (ag6 _ z)
  let s:q∉a.gs:=λz=>w (agL _ z)
  rwa[ahz.mpr ⟨5,nd.2.1,λx f y u z=>?_⟩]
  ·have:∀(l:Zn) (i:Nat),l.Nodup->q∉l->(l.set i q).Nodup:=by
    intro l
    induction l with
    |nil=>intro i _ _;simp
    |cons x l P=>
     intro i I m;let⟨N,t⟩:=ahk.mp I;let J:q≠x:=λz=>m ([z]▸agP)
     let A:q∉l:=λz=>m (ag4 _ z)
     cases i with
     |zero=>exact ahk.mpr ⟨A,t⟩
     |succ i=>
      rwa[ahk.mpr ⟨λz=>?_,P i t A⟩];rcases aiV z with z|z
      ·rwa[N z]
      ·rwa[J z.symm]
   rwa[this a.ws i nd.1 M]
  ·rcases aiV f with f|f
   ·rwa[nd.2.2 x f y u z]
   ·rw[<-f,z]at s;rwa[s u]
end
def Oj (l:List (Int×Nat))(s:Int):fe (wK l) (Sum.inl s)=wK (l.filter λp=>decide (p.1≠s)):=by
 unfold fe wK;rw[List.filter_map]
 congr 1
 rwa[ajF λx _=>?_]
 cbv
def Hg (l:List (Int×Nat))(s t:Int):fx (l.filter λp=>decide (p.1≠s)) t=if t=s then none else fx l t:=by
 induction l with
 |nil=>split <;> rfl
 |cons p l a=>
  let b:∀(q:Int×Nat) (m:List (Int×Nat)),fx (q::m) t=if q.1=t then some q.2 else fx m t:=λq m=>by
   unfold fx
   cbv
  cbv
abbrev Way:=Nat×Int×Nat
abbrev Ze:=List Way
def RS.aw (S:RS)(c:Nat):Nat:=S.aU.getD c 0
def RS.cj (S:RS)(c:Nat):Zh:=S.called.getD c []
noncomputable def hH (c:Nat)(z:Int)(x y:Nat):Dt:=.t [.s [109,101,101,116],.i c,.i z,.i x,.i y]
def RS.joined (S:RS)(c:Nat)(z:Int)(x y:Nat):RS:=
 { S with rows:=S.rows++[hH c z x y],aY:=S.aY++[y],aU:=(S.cj y).foldl (λa n=>a.set n x) S.aU,called:=S.called.set x (S.cj x++S.cj y) }
def RS.oD (S:RS)(c:Nat)(z:Int):RS:=S.j5 c ((S.way c).filter λp=>decide (p.1≠z))
def jq (c:Nat)(st:RS×Ze)(p:Int×Nat):RS×Ze:=(if p.2≠c then st.1.oD p.2 (-p.1) else st.1,st.2++[(c,p.1,p.2)])
def RS.oE (S:RS)(c:Nat)(a:Ze):RS×Ze:=(S.way c).foldl (jq c) (S.j5 c [],a)
def RS.meet (S:RS)(c:Nat)(z:Int)(x y:Nat)(a:Ze):RS×Ze:=(S.joined c z (min x y) (max x y)).oE (max x y) a
def RS.takeIn (S:RS)(a:Ze)(w:Way):RS×Ze:=
 if (S.by (S.aw w.1) w.2.1).getD (S.aw w.2.2)≠S.aw w.2.2 then S.meet (S.aw w.1) w.2.1 ((S.by (S.aw w.1) w.2.1).getD (S.aw w.2.2)) (S.aw w.2.2) a
 else if (S.by (S.aw w.2.2) (-w.2.1)).getD (S.aw w.1)≠S.aw w.1 then S.meet (S.aw w.2.2) (-w.2.1) ((S.by (S.aw w.2.2) (-w.2.1)).getD (S.aw w.1)) (S.aw w.1) a
 else (S.keep (S.aw w.1) w.2.1 (S.aw w.2.2),a)
structure Fv (S:RS) (c:Nat):Prop where
 nd:((S.way c).map (·.1)).Nodup
 lt:∀q∈S.way c,q.2<S.q
 bk:∀q∈S.way c,q.2≠c->(S.by q.2 (-q.1)).isSome=true
def i9 {l:List (Int×Nat)}(a:n<⇑S.ways):(S.j5 n l).way m=if m=n then l else S.way m:=by
 unfold RS.j5 RS.way
 cbv
def jr (a:n<⇑S.ways):(S.cf n z i).by m y=if m=n/\y=z then some i else S.by m y:=by
 unfold RS.cf RS.by;rw[i9 a];cases h:m=n
 ·subst h;rw[ag8 rfl,J0]
  cbv
 cbv
def Fw (a:n<⇑S.ways):(S.oD n z).by m y=if m=n/\y=z then none else S.by m y:=by
 unfold RS.oD RS.by;rw[i9 a];cases h:m=n
 ·subst h;rw[ag8 rfl,Hg]
  cbv
 ·rw[ag3 h,ag3 (λq=>h q.1)]
def Ol {l:List (Int×Nat)}(a:n<⇑S.ways):(S.j5 n l).by m z=if m=n then fx l z else S.by m z:=by
 unfold RS.by;rw[i9 a];split <;> rfl
def cV (c:Nat)(S:RS)(a:Ze)(b:List (Int×Nat)):RS×Ze:=b.foldl (jq c) (S.j5 c [],a)
def ik (c:Nat)(S:RS)(a:Ze)(b:List (Int×Nat))(p:Int×Nat):cV c S a (b++[p])=jq c (cV c S a b) p:=by unfold cV;cbv
def snoc_ind {b:Type}{P:List b->Prop}(f:P [])(d:∀l x,P l->P (l++[x])):∀l,P l:=λl=>by
 have:∀n (l:List b),⇑l=n->P l:=by
  intro n
  induction n with
  |zero=>cbv
  |succ n c=>
   intro l e;let a:l≠[]:=λz=>by rw[z]at e;ext e
   rw[<-aiB a];rwa[d^(c _ (by rw[List.length_dropLast];omega))]
 rwa[this _ l rfl]
def yy (c:Nat)(S:RS)(a:Ze):∀b:List (Int×Nat),(cV c S a b).2=a++b.map λp=>(c,p.1,p.2):=by
 rwa[snoc_ind (by simp[cV]) λb p d=>?_]
 rw[ik];show (cV c S a b).2++_=_
 cbv
def gM (c:Nat)(S:RS)(a:Ze):∀b:List (Int×Nat),(cV c S a b).1.ways.length=⇑S.ways/\(cV c S a b).1={ S with ways:=(cV c S a b).1.ways }:=by
 rwa[snoc_ind ⟨by simp[cV,RS.j5],2⟩ λb p d=>?_]
 rw[ik];unfold jq;cases h:p.2≠c
 ·simp only[h,akc,ai7,ne_eq];erw[5]
  ·show ⇑(List.set^_)=_;rw[ahb];rwa[d.1]
  ·unfold RS.oD RS.j5;rw[d.2]
 ·simp only[h,ajE];rwa[d]
def xB {c:Ze}(m:n<⇑S.ways):∀f:List (Int×Nat),(∀q∈f,q.2<⇑S.ways)->∀d z,(cV n S c f).1.by d z=if d=n\/∃q∈f,q.2=d/\z= -q.1 then none else S.by d z:=by
 rwa[snoc_ind (λ_ d z=>?_) λf p l i d z=>?_]
 ·show (S.j5 n []).by d z=_;rw[Ol m];cases h:d=n
  ·rw[ag8 h,ag8 (.inl h)];rfl
  cbv
 ·let g:=l (λq a=>i q (ag6 _ a)) d z;let j:=i p (agL _ agP);rw[ik];unfold jq;cases h:p.2≠n
  ·simp only[h,akc,ai7,ne_eq];rw[Fw ([(gM n S c f).1]▸j),g];cases e:d=p.2/\z= -p.1
   ·rw[ag8 e,ag8 (.inr ⟨p,agL _ agP,e.1.symm,e.2⟩)]
   ·rw[ag3 e];cases b:d=n\/∃q∈f,q.2=d/\z= -q.1
    ·rw[ag8 b,ag8 (b.imp id λζ=>by let⟨q,a,r⟩:=ζ;rwa[⟨q,ag6 _ a,r⟩])]
    ·rw[ag3 b,ag3];rintro (q|⟨q,a,r⟩)
     ·rwa[b (.inl q)]
     ·rcases agS.mp a with a|a
      ·rwa[b (.inr ⟨q,a,r⟩)]
      ·rw[agK.mp a]at r;rwa[e ⟨r.1.symm,r.2⟩]
  ·simp only[h,ajE];rw[g];let k:p.2=n:=ajG.mp h;cases b:d=n\/∃q∈f,q.2=d/\z= -q.1
   ·rw[ag8 b,ag8 (b.imp id λζ=>by let⟨q,a,r⟩:=ζ;rwa[⟨q,ag6 _ a,r⟩])]
   ·rw[ag3 b,ag3];rintro (q|⟨q,a,r⟩)
    ·rwa[b (.inl q)]
    ·rcases agS.mp a with a|a
     ·rwa[b (.inr ⟨q,a,r⟩)]
     ·rw[agK.mp a]at r;rwa[b (.inl (r.1.symm.trans k))]
inductive Cg (R:Za2):Nat->Nat->Prop where
 |refl (a:Nat):Cg R a a
 |symm {a b:Nat}:Cg R a b->Cg R b a
 |trans {a b c:Nat}:Cg R a b->Cg R b c->Cg R a c
 |step {a a' b b':Nat} {z:Int}:R a z b->R a' z b'->Cg R a a'->Cg R b b'
def Cg.mono {e:Za2}(h:∀a z b,R a z b->e a z b){a b:Nat}(c:Cg R a b):Cg e a b:=by
 induction c with
 |refl=>exact .refl _
 |symm _ d=>exact .symm d
 |trans _ _ f g=>exact .trans f g
 |step r1 r2 _ d=>exact .step (h _ _ _ r1) (h _ _ _ r2) d
def Im (S:RS)(R:Za2)(c:Nat)(z:Int)(d:Nat):Prop:=∃a b,R a z b/\S.aw a=c/\S.aw b=d
def yz (S:RS)(a:Ze)(c:Nat)(z:Int)(d:Nat):Prop:=S.by c z=some d\/∃w∈a,(S.aw w.1=c/\w.2.1=z/\S.aw w.2.2=d)\/(S.aw w.1=d/\w.2.1= -z/\S.aw w.2.2=c)
structure Good (S:RS) (pend:Ze) (R:Za2):Prop where
 wf:S.Wf
 el:∀c,c<S.q->S.aw c<=c/\S.aw (S.aw c)=S.aw c
 ca:∀e,e<S.q->S.aw e=e->∀c,c∈S.cj e↔c<S.q/\S.aw c=e
 cb:∀e c,c∈S.cj e->c<S.q
 cn:∀e,(S.cj e).Nodup
 kn:∀c,((S.way c).map (·.1)).Nodup
 st:∀c z d,S.by c z=some d->c<S.q/\d<S.q/\S.aw c=c/\S.aw d=d
 sy:∀c z d,S.by c z=some d->S.by d (-z)=some c
 pl:∀w∈pend,w.1<S.q/\w.2.2<S.q
 rl:∀c z d,R c z d->c<S.q/\d<S.q/\R d (-z) c
 cv:∀c z d,R c z d->yz S pend (S.aw c) z (S.aw d)
 so:∀c z d,S.by c z=some d->Im S R c z d
 sp:∀w∈pend,Im S R (S.aw w.1) w.2.1 (S.aw w.2.2)
 cg:∀c,c<S.q->Cg R c (S.aw c)
section
variable {S:RS}{pend:Ze}{R:Za2}
def Good.lt (h:Good S pend R){c:Nat}(hc:c<S.q):S.aw c<S.q:=agO (h.el c hc).1 hc
def Im.back (h:Good S pend R){c d:Nat}{z:Int}(i:Im S R c z d):Im S R d (-z) c:=by
 let⟨b,e,r,a,f⟩:=i;rwa[e,b,(h.rl _ _ _ r).2.2,f,a]
def Good.must (h:Good S pend R){c x y:Nat}{z:Int}(i:Im S R c z x)(j:Im S R c z y):Cg R x y:=by
 let⟨p,n,r1,e,l⟩:=i;let⟨m,o,r2,f1,d⟩:=j;let⟨g,l2,_⟩:=h.rl _ _ _ r1;let⟨k,f,_⟩:=h.rl _ _ _ r2;let a1:=h.cg _ g;let a2:=h.cg _ l2;let a:=h.cg _ k;let b:=h.cg _ f;rw[e]at a1;rw[l]at a2;rw[f1]at a;rw[d]at b;rwa[a2.symm.trans ((Cg.step r1 r2 (a1.trans a.symm)).trans b)]
def Good.keep (h:Good S pend R){c d:Nat}{z:Int}(hc:c<S.q)(hd:d<S.q)(B:S.aw c=c)(ed:S.aw d=d)(i:Im S R c z d)(I:S.by c z=none\/S.by c z=some d)(G:S.by d (-z)=none\/S.by d (-z)=some c){f:Ze}(v:∀w∈f,w∈pend)
 (A:∀w∈pend,w∉f->S.aw w.1=c/\w.2.1=z/\S.aw w.2.2=d):Good (S.keep c z d) f R:=by
 let o:c<⇑S.ways:=by rw[h.wf.w];rwa[hc]
 let n:d<⇑S.ways:=by rw[h.wf.w];rwa[hd]
 let k:∀a s,(S.keep c z d).by a s=if a=d/\s= -z then some c else if a=c/\s=z then some d else S.by a s:=λa s=>by
  show ((S.cf c z d).cf d (-z) c).by a s=_;rw[jr (by show d<⇑(S.ways.set c _);rw[ahb];rwa[n]),jr o]
 let old:∀a s b,S.by a s=some b->(S.keep c z d).by a s=some b:=λa s b e=>by
  rw[k];cases g:a=d/\s= -z
  ·rw[ag8 g];let⟨rfl,rfl⟩:=g;rcases G with q|q <;> rw[q]at e <;> ext e
   rfl
  ·rw[ag3 g];cases j:a=c/\s=z
   ·rw[ag8 j];let⟨rfl,rfl⟩:=j;rcases I with q|q <;> rw[q]at e <;> ext e
    rfl
   ·rw[ag3 j];rwa[e]
 let el:∀a,(S.keep c z d).aw a=S.aw a:=λa=>rfl
 let new:∀a s b,(S.keep c z d).by a s=some b->(a=d/\s= -z/\b=c)\/(a=c/\s=z/\b=d)\/S.by a s=some b:=λa s b e=>by
  rw[k]at e;cases g:a=d/\s= -z
  ·rw[ag8 g]at e;rwa[.inl ⟨g.1,g.2,(Za0 e).symm⟩]
  ·rw[ag3 g]at e;cases j:a=c/\s=z
   ·rw[ag8 j]at e;rwa[.inr (.inl ⟨j.1,j.2,(Za0 e).symm⟩)]
   ·rw[ag3 j]at e;rwa[.inr (.inr e)]
 let m:(S.keep c z d).by d (-z)=some c:=by rw[k,ag8 ⟨22⟩]
 let put2:(S.keep c z d).by c z=some d:=by
  rw[k];cases g:c=d/\z= -z
  ·rw[ag8 g,g.1]
  ·rw[ag3 g,ag8 ⟨22⟩]
 let t:∀(l:List (Int×Nat)) (s:Int) (r:Nat),(l.map (·.1)).Nodup->((iP l s r).map (·.1)).Nodup:=λl s r C=>by
  unfold iP;split
  ·rw[ahw]
   have:((λx:Int×Nat=>x.1) ∘ λp:Int×Nat=>if p.1=s then (p.1,r) else p)=λx=>x.1:=by
    funext p
    show (if p.1=s then (p.1,r) else p).1=p.1;split <;> rfl
   rw[this];rwa[C]
  ·rename_i q;rw[ahi];rwa[ahz.mpr ⟨C,by simp,λa L b H e=>q ?_⟩];let⟨p,v,rfl⟩:=ahu.mp L;have:b=s:=by simpa using H
   rwa[List.any_eq_true.mpr ⟨p,v,ahh (e.trans this)⟩]
 rwa[⟨⟨55,h.wf.e,h.wf.c⟩,h.el,h.ca,h.cb,h.cn,λa=>?_,λa s b e=>?_,λa s b e=>?_,λw u=>h.pl w (v w u),h.rl,λa s b r=>?_,λa s b e=>?_,λw u=>h.sp w (v w u),h.cg⟩]
 ·show ⇑((List.set^_).set _ _)=S.q;rw[ahb,ahb];rwa[h.wf.w]
 ·show ⇑((List.set^_).set _ _)=S.q;rw[ahb,ahb];rwa[h.wf.g]
 ·show ((((S.cf c z d).cf d (-z) c).way a).map (·.1)).Nodup;unfold RS.cf;rw[i9 (by show d<⇑(S.ways.set c _);rw[ahb];rwa[n])]
  let k1:∀a,(((S.j5 c (iP (S.way c) z d)).way a).map (·.1)).Nodup:=λa=>by
   rw[i9 o];split
   ·rwa[t _ _ _ (h.kn c)]
   ·rwa[h.kn a]
  split
  ·rwa[t _ _ _ (k1 d)]
  ·rwa[k1 a]
 ·rcases new a s b e with ⟨rfl,rfl,rfl⟩|⟨rfl,rfl,rfl⟩|e
  ·rwa[⟨hd,hc,ed,B⟩]
  ·rwa[⟨hc,hd,B,ed⟩]
  ·rwa[h.st a s b e]
 ·rcases new a s b e with ⟨rfl,rfl,rfl⟩|⟨rfl,rfl,rfl⟩|e
  ·rw[aiq];rwa[put2]
  ·rwa[m]
  ·rwa[old _ _ _ (h.sy _ _ _ e)]
 ·rcases h.cv a s b r with q|⟨w,u,q⟩
  ·rwa[.inl (old _ _ _ q)]
  ·cases E:w∈f
   ·rwa[.inr ⟨w,E,q⟩]
   ·let⟨f1,D,F⟩:=A w u E;rwa[.inl ?_];show (S.keep c z d).by (S.aw a) s=some (S.aw b);rcases q with ⟨g,j,y⟩|⟨g,j,y⟩
    ·rw[<-g,<-j,<-y,f1,D,F];rwa[put2]
    ·let J:s= -z:=by rw[<-D,j,aiq]
     rw[<-g,<-y,f1,F,J];rwa[m]
 ·rcases new a s b e with ⟨rfl,rfl,rfl⟩|⟨rfl,rfl,rfl⟩|e
  ·rwa[Im.back h i]
  ·rwa[i]
  ·rwa[h.so a s b e]
end
theorem Ax (x:Nat):∀(l b:Zh) (a:Nat),(∀n∈l,n<⇑b)->(l.foldl (λb n=>b.set n x) b).getD a 0=if a∈l then x else b.getD a 0
 |[],b,a,_=>by simp
 |n::l,b,a,h=>by
  rw[List.foldl_cons,Ax x l (b.set n x) a (λm c=>[ahb]▸h m (ag4 _ c))]
  cbv
theorem yA (x:Nat):∀(l a:Zh),⇑(l.foldl (λa n=>a.set n x) a)=⇑a
 |[],_=>rfl
 |n::l,a=>by rw[List.foldl_cons,yA x l,ahb]
def ri {l:List (Int×Nat)}(h:fx l z\n):(z,n)∈l:=by
 let⟨q,a,rfl⟩:=ahU.mp h
 cbv
def jt {l:List (Int×Nat)}(a:(l.map (·.1)).Nodup){q:Int×Nat}(h:q∈l):fx l q.1\q.2:=by
 induction l with
 |nil=>ext h
 |cons p l b=>
  unfold fx;rw[ahW,ahk]at a;cases e:p.1=q.1
  ·cbv
  ·rw[ajn (by simpa using e)];rcases agW.mp h with rfl|h
   ·rwa[absurd rfl e]
   ·rwa[b a.2 h]
theorem lF:∀(n:Nat) (l:Zh),l.Nodup->(∀x∈l,x<n)->⇑l<=n
 |0,[],_,_=>agJ _
 |0,a::l,_,h=>absurd (h a (agP ..)) ∅
 |n+ 1,l,b,h=>by
  cases c:n∈l
  ·have:=lF n (l.erase n) (b.erase n) (λx d=>by
    cbv)
   rw[ai8 c]at this;ext
  ·have:=lF n l b (λx d=>by
    cbv)
   ext
theorem rj:∀(k l:Zg),l.Nodup->(∀x∈l,x∈k)->⇑l<=⇑k
 |[],[],_,_=>agJ _
 |[],a::l,_,h=>by have:=h a agP;cbv
 |y::k,l,b,h=>by
  cases c:y∈l
  ·have:=rj k (l.erase y) (b.erase y) (λx d=>by
    cbv)
   rw[ai8 c]at this;rw[aha];ext
  ·have:=rj k l b (λx d=>by
    cbv)
   rw[aha];ext
def Om {pend:Ze}(i:n<⇑S.ways)(e:∀a,((S.way a).map (·.1)).Nodup):∀c:List (Int×Nat),(∀q∈c,q.2<⇑S.ways)->∀a,(((cV n S pend c).1.way a).map (·.1)).Nodup:=by
 rwa[snoc_ind (λ_ a=>?_) λc p g d a=>?_]
 ·show (((S.j5 n []).way a).map (·.1)).Nodup;rw[i9 i];split
  ·rwa[ais]
  ·rwa[e a]
 ·let b:=g (λq f=>d q (ag6 _ f));rw[ik];unfold jq;cases h:p.2≠n
  ·simp only[h,akc,ai7,ne_eq];unfold RS.oD;rw[i9 ([(gM n S pend c).1]▸d p (agL _ agP))];split
   ·rwa[List.Nodup.sublist (List.Sublist.map _ aiJ) (b p.2)]
   ·rwa[b a]
  ·simp only[h,ajE];rwa[b a]
section
variable {S:RS}{pend:Ze}{R:Za2}
def yz.back (h:Good S pend R){b:RS}{a:Ze}(sy:∀c z d,b.by c z=some d->b.by d (-z)=some c){c d:Nat}{z:Int}(i:yz b a c z d):yz b a d (-z) c:=by
 rcases i with q|⟨w,j,q⟩
 ·rwa[.inl (sy _ _ _ q)]
 ·rwa[.inr ⟨w,j,?_⟩];rcases q with ⟨e,g,f⟩|⟨e,g,f⟩
  ·rwa[.inr ⟨e,by rw[g,aiq],f⟩]
  ·rwa[.inl ⟨e,g,f⟩]
def Good.meet (h:Good S pend R){c x y:Nat}{z:Int}(Y:S.by c z=some x)(hy:y<S.q)(ey:S.aw y=y)(hxy:x≠y)(iy:Im S R c z y){d:Ze}(hp:∀w∈d,w∈pend)
 (hcv:∀w∈pend,w∉d->(S.aw w.1=c/\w.2.1=z/\S.aw w.2.2=y)\/(S.aw w.1=y/\w.2.1= -z/\S.aw w.2.2=c)):
 Good (S.meet c z x y d).1 (S.meet c z x y d).2 R/\(∀a,(S.meet c z x y d).1.aw a=if S.aw a=max x y then min x y else S.aw a)/\(S.meet c z x y d).2=d++(S.way (max x y)).map (λp=>(max x y,p.1,p.2)):=by
 let⟨hc,hxm,ec,ex⟩:=h.st _ _ _ Y;let A:Cg R x y:=h.must (h.so _ _ _ Y) iy;let Q:min x y<S.q:=∅
 let F:max x y<S.q:=∅
 let J:min x y<max x y:=∅
 let T:S.aw (min x y)=min x y:=by rcases aiS x y with q|q;rw[ajz ∅];rwa[ex];rw[ajN ∅];rwa[ey]
 let N:S.aw (max x y)=max x y:=by rcases aiS x y with q|q;rw[akj ∅];rwa[ey];rw[aj3 ∅];rwa[ex]
 let L:x=min x y\/x=max x y:=∅
 let H:y=min x y\/y=max x y:=∅
 let j:Cg R (max x y) (min x y):=by
  rcases aiS x y with q|q
  ·rw[akj (by omega),ajz (by omega)];rwa[A.symm]
  ·rw[aj3 ∅,ajN ∅];rwa[A]
 unfold RS.meet;change max x y=v at F J N L H j ⊢;change min x y=u at Q J T L H j ⊢;let I:v<⇑S.ways:=by rw[h.wf.w];rwa[F]
 let O:∀q∈S.way v,q.2<⇑S.ways:=λq E=>by
  rw[h.wf.w];rwa[(h.st v q.1 q.2 (jt (h.kn v) E)).2.1]
 let hP:((S.joined c z u v).oE v d)=cV v (S.joined c z u v) d (S.way v):=rfl;rw[hP];let rest:=gM v (S.joined c z u v) d (S.way v);let byJ:∀a s,(S.joined c z u v).by a s=S.by a s:=λa s=>rfl
 let Rj:∀a s,(cV v (S.joined c z u v) d (S.way v)).1.by a s=if a=v\/S.by a s=some v then none else S.by a s:=λa s=>by
  rw[xB (S:=S.joined c z u v) I _ O,byJ]
  have:(a=v\/∃q∈S.way v,q.2=a/\s= -q.1)↔(a=v\/S.by a s=some v):=by
   rwa[or_congr Iff.rfl ⟨5,λe=>?_⟩]
   ·rintro ⟨q,E,rfl,rfl⟩;rwa[h.sy _ _ _ (jt (h.kn v) E)]
   ·have:=ri (h.sy _ _ _ e);rwa[_,this,2,(aiq s).symm]
  simp only[this]
 let o:(cV v (S.joined c z u v) d (S.way v)).2=d++(S.way v).map λp=>(v,p.1,p.2):=yy _ _ _ _
 let G:=Om (S:=S.joined c z u v) (pend:=d) I h.kn (S.way v) O
 let heq:∀a,(cV v (S.joined c z u v) d (S.way v)).1.aw a=if S.aw a=v then u else S.aw a:=λa=>by
  rw[rest.2];show ((S.cj v).foldl (λD n=>D.set n u) S.aU).getD a 0=_;rw[Ax u _ _ _ (λn hn=>[h.wf.e]▸h.cb v n hn)];cases i:a<S.q
  ·have:=h.ca v F N a;cases e:S.aw a=v
   ·cbv
   ·rw[ag3 (λq=>e (this.mp q).2),ag3 e];rfl
  ·let P:S.aw a=0:=by unfold RS.aw;rw[agM,aho (by rw[h.wf.e];omega)];rfl
   rw[ag3 (λq=>i (h.cb v a q)),ag3 ∅];rfl
 let k:∀e,(cV v (S.joined c z u v) d (S.way v)).1.cj e=if e=u then S.cj u++S.cj v else S.cj e:=λe=>by
  rw[rest.2];show (S.called.set u (S.cj u++S.cj v)).getD e []=_;rw[agM];cases q:e=u
  ·subst q;rw[ahA ([h.wf.c]▸Q),ag8 rfl];rfl
  ·rw[ah2 (ahZ q),ag3 q];unfold RS.cj;cbv
 let f:(cV v (S.joined c z u v) d (S.way v)).1.q=S.q:=by rw[rest.2];rfl
 let M:(cV v (S.joined c z u v) d (S.way v)).1.Wf:=by
  erw[[rest.1,f]▸h.wf.w,55]
  ·rw[rest.2];rwa[h.wf.g]
  ·rw[rest.2];show ⇑((S.cj v).foldl (λD n=>D.set n u) S.aU)=S.q;rw[yA];rwa[h.wf.e]
  ·rw[rest.2];show ⇑(S.called.set u (S.cj u++S.cj v))=S.q;rw[ahb];rwa[h.wf.c]
 change (cV v (S.joined c z u v) d (S.way v)).2=P2 at o ⊢;change (cV v (S.joined c z u v) d (S.way v)).1=g at rest Rj G heq k f M ⊢;rwa[⟨5,heq,o⟩]
 let bo:∀a s b,g.by a s=some b↔S.by a s=some b/\a≠v/\b≠v:=λa s b=>by
  cbv
 let nv2:∀a,g.aw (S.aw a)=g.aw a:=λa=>by
  rw[heq,heq];cases i:a<S.q
  ·rw[(h.el a i).2]
  ·let P:∀a,¬a<S.q->S.aw a=0:=λa i=>by unfold RS.aw;rw[agM,aho (by rw[h.wf.e];omega)];rfl
   rw[P a i];have:S.aw 0=0:=by have:=(h.el 0 ∅).1;ext
   rw[this]
 let l:∀{a b},S.aw a=S.aw b->g.aw a=g.aw b:=λ{a b} e=>by cbv
 let C:∀a s b,g.by a s=some b->g.by b (-s)=some a:=λa s b e=>by
  rw[bo]at e ⊢;rwa[h.sy _ _ _ e.1,e.2.2,e.2.1]
 let std:∀{a},S.aw a=a->g.aw a=if a=v then u else a:=λ{a} e=>by rw[heq,e]
 let kept:∀p s q,S.by p s=some q->yz g P2 (g.aw p) s (g.aw q):=λp s q e=>by
  let⟨lp,lq,ep,eq⟩:=h.st _ _ _ e;cases h1:p=v
  ·rwa[.inr ⟨(v,s,q),5,.inl ⟨by rw[h1],22⟩⟩];rw[o];rw[h1]at e;rwa[agL _ (ahu.mpr ⟨(s,q),ri e,2⟩)]
  ·cases h2:q=v
   ·rwa[.inr ⟨(v,-s,p),5,.inr ⟨by rw[h2],22⟩⟩];rw[o];let e':=h.sy _ _ _ e;rw[h2]at e';rwa[agL _ (ahu.mpr ⟨(-s,p),ri e',2⟩)]
   ·rwa[.inl ?_]
    cbv
 let eu2:g.aw u=u:=by rw[std T,ag3 ∅]
 let V:g.aw v=u:=by rw[std N,ag8 rfl]
 let exy:g.aw x=g.aw y:=by
  let t:g.aw x=u:=by cbv
  let m:g.aw y=u:=by cbv
  rw[t,m]
 let imq:∀{a b s},Im S R (S.aw a) s (S.aw b)->Im g R (g.aw a) s (g.aw b):=λ{a b s} ζ=>by let⟨a',b',r,e1,e2⟩:=ζ;rwa[⟨a',b',r,l e1,l e2⟩]
 rwa[⟨M,λa i=>?_,λe he ee a=>?_,λe a i=>?_,λe=>?_,G,λa s b e=>?_,C,λw hw=>?_,λa s b r=>?_,λa s b r=>?_,λa s b e=>?_,λw hw=>?_,λa i=>?_⟩]
 ·rw[f]at i;let⟨U,l2⟩:=h.el a i;rw[heq]
  cbv
 ·rw[f]at he ⊢;rw[k];let nev:e≠v:=λz=>by rw[z,V]at ee;ext
  cases q:e=u
  ·subst q;rw[ag8 rfl,agS,h.ca _ Q T,h.ca v F N,heq]
   cbv
  ·rw[ag3 q]
   let P:S.aw e=e:=by
    rw[heq]at ee;cases B:S.aw e=v
    ·cbv
    ·cbv
   rw[h.ca e he P,heq]
   cbv
 ·rw[f];rw[k]at i;split at i
  ·rcases agS.mp i with i|i
   ·rwa[h.cb^i]
   ·rwa[h.cb^i]
  ·rwa[h.cb^i]
 ·rw[k];split
  ·rwa[ahz.mpr ⟨h.cn _,h.cn _,λa i b hb e=>?_⟩];let t:=((h.ca _ Q T a).mp i).2;let m:=((h.ca v F N b).mp hb).2;rw[e,m]at t;ext
  ·rwa[h.cn _]
 ·rw[bo]at e;let⟨U,l2,W,X⟩:=h.st _ _ _ e.1;rwa[[f]▸U,[f]▸l2,by rw[std W,ag3 e.2.1],by rw[std X,ag3 e.2.2]]
 ·rw[f];rw[o]at hw;rcases agS.mp hw with hw|hw
  ·rwa[h.pl w (hp w hw)]
  ·let⟨q,E,rfl⟩:=ahu.mp hw;rwa[F,(h.st v q.1 q.2 (jt (h.kn v) E)).2.1]
 ·rw[f];rwa[h.rl a s b r]
 ·rcases h.cv a s b r with q|⟨w,hw,q⟩
  ·cbv
  ·cases hm:w∈d
   ·rwa[.inr ⟨w,by cbv,?_⟩];rcases q with ⟨t,m,B⟩|⟨t,m,B⟩
    ·rwa[.inl ⟨l t,m,l B⟩]
    ·rwa[.inr ⟨l t,m,l B⟩]
   ·let base:yz g P2 (g.aw c) z (g.aw y):=by rw[<-exy];rwa[kept _ _ _ Y]
    let one:∀{p q:Nat},S.aw p=c->S.aw q=y->g.aw p=g.aw c/\g.aw q=g.aw y:=λ{p q} e1 e2=>⟨by cbv,by cbv⟩
    rcases hcv w hw hm with ⟨f1,Z,f3⟩|⟨f1,Z,f3⟩
    ·rcases q with ⟨t,m,B⟩|⟨t,m,B⟩
     ·cbv
     ·let⟨g1,g2⟩:=one (t.symm.trans f1) (B.symm.trans f3);let D:s= -z:=by rw[<-Z,m,aiq]
      rw[g1,g2,D];rwa[yz.back h C base]
    ·rcases q with ⟨t,m,B⟩|⟨t,m,B⟩
     ·let⟨g1,g2⟩:=one (B.symm.trans f3) (t.symm.trans f1);let D:s= -z:=by rw[<-m,Z]
      rw[g1,g2,D];rwa[yz.back h C base]
     cbv
 ·rw[bo]at e;let⟨U,l2,W,X⟩:=h.st _ _ _ e.1;have:=h.so _ _ _ e.1
  cbv
 ·rw[o]at hw;rcases agS.mp hw with hw|hw
  ·rwa[imq (h.sp w (hp w hw))]
  ·let⟨q,E,rfl⟩:=ahu.mp hw;let e:=jt (h.kn v) E;let⟨U,l2,W,X⟩:=h.st v q.1 q.2 e;have:=h.so _ _ _ e
   cbv
 ·rw[f]at i;rw[heq];split
  ·rename_i q;have:=h.cg a i;rw[q]at this;rwa[this.trans j]
  ·rwa[h.cg a i]
end
def RS.stand (S:RS):Nat:=(List.range S.q).countP λc=>decide (S.aw c=c)
theorem lG {p p':Nat->Bool}{v:Nat}(h:∀a,p' a=(p a && decide (a≠v)))(b:p v=true):∀n,(List.range n).countP p'+ (if v<n then 1 else 0)=(List.range n).countP p
 |0=>rfl
 |n+ 1=>by
  let c:=lG h b n;rw[ahR,List.countP_append,List.countP_append,<-c];rw[List.countP_singleton,List.countP_singleton,h n];cases e:n=v
  ·subst e;rw[b,ag3 (ahV n),ag8 (ah6 n)];simp
  ·have:decide (n≠v)=true:=ahh e;rw[this,Bool.and_true];let d:(v<n+ 1)=(v<n):=propext ⟨λ_=>∅,λ_=>∅⟩;simp only[d];ext
def mu (k:Nat)(S:RS)(pend:Ze):Nat:=S.stand* (k+ 1)+ ⇑pend
section
variable {S:RS}{pend:Ze}{R:Za2}{w:Way}{ks:Zg}
def Good.Hh (h:Good S pend R)(e:∀c z d,R c z d->z∈ks)(c:Nat):⇑(S.way c)<=⇑ks:=by
 have:=rj ks ((S.way c).map (·.1)) (h.kn c) (λx g=>by
  let⟨q,f,rfl⟩:=ahu.mp g;let⟨a,b,r,_⟩:=h.so c q.1 q.2 (jt (h.kn c) f);rwa[e _ _ _ r])
 rw[agH]at this;rwa[this]
def Good.Rk (h:Good S pend R)(c:Nat):⇑(S.cj c)<=S.q:=lF _ _ (h.cn c) λx a=>h.cb c x a
def Good.take (h:Good S (pend++[w]) R)(L:∀c z d,R c z d->z∈ks):Good (S.takeIn pend w).1 (S.takeIn pend w).2 R/\mu ⇑ks (S.takeIn pend w).1 (S.takeIn pend w).2<mu ⇑ks S (pend++[w])/\(S.takeIn pend w).1.q=S.q/\(S.takeIn pend w).1.L=S.L/\
 ((S.takeIn pend w).1.stand=S.stand/\(S.takeIn pend w).1.rows=S.rows/\(S.takeIn pend w).1.aY=S.aY\/(S.takeIn pend w).1.stand+ 1=S.stand/\∃c z x y,S.by c z=some x/\Im S R c z y/\y<S.q/\S.aw y=y/\x≠y/\(S.takeIn pend w).1.rows=S.rows++[hH c z (min x y) (max x y)]/\(S.takeIn pend w).1.aY=S.aY++[max x y]/\∀a,(S.takeIn pend w).1.aw a=if S.aw a=max x y then min x y else S.aw a):=by
 let hw:=h.pl w (agL _ agP);let k:=h.sp w (agL _ agP);let hc:=h.lt hw.1;let hd:=h.lt hw.2;let l:=(h.el _ hw.1).2;let ed:=(h.el _ hw.2).2;let F:∀x∈pend,x∈pend++[w]:=λx i=>ag6 _ i
 let last:∀x∈pend++[w],x∉pend->x=w:=λx i nx=>by
  cbv
 let met:∀{c x y:Nat} {z:Int},S.by c z=some x->y<S.q->S.aw y=y->x≠y->Im S R c z y->((S.aw w.1=c/\w.2.1=z/\S.aw w.2.2=y)\/(S.aw w.1=y/\w.2.1= -z/\S.aw w.2.2=c))->
  Good (S.meet c z x y pend).1 (S.meet c z x y pend).2 R/\mu ⇑ks (S.meet c z x y pend).1 (S.meet c z x y pend).2<mu ⇑ks S (pend++[w])/\(S.meet c z x y pend).1.q=S.q/\(S.meet c z x y pend).1.L=S.L/\(S.meet c z x y pend).1.stand+ 1=S.stand/\(S.meet c z x y pend).1.rows=S.rows++[hH c z (min x y) (max x y)]/\(S.meet c z x y pend).1.aY=S.aY++[max x y]/\∀a,(S.meet c z x y pend).1.aw a=if S.aw a=max x y then min x y else S.aw a:=by
  intro c x y z i O D s P B;let⟨g,G,M⟩:=h.meet i O D s P F (λx i nx=>[last x i nx]▸B);let⟨hc,U,l,ex⟩:=h.st _ _ _ i;let rest:=(gM (max x y) (S.joined c z (min x y) (max x y)) pend ((S.joined c z (min x y) (max x y)).way (max x y))).2
  let J:(S.meet c z x y pend).1.q=S.q:=by
   show (cV (max x y) (S.joined c z (min x y) (max x y)) pend ((S.joined c z (min x y) (max x y)).way (max x y))).1.q=_;rw[rest];rfl
  let N:(S.meet c z x y pend).1.L=S.L:=by
   show (cV (max x y) (S.joined c z (min x y) (max x y)) pend ((S.joined c z (min x y) (max x y)).way (max x y))).1.L=_;rw[rest];rfl
  let Q:(S.meet c z x y pend).1.rows=S.rows++[hH c z (min x y) (max x y)]:=by
   show (cV (max x y) (S.joined c z (min x y) (max x y)) pend ((S.joined c z (min x y) (max x y)).way (max x y))).1.rows=_;rw[rest];rfl
  let T:(S.meet c z x y pend).1.aY=S.aY++[max x y]:=by
   show (cV (max x y) (S.joined c z (min x y) (max x y)) pend ((S.joined c z (min x y) (max x y)).way (max x y))).1.aY=_;rw[rest];rfl
  let E:S.aw (max x y)=max x y:=by rcases aiS x y with q|q;rw[akj ∅];rwa[D];rw[aj3 ∅];rwa[ex]
  let I:(S.meet c z x y pend).1.stand+ 1=S.stand:=by
   unfold RS.stand;rw[J]
   have:=lG (p:=λc=>decide (S.aw c=c)) (p':=λa=>decide ((S.meet c z x y pend).1.aw a=a)) (v:=max x y) (λa=>by
    rw[G,ahM,aix,ahr,ahr,ahr];cases q:S.aw a=max x y
    ·rw[ag8 q];constructor
     ·intro e;let j:S.aw (min x y)=min x y:=by rcases aiS x y with q|q;rw[ajz ∅];rwa[ex];rw[ajN ∅];rwa[D]
      rw[e]at j;ext
     ·rintro ⟨V,j⟩;rwa[absurd (V.symm.trans q) j]
    ·rw[ag3 q];rwa[λe=>⟨e,λj=>q ([j]▸E)⟩,λe=>e.1]) (ahh E) S.q
   rw[ag8 ∅]at this;rwa[this]
  let W:=h.Hh L (max x y);rwa[⟨g,5,J,N,I,Q,T,G⟩];unfold mu;rw[M,<-I,agF,agF,agH,aje,Nat.one_mul];ext
 unfold RS.takeIn;cases f:(S.by (S.aw w.1) w.2.1).getD (S.aw w.2.2)≠S.aw w.2.2
 ·rw[ag8 f]
  cases e:S.by (S.aw w.1) w.2.1 with
  |none=>rw[e]at f;rwa[absurd rfl f]
  |some x=>
   rw[e]at f;let⟨A,C,o,t,r,u,n,m⟩:=met e hd ed f k (.inl ⟨222⟩);rwa[A,C,o,t,.inr ⟨r,11,x,_,e,k,hd,ed,f,u,n,m⟩]
 ·rw[ag3 f];cases b:(S.by (S.aw w.2.2) (-w.2.1)).getD (S.aw w.1)≠S.aw w.1
  ·rw[ag8 b]
   cases e:S.by (S.aw w.2.2) (-w.2.1) with
   |none=>rw[e]at b;rwa[absurd rfl b]
   |some x=>
    rw[e]at b;let H:=Im.back h k;let⟨A,C,o,t,r,u,n,m⟩:=met e hc l b H (.inr ⟨2,(aiq _).symm,2⟩);rwa[A,C,o,t,.inr ⟨r,11,x,_,e,H,hc,l,b,u,n,m⟩]
  ·rw[ag3 b]
   let k1:S.by (S.aw w.1) w.2.1=none\/S.by (S.aw w.1) w.2.1=some (S.aw w.2.2):=by
    cases e:S.by (S.aw w.1) w.2.1 with
    |none=>exact .inl rfl
    |some x=>rw[e]at f;rwa[.inr (ahS some (ajG.mp f))]
   let k2:S.by (S.aw w.2.2) (-w.2.1)=none\/S.by (S.aw w.2.2) (-w.2.1)=some (S.aw w.1):=by
    cases e:S.by (S.aw w.2.2) (-w.2.1) with
    |none=>exact .inl rfl
    |some x=>rw[e]at b;rwa[.inr (ahS some (ajG.mp b))]
   rwa[⟨h.keep hc hd l ed k k1 k2 F (λx i nx=>[last x i nx]▸⟨222⟩),522,.inl ⟨222⟩⟩];show S.stand* _+ ⇑pend<S.stand* _+ ⇑(pend++[w]);rw[agF];have:⇑([w]:Ze)=1:=rfl;ext
def Good.fin (h:Good S [] R){a b:Nat}(i:a<S.q)(k:b<S.q):S.aw a=S.aw b↔Cg R a b:=by
 let det:∀{a d b g:Nat} {z:Int},R a z b->R d z g->S.aw a=S.aw d->S.aw b=S.aw g:=λ{a d b g z} r1 r2 e=>by
  rcases h.cv _ _ _ r1 with p|⟨w,m,_⟩
  ·rcases h.cv _ _ _ r2 with q|⟨w,m,_⟩
   ·cbv
   cbv
  cbv
 constructor
 ·intro e;let j:=h.cg a i;let n:=h.cg b k;rw[e]at j;rwa[j.trans n.symm]
 ·intro c;clear i k
  induction c with
  |refl=>rfl
  |symm _ f=>exact f.symm
  |trans _ _ l o=>exact l.trans o
  |step r1 r2 _ f=>exact det r1 r2 f
def Good.vu (h:Good S [] R){c d:Nat}{z:Int}:S.by c z=some d↔Im S R c z d:=by
 constructor
 ·rwa[h.so c z d]
 ·rintro ⟨b,e,r,rfl,rfl⟩;rcases h.cv _ _ _ r with q|⟨w,a,_⟩
  ·rwa[q]
  cbv
end
noncomputable def fz (R:Za2)(c:Nat)(z:Int)(d:Nat):Za2:=λa s b=>R a s b\/(a=c/\s=z/\b=d)\/(a=d/\s= -z/\b=c)
def ja:∀a s b,R a s b->fz R n z m a s b:=λ_ _ _ r=>.inl r
def pK:fz R n z m n z m:=.inr (.inl ⟨222⟩)
def uB (L:Nat)(g:Zg):Good (RS.new L g) [] (λ_ _ _=>False) where
 wf:=⟨2222⟩
 el:=λc a=>by
  have:c=0:=by have:c<1:=a;ext
  subst this;rwa[agJ _,2]
 ca:=λe f _ c=>by
  have:e=0:=by have:e<1:=f;ext
  subst this;show c∈[0]↔c<1/\(RS.new L g).aw c=0
  cbv
 cb:=λe c a=>by
  have:(RS.new L g).cj e=[0]\/(RS.new L g).cj e=[]:=by
   rcases e with _|e
   ·rwa[.inl rfl]
   ·rwa[.inr rfl]
  show c<1
  cbv
 cn:=λe=>by
  rcases e with _|e
  ·show [0].Nodup;simp
  ·rwa[ais]
 kn:=λc=>by
  rcases c with _|c <;> rwa[ais]
 st:=λc z d h=>by
  have:(RS.new L g).by c z=none:=by rcases c with _|c <;> rfl
  cbv
 sy:=λc z d h=>by
  have:(RS.new L g).by c z=none:=by rcases c with _|c <;> rfl
  cbv
 pl:=λw b=>by ext b
 rl:=λ_ _ _ h=>h.elim
 cv:=λ_ _ _ h=>h.elim
 so:=λc z d h=>by
  have:(RS.new L g).by c z=none:=by rcases c with _|c <;> rfl
  cbv
 sp:=λw b=>by ext b
 cg:=λc a=>by
  have:c=0:=by have:c<1:=a;ext
  subst this;rwa[.refl _]
section
variable {S:RS}{R:Za2}
def Good.lay (h:Good S [] R){c d:Nat}(z:Int)(hc:c<S.q)(hd:d<S.q)(rows:List Dt):Good { S with rows:=rows } [(c,z,d)] (fz R c z d) where
 wf:=⟨h.wf.w,h.wf.g,h.wf.e,h.wf.c⟩
 el:=h.el
 ca:=h.ca
 cb:=h.cb
 cn:=h.cn
 kn:=h.kn
 st:=h.st
 sy:=h.sy
 pl:=λw f=>by rw[agK.mp f];rwa[hc,hd]
 rl:=by
  rintro a s b (r|⟨rfl,rfl,rfl⟩|⟨rfl,rfl,rfl⟩)
  ·let⟨i,o,j⟩:=h.rl _ _ _ r;rwa[i,o,.inl j]
  ·rwa[hc,hd,.inr (.inr ⟨222⟩)]
  ·rwa[hd,hc,.inr (.inl ⟨2,aiq _,2⟩)]
 cv:=by
  rintro a s b (r|⟨rfl,rfl,rfl⟩|⟨rfl,rfl,rfl⟩)
  ·rcases h.cv _ _ _ r with q|⟨w,f,_⟩
   ·rwa[.inl q]
   ·ext f
  ·rwa[.inr ⟨_,agP,.inl ⟨rfl,rfl,rfl⟩⟩]
  ·rwa[.inr ⟨_,agP,.inr ⟨rfl,(aiq _).symm,rfl⟩⟩]
 so:=λa s b e=>by
  let⟨g,l,r,m,k⟩:=h.so a s b e;rwa[g,l,.inl r,m,k]
 sp:=λw f=>by
  rw[agK.mp f];rwa[c,d,pK,22]
 cg:=λa n=>(h.cg a n).mono ja
def fG (hw:S.Wf)(c:Nat)(z:Int)(g:Zg)(a:Nat):(S.grown c z g).aw a=if a=S.q then S.q else S.aw a:=by
 unfold RS.aw;show (S.aU++[S.q]).getD a 0=_;rw[agM];cases e:a=S.q
 ·rw[ag8 e,e,agR ([hw.e]▸agJ _),hw.e,aiE];rfl
 ·rw[ag3 e,agM];cases q:a<S.q
  ·rw[agN ([hw.e]▸q)]
  ·rw[aho (by rw[agF,hw.e];show S.q+ 1<=a;omega),aho (by rw[hw.e];omega)]
def rn (hw:S.Wf)(c:Nat)(z:Int)(g:Zg)(a:Nat):(S.grown c z g).cj a=if a=S.q then [S.q] else S.cj a:=by
 unfold RS.cj;show (S.called++[[S.q]]).getD a []=_;rw[agM];cases e:a=S.q
 ·rw[ag8 e,e,agR ([hw.c]▸agJ _),hw.c,aiE];rfl
 ·rw[ag3 e,agM];cases q:a<S.q
  ·rw[agN ([hw.c]▸q)]
  ·rw[aho (by rw[agF,hw.c];show S.q+ 1<=a;omega),aho (by rw[hw.c];omega)]
def m5 (d:S.Wf)(c:Nat)(z:Int)(g:Zg)(a:Nat):(S.grown c z g).way a=S.way a:=by
 unfold RS.way;show (S.ways++[[]]).getD a []=_;rw[agM,agM];cases q:a<⇑S.ways
 ·rw[agN q]
 ·rw[agR ∅,aho (l:=S.ways) ∅];cases b:a - ⇑S.ways=0
  ·rw[b];rfl
  ·cbv
def Good.make (h:Good S [] R){c:Nat}{z:Int}(hc:c<S.q)(x:S.aw c=c)(C:S.by c z=none)(g:Zg):Good (S.make c z g) [] (fz R c z S.q):=by
 let hw:=h.wf;let d:∀a,a<S.q->(S.grown c z g).aw a=S.aw a:=λa m=>by rw[fG hw,ag3 ∅]
 let f:(S.grown c z g).aw S.q=S.q:=by rw[fG hw,ag8 rfl]
 let j:∀a s,(S.grown c z g).by a s=S.by a s:=λa s=>by unfold RS.by;rw[m5 hw]
 let G:Good (S.grown c z g) [(c,z,S.q)] (fz R c z S.q):=by
  rwa[⟨⟨5555⟩,λa m=>?_,λe D ee a=>?_,λe a m=>?_,λe=>?_,λa=>?_,λa s b e=>?_,λa s b e=>?_,λw hw=>?_,55,λa s b e=>?_,λw hw=>?_,λa m=>?_⟩]
  ·show ⇑(S.ways++[[]])=S.q+ 1;rw[agF,hw.w];rfl
  ·show ⇑(S.gaps++[_])=S.q+ 1;rw[agF,hw.g];rfl
  ·show ⇑(S.aU++[_])=S.q+ 1;rw[agF,hw.e];rfl
  ·show ⇑(S.called++[_])=S.q+ 1;rw[agF,hw.c];rfl
  ·let t:a<S.q+ 1:=m;cases e:a=S.q
   ·rw[e,f];rwa[agJ _,f]
   ·let o:a<S.q:=∅
    rw[d a o];let⟨l,k⟩:=h.el a o;rwa[l,[d _ ∅]▸k]
  ·let A:e<S.q+ 1:=D;show _↔a<S.q+ 1/\_;rw[rn hw,fG hw];cases q:e=S.q
   ·subst q;rw[ag8 rfl,agK];constructor
    ·rintro rfl;rwa[3,by cbv]
    ·rintro ⟨l,k⟩;cases n:a=S.q
     ·rwa[n]
     ·rw[ag3 n]at k;have:=(h.el a ∅).1;ext
   ·let o:e<S.q:=∅
    rw[d e o]at ee;rw[ag3 q,h.ca e o ee a]
    cbv
  ·show a<S.q+ 1;rw[rn hw]at m;split at m
   ·rw[agK.mp m];ext
   ·rwa[aic (h.cb e a m)]
  ·rw[rn hw];split
   ·simp
   ·rwa[h.cn e]
  ·rw[m5 hw];rwa[h.kn a]
  ·rw[j]at e;let⟨l,k,n,B⟩:=h.st a s b e;rwa[aic l,aic k,[d a l]▸n,[d b k]▸B]
  ·rw[j]at e ⊢;rwa[h.sy a s b e]
  ·rw[agK.mp hw];rwa[aic hc,ah6 _]
  ·rintro a s b (r|⟨rfl,rfl,rfl⟩|⟨rfl,rfl,rfl⟩)
   ·let⟨l,k,n⟩:=h.rl _ _ _ r;rwa[aic l,aic k,.inl n]
   ·rwa[aic hc,ah6 _,.inr (.inr ⟨222⟩)]
   ·rwa[ah6 _,aic hc,.inr (.inl ⟨2,aiq _,2⟩)]
  ·rintro a s b (r|⟨rfl,rfl,rfl⟩|⟨rfl,rfl,rfl⟩)
   ·let⟨l,k,_⟩:=h.rl _ _ _ r;rcases h.cv _ _ _ r with q|⟨w,hw,_⟩
    ·rwa[.inl (by rw[d a l,d b k,j];rwa[q])]
    ·ext hw
   ·rwa[.inr ⟨_,agP,.inl ⟨rfl,rfl,rfl⟩⟩]
   ·rwa[.inr ⟨_,agP,.inr ⟨rfl,(aiq _).symm,rfl⟩⟩]
  ·rw[j]at e;let⟨u,v,r,p,y⟩:=h.so a s b e;let⟨l,k,_⟩:=h.rl _ _ _ r;rwa[u,v,.inl r,[d u l]▸p,[d v k]▸y]
  ·rw[agK.mp hw];rwa[c,S.q,pK,22]
  ·let t:a<S.q+ 1:=m;cases e:a=S.q
   ·rw[e,f];rwa[.refl _]
   ·rw[d a ∅];rwa[(h.cg a ∅).mono ja]
 let p:(S.grown c z g).aw c=c:=by rw[d c hc];rwa[x]
 let i:=G.sp _ agP;rw[show (c,z,S.q).1=c from rfl,show (c,z,S.q).2.2=S.q from rfl,p,f]at i;rwa[G.keep (aic hc) (ah6 _) p f i (.inl ([j]▸C)) (.inl ?_) (λw hw=>by ext hw) (λw hw _=>[agK.mp hw]▸⟨p,2,f⟩)];rw[j]
 cases e:S.by S.q (-z) with
 |none=>rfl
 |some b=>have:=(h.st _ _ _ e).1;ext
end
def YJ (n:Nat)(s:Int):Za2:=λa z b=>(z=s/\b=a+ 1/\b<n)\/(z= -s/\a=b+ 1/\a<n)
inductive Vk (x:V) (y:V) (H:Hp) (Q:VK):Prop
 |mk (a b:Zs) (xs:Zb) (t:Str):x=↑a->y=↑b->H a\.tup xs->H b\.tup [.str t]->(xs=[]\/(∃n,xs=[.int n])\/∃t',xs=[.str t'])->Q (.bl (decide (xs=[V.str t]))) H->Vk x y H Q
section
variable {X:Cx}
def Fx {z v:Str}{scope:Scope}(g:closureFor scope X.env=pure [(f,c),(z,d),(v,a)])(J:X.env.cells.lookup f\c)(I:X.env.cells.lookup z\d)(L:X.env.cells.lookup v\a)(A:∀q∈scope.names,q.2≠.cell)(C:scope.kind=.function)
 (G:∀q∈scope.names,q.2=.local->scope.names.lookup q.1=some .local) (F:scope.names.lookup x=some .local) (e:∀q∈scope.names,q.2=.free->q.1=f\/q.1=z\/q.1=v) (b:(x≠f/\x≠z/\x≠v)/\f≠z/\f≠v/\z≠v) (E:X.N[i]?\f) (H:X.N[j]?\z) (D:X.N[n]?\v)
 (m:X.env.kindOf f=some .cell) (o:X.env.kindOf z=some .cell) (p:X.env.kindOf v=some .cell) (l:X.env.scope.kind=.function) (s:scope.names.lookup f=some .free) (u:scope.names.lookup z=some .free) (y:scope.names.lookup v=some .free):dR X x [f,z,v] [i,j,n] scope [(f,c),(z,d),(v,a)] where
 Aa:=g
 sub:=λw q h=>by
  cbv
 cell:=A
 kind:=C
 names:=G
 own:=F
 has:=λw h=>by
  let B:w=f\/w=z\/w=v:=by
   rcases h with h|h
   ·rwa[e _ (g9 h (.inl rfl) A) rfl]
   ·rwa[e _ (g9 h (.inr rfl) A) rfl]
  cbv
 nd:=by simp[b.1.1,b.1.2.1,b.1.2.2,b.2.1,b.2.2.1,b.2.2.2]
 len:=rfl
 at_:=λk w h=>by
  match k,h with
  |0,h=>
   let a:f=w:=by simpa using h
   subst a;rwa[i,2,E,.inl m,c,by simp[aiN],.inl (cM l m s)]
  |1,h=>
   let a:z=w:=by simpa using h
   subst a;let r:(z==f)=false:=agZ.mpr (λq=>b.2.1 q.symm);rwa[j,2,H,.inl o,d,by simp[aiN,r],.inl (cM l o u)]
  |2,h=>
   let B:v=w:=by simpa using h
   subst B;let r:(v==f)=false:=agZ.mpr (λq=>b.2.2.1 q.symm);let t:(v==z)=false:=agZ.mpr (λq=>b.2.2.2 q.symm);rwa[n,2,D,.inl p,a,by simp[aiN,r,t],.inl (cM l p y)]
  |k+ 3,h=>simp at h
end
end L2
namespace L2
def eR {p:Prop}(h:let q:Prop:=p;q):p:=h
def jb {a z:TS}(h:let b:TS:=z;aO a b G D H):(aO a z) G D H:=h
def fS {a b z:TS}(h:let c:TS:=z;let d:TS:=aO b c;aO a d G D H):(aO a (aO b z)) G D H:=h
def gR {a b c z:TS}(h:let f:TS:=z;let e:TS:=aO c f;let d:TS:=aO b e;aO a d G D H):(aO a (aO b (aO c z))) G D H:=h
def uC {b c d a z:TS}(h:let g:TS:=z;let i:TS:=aO a g;let f:TS:=aO d i;let e:TS:=aO c f;aO b e G D H):(aO b (aO c (aO d (aO a z)))) G D H:=h
noncomputable def pL {b c d a e z:TS}(h:let g:TS:=z;let j:TS:=aO e g;let k:TS:=aO a j;let i:TS:=aO d k;let f:TS:=aO c i;aO b f G D H):(aO b (aO c (aO d (aO a (aO e z))))) G D H:=h
def pM {b c d a e f z:TS}(h:let m:TS:=z;let i:TS:=aO f m;let l:TS:=aO e i;let j:TS:=aO a l;let k:TS:=aO d j;let g:TS:=aO c k;aO b g G D H):(aO b (aO c (aO d (aO a (aO e (aO f z)))))) G D H:=h
def Ay {f g b d c e a z:TS}(h:let i:TS:=z;let o:TS:=aO a i;let l:TS:=aO e o;let k:TS:=aO c l;let n:TS:=aO d k;let j:TS:=aO b n;let m:TS:=aO g j;aO f m G D H):(aO f (aO g (aO b (aO d (aO c (aO e (aO a z))))))) G D H:=h
def J9 {g i c e d f b a z:TS}(h:let q:TS:=z;let j:TS:=aO a q;let p:TS:=aO b j;let m:TS:=aO f p;let l:TS:=aO d m;let n:TS:=aO e l;let k:TS:=aO c n;let o:TS:=aO i k;aO g o G D H):(aO g (aO i (aO c (aO e (aO d (aO f (aO b (aO a z)))))))) G D H:=h
def Hi {o p j l k n i g m a b c z:TS}(h:let f:TS:=z;let d:TS:=aO c f;let e:TS:=aO b d;let w:TS:=aO a e;let y:TS:=aO m w;let q:TS:=aO g y;let x:TS:=aO i q;let t:TS:=aO n x;let s:TS:=aO k t;let u:TS:=aO l s;let r:TS:=aO j u;let v:TS:=aO p r;aO o v G D H):(aO o (aO p (aO j (aO l (aO k (aO n (aO i (aO g (aO m (aO a (aO b (aO c z)))))))))))) G D H:=h
def Hj {s t n p o r m l q b c d e a z:TS}(h:let i:TS:=z;let j:TS:=aO a i;let k:TS:=aO e j;let f:TS:=aO d k;let g:TS:=aO c f;let B:TS:=aO b g;let E:TS:=aO q B;let u:TS:=aO l E;let C:TS:=aO m u;let x:TS:=aO r C;let w:TS:=aO o x;let y:TS:=aO p w;let v:TS:=aO n y;let A:TS:=aO t v;aO s A G D H):(aO s (aO t (aO n (aO p (aO o (aO r (aO m (aO l (aO q (aO b (aO c (aO d (aO e (aO a z)))))))))))))) G D H:=h
def mq {z:TS}(h:let a:Ends:=G;z a D H):z G D H:=h
theorem args_is1 {b:Type}:∀{us:List b},⇑us=1->∃a,us=[a]
 |[a],_=>⟨a,2⟩
theorem args_is2 {c:Type}:∀{us:List c},⇑us=2->∃a b,us=[a,b]
 |[a,b],_=>⟨a,b,2⟩
theorem args_is3 {d:Type}:∀{us:List d},⇑us=3->∃a c b,us=[a,c,b]
 |[a,c,b],_=>⟨a,c,b,2⟩
theorem args_is4 {e:Type}:∀{us:List e},⇑us=4->∃a b d c,us=[a,b,d,c]
 |[a,b,d,c],_=>⟨a,b,d,c,2⟩
theorem args_is5 {f:Type}:∀{us:List f},⇑us=5->∃a c e d b,us=[a,c,e,d,b]
 |[a,c,e,d,b],_=>⟨a,c,e,d,b,2⟩
theorem args_is6 {g:Type}:∀{us:List g},⇑us=6->∃a c e d b f,us=[a,c,e,d,b,f]
 |[a,c,e,d,b,f],_=>⟨a,c,e,d,b,f,2⟩
structure eB (S:RS) (R:Za2) (ks:Zg):Prop where
 sub:∀c,c<S.q->(S.gap c).Sublist ks
 im:∀c,c<S.q->S.aw c=c->∀z∈ks,z∉S.gap c->∃d,Im S R c z d
 by_:∀c z d,S.by c z=some d->z∉S.gap c
section
variable {S:RS}{pend:Ze}{R:Za2}{ks:Zg}
def ju {x:Nat}(a:n<⇑S.gaps):(S.lE n z).gap x=if x=n then (S.gap n).filter (λy=>decide (y≠z)) else S.gap x:=by
 unfold RS.lE RS.setG RS.gap
 cbv
def yB:(S.lE n z).gaps.length=⇑S.gaps:=by
 rwa[ahb ..]
def pN {x:Nat}(b:n<⇑S.gaps)(c:m<⇑S.gaps):y∈(S.keep n z m).gap x↔y∈S.gap x/\¬(x=n/\y=z)/\¬(x=m/\y= -z):=by
 unfold RS.keep;let a:∀x,((S.cf n z m).cf m (-z) n).gap x=S.gap x:=λx=>rfl
 rw[ju ([yB]▸c),ju (by rwa[b]),ju (by rwa[b]),a,a,a]
 cbv
def ro {x:Nat}(d:n<⇑S.gaps)(e:m<⇑S.gaps):((S.keep n z m).gap x).Sublist (S.gap x):=by
 unfold RS.keep;let b:∀x,((S.cf n z m).cf m (-z) n).gap x=S.gap x:=λx=>rfl
 rw[ju ([yB]▸e),ju (by rwa[d]),ju (by rwa[d]),b,b,b];cases c:x=m
 ·subst c;rw[ag8 rfl];cases a:x=n
  ·subst a;rw[ag8 rfl];rwa[List.Sublist.trans aiJ aiJ]
  ·rw[ag3 a];rwa[aiJ]
 ·rw[ag3 c];cases a:x=n
  ·subst a;rw[ag8 rfl];rwa[aiJ]
  cbv
def DS {x:Nat}(b:n<⇑S.ways)(a:m<⇑S.ways):(S.keep n z m).by x y=if x=m/\y= -z then some n else if x=n/\y=z then some m else S.by x y:=by
 show (((S.cf n z m).cf m (-z) n)).by x y=_;rw[jr (by unfold RS.cf RS.j5;rw[ahb];rwa[a]),jr b]
def eB.keep (h:eB S R ks)(g:Good S pend R){c d:Nat}{z:Int}(hc:c<S.q)(hd:d<S.q)(i:Im S R c z d):eB (S.keep c z d) R ks:=by
 let j:c<⇑S.gaps:=by rw[g.wf.g];rwa[hc]
 let b:d<⇑S.gaps:=by rw[g.wf.g];rwa[hd]
 rwa[⟨λx k=>(ro j b).trans (h.sub x k),λx k ex y o m=>?_,λx y e l=>?_⟩]
 ·rw[pN j b]at m;cases f:x=c/\y=z
  ·rw[f.1,f.2];rwa[d,i]
  ·cases a:x=d/\y= -z
   ·rw[a.1,a.2];rwa[c,i.back g]
   ·rwa[h.im x k ex y o λq=>m ⟨q,f,a⟩]
 ·rw[DS ([g.wf.w]▸hc) ([g.wf.w]▸hd)]at l;rw[pN j b];rintro ⟨q,n,p⟩;rw[ag3 p,ag3 n]at l;rwa[h.by_ x y e l q]
def Ka {x:Nat}:(S.meet n z x m pend).1.gaps=S.gaps:=by
 have:=(gM (max x m) (S.joined n z (min x m) (max x m)) pend ((S.joined n z (min x m) (max x m)).way (max x m))).2;have:=ahS RS.gaps this;rwa[this]
def eB.meet (h:eB S R ks)(g:Good S pend R){c x y:Nat}{z:Int}(w:S.by c z=some x)(G:y<S.q)(H:S.aw y=y)(t:x≠y){d:Ze}
 (made:(S.meet c z x y d).1.q=S.q) (aw:∀a,(S.meet c z x y d).1.aw a=if S.aw a=max x y then min x y else S.aw a):eB (S.meet c z x y d).1 R ks:=by
 let k:∀a,(S.meet c z x y d).1.gap a=S.gap a:=λa=>by unfold RS.gap;rw[Ka]
 let⟨_,A,_,ex⟩:=g.st _ _ _ w;let l:max x y<S.q:=by rcases aki x y with q|q <;> ext
 let fu:∀a,a<S.q->(S.meet c z x y d).1.aw a=a->S.aw a=a/\a≠max x y:=λa i e=>by
  rw[aw]at e;let C:=(g.el a i).1;cases q:S.aw a=max x y
  ·rw[ag8 q]at e;ext
  ·cbv
 rwa[⟨λa i=>[k]▸h.sub a (by rw[<-made];rwa[i]),λa i D s v m=>?_,λa s b o=>?_⟩]
 ·rw[k]at m;let⟨B,F⟩:=fu a (by rw[<-made];rwa[i]) D;let⟨b,n,u,r,E,I⟩:=h.im a (by rw[<-made];rwa[i]) B s v m;rwa[_,n,u,r,by cbv,2]
 ·rw[k]
  let j:∀q∈(S.joined c z (min x y) (max x y)).way (max x y),q.2<(S.joined c z (min x y) (max x y)).ways.length:=λq p=>by
   show q.2<⇑S.ways;rw[g.wf.w];rwa[(g.st _ _ _ (jt (g.kn (max x y)) p)).2.1]
  let f:(cV (max x y) (S.joined c z (min x y) (max x y)) d ((S.joined c z (min x y) (max x y)).way (max x y))).1.by a s=some b:=o;rw[xB (by show max x y<⇑S.ways;rw[g.wf.w];rwa[l]) _ j]at f;split at f
  ·ext f
  ·rwa[h.by_ a s b f]
def yC {x:Nat}:(S.meet n z x m pend).1.q=S.q:=by
 have:=(gM (max x m) (S.joined n z (min x m) (max x m)) pend ((S.joined n z (min x m) (max x m)).way (max x m))).2;have:=ahS RS.q this;rwa[this]
def eB.take {w:Way}(hG:eB S R ks)(h:Good S (pend++[w]) R):eB (S.takeIn pend w).1 R ks:=by
 let hw:=h.pl w (agL _ agP);let d:=h.sp w (agL _ agP);let hc:=h.lt hw.1;let hd:=h.lt hw.2;let i:=(h.el _ hw.1).2;let ed:=(h.el _ hw.2).2;let g:∀x∈pend,x∈pend++[w]:=λx b=>ag6 _ b
 let last:∀x∈pend++[w],x∉pend->x=w:=λx b nx=>by
  cbv
 unfold RS.takeIn;cases c:(S.by (S.aw w.1) w.2.1).getD (S.aw w.2.2)≠S.aw w.2.2
 ·rw[ag8 c]
  cases e:S.by (S.aw w.1) w.2.1 with
  |none=>cbv
  |some x=>
   rw[e]at c;let⟨_,f,_⟩:=h.meet e hd ed c d g (λx b nx=>[last x b nx]▸.inl ⟨222⟩);rwa[hG.meet h e hd ed c yC f]
 ·rw[ag3 c];cases a:(S.by (S.aw w.2.2) (-w.2.1)).getD (S.aw w.1)≠S.aw w.1
  ·rw[ag8 a]
   cases e:S.by (S.aw w.2.2) (-w.2.1) with
   |none=>rw[e]at a;rwa[absurd rfl a]
   |some x=>
    rw[e]at a;let⟨_,f,_⟩:=h.meet e hc i a (d.back h) g (λx b nx=>[last x b nx]▸.inr ⟨2,(aiq _).symm,2⟩);rwa[hG.meet h e hc i a yC f]
  ·rw[ag3 a];rwa[hG.keep h hc hd d]
def eB.more {e:Za2}(h:eB S R ks)(g:∀a z b,R a z b->e a z b):eB S e ks:=⟨h.sub,λc hc i z hz m=>by
 let⟨d,j,k,r,f,l⟩:=h.im c hc i z hz m;rwa[d,j,k,g _ _ _ r,f,l],h.by_⟩
def eB.rows (h:eB S R ks)(rows:List Dt):eB { S with rows:=rows } R ks:=⟨h.sub,h.im,h.by_⟩
def Oo (L:Nat)(g:Zg):eB (RS.new L g) (λ_ _ _=>False) g:=by
 rwa[⟨λc a=>?_,λc a _ z f b=>?_,λc z d e=>?_⟩]
 ·let a:c<1:=a;rw[show c=0 by ext];rwa[List.Sublist.refl _]
 ·let a:c<1:=a;rw[show c=0 by ext]at b;rwa[absurd f b]
 ·have:(RS.new L g).by c z=none:=by rcases c with _|c <;> rfl
  cbv
def eB.make (h:eB S R ks)(g:Good S [] R){c:Nat}{z:Int}(hc:c<S.q)(B:S.aw c=c)(L:S.by c z=none):eB (S.make c z ks) (fz R c z S.q) ks:=by
 let u:∀x,(S.grown c z ks).gap x=if x=S.q then ks else S.gap x:=λx=>by
  unfold RS.gap;show (S.gaps++[ks]).getD x []=_;rw[agM,agM];cases i:x=S.q
  ·subst i;rw[ag8 rfl,agR ([g.wf.g]▸agJ _),g.wf.g,aiE];rfl
  ·rw[ag3 i];cases F:x<⇑S.gaps
   ·rw[agN F]
   ·have:=g.wf.g;rw[agR ∅,aho (by rw[ahP];omega),aho ∅]
 let E:∀x y,(S.grown c z ks).by x y=S.by x y:=λx y=>by unfold RS.by;rw[m5 g.wf]
 let j:c<(S.grown c z ks).gaps.length:=by show c<⇑(S.gaps++[ks]);rw[agF,g.wf.g];ext
 let l:S.q<(S.grown c z ks).gaps.length:=by show S.q<⇑(S.gaps++[ks]);rw[agF,g.wf.g,ahP];ext
 let p:c<(S.grown c z ks).ways.length:=by show c<⇑(S.ways++[[]]);rw[agF,g.wf.w];ext
 let v:S.q<(S.grown c z ks).ways.length:=by show S.q<⇑(S.ways++[[]]);rw[agF,g.wf.w,ahP];ext
 let ee:∀x,(S.make c z ks).aw x=if x=S.q then S.q else S.aw x:=λx=>fG g.wf c z ks x
 let m:∀a s b,S.by a s=some b->a≠S.q:=λa s b e q=>by have:=(g.st _ _ _ e).1;ext
 rwa[⟨λx i=>?_,λx i ex y w f=>?_,λx y e n=>?_⟩]
 ·rwa[(ro j l).trans ?_];rw[u];cases q:x=S.q
  ·cbv
  ·rw[ag3 q];let i:x<S.q+ 1:=i;rwa[h.sub x ∅]
 ·let f:y∉((S.grown c z ks).keep c z S.q).gap x:=f;rw[pN j l,u]at f;cases t:x=c/\y=z
  ·erw[S.q,c,S.q,[t.2]▸pK,5]
   ·cbv
   cbv
  ·cases o:x=S.q/\y= -z
   ·erw[c,S.q,c,[o.2]▸.inr (.inr ⟨222⟩),5]
    ·rw[ee,ag8 rfl,o.1]
    ·rw[ee,ag3 ∅];rwa[B]
   ·cases q:x=S.q
    ·rw[ag8 q]at f;rwa[absurd ⟨w,t,o⟩ f]
    ·rw[ag3 q]at f;let i:x<S.q+ 1:=i;rw[ee,ag3 q]at ex;let⟨d,A,G,r,H,D⟩:=h.im x ∅ ex y w λk=>f ⟨k,t,o⟩
     let J:=g.rl _ _ _ r;rwa[d,A,G,.inl r,[ee,ag3 ∅]▸H,[ee,ag3 ∅]▸D]
 ·let n:((S.grown c z ks).keep c z S.q).by x y=some e:=n;rw[DS p v,E]at n;show y∉((S.grown c z ks).keep c z S.q).gap x;rw[pN j l,u];rintro ⟨q,C,I⟩;rw[ag3 I,ag3 C]at n;rw[ag3 (m _ _ _ n)]at q;rwa[h.by_ x y e n q]
def eB.fin (h:eB S R ks)(g:Good S [] R)(nd:ks.Nodup){c:Nat}(hc:c<S.q)(f:S.aw c=c):S.gap c=ks.filter λz=>(S.by c z).isNone:=by
 let sl:∀{l k:Zg},l.Sublist k->k.Nodup->l=k.filter λz=>decide (z∈l):=λ{l k} s=>by
  induction s with
  |slnil=>intro _;rfl
  |cons a s b=>
   cbv
  |cons_cons a s b=>
   intro m;let j:=ahk.mp m;rw[ajf (by simp)]
   congr 1
   conv=>lhs;rw[b j.2]
   rwa[ajF λz hz=>?_]
   cbv
 rw[sl (h.sub c hc) nd];rwa[ajF λz hz=>?_]
 cases e:S.by c z with
 |some d=>
  have:=h.by_ c z d e;simp[this]
 |none=>
  cases q:z∈S.gap c
  ·simp[q]
  ·let⟨d,i⟩:=h.im c hc f z hz q;have:=g.vu.mpr i
   cbv
end
end L2
namespace L2
open PySem PySem.Spec PyProof.Rows
structure Fly (B:Heap) (l:Zq) (x:Zs) (cls a0:Zt) (h:Heap):Prop where
 stays:B.StaysIn h
 new:B.get? x=none
 afm:h.FunFrames B l
 tr:∃fl,h.TracedAtW B x cls a0 fl
def Oq {tg:Expr}(d it:Zs)(o:Obj)(p:Array DictEntry)(ep:Nat)(a:List (Key×V))(B:o.data=.dict p ep):Turn P w K tg (Ar d o a) [it] it (λi h=>h.IsKeyIter it d i p.size ep) where
 mem:=by simp
 obj:=λi h st b l=>by
  let e:b=it:=by simpa using l
  subst e;let⟨o,e,c,d⟩:=st
  cbv
 keep:=λi h y st k=>st.at λo e=>k it (by simp) o e
 item:=by
  intro X hP R N hc i g s σ H E I A st G;subst hP R N;let⟨C,D⟩:=G;obtain⟨f,-,U,L,rel,o2,Rl,S,q,F,u,h4,z,h6⟩:=I.aM d _ D;rw[f]at q;obtain rfl:=Za0 q;rw[B]at u;injection u with Y O
  subst Y O;let hv:=rh z rel;let m:=pairs_len z;let j:⇑a=⇑L:=KV.length rel;let Q:p.size=⇑a:=by rw[<-aio,m,j]
  let n:p[i]?\(p[i]'∅):=Array.getElem?_eq_getElem ∅
  change p[i]'∅=en at n;let r:a[i]?\(a[i]'C):=agG C
  change a[i]'C=W at r;let⟨u0,v,rk⟩:=hv.get (i:=i) (x:=kV W.1) (by cbv);rw[agY,ajr,n]at v;obtain rfl:en.key=u0:=Za0 v;let⟨J,M,f2,f3,Z,T⟩:=A it (by simp);rwa[Dk.item st ⟨_,f,F,B⟩ n λy t sb=>?_]
  let I1:Inv X g σ H (s<*y):=I.turned (t':=s.toks) (λb o l e=>(sb.2 b l).trans e) J M f3 Z T;let⟨oi,e,c,dd⟩:=id t;rwa[12,zC (s:=(s<*y)) e c dd ⋯ ⟨kV W.1,H,I1,rk,⟨2,W,r,2⟩,t,λb l=>(A b l).1⟩]
 done:=by
  intro X hP R N hc i g s σ H E I A st G;subst hP R N;let⟨C,D⟩:=G;obtain⟨f,-,U,L,rel,o2,Rl,S,q,F,u,h4,z,h6⟩:=I.aM d _ D;rw[f]at q;obtain rfl:=Za0 q;rw[B]at u;injection u with Y O
  subst Y O;let m:=pairs_len z;let j:⇑a=⇑L:=KV.length rel;let Q:p.size=⇑a:=by rw[<-aio,m,j]
  let⟨J,M,f2,f3,Z,T⟩:=A it (by simp);rwa[Dk.fin (I.ok.hd hc) st ⟨_,f,F,B⟩ (aj8 ∅) λy eb=>⟨2,I.turned (t':=s.toks) (λb o l e=>eb b o l e) J M f3 Z T⟩]
 self:=λ_ _ _ _ _ st h=>wpAny_pyIter_keyiter st h
section
variable {X:Cx}{tg:Expr}
def iDK (tl:TE):TI:=λ c H R=>tl c H λx b=>∃d a,x=↑d/\b d\.dK a/\∀o,R (Ar d o a) (upd b d (.cS o (.dK a)))
def Vl {tl:TE}(y:PE X e tl):PI X tg e (iDK tl):=by
 intro c s B H R I h;rwa[a9 (y c s B H _ I h) λu s1 ζ=>?_];let⟨x,J,f,A,d,g,ex,k,q⟩:=ζ
 subst ex;ext A;obtain⟨-,j,E,rel,o,m,p,l,r,n,F,G,L⟩:=f.aM d _ k;rwa[Dk.iter j ⟨o,l,r,n⟩ ?_];let v:=(f.freeze k True.intro l).kept (h':=s1.heap.push ("dict_keyiterator">>>.fields #[↑d,.int 0 0,.int m.size 0,.int p 0])) (t':=s1.toks) λb o a=>agD _ a
 let T:=Oq (P:=X.prog) (w:=X.w) (K:=X.K) (tg:=tg) d ↥s1 o m p g n;rwa[⟨111112,v,T,⟨_,agU _ rfl,22⟩,λb t=>?_,q o⟩];rw[agK.mp t];let i:=f.aM.fresh (agJ ↥s1);rwa[f.pE (agJ _) ([ak (λz=>by cbv)]▸i)]
end
def Rm {o:Obj}{kvs:List (Key×V)}{g:TG}{l:TS}(a:Nat->St->Hp->Prop)(s:a 0 D H)(u:∀i D H,i<=⇑kvs->a i D H->H d\.cS o (.dK kvs))
 (v:∀i j D H,kvs[i]?\j->a i D H->g (kV j.1) D H λ c k=>l { G with nx:=a (i+ 1),ct:=a (i+ 1),bk:=G.nx } c k) (r:∀ D H,a ⇑kvs D H->G.nx D H):
 ∃W:Nat->Nat->St->Hp->Prop,(∃m,W 0 m D H)/\∀i m D H,W i m D H->
  ((Ar d o kvs).stop i H/\G.nx D H)\/((Ar d o kvs).go i H/\∃N:St->Hp->Prop,(∀ b f,N b f->∃n,n<m/\W (i+ 1) n b f)/\∀x f,(Ar d o kvs).lT i H x f->g x D f λ c k=>l { G with nx:=N,ct:=N,bk:=G.nx } c k):=by
 erw[λi m D H=>m=⇑kvs - i/\i<=⇑kvs/\a i D H,⟨⇑kvs,by simp,ahd _,s⟩];rintro i m D H ⟨rfl,w,p⟩;let q:=u i D H w p;cases h:i<⇑kvs
 ·rwa[.inr ⟨⟨h,q⟩,a (i+ 1),λ b f z=>⟨⇑kvs - (i+ 1),32,h,z⟩,λx f y=>?_⟩];let⟨rfl,j,t,rfl⟩:=y;rwa[v i j D _ t p]
 ·let e:i=⇑kvs:=∅
  subst e;rwa[.inl ⟨⟨agJ _,q⟩,r D H p⟩]
inductive V6 (a:Zs) (y z:V) (H:Hp) (Q:VK):Prop
 |mk (kvs:List (Key×V)) (k:Key):H a\.dK kvs->y=kV k->⇑kvs<sizeLine->(∀v,bB kvs k\v->Q v H)->(bB kvs k=none->Q z (upd H a (.dK (putK kvs k z))))->V6 a y z H Q
def Vm (td e tx:TE):TE:=λ b H Q=>td b H λx c=>DG x c λa=>e b c λy d=>tx b d λz f=>V6 a y z f Q
section
variable {X:Cx}{o e f:Expr}{apos cG:Pos}{td ty tx:TE}
def m6 (T:PE X o td)(t:PE X e ty)(S:PE X f tx)(m:M2 X o "setdefault" apos e f cG):PE X (.Call (.Attribute o "setdefault" apos) [e,f] [] cG) (Vm td ty tx):=by
 intro c s p H Q I h;rwa[ai3 m.base m.few m.line ah0 aiC PySem.F.type_dict_setdefault (a9 (T c s p H _ I h) λu Z ζ=>?_)];let⟨x,V,A,rx,a,ex,d,N⟩:=ζ;subst ex;obtain rfl:u=Value.ref a:=rx;let⟨U,F,_⟩:=lZ A d;erw[U,F];rw[m.trees]
 rwa[ahK rfl (aij (ahC (a9 (t c Z p V _ A N) λiv M ζ=>?_)))];let⟨y,H2,P,ry,q2⟩:=ζ;rwa[ ahC (a9 (S c M p H2 _ P q2) λfv s3 ζ=>?_)];let⟨z,J,n,C,g,k,E,ey,G,O,W⟩:=ζ;rwa[aib ?_]
 subst ey;let⟨R,w,B,rel,D⟩:=sO n.aM E;let b:=rel.val k;let j:⇑B<=sizeLine:=by rw[<-⇑rel];rwa[R]
 rwa[ajb aiC D.typeIs PySem.F.entry_dict_setdefault (PySem.F.args_dict_setdefault_3^_) (kt_meets_setdefault (bQ X.prog X.w) a (jJ ry) w fv) ⟨B,D,j,λv hv=>?_,λhn g1 i sb=>?_⟩]
 ·rw[hv]at b
  cases l:bB g k with
  |none=>rw[l]at b;rwa[b.elim]
  |some r=>
   rw[l]at b;rwa[r,J,n.tok _,b,O r l]
 ·rw[hn]at b
  cases l:bB g k with
  |some r=>rw[l]at b;rwa[b.elim]
  |none=>
   let Y:⇑(putK g k z)<=sizeLine:=by have:=fP g k z;ext
   let t:∃q,g1.get? a\q:=let ⟨q,_,_,L,_⟩:=i;⟨q,L⟩
   rwa[z,_,j4 n ([E]▸True.intro) sb t (qT Y w (rel.put k C) i),C,W l]
end
namespace Di
section
variable {prog:Program}{w:World}{A:Around}{E:Zt->Zu->Prop}{s:Zu}{d:Zs}{es:Array DictEntry}{ep:Nat}
def meets (d:Zs)(a:(d==sysModules)=false):MeetsIn prog w (Builtin.«dict.items» ⟨[↑d],[]⟩) (λ_ R s=>(∃es ep,dZ s.heap d es ep)/\R (.ok (.ret ↑↥s)) { s with heap:=s.heap.push ("dict_items">>>.fields #[↑d]) }):=
 .of_wp λA R s ζ=>by
  let⟨⟨es,ep,b⟩,h⟩:=ζ
  rwa[agB ?_];rwa[agB (ajx (Dk.typ b) ?_)];rwa[agI ?_];unfold Builtin.Dict.showsAll;rw[ag3 (by rw[a];decide)];rwa[agB (agI (agB (ahB (agI ⟨12,h⟩))))]
theorem iter (c:s.heap.IsItemsView a d)(h:dZ s.heap d es ep)
 (j:Q ↑↥s { s with heap:=s.heap.push ("dict_itemiterator">>>.fields #[.none,.bool false,↑d,.int 0 0,.int es.size 0,.int ep 0,.none,.none]) }):(prog<|>w) A (pyIter ↑a) Q E s:=by
 let⟨k,f,i,e⟩:=id c;let⟨o,g,l,b⟩:=id h;rwa[wpAny_pyIter_slot c.typeIs F.slot_dict_items_iter (ahL F.slot_dict_items_iter c.typeIs F.entry_dict_items_iter ?_ (F.args_dict_items_iter_1 _))];rwa[agB (agI (agB ?_))];rwa[agB (ahI f e (x:=↑d) rfl (agI (agB ?_)))];rwa[agB (aiG g b (agB (ajy g b ?_)))];let own:Builtin.Dict_items.ownsTuple "dict_itemiterator"=true:=⋯
 simp only[own,akc];rwa[ahB (agI ⟨12,"dict_itemiterator",_,⟨_,agU _ rfl,2⟩,ah8.lookup,5⟩) (by simp only[sizeOk,Builtin.Dict_items.ownedTupleFields,agV,agF,aha,aih,sizeLine_eq];omega)];simpa [rawInt,Builtin.Dict_items.ownedTupleFields] using j
theorem item {it:Zs}{en:DictEntry}{ok:Zt}{Q:Zl->Zu->Prop}(hit:IsItemIter s.heap it d i es.size ep ok v)(I:dZ s.heap d es ep)(H:es[i]?\en)
 (D:∀g,IsItemIterOut g it d (i+ 1) es.size ep en.key en.val ↥s->g.get? ↥s\("tuple">>>.seq #[en.key,en.val])->
  (∀b o,b≠it->s.heap.get? b\o->g.get? b\o)->Q (some ↑↥s) (s<*g)):(prog<|>w) A (pyNext ↑it) Q E s:=by
 let⟨f,q,p,n,os⟩:=s;let⟨R,m,M,h⟩:=id I;let c:Shared.TypeIs ⟨f,q,p,n,os⟩ ↑it "dict_itemiterator":=⟨_,hit,2⟩;rwa[agB (wpAny_attempt (ahH (name:=Str.ofString "__next__") c ah8 (ahL ah8 c F.entry_dict_itemiterator_next ?_ (F.args_dict_itemiterator_next_1 _))))];rwa[agB (agI (agB (agB ?_)))]
 first|(rwa[agB (aiv c (agI ?_))];skip)|(rwa[agB (aiW c (agI ?_))];skip)
 rwa[agB (wpAny_fieldsOf hit rfl ?_)];let own:Builtin.Dict_items.ownsTuple "dict_itemiterator"=true:=⋯
 show wpAny _ _ (if (Value.ref d==Value.none)=true then _ else _) _ _ _;rw[ag3 (show ¬((Value.ref d==Value.none)=true) by cbv)];rwa[agB (agI (agB (aiG m h ?_)))];rw[ag3 (by simp)];rwa[agB (agI (agB (ajy m h ?_)))];rw[ag3 (by simp)];rwa[agI ?_];simp only[show ¬((i:Int)<0) by ext,ajE,ahg,H];rwa[agB ?_]
 first|(rwa[agB (aiv c (agI ?_))];skip)|(rwa[agB (aiW c (agI ?_))];skip)
 rwa[agB (wpAny_isOneOf_itemiter c ?_)];show wpAny _ _ (setField ↑it 3 (rawInt ((i:Int)+ 1)) >>=_) _ _ ⟨f,q,p,n,os⟩
 rwa[agB (ahX hit (by simp) λg1 u s1=>?_)];let j:Shared.TypeIs ⟨g1,q,p,n,os⟩ ↑it "dict_itemiterator":=⟨_,u,2⟩;rwa[agB (ahQ (agB (wpAny_isOneOf_itemiter j (agB (wpAny_isOneOf_itemiter j ?_)))))];rwa[agB (wpAny_newTuple ?_)];let k:IsItemIter (g1.push ("tuple">>>.seq #[en.key,en.val])) it d (i+ 1) es.size ep ok v:=agD _ u;generalize l:g1.push ("tuple">>>.seq #[en.key,en.val])=g2 at k;let z1:g1.objs.size=f.objs.size:=s1.1;let y:it<f.objs.size:=agX hit;let z:g2.get? f.objs.size\("tuple">>>.seq #[en.key,en.val]):=by rw[<-l,<-z1];rwa[agU _ rfl]
 let J:∀b o,b≠it->f.get? b\o->g2.get? b\o:=λb o a e=>by rw[<-l];rwa[agD _ (s1.extBut b o a e)]
 show wpAny _ _ (Builtin.Dict_items.ownedTupleIsFree ↑it >>=_) _ _ ⟨g2,q,p,n,os⟩;rw[z1];rwa[agB ?_];rwa[agB (ahI k rfl (x:=.none) rfl (agI ?_))];rwa[agB (ahI k rfl (x:=ok) rfl (agB (ahI k rfl (x:=v) rfl ?_)))];rwa[agB (ahX k (by simp) λS L s3=>?_)];rwa[agB (ahX L (by simp) λO N s4=>?_)];rwa[agB (ahX N (by simp) λP B s5=>?_)];rwa[agB (ahX B (by simp) λr G C=>?_)];let t:∀b o,b≠it->g2.get? b\o->r.get? b\o:=λb o a e=>C.extBut b o a (s5.extBut b o a (s4.extBut b o a (s3.extBut b o a e)))
 rwa[agB (ake (agI (agI ⟨12,agI (D r G (t _ _ (ahT y) z) λb o a e=>t b o a (J b o a e))⟩)))]
theorem fin {it:Zs}{ok:Zt}{Q:Zl->Zu->Prop}(j:A.handled=none)(hit:IsItemIter s.heap it d i es.size ep ok v)(h:dZ s.heap d es ep)(n:es[i]?=none)
 (l:∀g,Heap.ExtBut it s.heap g->Q none (s<*g)):(prog<|>w) A (pyNext ↑it) Q E s:=by
 let⟨o,f,k,e⟩:=id h;let c:s.TypeIs ↑it "dict_itemiterator":=⟨_,hit,2⟩;rwa[agB (wpAny_attempt (ahH (name:=Str.ofString "__next__") c ah8 (ahL ah8 c F.entry_dict_itemiterator_next ?_ (F.args_dict_itemiterator_next_1 _))))];rwa[agB (agI (agB (agB ?_)))]
 first|(rwa[agB (aiv c (agI ?_))];skip)|(rwa[agB (aiW c (agI ?_))];skip)
 rwa[agB (wpAny_fieldsOf hit rfl ?_)];let own:Builtin.Dict_items.ownsTuple "dict_itemiterator"=true:=⋯
 show wpAny _ _ (if (Value.ref d==Value.none)=true then _ else _) _ _ s;rw[ag3 (show ¬((Value.ref d==Value.none)=true) by cbv)];rwa[agB (agI (agB (aiG f e ?_)))];rw[ag3 (by simp)];rwa[agB (agI (agB (ajy f e ?_)))];rw[ag3 (by simp)];rwa[agI ?_];simp only[show ¬((i:Int)<0) by ext,ajE,ahg,n];rwa[agB ?_]
 first|(rwa[agB (aiv c (agI ?_))];skip)|(rwa[agB (aiW c (agI ?_))];skip)
 show wpAny _ _ (setField ↑it 2 .none >>=_) _ _ s;rwa[agB (aiU hit rfl (by simp) ?_)];rwa[agB ?_];rwa[agB (m:=firstArgMember _ _) (wpAny_of_eq (a:=Value.none) (by first|rfl|(simp only[firstArgMember];rfl)) ?_)];rwa[ahB ?_ (by size_fits)];rwa[agB (wpAny_handled ?_)];rw[show A.in1.handled=none from j];rwa[agB (agI (wpAny_throw ?_))];rwa[agB (wpAny_isInstance (T:="StopIteration") (b:=true) ⟨_,agU _ rfl,2⟩ isSubtype_stop ?_)];rwa[agI (l _ (((aia ..).extBut.push _).push _))]
end
end Di
theorem yD {c b:Type}{R:c->b->Prop}:∀{e:List c} {ys:List b},Paired R e ys->∀{i:Nat} {x:c} {y:b},e[i]?\x->ys[i]?\y->R x y
 |[],_,h,i,x,y,a,_=>by simp at a
 |k::f,_,h,i,x,y,a,d=>by
  cases h with
  |cons g j=>
   cases i with
   |zero=>rw[<-Za0 a,<-Za0 d];rwa[g]
   |succ i=>exact yD j a d
def Az (d:Zs)(o:Obj)(a:List (Zd×V)):It:=
 ⟨λi H=>i<⇑a/\H d\.cS o (.dT a),λi H x c=>∃p kp b,a[i]?\b/\H p=none/\H kp\.tup (b.1.map kV)/\x=↑p/\c=upd H p (.tup [↑kp,b.2]),λi H=>⇑a<=i/\H d\.cS o (.dT a)⟩
def Ot {elts:Zr}{x1:Nat}{tp:Pos}(d it:Zs)(o:Obj)(C:Array DictEntry)(ep:Nat)(c:List (Zd×V))(B:o.data=.dict C ep):
 Turn P w K (.Tuple elts x1 tp) (Az d o c) [it] it (λi h=>∃ok p,IsItemIter h it d i C.size ep ok p) where
 mem:=by simp
 obj:=λi h st b m=>by
  cbv
 keep:=λi h h' ζ k=>by let⟨ok,p,e⟩:=ζ;rwa[⟨ok,p,k it (by simp) _ e⟩]
 item:=by
  intro X hP hw hK hc i r s σ H E I x st M;let⟨ok,p,hit⟩:=st;let⟨D,F⟩:=M;obtain⟨f,-,hsm,ys,v,o2,Rl,Y,j,L,t,S,h5⟩:=I.aM d _ F;rw[f]at j;obtain rfl:=Za0 j;rw[B]at t;injection t with e1 T
  subst e1 T;let R:⇑c=⇑ys:=Paired.length v;let Z:ys[i]?\(ys[i]'∅):=agG ∅
  change ys[i]'∅=y at Z;let U:C[i]?\(entryOfKey (tupleKind (bQ X.prog X.w)) y):=by rw[entry_at S,Z];rfl
  let l:c[i]?\(c[i]'D):=agG D
  change c[i]'D=u at l;let hk:u.1=y.1/\H y.2.1\.tup (u.1.map kV)/\RelV u.2 y.2.2:=yD v l Z;let il:it<↥s:=agX hit;rwa[Di.item hit ⟨_,f,L,B⟩ U λg ho' hT O=>⟨12,wpAny_letOwnedTupleGo_items ho' λg2 W sb=>?_⟩]
  let N:g2.get? ↥s\("tuple">>>.seq #[↑y.2.1,y.2.2]):=(sb.2 _ (ahT il)).trans hT
  let G:∀b n,b∉[it]->s.heap.get? b\n->g2.get? b\n:=λb n m q=>by
   let j:b≠it:=λz=>m (by simp[z])
   rwa[(sb.2 b j).trans (O b n j q)]
  let J:=I.aM.fresh (agJ ↥s);rwa[⟨↑↥s,_,I.uz (fp:=[it]) (a:=↥s) (o:=.tup [↑y.2.1,u.2]) (h':=g2) (t':=s.toks) G x (agJ _) ?_,2,⟨_,y.2.1,u,l,J,hk.2.1,22⟩,⟨11,W⟩,λb m=>?_⟩]
  ·rwa[by show 2<=sizeLine;decide,[↑y.2.1,y.2.2],.cons rfl (.cons hk.2.2 .nil),_,N,212]
  ·rw[agK.mp m,ak (ahf il)];rwa[(x it (by simp)).1]
 done:=by
  intro X hP hw hK hc i r s σ H E I x st M;let⟨ok,p,hit⟩:=st;let⟨D,F⟩:=M;obtain⟨f,-,hsm,ys,v,o2,Rl,Y,j,L,t,S,h5⟩:=I.aM d _ F;rw[f]at j;obtain rfl:=Za0 j;rw[B]at t;injection t with e1 T
  subst e1 T;let R:⇑c=⇑ys:=Paired.length v;let hsz:C.size=⇑ys:=size_of_entries S;rwa[Di.fin (I.ok.hd hc) hit ⟨_,f,L,B⟩ (aj8 ∅) λg eb=>⟨2,I.xt (fp:=[it]) (t':=s.toks) (λb n m q=>eb b n (λz=>m (by simp[z])) q) x⟩]
 self:=λA i s Q E ζ h=>by let⟨ok,p,hit⟩:=ζ;rwa[PySem.W.kcp_self hit h]
section
variable {X:Cx}
def iDI (tl:TE):TI:=λ c H R=>tl c H λx b=>∃d a,x=↑d/\b d\.dT a/\∀o,R (Az d o a) (upd b d (.cS o (.dT a)))
def Vn {tl:TE}{elts:Zr}{apos c:Pos}(N:PE X e tl)(f:attributeBase e "items" X.env (eval e X.env)=eval e X.env)(hline:(apos.endLine==c.line)=true):
 PI X (.Tuple elts n p) (.Call (.Attribute e "items" apos) [] [] c) (iDI tl):=by
 intro r s Q H R I h;rwa[wpAny_Call_method0_late f hline (a9 (N r s Q H _ I h) λu s1 ζ=>?_)];let⟨x,M,k,O,d,j,ex,v,q⟩:=ζ;subst ex;ext O;obtain⟨-,C,ys,V,o,m,t,A,E,D,Y,Z⟩:=k.aM d _ v;let l:dZ s1.heap d m t:=⟨o,A,E,D⟩;let B:DF M d:=.inr ⟨j,.inl v⟩;let⟨F,G,_⟩:=lZ k B;rwa[⟨"dict","dict.items",ah0,PySem.F.slot_dict_items,PySem.F.type_dict_items,F,G,ahK rfl (PySem.evalArgs_none ?_)⟩];rwa[ajb PySem.F.slot_dict_items F PySem.F.entry_dict_items (PySem.F.args_dict_items_1 _) (Di.meets d C) ⟨⟨m,t,l⟩,5⟩];let S:(s1.heap.push ("dict_items">>>.fields #[↑d])).IsItemsView ↥s1 d:=⟨_,agU _ rfl,22⟩;let g:dZ (s1.heap.push ("dict_items">>>.fields #[↑d])) d m t:=⟨o,agD _ A,E,D⟩;rwa[Di.iter (s:={ s1 with heap:=s1.heap.push ("dict_items">>>.fields #[↑d]) }) S g ?_];let L:=(k.freeze v True.intro A).kept (h':=(s1.heap.push ("dict_items">>>.fields #[↑d])).push ("dict_itemiterator">>>.fields #[.none,.bool false,↑d,.int 0 0,.int m.size 0,.int t 0,.none,.none])) (t':=s1.toks) λb o a=>agD _ (agD _ a)
 let i:↥s1<=(s1.heap.push ("dict_items">>>.fields #[↑d])).objs.size:=by rw[air];ext
 let T:=Ot (P:=X.prog) (w:=X.w) (K:=X.K) (elts:=elts) (x1:=n) (tp:=p) d (s1.heap.push ("dict_items">>>.fields #[↑d])).objs.size o m t j D;rwa[⟨111112,L,T,⟨11,agU _ rfl⟩,λb J=>?_,q o⟩];rw[agK.mp J];let y:=k.aM.fresh i;rwa[k.pE i ([ak (λz=>by cbv)]▸y)]
end
def Rn {o:Obj}{kvs:List (Zd×V)}{g:TG}{l:TS}(a:Nat->St->Hp->Prop)(u:a 0 D H)(w:∀i D H,i<=⇑kvs->a i D H->H d\.cS o (.dT kvs))
 (A:∀i j D H p kp,kvs[i]?\j->H p=none->H kp\.tup (j.1.map kV)->a i D H->g ↑p D (upd H p (.tup [↑kp,j.2])) λ c k=>l { G with nx:=a (i+ 1),ct:=a (i+ 1),bk:=G.nx } c k) (r:∀ D H,a ⇑kvs D H->G.nx D H):
 ∃W:Nat->Nat->St->Hp->Prop,(∃m,W 0 m D H)/\∀i m D H,W i m D H->
  ((Az d o kvs).stop i H/\G.nx D H)\/((Az d o kvs).go i H/\∃N:St->Hp->Prop,(∀ b f,N b f->∃n,n<m/\W (i+ 1) n b f)/\∀x f,(Az d o kvs).lT i H x f->g x D f λ c k=>l { G with nx:=N,ct:=N,bk:=G.nx } c k):=by
 erw[λi m D H=>m=⇑kvs - i/\i<=⇑kvs/\a i D H,⟨⇑kvs,by simp,ahd _,u⟩];rintro i m D H ⟨rfl,B,p⟩;let q:=w i D H B p;cases h:i<⇑kvs
 ·rwa[.inr ⟨⟨h,q⟩,a (i+ 1),λ b f C=>⟨⇑kvs - (i+ 1),32,h,C⟩,λx f y=>?_⟩];let⟨t,kp,j,v,s,z,rfl,rfl⟩:=y;rwa[A i j D _ t kp v s z p]
 ·let e:i=⇑kvs:=∅
  subst e;rwa[.inl ⟨⟨agJ _,q⟩,r D H p⟩]
theorem uD:∀(n:Nat) (l:Zg) (lo:Int),l.Nodup->(∀x∈l,lo<=x/\x<lo+ n)->⇑l<=n
 |0,[],_,_,_=>agJ _
 |0,x::l,lo,_,h=>by have:=h x (agP ..);ext
 |n+ 1,l,lo,b,h=>by
  cases c:lo+ n∈l
  ·let d:=uD n (l.erase (lo+ n)) lo (b.erase _) λx a=>by
    let e:=(b.mem_erase_iff.mp a);let f:=h x e.2;ext
   rw[ai8 c]at d;ext
  ·let d:=uD n l lo b λx a=>by
    let f:=h x a;let g:x≠lo+ n:=λz=>c (by rw[<-z];rwa[a])
    ext
   ext
section
variable {κ:Type} [DecidableEq κ]
def Hk (b:List (κ×V))(k j:κ):bB (fe b k) j=if j=k then none else bB b j:=by
 unfold fe
 induction b with
 |nil=>split <;> rfl
 |cons p r e=>
  cases c:p.1=k
  ·rw[aj4 (by simp[c]),e];cases a:j=k
   ·cbv
   ·rw[ag3 a,ag3 a,cO (λz=>a (z.symm.trans c))]
  ·rw[ajf (by simp[c])];cases a:p.1=j
   ·rw[cU a,ag3 (λz=>c (a.trans z)),cU a]
   ·rw[cO a,e];cases d:j=k
    ·cbv
    ·rw[ag3 d,ag3 d,cO a]
def AB (a:List (κ×V))(k:κ)(v:V):(putK a k v).map (·.1)=if k∈a.map (·.1) then a.map (·.1) else a.map (·.1)++[k]:=by
 unfold putK;cases h:(a.any λb=>decide (b.1=k))=true
 ·let c:k∈a.map (·.1):=by
   let⟨b,e,d⟩:=List.any_eq_true.mp h;rwa[ahu.mpr ⟨b,e,ahn d⟩]
  rw[ag8 h,ag8 c,ahw];rwa[ahJ λb _=>?_]
  cbv
 cbv
def Ro {a:List (κ×V)}(k:κ)(v:V)(h:(a.map (·.1)).Nodup):((putK a k v).map (·.1)).Nodup:=by
 rw[AB]
 cbv
def Ou {a:List (κ×V)}(k:κ)(h:(a.map (·.1)).Nodup):((fe a k).map (·.1)).Nodup:=by
 rwa[List.Nodup.sublist ((aiJ).map _) h]
def AF {a:List (κ×V)}(h:(a.map (·.1)).Nodup){b:κ×V}(hm:b∈a):bB a b.1\b.2:=by
 induction a with
 |nil=>ext hm
 |cons p r c=>
  rw[ahW,ahk]at h;rcases agW.mp hm with e|hm
  ·rw[e];rwa[cU rfl]
  ·rw[cO (λz=>h.1 ([z]▸ajd hm))];rwa[c h.2 hm]
def Kb {a:List (κ×V)}{k:κ}(h:bB a k\q):(k,q)∈a:=by
 unfold bB at h
 cases e:a.find? λb=>decide (b.1=k) with
 |none=>rw[e]at h;ext h
 |some b=>
  cbv
end
def DI (H:Hp)(d:Zs)(f:Int->Zc):Prop:=∃a:List (Key×V),H d\.dK a/\(a.map (·.1)).Nodup/\(∀b∈a,∃i:Int,b.1=Sum.inl i)/\∀i:Int,bB a (Sum.inl i)=f i
def DI.at {f:Int->Zc}(h:DI H d f)(k:∀o,H d\o->I d\o):DI I d f:=by
 let⟨a,c,b⟩:=h;rwa[a,k _ c,b]
def DI.congr {f g:Int->Zc}(h:DI H d f)(e:∀i,f i=g i):DI H d g:=by
 let⟨a,j,b,k,c⟩:=h;rwa[a,j,b,k,λi=>(c i).trans (e i)]
def AG {a:List (Key×V)}{f:Int->Zc}(e:(a.map (·.1)).Nodup)(h:∀c∈a,∃i:Int,c.1=Sum.inl i)(g:∀i:Int,bB a (Sum.inl i)=f i)(i:Int)(v:V):DI (upd H d (.dK (putK a (Sum.inl i) v))) d (λj=>if j=i then some v else f j):=by
 rwa[⟨_,ah,Ro^e,λc b=>?_,λj=>?_⟩]
 ·have:c.1∈(putK a (Sum.inl i) v).map (·.1):=ajd b;rw[AB]at this
  cbv
 ·rw[j3]
  cbv
def Ov {a:List (Key×V)}{f:Int->Zc}(e:(a.map (·.1)).Nodup)(g:∀c∈a,∃i:Int,c.1=Sum.inl i)(h:∀i:Int,bB a (Sum.inl i)=f i)(i:Int):DI (upd H d (.dK (fe a (Sum.inl i)))) d (λj=>if j=i then none else f j):=by
 rwa[⟨_,ah,Ou _ e,λc b=>g c ((aie.mp b).1),λj=>?_⟩];rw[Hk]
 cbv
def vw {c:List (Key×V)}{f:Int->Zc}(k:(c.map (·.1)).Nodup)(m:∀d∈c,∃i:Int,d.1=Sum.inl i)(p:∀i:Int,bB c (Sum.inl i)=f i){n:Nat}{lo:Int}(o:∀i v,f i\v->lo<=i/\i<lo+ n):⇑c<=n:=by
 let h:=uD n (c.map λd=>match d.1 with|Sum.inl i=>i|Sum.inr _=>0) lo ?_ λx r=>?_
 ·rw[agH]at h;rwa[h]
 ·let e:c.map (·.1)=(c.map λd=>match d.1 with|Sum.inl i=>i|Sum.inr _=>(0:Int)).map Sum.inl:=by
   rw[ahw];rwa[ahJ λd g=>?_]
   let⟨i,j⟩:=m d g;show d.1=Sum.inl (match d.1 with|Sum.inl i=>i|Sum.inr _=>(0:Int));rw[j]
  rw[e]at k;rwa[List.Pairwise.imp (λ{a b} q z=>q (ahS Sum.inl z)) (ah1.mp k)]
 ·let⟨d,g,rfl⟩:=ahu.mp r;let⟨i,j⟩:=m d g;let l:=AF k g;rw[j,p]at l;rw[j];rwa[o i _ l]
abbrev bI:=Int->Int->Int->Bool
structure dP (H:Hp) (k:Zs) (D:Int->Zo) (E:Int->Int->Zo) (S:bI):Prop where
 top:DI H k λc=>(D c).map V.ref
 row:∀c d,D c\d->DI H d λs=>(E c s).map V.ref
 yE:∀c s e,E c s\e->DI H e λo=>if S c s o=true then some (.bl true) else none
 ed:∀c s e,E c s\e->∃d,D c\d
 se:∀c s o,S c s o=true->∃e,E c s\e
 nd:∀c d,D c\d->d≠k
 ne:∀c s e,E c s\e->e≠k
 dd:∀c c' d,D c\d->D c'\d->c=c'
 de:∀c c' s d,D c\d->E c' s\d->False
 ee:∀c s c' s' e,E c s\e->E c' s'\e->c=c'/\s=s'
def uE (k:Zs)(D:Int->Zo)(E:Int->Int->Zo)(b:Zs):Prop:=b=k\/(∃c,D c\b)\/∃c s,E c s\b
section
variable {H H':Hp}{k:Zs}{D:Int->Zo}{E:Int->Int->Zo}{S:bI}
def dP.keep (h:dP H k D E S)(f:∀b o,uE k D E b->H b\o->H' b\o):dP H' k D E S:=
 ⟨h.top.at λo e=>f _ _ (.inl rfl) e,λc d e=>(h.row c d e).at λo q=>f _ _ (.inr (.inl ⟨c,e⟩)) q,λc s e q=>(h.yE c s e q).at λo r=>f _ _ (.inr (.inr ⟨c,s,q⟩)) r,h.ed,h.se,h.nd,h.ne,h.dd,h.de,h.ee⟩
def dP.same (h:dP H k D E S)(s:aq H H'):dP H' k D E S:=h.keep λb o _ e=>s b o e
def dP.there (h:dP H k D E S){b:Zs}(d:uE k D E b):∃a,H b\(.dK a):=by
 rcases d with rfl|⟨c,e⟩|⟨c,s,e⟩
 ·let⟨a,q,_⟩:=h.top;rwa[a,q]
 ·let⟨a,q,_⟩:=h.row c b e;rwa[a,q]
 ·let⟨a,q,_⟩:=h.yE c s b e;rwa[a,q]
def dP.congr (h:dP H k D E S){d:Int->Zo}{b:Int->Int->Zo}{a:bI}(e:∀c,D c=d c)(g:∀c s,E c s=b c s)(f:∀c s o,S c s o=a c s o):dP H k d b a:=by
 obtain rfl:D=d:=funext e;obtain rfl:E=b:=funext λc=>funext (g c)
 obtain rfl:S=a:=funext λc=>funext λs=>funext (f c s)
 rwa[h]
def dP.Rp (h:dP H k D E S):∃a:List (Key×V),H k\.dK a/\(a.map (·.1)).Nodup/\(∀b∈a,∃i:Int,b.1=Sum.inl i)/\∀i:Int,bB a (Sum.inl i)=(D i).map V.ref:=h.top
def dP.Kc (h:dP H k D E S){c:Int}{d:Zs}(hd:D c\d):∃a:List (Key×V),H d\.dK a/\(a.map (·.1)).Nodup/\(∀b∈a,∃i:Int,b.1=Sum.inl i)/\∀i:Int,bB a (Sum.inl i)=(E c i).map V.ref:=h.row c d hd
def dP.Rq (h:dP H k D E S){c s:Int}{e:Zs}(d:E c s\e):∃a:List (Key×V),H e\.dK a/\(a.map (·.1)).Nodup/\(∀b∈a,∃i:Int,b.1=Sum.inl i)/\∀i:Int,bB a (Sum.inl i)=if S c s i=true then some (.bl true) else none:=h.yE c s e d
def dP.Ow (h:dP H k D E S){c s:Int}{d e:Zs}(hd:D c\d)(N:E c s=none){j:List (Key×V)}(B:H d\.dK j)(J:H e\.dK [])(nw:¬uE k D E e):
 dP (upd H d (.dK (putK j (Sum.inl s) ↑e))) k D (λb f=>if b=c/\f=s then some e else E b f) S:=by
 let x:e≠d:=λz=>nw (.inr (.inl ⟨c,[z]▸hd⟩))
 let⟨t,C,L,F,I⟩:=h.row c d hd;rw[B]at C;obtain rfl:j=t:=by cbv
 rwa[⟨h.top.at λo q=>?_,λb u i=>?_,λb f m a=>?_,λb f m a=>?_,λb f o G=>?_,h.nd,λb f m a=>?_,h.dd,λb r f u i a=>?_,λb f r w m p l=>?_⟩]
 ·rw[ak (h.nd c d hd).symm];rwa[q]
 ·cases g:b=c
  ·subst g;have:u=d:=by rw[hd]at i;rwa[(Za0 i).symm]
   subst this;rwa[(AG L F I s ↑e).congr λf=>?_]
   cbv
  ·let y:u≠d:=λz=>g (h.dd _ _ _ i ([z]▸hd))
   rwa[((h.row b u i).at λo q=>[ak y]▸q).congr λf=>?_]
   cbv
 ·cases g:b=c/\f=s
  ·rw[ag8 g]at a;obtain rfl:=Za0 a;let⟨rfl,rfl⟩:=g;rwa[⟨[],[ak x]▸J,by simp,(λM A=>by ext A),λo=>?_⟩]
   cases q:S b f o with
   |true=>let⟨m,z⟩:=h.se _ _ _ q;cbv
   |false=>dsimp only;rw[q];rfl
  ·rw[ag3 g]at a;exact(h.yE b f m a).at λo q=>by rw[ak (λz=>h.de c b f d hd (by cbv))];rwa[q]
 ·cases g:b=c/\f=s
  ·cbv
  ·rw[ag3 g]at a;rwa[h.ed _ _ _ a]
 ·cases g:b=c/\f=s
  ·rwa[e,ag8 g]
  ·let⟨m,z⟩:=h.se _ _ _ G;cbv
 ·cases g:b=c/\f=s
  ·rw[ag8 g]at a;obtain rfl:=Za0 a;rwa[λz=>nw (.inl z)]
  ·rw[ag3 g]at a;rwa[h.ne _ _ _ a]
 ·cases g:r=c/\f=s
  ·rw[ag8 g]at a;obtain rfl:=Za0 a;rwa[nw (.inr (.inl ⟨b,i⟩))]
  ·rw[ag3 g]at a;rwa[h.de _ _ _ _ i a]
 ·cases v:b=c/\f=s
  ·rw[ag8 v]at p;obtain rfl:=Za0 p;cases n:r=c/\w=s
   ·rwa[v.1.trans n.1.symm,v.2.trans n.2.symm]
   ·rw[ag3 n]at l;rwa[(nw (.inr (.inr ⟨r,w,l⟩))).elim]
  ·rw[ag3 v]at p;cases n:r=c/\w=s
   ·rw[ag8 n]at l;obtain rfl:=Za0 l;rwa[(nw (.inr (.inr ⟨b,f,p⟩))).elim]
   ·rw[ag3 n]at l;rwa[h.ee _ _ _ _ _ p l]
def dP.setCell (h:dP H k D E S){c s:Int}{e:Zs}(j:E c s\e){u:HO}{g:Int->Bool}(p:DI (upd H e u) e λo=>if g o=true then some (.bl true) else none):
 dP (upd H e u) k D E (λa b o=>if a=c/\b=s then g o else S a b o):=by
 rwa[⟨h.top.at λo q=>?_,λa m d=>(h.row a m d).at λo q=>?_,λa b n f=>?_,h.ed,λa b o l=>?_,h.nd,h.ne,h.dd,h.de,h.ee⟩]
 ·rw[ak (h.ne _ _ _ j).symm];rwa[q]
 ·rw[ak (λz=>h.de _ _ _ _ d ([z]▸j))];rwa[q]
 ·cases i:a=c/\b=s
  ·cbv
  ·refine((h.yE a b n f).at λo q=>?_).congr λo=>by rw[ag3 i]
   rw[ak (λz=>i (h.ee _ _ _ _ _ f ([z]▸j)))];rwa[q]
 ·cases i:a=c/\b=s
  ·cbv
  ·rw[ag3 i]at l;rwa[h.se _ _ _ l]
def dP.Rt (h:dP H k D E S){c s:Int}{e:Zs}(j:E c s\e){a:List (Key×V)}(l:H e\.dK a)(o:Int):
 dP (upd H e (.dK (putK a (Sum.inl o) (.bl true)))) k D E (λi f b=>S i f b || (decide (i=c) && decide (f=s) && decide (b=o))):=by
 let⟨d,n,q,p,m⟩:=h.yE c s e j;rw[l]at n;obtain rfl:a=d:=by cbv
 rwa[(h.setCell (g:=λb=>S c s b || decide (b=o)) j ((AG q p m o (.bl true)).congr λb=>?_)).congr (λ_=>rfl) (λ_ _=>rfl) λi f b=>?_]
 ·cbv
 cbv
def dP.Ox (h:dP H k D E S){n:Int}{d:Zs}(hd:D n=none){g:List (Key×V)}(v:H k\.dK g)(A:H d\.dK [])(nw:¬uE k D E d):
 dP (upd H k (.dK (putK g (Sum.inl n) ↑d))) k (λc=>if c=n then some d else D c) E S:=by
 let⟨m,w,B,x,y⟩:=h.top;rw[v]at w;obtain rfl:g=m:=by cbv
 let t:d≠k:=λz=>nw (.inl z)
 let en:∀s,E n s=none:=λs=>by
  cases q:E n s with
  |none=>rfl
  |some e=>let⟨i,z⟩:=h.ed _ _ _ q;cbv
 rwa[⟨(AG B x y n ↑d).congr λc=>?_,λc i a=>?_,λc s e p=>(h.yE c s e p).at λo q=>?_,λc s e p=>?_,h.se,λc i a=>?_,h.ne,λc r i b f=>?_,λc r s i b f=>?_,h.ee⟩]
 ·cbv
 ·cases e:c=n
  ·rw[ag8 e]at a;obtain rfl:=Za0 a;subst e;rwa[⟨[],[ak t]▸A,by simp,(λC u=>by ext u),λs=>?_⟩];dsimp only;rw[en s];rfl
  ·rw[ag3 e]at a;exact(h.row c i a).at λo q=>by rw[ak (h.nd^a)];rwa[q]
 ·rw[ak (h.ne _ _ _ p)];rwa[q]
 ·let⟨i,z⟩:=h.ed _ _ _ p
  cbv
 ·cases e:c=n
  ·cbv
  ·rw[ag3 e]at a;rwa[h.nd^a]
 ·cases j:c=n
  ·rw[ag8 j]at b;obtain rfl:=Za0 b;cases l:r=n
   ·rw[j,l]
   ·rw[ag3 l]at f;rwa[(nw (.inr (.inl ⟨_,f⟩))).elim]
  ·rw[ag3 j]at b;cases l:r=n
   ·rw[ag8 l]at f;obtain rfl:=Za0 f;rwa[(nw (.inr (.inl ⟨_,b⟩))).elim]
   ·rw[ag3 l]at f;rwa[h.dd _ _ _ b f]
 ·cases j:c=n
  ·rw[ag8 j]at b;obtain rfl:=Za0 b;rwa[nw (.inr (.inr ⟨11,f⟩))]
  ·rw[ag3 j]at b;rwa[h.de _ _ _ _ b f]
end
namespace Et
section
variable {prog:Program}{w:World}{A:Around}{E:Zt->Zu->Prop}{s:Zu}
theorem item {it:Zs}{items:Zm}{x:Zt}(hit:s.heap.IsTupleIter it a i)(f:s.heap.IsTuple a items)(k:items[i]?\x)
 (h:∀g,g.IsTupleIter it a (i+ 1)->Heap.SameBut it s.heap g->Q x (s<*g)):(prog<|>w) A (Builtin.SmallTypes.nextOf ↑it) Q E s:=by
 let⟨o,c,j,b⟩:=id hit;let⟨m,e,_,l,d⟩:=f;rwa[agB (ahH (name:=Str.ofString "__next__") hit.typeIs aiL (ahL aiL hit.typeIs F.entry_tuple_iterator_next ?_ (F.args_tuple_iterator_next_1 _)))];show wpAny _ _ (field ↑it 0 >>=_) _ _ s;rwa[agB (ahI c b (x:=↑a) rfl ?_)];rw[ag3 (show ¬((Value.ref a==Value.none)=true) by cbv)];rwa[agB (ahI c b (x:=.int i 0) rfl ?_)];rwa[agB (ajk e d ?_)];simp only[ahg,k];rwa[agB (aiU c b (by simp) (agI ⟨x,2,agI (h _ ⟨_,aht _ c (aiQ (aii b _)),(Obj.cls_mapFields ..).trans j,by rw[aii b];simp[rawInt]⟩ (aia ..))⟩))]
theorem fin {it:Zs}{items:Zm}(j:A.handled=none)(hit:s.heap.IsTupleIter it a i)(k:s.heap.IsTuple a items)(n:items[i]?=none)
 (l:∀g e,Heap.ExtBut it s.heap g->(∃o,g.get? e\o/\o.cls=.type "StopIteration")->E ↑e (s<*g)):(prog<|>w) A (Builtin.SmallTypes.nextOf ↑it) Q E s:=by
 let⟨o,f,q,c⟩:=id hit;let⟨r,d,_,p,h⟩:=k;rwa[agB (ahH (name:=Str.ofString "__next__") hit.typeIs aiL (ahL aiL hit.typeIs F.entry_tuple_iterator_next ?_ (F.args_tuple_iterator_next_1 _)))];show wpAny _ _ (field ↑it 0 >>=_) _ _ s;rwa[agB (ahI f c (x:=↑a) rfl ?_)];rw[ag3 (show ¬((Value.ref a==Value.none)=true) by cbv)];rwa[agB (ahI f c (x:=.int i 0) rfl ?_)];rwa[agB (ajk d h ?_)];simp only[ahg,n];rwa[agB (akd (agB (aiU f c (by simp) ?_)))];rwa[agB ?_];rwa[agB (m:=firstArgMember _ _) (wpAny_of_eq (a:=Value.none) (by first|rfl|(simp only[firstArgMember];rfl)) ?_)];rwa[ahB ?_ (by size_fits)];rwa[agB (wpAny_handled ?_)];first|rw[show A.in1.handled=none from j]|rw[j]
 rwa[agB (agI (wpAny_throw ?_))];rwa[l _ _ (((aia ..).extBut.push _).push _) ⟨_,agU _ rfl,2⟩]
end
def meets (l:Zs)(items:Zm)(n:Nat)(dct:Zo)(j:Array Zl):
 Meets (Builtin.«enumerate.__new__» ⟨[.type "enumerate",↑l],[]⟩) (λ_ R s=>s.heap.get? l\{ cls:=.type "tuple",dict:=dct,data:=.seq items n,slots:=j }/\
  R (.ok (.ret (↑(s.heap.push ("tuple_iterator">>>.fields #[↑l,.int 0 0])).objs.size)))
    { s with heap:=(s.heap.push ("tuple_iterator">>>.fields #[↑l,.int 0 0])).push ("enumerate">>>.fields #[.none,.bool false,↑↥s,rawInt 0,.none,.none]) }):=
 .of_wp λb w A R s h=>by
  let⟨i,g,d,k,os⟩:=s;let⟨a,h⟩:=h;let e:=sub_enumerate;let f:Heap.IsTuple (Shared.heap ⟨i,g,d,k,os⟩) l items:=⟨_,a,2,n,2⟩
  wp_walk using ai4 a;rwa[wpAny_stack_any λst=>agI ?_]
  split
  ·rename_i c _ _ _ _ _;cases (c==Value.type "enumerate") <;> (wp_walk using ai4 a,wpAny_pyIter_tuple f;rwa[12,h])
  ·wp_walk using ai4 a,wpAny_pyIter_tuple f;rwa[12,h]
theorem call {items:Zm}(k:s.heap.IsTuple a items)
 (h:∀g,IsEnum g (↥s+ 1) ↥s 0 .none->g.IsTupleIter ↥s a 0->g.objs.size=↥s+ 2->(∀b o,s.heap.get? b\o->g.get? b\o)->Q ↑(↥s+ 1) (s<*g)):
 (P<|>w) A (call (.type "enumerate") [↑a]) Q E s:=by
 let⟨⟨c,dct,l,j⟩,m,f,n,d⟩:=k;replace f:c=.type "tuple":=f;replace d:l=.seq items n:=d;subst f d;rwa[callType_new F.called_enumerate ⋯ (F.typeCall_enumerate_1 _) (F.newCall_enumerate_1 _) (λobj=>F.args_object_init_2 obj _) F.entry_enumerate_new (meets a items n dct j) ⟨m,5⟩];let e:(s.heap.push ("tuple_iterator">>>.fields #[↑a,.int 0 0])).objs.size=↥s+ 1:=air ..;show _/\_;rw[e]
 let i:IsEnum ((s.heap.push ("tuple_iterator">>>.fields #[↑a,.int 0 0])).push ("enumerate">>>.fields #[.none,.bool false,↑↥s,rawInt 0,.none,.none])) (↥s+ 1) ↥s 0 .none:=by
  have:=agU (s.heap.push ("tuple_iterator">>>.fields #[↑a,.int 0 0])) (o:=("enumerate">>>.fields #[.none,.bool false,↑↥s,rawInt 0,.none,.none])) rfl;rw[e]at this;rwa[this]
 rwa[⟨_,i,2⟩,h _ i ⟨_,agD _ (agU _ rfl),22⟩ (by rw[air,e]) λb o x=>agD _ (agD _ x)]
end Et
section
variable {K:Za1}{mg:Str->Zl}{h:Heap}{C f:Zs}{x q:Str}{st:Stmt}{ps:Zp}{oc kV doc pm cz ct:Zt}{od an:Zo}{zZ:Array Zl}
theorem Def.of (X:K.In h)(G:h.Ns mainGlobals mg)(a:PySem.W.nsIn K mainGlobals x\some ↑f)(l:K.lookup f\⟨oc,od,.func (PySem.W.fnOf x x (dB st) (cE st) (aB st) .none kV doc pm an cz ct),zZ⟩)(c:PySem.W.codeIn K cz x=true)(k:PySem.W.keepIn K ↑f=true)
 (b:∀(kV doc pm:Zt) (an:Zo) (cz ct:Zt) (us:Zk),⇑us=⇑ps->bindArgs (PySem.W.fnOf x x (dB st) (cE st) (aB st) .none kV doc pm an cz ct) ⟨us,[]⟩=pure (ps.zip us)):Def K mg x st ps f (PySem.W.fnOf x x (dB st) (cE st) (aB st) .none kV doc pm an cz ct):=
 let F:=GP (st:=st) l c k
 ⟨F,PySem.W.mg_of X G a,F.binds (ps:=ps) b⟩
theorem MDef.of (a:PySem.W.findIn K ↑C x\some ↑f)(i:PySem.W.isFn K ↑f=true)(l:K.lookup f\⟨oc,od,.func (PySem.W.fnOf x q (dB st) (cE st) (aB st) .none kV doc pm an cz ct),zZ⟩)(c:PySem.W.codeIn K cz q=true)(k:PySem.W.keepIn K ↑f=true)
 (b:∀(kV doc pm:Zt) (an:Zo) (cz ct:Zt) (us:Zk),⇑us=⇑ps->bindArgs (PySem.W.fnOf x q (dB st) (cE st) (aB st) .none kV doc pm an cz ct) ⟨us,[]⟩=pure (ps.zip us)):MDef K C x q st ps f (PySem.W.fnOf x q (dB st) (cE st) (aB st) .none kV doc pm an cz ct):=
 let F:=GP (st:=st) l c k
 ⟨F,⟨a,i,k⟩,F.binds (ps:=ps) b⟩
def Def.fd {fd:FuncData}(D:Def K mg x st ps f fd):∃(kV doc pm:Zt) (an:Zo) (cz ct:Zt),fd=PySem.W.fnOf x x (dB st) (cE st) (aB st) .none kV doc pm an cz ct:=by
 let⟨oc,od,kV,doc,pm,an,cz,ct,zZ,e,_⟩:=D.F.ex;rwa[kV,doc,pm,an,cz,ct,e]
end
end L2
namespace L2
noncomputable def wk (b:Nat->Int->Zi):Nat->Zg->Zi
 |c,[]=>some c
 |c,z::w=>match b c z with
  |none=>none
  |some d=>wk b d w
section
variable {b:Nat->Int->Zi}
def jv (h:b n z\m):wk b n (z::l)=wk b m l:=by
 show (match b n z with|none=>none|some m=>wk b m l)=_;rw[h]
def oF (h:wk b n (z::l)\m):∃d,b n z\d/\wk b d l\m:=by
 cases q:b n z with
 |none=>
  let a:(match b n z with|none=>none|some d=>wk b d l)\m:=h;rw[q]at a;ext a
 |some d=>rw[jv q]at h;rwa[d,2,h]
theorem rq:∀{u v:Zg} {c d:Nat},wk b c u\d->wk b c (u++v)=wk b d v
 |[],v,c,d,h=>by rw[Za0 h];rfl
 |z::u,v,c,d,h=>by
  let⟨e,f,a⟩:=oF h;rw[aiO,jv f];rwa[rq a]
def Hl (h:b n z\m):wk b n [z]\m:=by rw[jv h];rfl
def take_snoc (h:l[i]?\z):l.take (i+ 1)=l.take i++[z]:=by rw[aiD,h];rfl
def drop_cons (h:l[i]?\z):l.drop i=z::l.drop (i+ 1):=by
 let a:=(agE.mp h).1;rw[ajK a,(agE.mp h).2]
end
structure Later (S S':RS):Prop where
 el:∀c,c<S.q->S'.aw (S.aw c)=S'.aw c
 by_:∀c z d,S.by c z=some d->S'.by (S'.aw c) z=some (S'.aw d)
def Later.of {l:Za2}(h:Good S [] R)(g:Good T [] l)(i:∀a z b,R a z b->l a z b)(k:S.q<=T.q):Later S T:=by
 let el:∀c,c<S.q->T.aw (S.aw c)=T.aw c:=λc hc=>(g.fin (ahc (h.lt hc) k) (ahc hc k)).mpr ((h.cg c hc).mono i).symm
 rwa[⟨el,λc z d e=>?_⟩];let⟨f,j,r,n,m⟩:=h.so _ _ _ e;let⟨o,l2,_⟩:=h.rl _ _ _ r;rw[<-n,<-m,el f o,el j l2];rwa[g.vu.mpr ⟨f,j,i _ _ _ r,22⟩]
theorem Later.wk (h:Later S T):∀{w:Zg} {c d:Nat},wk S.by c w=some d->wk T.by (T.aw c) w=some (T.aw d)
 |[],c,d,e=>by rw[Za0 e];rfl
 |z::w,c,d,e=>by
  let⟨f,b,a⟩:=oF e;rw[jv (h.by_ _ _ _ b)];rwa[Later.wk h a]
structure Gg where
 which:Nat
 word:Zg
 start:Nat
 front:Nat
 first:Nat
 bp:Nat
 last:Nat
abbrev Zf:=List (Option Gg)
noncomputable def Gg.z1 (g:Gg):Int:=g.word.getD g.first 0
noncomputable def Gg.z2 (g:Gg):Int:=-(g.word.getD g.last 0)
structure GI (S:RS) (g:Gg):Prop where
 fl:g.first<=g.last
 ll:g.last<⇑g.word
 s:g.start<S.q
 f:g.front<S.q
 r:g.bp<S.q
 wf:wk S.by (S.aw g.start) (g.word.take g.first)=some (S.aw g.front)
 wr:wk S.by (S.aw g.bp) (g.word.drop (g.last+ 1))=some (S.aw g.start)
def GI.later {g:Gg}(h:GI S g)(l:Later S T)(a:S.q<=T.q):GI T g:=by
 let c:=l.wk h.wf;let b:=l.wk h.wr;rw[l.el _ h.s,l.el _ h.f]at c;rw[l.el _ h.r,l.el _ h.s]at b;rwa[h.fl,h.ll,ahc h.s a,ahc h.f a,ahc h.r a,c,b]
def Gg.qm {g:Gg}(h:g.first<⇑g.word):g.word[g.first]?\g.z1:=by
 unfold Gg.z1
 cbv
def Gg.at2 {g:Gg}(h:g.last<⇑g.word):g.word[g.last]?\(-g.z2):=by
 unfold Gg.z2
 cbv
structure V7 (S:RS) (g g':Gg):Prop where
 wh:g'.which=g.which
 wo:g'.word=g.word
 st:g'.start=g.start
 gi:GI S g'
 ef:S.aw g'.front=g'.front
 er:S.aw g'.bp=g'.bp
 n1:g'.first<g'.last->S.by g'.front g'.z1=none
 n2:g'.first<g'.last->S.by g'.bp g'.z2=none
 k1:S.aw g.front=g.front->S.by g.front g.z1=none->g'.front=g.front/\g'.first=g.first
 k2:S.aw g.bp=g.bp->S.by g.bp g.z2=none->g'.bp=g.bp/\g'.last=g.last
def GI.whole {g:Gg}(h:GI S g)(e:g.first=g.last)(c:S.aw g.start=g.start)(ef:S.aw g.front=g.front)(er:S.aw g.bp=g.bp)(d:S.by g.front g.z1=some g.bp):wk S.by g.start g.word=some g.start:=by
 let b:=h.wf;let a:=h.wr;rw[c,ef]at b;rw[c,er,<-e]at a;let hz:=Gg.qm (g:=g) ([e]▸h.ll);have:g.word=g.word.take g.first++(g.z1::g.word.drop (g.first+ 1)):=by rw[<-drop_cons hz,ajA]
 rw[this,rq b,jv d];rwa[a]
noncomputable def eN (m:Nat)(W:bI)(n:Int):Nat:=(List.range (m* 2001)).countP λc=>W ((c / 2001:Nat):Int) (((c % 2001:Nat):Int) - 1000) n
def vx (m G:Nat)(W:bI):Nat:=((List.range G).map λn:Nat=>eN m W n).sum
def gx (W:bI)(r s:Int):bI:=λb a n=>W b a n && !(decide (b=r) && decide (a=s))
def Ru (a:n<m)(b: -1000<=z/\z<=1000):n* 2001+ (z+ 1000).toNat<m* 2001:=by
 have:(n+ 1)* 2001<=m* 2001:=aik _ a;ext
def Hm {c r:Nat}(f: -1000<=z/\z<=1000):(((c / 2001:Nat):Int)=(r:Int)/\((c % 2001:Nat):Int) - 1000=z)↔c=r* 2001+ (z+ 1000).toNat:=by
 constructor
 ·rintro ⟨e,d⟩;have:=Nat.div_add_mod c 2001;ext
 ·intro h;subst h
  let a:(r* 2001+ (z+ 1000).toNat) / 2001=r:=by
   rw[Nat.mul_comm,Nat.mul_add_div ⋯,Nat.div_eq_of_lt ∅];ext
  let b:(r* 2001+ (z+ 1000).toNat) % 2001=(z+ 1000).toNat:=by
   rw[Nat.mul_comm,Nat.mul_add_mod,Nat.mod_eq_of_lt ∅]
  rw[a,b];ext
def Rw {W:bI}(a:Int)(g:n<m)(d: -1000<=z/\z<=1000):eN m (gx W n z) a+ (if W n z a=true then 1 else 0)=eN m W a:=by
 let f:=Ru g d
 let dec:∀c:Nat,(decide (((c / 2001:Nat):Int)=(n:Int)) && decide (((c % 2001:Nat):Int) - 1000=z))=decide (c=n* 2001+ (z+ 1000).toNat):=λc=>by
  rw[<-Bool.decide_and,decide_eq_decide];rwa[Hm d]
 let at_:=(Hm (c:=n* 2001+ (z+ 1000).toNat) (r:=n) d).mpr rfl;unfold eN gx;cases b:W n z a=true
 ·rw[ag8 b]
  have:=lG (p:=λc:Nat=>W ((c / 2001:Nat):Int) (((c % 2001:Nat):Int) - 1000) a) (p':=λc:Nat=>W ((c / 2001:Nat):Int) (((c % 2001:Nat):Int) - 1000) a && !(decide (((c / 2001:Nat):Int)=(n:Int)) && decide (((c % 2001:Nat):Int) - 1000=z))) (v:=n* 2001+ (z+ 1000).toNat) (λc=>by
   rw[dec c,<-decide_not]) ([at_.1,at_.2]▸b) (m* 2001)
  rw[ag8 f]at this;rwa[this]
 ·rw[ag3 b,Nat.add_zero];rwa[akg λc _=>?_]
  rw[aix];rwa[⟨λh=>h.1,λh=>⟨h,5⟩⟩];rw[dec c]
  cases e:decide (c=n* 2001+ (z+ 1000).toNat) with
  |false=>rfl
  |true=>
   rw[ahn e,at_.1,at_.2]at h;rwa[absurd h b]
theorem yF:∀(l:Zh) (f g h:Nat->Nat),(∀n∈l,f n+ g n=h n)->(l.map f).sum+ (l.map g).sum=(l.map h).sum
 |[],_,_,_,_=>rfl
 |a::l,f,g,h,e=>by
  let c:=yF l f g h λn b=>e n (ag4 _ b)
  have:=e a (agP ..);simp only[ahW,List.sum_cons];ext
theorem DT (p:Nat->Bool):∀l:Zh,(l.map λn=>if p n=true then 1 else 0).sum=l.countP p
 |[]=>rfl
 |a::l=>by
  rw[ahW,List.sum_cons,DT p l,List.countP_cons];ext
def Oy {G:Nat}{W:bI}(b:n<m)(c: -1000<=z/\z<=1000):vx m G (gx W n z)+ (List.range G).countP (λa:Nat=>W n z a)=vx m G W:=by
 unfold vx;rw[<-DT (λa:Nat=>W n z a)];rwa[yF _ _ _ _ λa _=>Rw a b c]
theorem Oz:∀{l:Zh} {a b:Nat},l.Nodup->(∀x∈l,x=a\/x=b)->⇑l<=2
 |[],_,_,_,_=>⋯
 |[_],_,_,_,_=>aiT 1
 |[_,_],_,_,_,_=>agJ 2
 |x::y::z::r,a,b,e,h=>by
  let f:=h x (by simp);let c:=h y (by simp);let d:=h z (by simp)
  cbv
def Rx {W:bI}{p q:Int×Int}(h:∀r s,W r s z=true->(r,s)=p\/(r,s)=q):eN m W z<=2:=by
 unfold eN;rw[ajq];rwa[Oz (a:=(p.1* 2001+ (p.2+ 1000)).toNat) (b:=(q.1* 2001+ (q.2+ 1000)).toNat) (ajh.filter _) λc d=>?_]
 let f:=Nat.div_add_mod c 2001;rcases h _ _ (aie.mp d).2 with e|e
 ·left;rw[<-e];dsimp only;ext
 ·right;rw[<-e];dsimp only;ext
theorem Hn:∀(l:Zh) (f:Nat->Nat) (k:Nat),(∀n∈l,f n<=k)->(l.map f).sum<=⇑l* k
 |[],_,_,_=>by simp
 |a::l,f,k,h=>by
  let c:=Hn l f k λn b=>h n (ag4 _ b)
  have:=h a (agP ..);rw[ahW,List.sum_cons,aha,aje];ext
def OB {W:bI}(h:∀a:Nat,∃p q:Int×Int,∀r s,W r s a=true->(r,s)=p\/(r,s)=q):vx m n W<=2* n:=by
 have:=Hn (List.range n) (λa:Nat=>eN m W a) 2 λa _=>by
  let⟨p,q,e⟩:=h a;rwa[Rx e]
 rw[ahp]at this;unfold vx;ext
structure CI (S:RS) (bs:List (Nat×Zg×Nat)) (gs:Zf) (ag:Zh) (W:bI) (Ex:Nat->Int->Prop) (x:Zi):Prop where
 len:⇑gs=⇑bs
 al:∀(n:Nat) (g:Gg),gs[n]?\some g->bs[n]?\(g.which,g.word,g.start)/\GI S g/\(n∈ag\/some n=x\/(g.first<g.last/\W g.front g.z1 n=true/\W g.bp g.z2 n=true))
 de:∀(n:Nat) (b:Nat×Zg×Nat),gs[n]?\none->some n≠x->bs[n]?\b->S.aw b.2.2≠b.2.2\/wk S.by b.2.2 b.2.1=some b.2.2
 ab:∀n∈ag,n<⇑gs
 en:∀r s n,W r s n=true->∃r' n':Nat,r=r'/\n=n'/\r'<S.q/\n'<⇑gs/\(-1000<=s/\s<=1000)/\(S.aw r'=r'/\S.by r' s=none\/Ex r' s)
 sl:∀n:Nat,∃p q:Int×Int,(∀r s,W r s n=true->(r,s)=p\/(r,s)=q)/\∀g,gs[n]?\some g->p=((g.front:Int),g.z1)/\q=((g.bp:Int),g.z2)
 bd:∀b∈bs,∀z∈b.2.1,-1000<=z/\z<=1000
def fT:Nat->Int->Prop:=λ_ _=>False
section
variable {S:RS}{bs:List (Nat×Zg×Nat)}{gs:Zf}{ag:Zh}{W:bI}{Ex:Nat->Int->Prop}{x:Zi}{n:Nat}
def CI.pop (h:CI S bs gs (ag++[n]) W Ex none):CI S bs gs ag W Ex (some n):=by
 rwa[⟨h.len,λk g e=>?_,λk b e _=>h.de k b e (λz=>by ext z),λk a=>h.ab k (ag6 _ a),h.en,h.sl,h.bd⟩];let⟨d,c,f⟩:=h.al k g e
 cbv
def CI.done (h:CI S bs gs ag W Ex (some n))(e:gs[n]?\none)(k:∀b,bs[n]?\b->S.aw b.2.2≠b.2.2\/wk S.by b.2.2 b.2.1=some b.2.2):CI S bs gs ag W Ex none:=by
 rwa[⟨h.len,λm g c=>?_,λm b c _ d=>?_,h.ab,h.en,h.sl,h.bd⟩]
 ·let⟨i,f,a⟩:=h.al m g c;erw[i,f];rcases a with a|a|a
  ·rwa[.inl a]
  ·cbv
  ·rwa[.inr (.inr a)]
 ·cases q:m=n
  ·rw[q]at d;rwa[k b d]
  ·rwa[h.de m b c (λz=>q (Za0 z)) d]
def fH {c:Type}{l:List c}{a b:c}(h:(l.set i a)[j]?\b):(j=i/\b=a)\/(j≠i/\l[j]?\b):=by
 cbv
def CI.kill (h:CI S bs gs ag W Ex (some n)):CI S bs (gs.set n none) ag W Ex (some n):=by
 rwa[⟨[ahb]▸h.len,λm g e=>?_,λm b e q f=>?_,λk a=>[ahb]▸h.ab k a,λr s k e=>?_,λm=>?_,h.bd⟩]
 ·rcases fH e with ⟨_,z⟩|⟨z,e⟩
  ·ext z
  ·rwa[h.al m g e]
 ·rcases fH e with ⟨z,_⟩|⟨z,e⟩
  ·cbv
  ·rwa[h.de m b e q f]
 ·rw[ahb];rwa[h.en r s k e]
 ·let⟨p,q,d,c⟩:=h.sl m;rwa[⟨p,q,d,λg e=>?_⟩];rcases fH e with ⟨_,z⟩|⟨_,e⟩
  ·ext z
  ·rwa[c g e]
def addW (W:bI)(r s n:Int):bI:=λc a b=>W c a b || (decide (c=r) && decide (a=s) && decide (b=n))
def dy {W:bI}{n c a b:Int}:addW W z y n c a b=true↔W c a b=true\/(c=z/\a=y/\b=n):=by
 unfold addW
 cbv
def di {W:bI}{b a c:Int}:gx W z y b a c=true↔W b a c=true/\¬(b=z/\a=y):=by
 unfold gx
 cbv
def CI.waits (h:CI S bs gs ag W fT (some n)){g c:Gg}(e:gs[n]?\some g)(a:V7 S g c)(d:c.first<c.last):CI S bs (gs.set n (some c)) ag (addW (addW W c.front c.z1 n) c.bp c.z2 n) fT none:=by
 let⟨t,N,_⟩:=h.al n g e;let C:=(agE.mp e).1;let gi:=a.gi;let A:∀z∈c.word,-1000<=z/\z<=1000:=λz hz=>h.bd _ (agC t) z (by rw[<-a.wo];rwa[hz])
 let E:=A _ (agC (Gg.qm (g:=c) (by have:=gi.ll;omega)));let O:=A _ (agC (Gg.at2 (g:=c) gi.ll));rwa[⟨[ahb]▸h.len,λm u q=>?_,λm b q _ I=>?_,λk F=>[ahb]▸h.ab k F,λr s k q=>?_,λm=>?_,h.bd⟩]
 ·rcases fH q with ⟨rfl,z⟩|⟨z,q⟩
  ·ext z;rwa[⟨by rw[t,a.wh,a.wo,a.st],gi,.inr (.inr ⟨d,dy.mpr (.inl (dy.mpr (.inr ⟨222⟩))),dy.mpr (.inr ⟨222⟩)⟩)⟩]
  ·let⟨i,j,f⟩:=h.al m u q;erw[i,j];rcases f with f|f|⟨f,G,H⟩
   ·rwa[.inl f]
   ·cbv
   ·rwa[.inr (.inr ⟨f,dy.mpr (.inl (dy.mpr (.inl G))),dy.mpr (.inl (dy.mpr (.inl H)))⟩)]
 ·rcases fH q with ⟨_,z⟩|⟨z,q⟩
  ·ext z
  ·rwa[h.de m b q (λy=>z (Za0 y)) I]
 ·rw[ahb];rcases dy.mp q with q|⟨rfl,rfl,rfl⟩
  ·rcases dy.mp q with q|⟨rfl,rfl,rfl⟩
   ·rwa[h.en r s k q]
   ·rwa[⟨_,n,rfl,rfl,gi.f,C,E,.inl ⟨a.ef,a.n1 d⟩⟩]
  ·rwa[⟨_,n,rfl,rfl,gi.r,C,by ext,.inl ⟨a.er,a.n2 d⟩⟩]
 ·let⟨p,q,i,j⟩:=h.sl m;cases J:m=n
  ·subst J;let⟨L,eq⟩:=j g e;rwa[⟨((c.front:Int),c.z1),((c.bp:Int),c.z2),λr s w=>?_,λu v=>?_⟩]
   ·rcases dy.mp w with w|⟨rfl,rfl,_⟩
    ·rcases dy.mp w with w|⟨rfl,rfl,_⟩
     ·let⟨o,M,er,_,_,_,_,l⟩:=h.en r s m w;rcases l with ⟨B,D⟩|l
      ·rcases i r s w with z|z
       ·rw[L]at z;injection z with z1 z2
        have:o=g.front:=∅
        subst this;let⟨k1,k2⟩:=a.k1 B (by cbv)
        left
        rw[Prod.mk.injEq];erw[[k1]▸er];rw[z2];unfold Gg.z1;rw[a.wo,k2]
       ·rw[eq]at z;injection z with z1 z2
        have:o=g.bp:=∅
        subst this;let⟨k1,k2⟩:=a.k2 B (by cbv)
        right
        rw[Prod.mk.injEq];erw[[k1]▸er];rw[z2];unfold Gg.z2;rw[a.wo,k2]
      ·rwa[l.elim]
     ·rwa[.inl rfl]
    ·rwa[.inr rfl]
   ·rcases fH v with ⟨_,z⟩|⟨z,_⟩
    ·cbv
    ·rwa[absurd rfl z]
  ·rwa[⟨p,q,λr s w=>?_,λu v=>?_⟩]
   ·rcases dy.mp w with w|⟨_,_,z⟩
    ·rcases dy.mp w with w|⟨_,_,z⟩
     ·rwa[i r s w]
     ·ext
    ·ext
   cbv
def CI.wake (h:CI S bs gs ag W Ex x){r s:Int}{ns:Zh}(f:∀k:Nat,k∈ns↔W r s k=true):CI S bs gs (ag++ns) (gx W r s) Ex x:=by
 rwa[⟨h.len,λm g e=>?_,h.de,λk u=>?_,λt o k q=>h.en _ _ _ (di.mp q).1,λm=>?_,h.bd⟩]
 ·let⟨c,b,a⟩:=h.al m g e;erw[c,b];rcases a with a|a|⟨a,j,l⟩
  ·rwa[.inl (ag6 _ a)]
  ·rwa[.inr (.inl a)]
  ·cases i:(g.front:Int)=r/\g.z1=s
   ·rwa[.inl (agL _ ((f m).mpr (by rw[<-i.1,<-i.2];rwa[j])))]
   ·cases d:(g.bp:Int)=r/\g.z2=s
    ·rwa[.inl (agL _ ((f m).mpr (by rw[<-d.1,<-d.2];rwa[l])))]
    ·rwa[.inr (.inr ⟨a,di.mpr ⟨j,i⟩,di.mpr ⟨l,d⟩⟩)]
 ·rcases agS.mp u with q|q
  ·rwa[h.ab k q]
  ·let⟨_,v,_,en,_,y,_⟩:=h.en _ _ _ ((f k).mp q);ext
 ·let⟨p,q,c,b⟩:=h.sl m;rwa[p,q,λt o w=>c^(di.mp w).1,b]
def CI.ex {e:Nat->Int->Prop}(h:CI S bs gs ag W Ex x)(k:∀(r:Nat) s n,W r s n=true->r<S.q->Ex r s->(S.aw r=r/\S.by r s=none)\/e r s):CI S bs gs ag W e x:=by
 rwa[⟨h.len,h.al,h.de,h.ab,λr s n q=>?_,h.sl,h.bd⟩];let⟨g,f,rfl,rfl,a,b,c,d⟩:=h.en r s n q;rwa[g,f,22,a,b,c,d.elim .inl (k g s f q a)]
end
structure fI (S:RS):Prop where
 a:∀c,c<S.q->S.aw c≠c->c∈S.aY
 b:∀c∈S.aY,S.aw c≠c
 c:∀c∈S.aY,c<S.q
section
variable {S S':RS}{pend:Ze}{w:Way}{R:Za2}{ks:Zg}
def Ho {x:Nat}:(S.meet n z x m pend).1.aY=S.aY++[max x m]:=by
 have:=(gM (max x m) (S.joined n z (min x m) (max x m)) pend ((S.joined n z (min x m) (max x m)).way (max x m))).2;have:=ahS RS.aY this;rwa[this]
def tW (h:(S.takeIn pend w).1.aY=S.aY):(S.takeIn pend w).1.aU=S.aU:=by
 let no:∀{c x y:Nat} {z:Int},(S.meet c z x y pend).1.aY=S.aY->False:=λ{c x y z} e=>by
  rw[Ho]at e;have:=ahS List.length e
  cbv
 unfold RS.takeIn at h ⊢;split
 ·rename_i q;rw[ag8 q]at h;rwa[(no h).elim]
 ·rename_i q;rw[ag3 q]at h;split
  ·rename_i a;rw[ag8 a]at h;rwa[(no h).elim]
  ·rfl
def fI.take (f:fI S)(h:Good S (pend++[w]) R)(j:∀c z d,R c z d->z∈ks):fI (S.takeIn pend w).1/\∃l,(S.takeIn pend w).1.aY=S.aY++l:=by
 let⟨_,_,g,_,q⟩:=h.take j;rcases q with ⟨_,_,e⟩|⟨_,c,z,x,y,n,_,p,r,m,_,e,el⟩
 ·let ee:=tW e;let el:∀a,(S.takeIn pend w).1.aw a=S.aw a:=λa=>by unfold RS.aw;rw[ee]
  rwa[⟨⟨λc hc=>?_,λc hc=>?_,λc hc=>by rw[g];rw[e]at hc;rwa[f.c c hc]⟩,[],by rw[e,ahe]⟩]
  ·rw[g]at hc;rw[el,e];rwa[f.a c hc]
  ·rw[e]at hc;rw[el];rwa[f.b c hc]
 ·let⟨_,o,_,ex⟩:=h.st _ _ _ n;rwa[⟨⟨λa b=>?_,λa b=>?_,λa b=>?_⟩,[max x y],e⟩]
  ·rw[g]at b;rw[el,e];intro i;cases q:S.aw a=a
   ·cbv
   ·rwa[ag6 _ (f.a a b q)]
  ·rw[el];rw[e]at b;rcases agS.mp b with q|q
   ·let i:=f.b a q
    cbv
   cbv
  ·rw[g];rw[e]at b;rcases agS.mp b with q|q
   ·rwa[f.c a q]
   ·rw[agK.mp q];rcases aki x y with k|k <;> ext
inductive j6:RS->Ze->RS->Prop where
 |nil (S:RS):j6 S [] S
 |take {S S':RS} {pend:Ze} {w:Way}:j6 (S.takeIn pend w).1 (S.takeIn pend w).2 S'->j6 S (pend++[w]) S'
def j6.all (l:j6 S pend S'):Good S pend R->(∀c z d,R c z d->z∈ks)->fI S->Good S' [] R/\fI S'/\S'.q=S.q/\S'.L=S.L/\∃l,S'.aY=S.aY++l:=by
 induction l with
 |nil S=>exact λg _ w=>⟨g,w,22,[],(ahe _).symm⟩
 |take _ i=>
  intro g e w;let⟨h,_,m,k,_⟩:=g.take e;let⟨f,l2,n⟩:=w.take g e;let⟨a,b,c,d,o,j⟩:=i h e f
  cbv
end
section
variable {S S':RS}{R:Za2}{bs:List (Nat×Zg×Nat)}{gs:Zf}{ag:Zh}{W:bI}{n c d:Nat}{z:Int}
def CI.lay (h:CI S bs gs ag W fT (some n))(e:gs[n]?\none)(g:Good S [] R)(w:Good S' [] (fz R c z d))(hm:S'.q=S.q)(I:fI S)(C:fI S'){l:Zh}(Q:S'.aY=S.aY++l)(hc:c<S.q)(N:S.aw c=c)(hd:d<S.q)(ed:S.aw d=d)
 (k:∀b,bs[n]?\b->S'.aw b.2.2≠b.2.2\/wk S'.by b.2.2 b.2.1=some b.2.2):CI S' bs gs ag W (λr s=>(r=c/\s=z)\/(r=d/\s= -z)\/∃m∈l,r=m\/r=S'.aw m) none:=by
 let lt:=Later.of g w ja (ajR hm.symm)
 let p:∀e,e<S.q->S.aw e=e->S'.aw e≠e->e∈l:=λe j i D=>by
  have:=C.a e ([hm]▸j) D;rw[Q]at this;rcases agS.mp this with q|q
  ·rwa[absurd i (I.b e q)]
  ext
 let h0:CI S' bs gs ag W (λr s=>(r=c/\s=z)\/(r=d/\s= -z)\/∃m∈l,r=m\/r=S'.aw m) (some n):=by
  rwa[⟨h.len,λm u q=>?_,λm b A H O=>?_,h.ab,λr s m q=>?_,h.sl,h.bd⟩]
  ·let⟨j,i,D⟩:=h.al m u q;rwa[j,i.later lt (ajR hm.symm),D]
  ·cases t:S'.aw b.2.2=b.2.2
   ·right
    rcases h.de m b A H O with q|q
    ·cases y:b.2.2<S.q
     ·let j:=(g.el _ y).1;let i:=(w.el _ ([hm]▸g.lt y)).1;rw[lt.el _ y,t]at i;rwa[absurd (Nat.le_antisymm j i) q]
     ·exfalso
      let G:⇑S.aU=S.q:=g.wf.e;let M:⇑S'.aU=S'.q:=w.wf.e;let J:S.aw b.2.2=0:=by unfold RS.aw;rw[agM,aho ∅];rfl
      let B:S'.aw b.2.2=0:=by unfold RS.aw;rw[agM,aho ∅];rfl
      rwa[q (by rw[J,<-B,t])]
    ·have:=lt.wk q;rw[t]at this;rwa[this]
   ·rwa[.inl t]
  ·let⟨f,L,t,P,F,U,G,q⟩:=h.en r s m q;erw[f,L,t,P,[hm]▸F,U,G];rcases q with ⟨A,H⟩|q
   ·cases j:S'.aw f=f
    ·cases i:S'.by f s with
     |none=>exact .inl ⟨j,2⟩
     |some o=>
      right
      let⟨v,T,x,f1,X⟩:=w.so _ _ _ i
      let stand:∀e,e<S.q->S.aw e=e->S'.aw e=f->e=f\/∃m∈l,f=m\/f=S'.aw m:=λe Y Z V=>by
       cbv
      rcases x with x|⟨rfl,rfl,rfl⟩|⟨rfl,rfl,rfl⟩
      ·let⟨E,l2,_⟩:=g.rl _ _ _ x;rcases stand (S.aw v) (g.lt E) (g.el _ E).2 ([lt.el _ E]▸f1) with a|a
       ·have:=g.vu.mpr ⟨v,T,x,a,rfl⟩
        cbv
       ·rwa[.inr (.inr a)]
      ·rcases stand v hc N f1 with a|a
       ·rwa[.inl ⟨a.symm,rfl⟩]
       ·rwa[.inr (.inr a)]
      ·rcases stand v hd ed f1 with a|a
       ·rwa[.inr (.inl ⟨a.symm,rfl⟩)]
       ·rwa[.inr (.inr a)]
    ·rwa[.inr (.inr (.inr ⟨f,p f F A j,.inl rfl⟩))]
   ·rwa[q.elim]
 rwa[h0.done e k]
end
noncomputable def cq (a:Nat->Int->Zi):Nat->Zg->Zh
 |_,[]=>[]
 |r,z::c=>match a r z with
  |none=>[]
  |some b=>b::cq a b c
def yG {a:Nat->Int->Zi}(h:a n z=none):cq a n (z::l)=[]:=by
 show (match a n z with|none=>[]|some b=>b::cq a b l)=[];rw[h]
def m7 {a:Nat->Int->Zi}(h:a n z\m):cq a n (z::l)=m::cq a m l:=by
 show (match a n z with|none=>[]|some m=>m::cq a m l)=_;rw[h]
noncomputable def lP (w:Nat)(p:Zh)(k:Nat):Dt:=.t [.s [114,117,108,101],.i w,.t (p.map λc:Nat=>Dt.i (c:Int)),.i k]
structure AH (ws:Za3) (nr:Nat) (S:RS) (which:Nat) (word:Zg) (start m c d:Nat) (z:Int):Prop where
 w:ws[which]?\word
 n:which<nr\/start=0
 s:start<S.q/\S.aw start=start
 hz:word[m]?\z
 f:wk S.by start (word.take m)=some c
 r:wk S.by d (word.drop (m+ 1))=some start
 hc:c<S.q/\S.aw c=c
 hd:d<S.q/\S.aw d=d
 o:S.by c z≠some d
def pO (S:RS)(a:Nat)(word:Zg)(start m d:Nat):RS:={ S with rows:=S.rows++[lP a ((start::cq S.by start (word.take m))++(d::cq S.by d (word.drop (m+ 1)))) m] }
inductive Tr (ws:Za3) (nr:Nat):RS->RS->Prop where
 |refl (S:RS):Tr ws nr S S
 |step {S S1 S2:RS} {which:Nat} {word:Zg} {start m c d:Nat} {z:Int}:Tr ws nr S S1->AH ws nr S1 which word start m c d z->j6 (pO S1 which word start m d) [(c,z,d)] S2->Tr ws nr S S2
def Mj (S:RS)(c:Nat)(word:Zg):Prop:=wk S.by c word=some c\/∃(i j f r:Nat) (y z:Int),i<j/\word[i]?\y/\word[j]?\z/\wk S.by c (word.take i)=some f/\S.by f y=none/\wk S.by r (word.drop (j+ 1))=some c/\S.by r (-z)=none
structure AI (rs ps:Za3) (S:RS):Prop where
 r:∀w∈rs,∀c,c<S.q->S.aw c=c->Mj S c w
 p:∀w∈ps,Mj S 0 w
def UW (U:Za2):Nat->Zg->Nat->Prop
 |p,[],q=>p=q
 |p,z::w,q=>∃r,U p z r/\UW U r w q
structure V8 (ws:Za3) (nr M:Nat) (φ:Nat->Nat) (U:Za2):Prop where
 sy:∀p z q,U p z q->U q (-z) p
 fn:∀p z q q',U p z q->U p z q'->q=q'
 cl:∀(which:Nat) (word:Zg) (start m c d:Nat) (z:Int),ws[which]?\word->which<nr\/start=0->start<M->word[m]?\z->UW U (φ start) (word.take m) (φ c)->UW U (φ d) (word.drop (m+ 1)) (φ start)->U (φ c) z (φ d)
section
variable {S S':RS}{R:Za2}{φ:Nat->Nat}{U:Za2}{ks:Zg}
def Hq (i:∀p z q e,U p z q->U p z e->q=e)(d:∀a z b,R a z b->U (φ a) z (φ b)){a b:Nat}(h:Cg R a b):φ a=φ b:=by
 induction h with
 |refl=>rfl
 |symm _ c=>exact c.symm
 |trans _ _ f k=>exact f.trans k
 |step j g _ c=>exact i _ _ _ _ (d _ _ _ j) ([c]▸d _ _ _ g)
def Hr (g:Good S [] R)(e:∀p z q i,U p z q->U p z i->q=i)(f:∀a z b,R a z b->U (φ a) z (φ b)){c d:Nat}{z:Int}(h:S.by c z=some d):U (φ c) z (φ d):=by
 let⟨m,n,r,l,t⟩:=g.so _ _ _ h;let⟨j,k,_⟩:=g.rl _ _ _ r;let o:=Hq e f (g.cg _ j);let s:=Hq e f (g.cg _ k)
 cbv
theorem AJ (h:∀c z d,S.by c z=some d->U (φ c) z (φ d)):∀{w:Zg} {c d:Nat},wk S.by c w=some d->UW U (φ c) w (φ d)
 |[],c,d,e=>by rw[Za0 e];rfl
 |z::w,c,d,e=>by
  let⟨f,b,a⟩:=oF e;rwa[_,h _ _ _ b,AJ h a]
def Tr.sound {ws:Za3}(t:Tr ws n S S')(md:V8 ws n m φ U)(A:∀w∈ws,∀z∈w,z∈ks/\-z∈ks):Good S [] R->fI S->S.q<=m->(∀a z b,R a z b->z∈ks)->(∀a z b,R a z b->U (φ a) z (φ b))->
 ∃j,Good S' [] j/\fI S'/\S'.q=S.q/\S'.L=S.L/\(∀a z b,R a z b->j a z b)/\(∀a z b,j a z b->z∈ks)/\∀a z b,j a z b->U (φ a) z (φ b):=by
 induction t with
 |refl=>exact λg w _ k h=>⟨R,g,w,22,λ_ _ _ r=>r,k,h⟩
 |step _ ra C F=>
  rename_i J I which word start f c d z _;intro g q v k h;let⟨B,g1,l,D,G,E,k1,p⟩:=F g q v k h;let o:=λc z d=>Hr (c:=c) (d:=d) (z:=z) g1 md.fn p
  let u:=md.cl which word start f c d z ra.w ra.n (by have:=ra.s.1;omega) ra.hz (AJ o ra.f) (AJ o ra.r);let hz:=A word (agC ra.w) z (agC ra.hz)
  let i:∀a y b,fz B c z d a y b->y∈ks:=by
   rintro a y b (r|⟨_,e,_⟩|⟨_,e,_⟩)
   ·rwa[k1 _ _ _ r]
   ·rw[e];rwa[hz.1]
   ·rw[e];rwa[hz.2]
  let⟨x,H,s,l2,_⟩:=C.all (g1.lay z ra.hc.1 ra.hd.1 _) i ⟨l.a,l.b,l.c⟩;erw[_,x,H,s.trans D,l2.trans G,λa y b r=>.inl (E _ _ _ r),i];rintro a y b (r|⟨rfl,rfl,rfl⟩|⟨rfl,rfl,rfl⟩)
  ·rwa[p _ _ _ r]
  ·rwa[u]
  ·rwa[md.sy _ _ _ u]
end
end L2
namespace L2
open PySem PySem.Spec PyProof.Rows
section
variable {X:Cx}
def OD (K:Za1)(h:TA)(f:TE):TI:=λ c H R=>h c H λd e=>f c e λz b=>∃a n,d=[↑a]/\z=.int n/\0<=n/\n<1000/\(∃g,aD K b a g)/\R (sR K a n) b
def Rz (Q:V->Hp->Prop):Zb->Hp->Prop
 |[z],H=>Q z H
 |_,_=>False
theorem OG {Q:V->Hp->Prop}:∀{a:Zb} {H:Hp},Rz Q a H->∃z,a=[z]/\Q z H
 |[z],_,h=>⟨z,2,h⟩
 |[],_,h=>h.elim
 |_::_::_,_,h=>h.elim
def Hs {b:Expr}{C:TE}{elts:Zr}{d pos kp:Pos}(G:Gl X "enumerate")(Y:X.mg "enumerate"=none)(Z:PE X e r)(j:PE X b C)
 (E:starEach [e] X.env=(false,eval e X.env)::starEach [] X.env)
 (t:((backTo pos (starEach [e] X.env)).any (·.1) || (backToKw pos (keywordEach [⟨some "start",b,kp⟩] X.env)).any (·.1.isNone))=false):
 PI X (.Tuple elts n p) (.Call (.Name "enumerate" d) [e] [⟨some "start",b,kp⟩] pos) (OD X.K (jH r jZ) C):=by
 intro a s B H R I h;rwa[ahO (gY I G Y boot_enumerate ?_)];rwa[PySem.W.callWith_of (P:=λ_=>True) t (λ_ _=>⟨.machine,.inr (.inl rfl),λ_ _ _ _ _ q=>agI q⟩) (evalArgs_kw2 rfl (a9 ((ae Z aj E) pos a s B H _ I h) λus V ζ=>?_) E)];let⟨N,U,J,c,q⟩:=ζ;rwa[a9 ((Du j GC:PK X [⟨some "start",b,kp⟩] _) pos a V B U (Rz λz m=>∃e f,N=[↑e]/\z=.int f/\0<=f/\f<1000/\(∃D,aD X.K m e D)/\R (sR X.K e f) m) J q) λws s2 ζ=>?_];let⟨zs,m,i,W,qz⟩:=ζ;rwa[⟨True.intro,5⟩]
 let⟨z,rfl,l,f,Q,rfl,v,A,x,S⟩:=OG qz;subst Q;let⟨D,x⟩:=x;let⟨u,rfl,ru⟩:=vals1 c;ext ru;let⟨u2,rfl,F,rfl⟩:=vals1 W;let⟨O,rv,pl,hz⟩:=i.list x;show wpAny _ _ (call (.type "enumerate") [↑l] [("start",.int f F)]) _ _ s2;rwa[En.CK pl.isList v A λo y hit L=>?_]
 let M:Inv X a B m (s2<*o):=i.kept (t':=s2.toks) L;let k:(∃old,IsEnum o (↥s2+ 1) ↥s2 (f+ ((0:Nat):Int)) old)/\o.IsListIter ↥s2 l 0:=⟨⟨_,[show f+ ((0:Nat):Int)=f by ext]▸y⟩,hit⟩;let T:=CL (P:=X.prog) (w:=X.w) (K:=X.K) (elts:=elts) (x1:=n) (tp:=p) (↥s2+ 1) ↥s2 l f (Nat.succ_ne_self _);rwa[T.self _ 0 (s2<*o) _ _ k ⟨1111,m,2,M,T,k,λb j=>?_,S⟩];rcases agW.mp j with g|j
 ·subst g;rwa[i.pE (aiT _) (i.aM.fresh (aiT _))]
 ·rw[agK.mp j];rwa[i.pE (agJ _) (i.aM.fresh (agJ _))]
end
section
variable {prog:Program} {w:World} {K:Type} [DecidableEq K] {knd:HeapKind prog w K} {A:Around} {E:Zt->Zu->Prop} {s:Zu} {d a:Zs} {k:K} {xs:List (K×Zs×Zt)}
def CM {dflt:Zt}(m:knd.room A)(b:knd.is s.heap k a)(C:s.heap.DictOfH knd d xs)
 (u:∀v,(atKey xs k).map (·.2)\v->Q v { s with toks:=s.toks+ knd.draws k })
 (r:atKey xs k=none->∀i,i.DictOfH knd d (storedH xs k a dflt)->Heap.SameBut d s.heap i->Q dflt { s with heap:=i,toks:=s.toks+ knd.draws k })
 (x:⇑xs<=sizeLine):(prog<|>w) A (dictSetDefault d ↑a dflt) Q E s:=by
 let⟨G,B,t,f,g2,c,h,n,l⟩:=C;unfold dictSetDefault
 first|(with_reducible rwa[ahQ ?_])|skip
 rwa[agB (knd.pyHash m b (agB (wpAny_dictFind_heap (s:={ s with toks:=s.toks+ knd.draws k }) m b f c h n l (λno=>?_) (λj p o=>?_))))]
 ·let I:k∉xs.map (·.1):=not_mem_keys_of_get no;let g:=atKey_none_of_get no;rwa[agB (akd (agB (wpAny_updateDictKeys (hz:=by let e:=size_of_entries h;omega) (s:={ s with toks:=s.toks+ knd.draws k }) f c (agI (r g _ ?_ (aia ..))))))];erw[11,t+ 1,aht _ f (Obj.isFreed_of_dict (Obj.data_mapDictKeys c _)),g2.mapDictKeys _,Obj.data_mapDictKeys c _,55]
  ·rw[storedH_new g];simp[h,entryOfKey]
  ·rw[storedH_new g];intro y z;rcases agS.mp z with q|q
   ·rwa[knd.keeps (n y q) f c (aia ..)]
   ·rw[agK.mp q];rwa[knd.keeps b f c (aia ..)]
  ·rw[storedH_new g,ahi,ahz]
   cbv
 ·let D:=atKey_of_get l o;rwa[agB (aiG (s:={ s with toks:=s.toks+ knd.draws k }) f c ?_)]
  let F:B[j]?\(entryOfKey knd (k,p)):=by
   rw[entry_at h j,o];rfl
  rw[F];rwa[agB (akd (agI (u _ (by rw[D];rfl))))]
def zc (knd:HeapKind prog w K)(d a:Zs)(e:(d==sysModules)=false)(dflt:Zt):MeetsIn prog w (Builtin.«dict.setdefault» ⟨[↑d,↑a,dflt],[]⟩) (λA R s=>knd.room A.in1/\∃k xs,knd.is s.heap k a/\s.heap.DictOfH knd d xs/\⇑xs<=sizeLine/\
 (∀v,(atKey xs k).map (·.2)\v->R (.ok (.ret v)) { s with toks:=s.toks+ knd.draws k })/\(atKey xs k=none->∀b,b.DictOfH knd d (storedH xs k a dflt)->Heap.SameBut d s.heap b->R (.ok (.ret dflt)) { s with heap:=b,toks:=s.toks+ knd.draws k })):=
 .of_wp λA R s ζ=>by
  let⟨j,k,xs,c,hm,n,i,h⟩:=ζ
  unfold Builtin.«dict.setdefault» Builtin.Dict.keyAndDefault;rwa[agB (agB (ajx hm.typeIs ?_))];show wpAny _ _ (pure (d,Value.ref a,some dflt)) _ _ s;rwa[agI ?_];show wpAny _ _ (if (d==sysModules)=true then _ else (dictSetDefault d ↑a dflt >>=_)) _ _ s;rw[e];rwa[agB (CM j c hm (λv g=>agI ⟨v,2,i v g⟩) (λm b l f=>agI ⟨dflt,2,h m b l f⟩) n)]
end
inductive RB (a:Zs) (y z:V) (H:Hp) (Q:VK):Prop
 |mk (kvs:List (Zd×V)) (k:Zd) (b:Zs):H a\.dT kvs->y=↑b->H b\.tup (k.map kV)->⇑kvs<sizeLine->(∀v,bB kvs k\v->Q v H)->(bB kvs k=none->Q z (upd H a (.dT (putK kvs k z))))->RB a y z H Q
def RC (td e tx:TE):TE:=λ b H Q=>td b H λx c=>DG x c λa=>e b c λy d=>tx b d λz f=>RB a y z f Q
section
variable {X:Cx}{o e f:Expr}{apos cG:Pos}{td ty tx:TE}
def Kd (hu:X.A.units+ 1<cLine)(Z:PE X o td)(he:PE X e ty)(Y:PE X f tx)(m:M2 X o "setdefault" apos e f cG):PE X (.Call (.Attribute o "setdefault" apos) [e,f] [] cG) (RC td ty tx):=by
 intro j s r H Q I h;rwa[ai3 m.base m.few m.line ah0 aiC PySem.F.type_dict_setdefault (a9 (Z j s r H _ I h) λu s1 ζ=>?_)];let⟨x,H1,D,rx,a,ex,d,S⟩:=ζ;subst ex;obtain rfl:u=Value.ref a:=rx;let⟨t1,M,_⟩:=lZ D d;erw[t1,M];rw[m.trees]
 rwa[ahK rfl (aij (ahC (a9 (he j s1 r H1 _ D S) λiv P ζ=>?_)))];let⟨y,H2,V,ry,q2⟩:=ζ;rwa[ ahC (a9 (Y j P r H2 _ V q2) λfv s3 ζ=>?_)];let⟨z,E,n,J,i,k,b,A,ey,G,N,U,q4⟩:=ζ;rwa[aib ?_]
 subst ey;cases (show iv=Value.ref b from ry);let⟨W,B,xs,rel,L⟩:=L7 n.aM A;let g:=rel.val k;let p:⇑xs<=sizeLine:=by rw[<-Paired.length rel];rwa[W]
 rwa[ajb aiC L.typeIs PySem.F.entry_dict_setdefault (PySem.F.args_dict_setdefault_3^_) (zc _ a b B fv) ⟨aiP hu,k,xs,lY n.aM G,L,p,λv hv=>?_,λhn g1 w sb=>?_⟩]
 ·rw[hv]at g
  cases l:bB i k with
  |none=>rw[l]at g;rwa[g.elim]
  |some t=>
   rw[l]at g;rwa[t,E,n.tok _,g,U t l]
 ·rw[hn]at g
  cases l:bB i k with
  |some t=>rw[l]at g;rwa[g.elim]
  |none=>
   let hl:⇑(putK i k z)<=sizeLine:=by have:=fP i k z;ext
   let⟨q,es,ep,F,O,h3,R,_,T⟩:=w;rwa[⟨z,upd E a (.dT (putK i k z)),j4 n ([A]▸True.intro) sb ⟨q,F⟩ ⟨hl,B,_,(rel.put k G J).keeps λc ys C=>?_,q,es,ep,F,O,h3,R,T⟩,J,q4 l⟩];rw[ak (bY C A (λz=>nomatch z))];rwa[C]
end
section
variable {H:Hp}{k:Zs}{D:Int->Zo}{E:Int->Int->Zo}{S:bI}
def dP.Ke (h:dP H k D E S){c s:Int}{d:Zs}(hd:D c\d){l:List (Key×V)}(v:H d\.dK l):
 dP (upd H d (.dK (fe l (Sum.inl s)))) k D (λf g=>if f=c/\g=s then none else E f g) (gx S c s):=by
 let⟨m,w,F,y,C⟩:=h.row c d hd;rw[v]at w;obtain rfl:l=m:=by cbv
 let un:∀{f g:Int} {z:Zs},(if f=c/\g=s then none else E f g)\z->¬(f=c/\g=s)/\E f g\z:=λ{f g z} q=>by
  cbv
 rwa[⟨h.top.at λo q=>?_,λf p j=>?_,λf g n i=>?_,λf g n i=>h.ed _ _ _ (un i).2,λf g o B=>?_,h.nd,λf g n i=>h.ne _ _ _ (un i).2,h.dd,λf A g p j i=>h.de _ _ _ _ j (un i).2,λf g A G n x u=>h.ee _ _ _ _ _ (un x).2 (un u).2⟩]
 ·rw[ak (h.nd c d hd).symm];rwa[q]
 ·cases t:f=c
  ·subst t;obtain rfl:p=d:=by cbv
   rwa[(Ov F y C s).congr λg=>?_]
   cbv
  ·rwa[((h.row f p j).at λo q=>by rw[ak λz=>t (h.dd _ _ _ j ([z]▸hd))];rwa[q]).congr λg=>?_]
   cbv
 ·let⟨ne,r⟩:=un i;rwa[((h.yE f g n r).at λo q=>[ak (λz=>h.de c f g d hd (by rw[<-z];rwa[r]))]▸q).congr λo=>?_]
  have:gx S c s f g o=S f g o:=by
   rw[ahM,di];rwa[λz=>z.1,λz=>⟨z,ne⟩]
  rw[this]
 ·let⟨a,b⟩:=di.mp B;let⟨e,r⟩:=h.se _ _ _ a
  cbv
end
structure RD (k:Zs) (D:Int->Zo) (E:Int->Int->Zo) (W:bI) (O:Zs->Prop):Prop where
 o:∀b,uE k D E b->O b
 d:∀c x,D c\x->0<=c/\c<100000
 e:∀c s x,E c s\x-> -1000<=s/\s<=1000
 w:∀c s n,W c s n=true->0<=n/\n<100000
def oH (H:Hp)(k:Zs)(W:bI)(O:Zs->Prop):Prop:=∃D E,dP H k D E W/\RD k D E W O
def fJ (H:Hp)(k:Zs)(W:bI)(O:Zs->Prop)(c:Int)(d:Zs):Prop:=∃D E,dP H k D E W/\RD k D E W O/\D c\d
def pQ (H:Hp)(k:Zs)(W:bI)(O:Zs->Prop)(c s:Int)(e:Zs):Prop:=∃D E,dP H k D E W/\RD k D E W O/\E c s\e
def Ht (O:Zs->Prop)(p:Zs):Zs->Prop:=λb=>O b\/b=p
section
variable {H H':Hp}{k:Zs}{W:bI}{O:Zs->Prop}{c s:Int}{d e p:Zs}
def oH.keep (h:oH H k W O)(f:∀b o,O b->H b\o->H' b\o):oH H' k W O:=by
 let⟨D,E,g,a⟩:=h;rwa[D,E,g.keep λb o i q=>f b o (a.o b i) q,a]
def oH.qi (h:oH H k W O):DF H k:=by
 let⟨D,E,a,_⟩:=h;let⟨b,q,_⟩:=a.top;rwa[.inl ⟨b,.inl q⟩]
def oH.room (h:oH H k W O)(t:H p=none)(hc:0<=c/\c<100000):∃a,upd H p (.dK []) k\.dK a/\⇑a<sizeLine/\(∀v,bB a (Sum.inl c)\v->∃d,v=↑d/\fJ (upd H p (.dK [])) k W O c d)/\
 (bB a (Sum.inl c)=none->fJ (upd (upd H p (.dK [])) k (.dK (putK a (Sum.inl c) ↑p))) k W (Ht O p) c p):=by
 let⟨D,E,r,f⟩:=h;let y:=aq.upd (o:=.dK []) t;let k1:=r.same y;let⟨a,m,A,w,l⟩:=k1.Rp;let nw:¬uE k D E p:=λz=>by let⟨B,q⟩:=r.there z;cbv
 rwa[⟨a,m,5,λv g=>?_,λg=>?_⟩]
 ·rwa[agO (vw (n:=100000) (lo:=0) A w l λi v g=>?_) ⋯]
  cases e:D i with
  |none=>rw[e]at g;ext g
  |some x=>have:=f.d i x e;ext
 ·rw[l]at g;let⟨d,hd,rfl⟩:=ahU.mp g;rwa[d,2,D,E,k1,f,hd]
 ·rw[l]at g;let hd:D c=none:=aj9.mp g;rwa[⟨_,E,k1.Ox hd m ah nw,⟨λb u=>?_,λj x q=>?_,f.e,f.w⟩,ag8 rfl⟩]
  ·rcases u with z|⟨j,z⟩|z
   ·rwa[.inl (f.o b (.inl z))]
   ·dsimp only at z;cases e:j=c
    ·rw[ag8 e]at z;rwa[.inr (Za0 z).symm]
    ·rw[ag3 e]at z;rwa[.inl (f.o b (.inr (.inl ⟨j,z⟩)))]
   ·rwa[.inl (f.o b (.inr (.inr z)))]
  ·cases e:j=c
   ·rw[e];rwa[hc]
   ·rw[ag3 e]at q;rwa[f.d j x q]
def fJ.qi (h:fJ H k W O c d):DF H d:=by
 let⟨D,E,a,g,b⟩:=h;let⟨f,q,_⟩:=a.row c d b;rwa[.inl ⟨f,.inl q⟩]
def fJ.own (h:fJ H k W O c d):O d:=by
 let⟨D,E,f,a,b⟩:=h;rwa[a.o d (.inr (.inl ⟨c,b⟩))]
def fJ.same (h:fJ H k W O c d)(s:aq H H'):fJ H' k W O c d:=by
 let⟨D,E,b,a,f⟩:=h;rwa[D,E,b.same s,a,f]
def fJ.cell (h:fJ H k W O c d)(w:H p=none)(C: -1000<=s/\s<=1000):∃a,upd H p (.dK []) d\.dK a/\⇑a<sizeLine/\(∀v,bB a (Sum.inl s)\v->∃e,v=↑e/\pQ (upd H p (.dK [])) k W O c s e)/\
 (bB a (Sum.inl s)=none->pQ (upd (upd H p (.dK [])) d (.dK (putK a (Sum.inl s) ↑p))) k W (Ht O p) c s p):=by
 let⟨D,E,u,f,hd⟩:=h;let B:=aq.upd (o:=.dK []) w;let k1:=u.same B;let⟨a,t,F,A,m⟩:=k1.Kc hd;let nw:¬uE k D E p:=λz=>by let⟨G,q⟩:=u.there z;cbv
 rwa[⟨a,t,5,λv g=>?_,λg=>?_⟩]
 ·rwa[agO (vw (n:=2001) (lo:=-1000) F A m λi v g=>?_) ⋯]
  cases e:E c i with
  |none=>rw[e]at g;ext g
  |some x=>have:=f.e c i x e;ext
 ·rw[m]at g;let⟨e,r,rfl⟩:=ahU.mp g;rwa[e,2,D,E,k1,f,r]
 ·rw[m]at g;let r:E c s=none:=aj9.mp g;rwa[⟨D,_,k1.Ow hd r t ah nw,⟨λb y=>?_,f.d,λl j x q=>?_,f.w⟩,ag8 ⟨22⟩⟩]
  ·rcases y with z|z|⟨l,j,z⟩
   ·rwa[.inl (f.o b (.inl z))]
   ·rwa[.inl (f.o b (.inr (.inl z)))]
   ·dsimp only at z;cases e:l=c/\j=s
    ·rw[ag8 e]at z;rwa[.inr (Za0 z).symm]
    ·rw[ag3 e]at z;rwa[.inl (f.o b (.inr (.inr ⟨l,j,z⟩)))]
  ·cases e:l=c/\j=s
   ·rw[e.2];rwa[C]
   ·rw[ag3 e]at q;rwa[f.e l j x q]
def pQ.own (h:pQ H k W O c s e):O e:=by
 let⟨D,E,f,a,b⟩:=h;rwa[a.o e (.inr (.inr ⟨c,s,b⟩))]
def pQ.put (h:pQ H k W O c s e){n:Int}(o:0<=n/\n<100000):∃a,H e\.dK a/\⇑a<sizeLine/\oH (upd H e (.dK (putK a (Sum.inl n) (.bl true)))) k (addW W c s n) O:=by
 let⟨D,E,g,b,j⟩:=h;let⟨a,f,r,l,m⟩:=g.Rq j;rwa[⟨a,f,5,D,E,g.Rt j f n,b.o,b.d,b.e,λx t u q=>?_⟩]
 ·rwa[agO (vw (n:=100000) (lo:=0) r l m λi v y=>?_) ⋯];cases w:W c s i=true
  ·have:=b.w _ _ _ w;ext
  cbv
 ·rcases dy.mp q with q|⟨_,_,q⟩
  ·rwa[b.w _ _ _ q]
  ·rw[q];rwa[o]
def oH.get (h:oH H k W O):∃o,eQ H k (.int c) o/\((o=none/\∀s n,W c s n=false)\/∃d,o\↑d/\fJ H k W O c d):=by
 let⟨D,E,a,i⟩:=h;let⟨b,j,r,q,f⟩:=a.Rp;let g:=eQ.k (k:=Sum.inl c) j;rw[f]at g;erw[_,g]
 cases e:D c with
 |none=>
  rwa[.inl ⟨2,λs n=>?_⟩]
  cases w:W c s n with
  |false=>rfl
  |true=>
   let⟨x,l⟩:=a.se _ _ _ w;let⟨y,m⟩:=a.ed _ _ _ l
   cbv
 |some d=>exact .inr ⟨d,2,D,E,a,i,e⟩
theorem AK:∀{a:List (Key×V)},(a.map (·.1)).Nodup->(∀b∈a,∃n:Nat,b.1=Sum.inl (n:Int))->∃ns:Zh,a.map (λb=>kV b.1)=ao (nI ns)/\ns.Nodup/\∀n:Nat,n∈ns↔Sum.inl (n:Int)∈a.map (·.1)
 |[],_,_=>⟨[],2,ais,λn=>⟨(λz=>by ext z),(λz=>by ext z)⟩⟩
 |b::r,f,h=>by
  rw[ahW,ahk]at f;let⟨ns,i,l,j⟩:=AK f.2 λx o=>h x (ag4 _ o)
  let⟨m,g⟩:=h b (agP ..);rwa[⟨m::ns,5,ahk.mpr ⟨λz=>f.1 ([g]▸(j m).mp z),l⟩,λn=>?_⟩]
  ·rw[ahW,i,g];rfl
  cbv
def DU {a:List (Key×V)}{v:V}(h:bB a (Sum.inl z)\v):Sum.inl z∈a.map (·.1):=ahu.mpr ⟨_,Kb h,2⟩
def fJ.pop (h:fJ H k W O c d)(s:Int):∃a,H d\.dK a/\(bB a (Sum.inl s)=none->∀n,W c s n=false)/\
 ∀v,bB a (Sum.inl s)\v->∃(e:Zs) (f:List (Key×V)) (ns:Zh),v=↑e/\e≠d/\H e\.dK f/\f.map (λt=>kV t.1)=ao (nI ns)/\ns.Nodup/\(∀n:Nat,n∈ns↔W c s n=true)/\oH (upd H d (.dK (fe a (Sum.inl s)))) k (gx W c s) O:=by
 let⟨D,E,o,l,hd⟩:=h;let⟨a,A,S,Q,B⟩:=o.Kc hd;rwa[⟨a,A,λu n=>?_,λv u=>?_⟩]
 ·rw[B]at u
  cases w:W c s n with
  |false=>rfl
  |true=>
   let⟨x,R⟩:=o.se _ _ _ w
   cbv
 ·rw[B]at u;let⟨e,F,rfl⟩:=ahU.mp u;let⟨f,M,y,G,I⟩:=o.Rq F
  let r:∀i:Int,Sum.inl i∈f.map (·.1)↔W c s i=true:=λi=>by
   constructor
   ·intro z;let⟨t,g,e⟩:=ahu.mp z;have:=AF y g
    cbv
   ·intro w;rwa[DU (v:=.bl true) (by rw[I,ag8 w])]
  let⟨ns,N,L,P⟩:=AK y λt g=>by
   let⟨i,C⟩:=G t g;have:=l.w _ _ _ ((r i).mp (by rw[<-C];rwa[ajd g]));rwa[i.toNat,by rw[C];congr 1;ext]
  rwa[⟨e,f,ns,2,λz=>o.de _ _ _ _ hd (by rw[<-z];rwa[F]),M,N,L,λn=>(P n).trans (r n),11,o.Ke hd A,⟨λb J=>l.o b ?_,l.d,λm j x q=>?_,λm j n q=>l.w _ _ _ (di.mp q).1⟩⟩]
  ·rcases J with z|z|⟨m,j,z⟩
   ·rwa[.inl z]
   ·rwa[.inr (.inl z)]
   ·dsimp only at z;cases e:m=c/\j=s
    ·cbv
    ·rw[ag3 e]at z;rwa[.inr (.inr ⟨m,j,z⟩)]
  ·cases e:m=c/\j=s
   ·rw[ag8 e]at q;ext q
   ·rw[ag3 e]at q;rwa[l.e _ _ _ q]
def Hu {P:Nat->Bool}{G:Nat}:∀{ns:Zh},ns.Nodup->(∀n∈ns,n<G/\P n=true)->⇑ns<=(List.range G).countP P:=by
 intro ns
 induction ns generalizing P with
 |nil=>exact λ_ _=>ahd _
 |cons m r i=>
  intro g h;rw[ahk]at g;let⟨f,b⟩:=h m (agP ..);have:=lG (p:=P) (p':=λa=>P a && decide (a≠m)) (v:=m) (λa=>rfl) b G;rw[ag8 f]at this
  cbv
def xC {W:bI}{c s:Int}(h:∀n,W c s n=false):gx W c s=W:=by
 funext b a n
 rw[ahM,di]
 cbv
end
def OI {CX:lh}{base:Heap}{k:Nat}{name qual:Str}{params:Arguments}{body:Expr}{scope:Scope}{pm:Zt}{i:Zp}
 {A:Around} {f:Zq} {s:Zu} {H:Hp} {g:Args} {us:Zk} {vs:Zb} {Q:VK} {E:XK} {t:TE} (S:aS Z i scope) (L:⇑vs=⇑i) (m:cx (k+ 1) A) (j:lV P w K M base A f s H)
 (G:s.heap.get? a\PySem.W.kla_obj name qual params body scope [] pm c v) (l:s.heap.CodeRec ↑c qual) (B:bindArgs (PySem.W.kla_fn name qual params body scope [] pm ↑c v) g=pure (i.zip us)) (r:Vals vs us)
 (F:PE (cy CX P w K M base Z qual scope a ↑c A f s H E) body t) (C:t (start Z vs) H Q):codeAny (model P w) A (.call ↑a g) (CR CX f P w H s Q E) s:=by
 let lim:s.heap.NoLimit:=j.mod.nolimit.keeps λb o e=>(j.bs b o e).1
 let h:∀y∈i.zip us,scope.names.lookup y.1=some .local\/(scope.names.lookup y.1=some .cell/\((cellsFrom (↥s+ 1) scope.names []).lookup y.1).isSome=true):=λζ N=>by
  let⟨n,d⟩:=ζ
  rcases S.par n (List.of_mem_zip N).1 with q|q
  ·rwa[.inl q]
  ·rwa[.inr ⟨q,aj6 _ _ _ (.inl q)⟩]
 rwa[PySem.W.kla_callFunE m.depth G rfl S.co S.gen rfl l ?_];rw[B];rwa[agI (wpAny_newFunctionEnv_cells S.kind h λenv R p x=>?_)];subst R;rwa[⟨lim.keeps x.toInCall.keep,PySem.W.kla_codeExpr ?_⟩];let I:Inv (cy CX P w K M base Z qual scope a ↑c A f s H E) [] (start Z vs) H p:=yl S m.hd j L r x;rwa[ahF (F [] p (start Z vs) H Q I C) (λu z ζ=>?_) λe z O=>O];let⟨d,T,J,D,q⟩:=ζ
 rwa[d,T,J.os,J.bare,J.base,J.aM,D,q]
def dc (d:Zs)(pos:Pos)(qual:Str)(H:Hp):Prop:=
 H d=some (.fB #[])\/∃(c:Zs) (b:Obj) (a:Zm) (t:Tok),H d\(.fB #[rawInt pos.line,rawInt pos.col,↑c])/\H c\.cS b (.own c)/\b.data=.fields a/\a[1]?\(.str qual t)
def dc.keep {pos:Pos}{qual:Str}(h:dc a pos qual H)(k:∀b u,H b\u->(∃d,u=.fB d)\/(∃o v,u=.cS o v)->I b\u):dc a pos qual I:=by
 rcases h with h|⟨c,j,e,t,i,f,l,g⟩
 ·rwa[.inl (k _ _ h (.inl ⟨_,rfl⟩))]
 ·rwa[.inr ⟨c,j,e,t,k _ _ i (.inl ⟨_,rfl⟩),k _ _ f (.inr ⟨_,_,rfl⟩),l,g⟩]
def j7 (c:Str->Zl)(base:Heap):Prop:=∃(b:Zs) (a:Obj),c "__builtins__"=some ↑b/\base.get? b\a/\(a.cls=.type "module"/\a.dict\builtinsNs/\a.data=.plain)/\b≠builtinsNs
section
variable {X:Cx}{pins:List (Zs×Obj)}{σ:St}{H:Hp}{s:Zu}
def RG {params:Arguments}{body:Expr}{scope:Scope}{pos:Pos}(I:Inv X pins σ H s)(A:X.env.code=↑c)(hC:PySem.W.codeHdIn X.K c a=true)
 (kJ:closureFor scope X.env=pure []) (W:defaultsOf params X.env=([],[])) (hT:dc a pos (X.env.qual++"<lambda>") H)
 (hB:j7 X.mg X.base)
 (h:∀(f g:Zs) (m:Obj) (D:Zm) (t:Tok) (pm j:Zt) (B:Hp) (s2:Zu),Inv X (pins++[(f,PySem.W.kla_obj "<lambda>" (X.env.qual++"<lambda>") params body scope [] pm g j)]) σ B s2->B g\.cS m (.own g)->m.data=.fields D->D[1]?\.str (X.env.qual++"<lambda>") t->
  dc a pos (X.env.qual++"<lambda>") B->(∀b u,b≠a->H b\u->B b\u)->Q ↑f s2):
 X⁻¹ X.A (eval (.Lambda params body scope pos) X.env) Q E s:=by
 let⟨bm,ob,b1,b2,b3,b4⟩:=hB;rwa[PySem.W.kla_eval W ?_]
 let C:s.heap.Ns mainGlobals X.mg:=by
  let⟨o,es,ep,e,r⟩:=I.ok.mod.glob;rwa[o,es,ep,I.bk^e,r]
 let V9:=PySem.W.codeHd_of_K I.dm hC;let R:s.heap.get? bm\ob:=I.bk^b2
 let hPH:∃ps,H a\(.fB ps):=by
  rcases hT with z|⟨L,_,_,_,z,_⟩
  ·rwa[⟨_,z⟩]
  ·rwa[⟨_,z⟩]
 let⟨V,S⟩:=hPH
 let neP:∀{b:Zs} {o:Obj},s.heap.get? b\o->o.cls≠.none->b≠a:=λ{b o} e hc z=>by
  have:=I.aM^S;rw[z,show s.heap.get? a=some { cls:=.none,data:=.fields V } from this]at e
  cbv
 let hbP:bm≠a:=neP R (by cbv)
 let hgP:mainGlobals≠a:=λz=>by
  let⟨o,es,ep,e,hd,_⟩:=C;have:=I.aM^S;rw[z,show s.heap.get? a=some { cls:=.none,data:=.fields V } from this]at e
  cbv
 let hbG:bm≠mainGlobals:=λz=>by
  let⟨o,es,ep,e,hd,_⟩:=C
  cbv
 let hB:s.heap.BuiltinsAt X.mg a:=⟨bm,ob,b1,b4,hbG,hbP,R,b3.1,b3.2.1,b3.2.2⟩
 let fin:∀{f:Zs} {B:Hp} {s2:Zu} {o:Obj},Inv X pins σ B s2->↥s<=f->s2.heap.get? f\o->B f=none->(∀v,o.data≠.cell v)->Inv X (pins++[(f,o)]) σ B s2:=λ{f B s2 o} J hf e n hd=>J.jh λp Z=>by
  rcases agS.mp Z with Z|Z
  ·rwa[J.pin p (agL _ Z)]
  ·rw[agK.mp Z];rwa[e,n,ahT (ahc I.lt hf),I.EV hf,hd]
 rcases hT with M|⟨L,m,D,t,M,mj,x,y⟩
 ·let F:s.heap.get? a\(PySem.W.tabObj #[]):=I.aM^M;rwa[PySem.W.kla_makeFunction (mg:=X.mg) kJ I.ok.glob C A V9 F trivial rfl hgP hB λg j U tk hx G P N O=>?_]
  let⟨c2,m,D,t,e2,Y,x,y⟩:=N;ext e2;let lg:∀b u,H b\u->b≠g:=λb u e z=>absurd (I.aM b u e).lt ([z]▸Nat.not_lt.mpr G)
  let hcP:g≠a:=(lg a _ M).symm;let k1:∀b o,b≠a->s.heap.get? b\o->(U.push (PySem.W.kla_obj "<lambda>" (X.env.qual++"<lambda>") params body scope [] ((X.mg "__name__").getD .none) g j)).get? b\o:=λb o w e=>agD _ (hx b o w e)
  let eP2:(upd (upd H a (.fB #[rawInt pos.line,rawInt pos.col,↑g])) g (.cS m (.own g))) a\(.fB #[rawInt pos.line,rawInt pos.col,↑g]):=by rw[ak hcP.symm,ah]
  let i:∀b u,b≠a->H b\u->(upd (upd H a (.fB #[rawInt pos.line,rawInt pos.col,↑g])) g (.cS m (.own g))) b\u:=λb u w e=>by rw[ak (lg b u e),ak w];rwa[e]
  let J:Inv X pins σ (upd (upd H a (.fB #[rawInt pos.line,rawInt pos.col,↑g])) g (.cS m (.own g))) { s with heap:=U.push (PySem.W.kla_obj "<lambda>" (X.env.qual++"<lambda>") params body scope [] ((X.mg "__name__").getD .none) g j),toks:=tk }:=by
   rwa[I.un ⟨λb o e n _ _=>k1 b o (λz=>by cbv) e,λb o e n _ _=>⟨o.slots,k1 b o (λz=>by cbv) e⟩,λb o e n _=>?_,λb o e _=>?_,λb xs e=>i b _ (λz=>by cbv) e,λb o u e=>i b _ (λz=>by cbv) e,λb qs e=>?_⟩ λb u e=>?_]
   ·rw[ak (ahf (ahc (agX e) G)),ak (λz=>by cbv)];rwa[n]
   ·cases w:b=a
    ·subst w;rwa[_,agD _ O]
    ·rwa[o,k1 b o w e]
   ·cases w:b=a
    ·cbv
    ·rwa[#[],by rw[i b _ w e];simp]
   ·cases w:b=g
    ·subst w;rw[ah]at e;ext e;rwa[agD _ Y,m,agD _ Y]
    ·rw[ak w]at e;cases T:b=a
     ·subst T;rw[ah]at e;ext e;rwa[agD _ O]
     ·rw[ak T]at e;rwa[(I.aM b u e).fu (λd v hd q=>k1 d v ?_ q) (λd q=>?_) λd xs q=>?_]
      ·cbv
      ·rwa[i d _ (λz=>by cbv) q]
      ·rwa[i d _ (λz=>by cbv) q]
  let l:↥s<=U.objs.size:=agT G (ajQ P);rwa[h _ g m D t _ j _ _ (fin J l (agU _ rfl) ?_ λv z=>nomatch z) ah x y (.inr ⟨g,m,D,t,eP2,ah,x,y⟩) i];rw[ak (ahT P),ak (λz=>absurd (I.aM^M).lt (by rw[<-z];rwa[Nat.not_lt.mpr l]))];rwa[I.aM.fresh l]
 ·let F:s.heap.get? a\(PySem.W.tabObj #[rawInt pos.line,rawInt pos.col,↑L]):=I.aM^M;rwa[PySem.W.kla_makeFunctionHit (mg:=X.mg) (cv:=↑L) kJ I.ok.glob C A V9 F (by simp[TriplesOk,rawInt]) (by simp[codeAmong,rawInt]) hB λj U tk k l=>?_]
  let J:Inv X pins σ H { s with heap:=U.push ("function">>>.func (PySem.W.kla_fn "<lambda>" (X.env.qual++"<lambda>") params body scope [] ((X.mg "__name__").getD .none) ↑L j)),toks:=tk }:=I.kept λb u e=>agD _ (k b u e)
  rwa[h _ L m D t _ j H _ (fin J l (agU _ rfl) (I.aM.fresh l) λv z=>nomatch z) mj x y (.inr ⟨L,m,D,t,M,mj,x,y⟩) λb u _ e=>e]
structure Fp (X:Cx) (pq:List (Zs×Obj)) (H:Hp) (b:Zs):Prop where
 none:H b=none
 loc:b≠X.env.locals
 fs:b∉X.fs
 new:X.dX.heap.objs.size<=b
 cell:∀x c,X.env.cells.lookup x\c->c≠b
 pin:∀p∈X.pn++pq,p.1≠b
def vy (I:Inv X o σ H s)(h:↥s<=b):Fp X o H b:=
 ⟨I.aM.fresh h,ahT (ahc I.lt h),I.EV h,agT I.sz h,λx c e z=>by
  let⟨v,d⟩:=I.cell x c e;rwa[absurd d.lt ([z]▸Nat.not_lt.mpr h)],λp a z=>absurd (agX (I.pin p a).1) ([z]▸Nat.not_lt.mpr h)⟩
def Inv.Fy {b:List (Zs×Obj)}(I:Inv X (o++b) σ H s):Inv X o σ H s:=I.jh λp a=>I.pin p (agL _ (ag6 _ a))
abbrev RH (a:Zm) (c:Nat):Obj:={ cls:=.type "list",dict:=none,data:=.seq a c,slots:=#[] }
theorem Hv {it l:Zs}{ys:Zb}{kf:Nat->Int}{R:Result->Zu->Prop}(hh:X.A.in1.handled=none)(hq:aD X.K H l ys)(Y:l≠it)(n1:a≠it)(B:Fp X o H it)(C:Fp X o H a)
 (turn:∀(i:Nat) (y:V) (n:Zt) (pr:List (Zs×Obj)) (s':Zu),ys[i]?\y->RelV y n->Inv X (o++pr) σ H s'->X⁻¹ X.A.in1 (call ↑b [n]) (λu s2=>∃t,u=.int (kf i) t/\Inv X (o++pr) σ H s2) (λ_ _=>False) s')
 (hR:∀n s',(ys=[]/\n=v\/∃(j:Nat) (y:V),ys[j]?\y/\RelV y n/\∀q,q<⇑ys->kf j<=kf q/\(q<j->kf j<kf q))->Inv X o σ H s'->R (.ok (.ret n)) s'):
 ∀(k i:Nat) (s:Zu) (old:Zm) (c:Nat),⇑ys - i=k->i<=⇑ys->Inv X o σ H s->s.heap.IsListIter it l i->s.heap.get? a\RH old c->
 ((i=0/\old=#[])\/∃(j:Nat) (y:V) (vb:Zt) (T:Tok),j<i/\ys[j]?\y/\RelV y vb/\old=#[vb,.int (kf j) T]/\∀q,q<i->kf j<=kf q/\(q<j->kf j<kf q))->
 codeAny (model X.prog X.w) X.A (.builtin "min.loop" ⟨[↑it,↑b,↑a],[("default",v)]⟩) R s:=by
 let nm:(toString "min"++toString ".loop":String)="min.loop":=⋯
 let J:∀m:Zs,m≠it->m∉[it]:=λm r z=>r (agK.mp z)
 intro k
 induction k with
 |zero=>
  intro i s old c hk hi I hit r hold;let⟨D,hv,pl,hz⟩:=I.list hq;let RJ:=⇑hv;let W:=Walks.list (prog:=X.prog) (w:=X.w) (A:=X.A.in1) hh it l Y D.toArray;let ei:i=⇑D:=∅
  rwa[aj1 F.entry_min_loop ?_];rw[ajJ aji _];show wpAny _ X.A.in1 (seqItems? ↑a >>=_) _ _ s;rwa[agB (ajk r rfl ?_)];show wpAny _ X.A.in1 (tryCatch (pyNext ↑it) _ >>=_) _ _ s;rwa[agB (akh (W.done s _ _ ⟨by cbv,pl.isList⟩ λh' L kp=>?_))];let N:=kp a _ (J _ n1) r;let I2:Inv X o σ H { s with heap:=h',toks:=L }:=I.turned (λm f r e=>kp m f (J _ r) e) B.none B.loc (.inr B.new) B.cell B.pin;rcases hold with ⟨e0,rfl⟩|⟨j,y,vb,T,hj,hy,rb,rfl,d⟩
  ·let en:ys=[]:=ah7 (by omega);rwa[agB (akd ?_)];rwa[agI (hR v _ (.inl ⟨en,2⟩) I2)]
  ·show wpAny _ X.A.in1 (updateSeq a (λ_=>#[]) >>=_) _ _ _;rwa[agB (ai6 N rfl (agB (ake (agI ?_))))];rwa[hR _ _ (.inr ⟨j,y,hy,rb,λq Q=>d q ∅⟩) (I2.turned (t':=L) (λm f r e=>(ahv^ahZ r).trans e) C.none C.loc (.inr C.new) C.cell C.pin)]
 |succ k ih=>
  intro i s old c hk hi I hit r hold;let⟨D,hv,pl,hz⟩:=I.list hq;let RJ:=⇑hv;let ou:i<⇑D:=∅
  let W:=Walks.list (prog:=X.prog) (w:=X.w) (A:=X.A.in1) hh it l Y D.toArray;rwa[aj1 F.entry_min_loop ?_];rw[ajJ aji _];show wpAny _ X.A.in1 (seqItems? ↑a >>=_) _ _ s;rwa[agB (ajk r rfl ?_)];show wpAny _ X.A.in1 (tryCatch (pyNext ↑it) _ >>=_) _ _ s;rwa[agB (akh (W.item i s _ _ ∅ ⟨hit,pl.isList⟩ λn h' L hP Hw kp=>?_))];let⟨⟨oI,hoI,RK,S⟩,DV⟩:=Hw;let N:=kp a _ (J _ n1) r;let I2:Inv X o σ H { s with heap:=h',toks:=L }:=I.turned (λm f r e=>kp m f (J _ r) e) B.none B.loc (.inr B.new) B.cell B.pin;let E:ys[i]?\(ys[i]'∅):=agG ∅
  change ys[i]'∅=y at E;let⟨u,hu,ru⟩:=hv.get (i:=i) (x:=y) E;let DW:D[i]?\n:=by simpa using hP
  rw[hu]at DW;let euv:u=n:=Za0 DW;subst euv;let dI:∀z,oI.data≠.cell z:=λz e=>by rw[S]at e;ext e
  let J2:Inv X (o++[(it,oI),(a,RH old c)]) σ H { s with heap:=h',toks:=L }:=I2.jh λp O=>by
   rcases agS.mp O with O|O
   ·rwa[I2.pin p (agL _ O)]
   ·rcases agW.mp O with rfl|O
    ·rwa[⟨hoI,B.none,B.loc,B.fs,dI⟩]
    ·rw[agK.mp O];rwa[N,C.none,C.loc,C.fs,λz e=>nomatch e]
  show wpAny _ X.A.in1 (tryCatch (holding [u] (call ↑b [u])) _ >>=_) _ _ _;rwa[agB (akh (ahQ (ahF (turn i y u _ _ E ru J2) (λx G he=>?_) λ_ _ hF=>hF.elim)))];let⟨U,rfl,J3⟩:=he;let pI:=(J3.pin (it,oI) (agL _ (agL _ (.head _)))).1;let Z:=(J3.pin (a,RH old c) (agL _ (agL _ (.tail _ (.head _))))).1;let I3:=J3.Fy;let YK:G.heap.IsListIter it l (i+ 1):=⟨oI,pI,RK,S⟩;let Wa:∀(g:Zm->Zm),(G.heap.update a (Obj.mapSeq g)).IsListIter it l (i+ 1):=λg=>⟨oI,(ahv^n1).trans pI,RK,S⟩
  let Wb:∀(g:Zm->Zm) (L:Nat),Inv X o σ H { G with heap:=G.heap.update a (Obj.mapSeq g),toks:=L }:=λg L=>I3.turned (λm f r e=>(ahv^ahZ r).trans e) C.none C.loc (.inr C.new) C.cell C.pin
  rcases hold with ⟨e0,rfl⟩|⟨j,y0,vb,T,hj,hy,rb,rfl,d⟩
  ·subst e0;show wpAny _ X.A.in1 (updateSeq a (λ_=>#[u,.int (kf 0) U]) >>=_) _ _ _;rwa[agB (ai6 Z rfl ?_)];rw[nm]
   exact agI ⟨ajc aji _,ih 1 _ _ _ ∅ ∅ (Wb _ _) (Wa _) (aht _ Z rfl) (.inr ⟨(0),y,u,U,3,E,ru,2,λq Q=>by
    let e:q=0:=∅
    subst e;rwa[Int.le_refl _,λz=>absurd z (ahV _)]⟩)⟩
  ·show wpAny _ X.A.in1 (tryCatch (holding [u,.int (kf i) U] (richCompare .Lt (.int (kf i) U) (.int (kf j) T) >>=_)) _ >>=_) _ _ _;rwa[agB (akh (ahQ (agB (CmpOf.ints_lt (prog:=X.prog) (w:=X.w) (A:=X.A.in1) (P:=λi n=>∃t,n=.int (kf i) t) kf (λi n h=>h) i j _ _ _ _ _ ⟨U,2⟩ ⟨T,2⟩ ?_))))];rwa[agB (ahQ (aiY ?_))];rwa[agB (ake (agI ?_))];cases AO:kf i<kf j
   ·simp only[AO,decide_true,akc];rwa[agB (ai6 Z rfl (agB (ake ?_)))];rw[nm];rwa[agI ⟨ajc aji _,ih (i+ 1) _ _ _ ∅ ∅ (Wb _ _) (Wa _) (aht _ Z rfl) (.inr ⟨i,y,u,U,3,E,ru,2,λq Q=>?_⟩)⟩];cases e:q=i
    ·subst e;rwa[Int.le_refl _,λz=>absurd z (ahV _)]
    ·let h1:=(d q ∅).1;rwa[3,λ_=>∅]
   ·simp only[AO,decide_false,ajp,ajE];rwa[agB (ake ?_)];rw[nm];rwa[agI ⟨ajc aji _,ih (i+ 1) _ _ _ ∅ ∅ I3 YK Z (.inr ⟨j,y0,vb,T,3,hy,rb,2,λq Q=>?_⟩)⟩];cases e:q=i
    ·subst e;rwa[3,λ_=>∅]
    ·rwa[d q ∅]
def aD.fY {H:Hp}{ys:Zb}{d:Zm}(h:aD K H a ys)(f:H b\.fB d)(k:∀c u,c≠b->H c\u->I c\u):aD K I a ys:=by
 rcases h with h|h
 ·rcases h with e|⟨o,e⟩
  ·rwa[.inl (.inl (k _ _ (λz=>by cbv) e))]
  ·rwa[.inl (.inr ⟨o,k _ _ (λz=>by cbv) e⟩)]
 ·rwa[.inr h]
def Kf (a f d:Zt):checkBuiltinCall "min" ⟨[a],[("key",f),("default",d)]⟩=pure ():=by kernel_rfl
def Vo (K:Za1)(e:Zs)(f:Pos)(qual:Str)(g:TE)(k:TA):TE:=λ σ H Q=>k σ H λh d=>∃(l:Zs) (ys:Zb) (c:Nat->Int),h=[↑l]/\aD K d l ys/\dc e f qual d/\
 ∀a,dc e f qual a->(∀b u,b≠e->d b\u->a b\u)->(∀(i:Nat) (y:V),ys[i]?\y->g [some y] a λv m=>v=.int (c i)/\m=a)/\(ys=[]->Q .non a)/\
  ∀(i:Nat) (y:V),ys[i]?\y->(∀j,j<⇑ys->c i<=c j/\(j<i->c i<c j))->Q y a
theorem OJ {body:Expr}{tb:TE}{pos N D kq lp:Pos}{k:Nat}{params:Arguments}{scope:Scope}(hc:X.calm=true)(hg:Gl X "min")(hm:X.mg "min"=none)(he:PE X e r)
 (G:X.env.code=↑c) (hC:PySem.W.codeHdIn X.K c a=true) (kJ:closureFor scope X.env=pure []) (U:defaultsOf params X.env=([],[]))
 (hB:j7 X.mg X.base) (hr:cx (k+ 2) X.A) (S:aS [x] [x] scope)
 (V:∀(pm B:Zt) (w:Zs) (u:Zt),bindArgs (PySem.W.kla_fn "<lambda>" (X.env.qual++"<lambda>") params body scope [] pm ↑w B) ⟨[u],[]⟩=pure [(x,u)])
 (C:∀(A:Around) (M:Zq) (s:Zu) (H:Hp) (f w:Zs),cx k (A.deeper (envOfC (X.env.qual++"<lambda>") scope ↥s f ↑w))->PE (cy V3 X.prog X.w X.K X.mg X.base [x] (X.env.qual++"<lambda>") scope f ↑w A M s H E0) body tb)
 (hs:starEach [e] X.env=(false,eval e X.env)::starEach [] X.env)
 (oJ:((backTo pos (starEach [e] X.env)).any (·.1) || (backToKw pos (keywordEach [⟨some "key",.Lambda params body scope lp,N⟩,⟨some "default",.Constant .none j kq,D⟩] X.env)).any (·.1.isNone))=false):
 PE X (.Call (.Name "min" p) [e] [⟨some "key",.Lambda params body scope lp,N⟩,⟨some "default",.Constant .none j kq,D⟩] pos) (Vo X.K a lp (X.env.qual++"<lambda>") tb (jH r jZ)):=by
 intro pins s σ H Q I h;rwa[ahO (gY I hg hm PyProof.Rows.boot_min ?_)];rwa[PySem.W.callWith_of (P:=λ_=>True) oJ (λ_ _=>⟨.machine,.inr (.inl rfl),λ_ _ _ _ _ q=>agI q⟩) (evalArgs_kw2 rfl (a9 ((ae he aj hs) pos pins s σ H _ I h) λus s1 ζ=>?_) hs)];let⟨vs,H1,I1,g,q⟩:=ζ;let⟨l,ys,kf,rfl,hq,hT,q⟩:=q;let⟨u,rfl,ru⟩:=vals1 g;ext ru;rwa[kwAll_cons (RG I1 G hC kJ U hT hB λf w oc Z ct pm B H2 s2 I2 Ml hvs hv1 Y n=>?_)];rwa[a9 ((Du du GC:PK X [⟨some "default",.Constant .none j kq,D⟩] _) pos _ s2 σ H2 (λzs L=>zs=[.non]/\L=H2) I2 ⟨22⟩) λws s3 ζ=>?_];let⟨zs,L,T,rz,O,e2⟩:=ζ;rwa[⟨True.intro,5⟩]
 subst O e2;let⟨u2,rfl,ru2⟩:=vals1 rz;ext ru2;let⟨q1,q2,q3⟩:=q L Y n
 let R:aD X.K L l ys:=by
  rcases hT with z|⟨_,_,_,_,z,_⟩
  ·rwa[hq.fY z n]
  ·rwa[hq.fY z n]
 show wpAny _ _ (call (.builtin "min") [↑l] [("key",↑f),("default",.none)]) _ _ s3;let nm:(toString "min"++toString ".loop":String)="min.loop":=⋯
 rwa[ajD (aiA F.plain_min F.entry_min (wpAny_of_eq (Kf^_) ?_))];show wpAny _ X.A.in1 (Builtin.Builtins.bindParams "min" ["key","default"] 0 ⟨[],[("key",↑f),("default",.none)]⟩ >>=_) _ _ s3;rwa[agB (wpAny_of_eq (show Builtin.Builtins.bindParams "min" ["key","default"] 0 ⟨[],[("key",↑f),("default",.none)]⟩=pure #v[↑f,some .none] from rfl) ?_)];let⟨its,rv,pl,hz⟩:=T.list R;rwa[agB (agI (agB (ai1 pl.isList ?_)))];let⟨ol,RL,RK,RM⟩:=id pl.isList;rwa[agB (ahB ?_)];let ou:=agX RL;let hsz:(s3.heap.push ("list_iterator">>>.fields #[↑l,.int 0 0])).objs.size=↥s3+ 1:=air ..;let kp4:∀(b:Zs) (o:Obj),s3.heap.get? b\o->((s3.heap.push ("list_iterator">>>.fields #[↑l,.int 0 0])).push ("list">>>.seq ([]:Zk).toArray)).get? b\o:=λb o d=>agD _ (agD _ d)
 let I4:=T.kept (t':=s3.toks) kp4;rw[nm];rwa[agI ⟨ajc aji _,Hv (X:=X) (σ:=σ) (H:=L) (ys:=ys) (kf:=kf) (it:=↥s3) (l:=l) (T.ok.hd hc) R (ahf ou) (by cbv) (vy T (agJ _)) (vy T (by cbv)) (λi y v pr s' hy rv' J=>?_) (λv s' hw J=>?_) _ 0 _ #[] 0 rfl (ahd _) I4 ⟨_,agD _ (agU _ rfl),22⟩ (agU _ rfl) (.inl ⟨22⟩)⟩]
 ·let hf:=(J.pin (f,_) (agL _ (ag6 _ (agL _ (.head _))))).1;let hcr:s'.heap.CodeRec ↑w (X.env.qual++"<lambda>"):=⟨w,oc,Z,ct,2,(J.aM^Ml).1,hvs,hv1⟩;rwa[ajD (ai9 (OI (CX:=V3) (E:=E0) (k:=k) (vs:=[y]) (us:=[v]) S rfl hr.in1 J.zQ.in1 hf hcr (V pm B w v) (.cons rv' .nil) (C _ _ _ _ f w (hr.in1.deeper _)) (q1 i y hy)) λg s2 m=>?_)]
  cases g with
  |error d=>exact m.elim
  |ok fl=>
   cases fl with
   |next=>exact False.elim m
   |brk=>exact False.elim m
   |cont=>exact False.elim m
   |ret u=>
    let⟨v2,H4,J4,W,O,e2⟩:=J.after m;subst O e2;let⟨t,rfl⟩:=W;rwa[t,2,J4]
 ·rcases hw with ⟨O,rfl⟩|⟨i,y,hy,ry,hb⟩
  ·rwa[⟨.non,L,J.Fy,rfl,q2 O⟩]
  ·rwa[⟨y,L,J.Fy,ry,q3 i y hy hb⟩]
end
def Hx {D:Str->Zl}{CX:lh}{k:Nat}{fd:FuncData}{O:Sp}{ns:Zg}
 (R:K.In s.heap) (n:s.heap.Ns mainGlobals M) (g:s.heap.Ns builtinsNs D) (G:∀x:Str,x≠"__name__"->D x=bootBuiltins x) (p:s.heap.NoLimit) (hg:s.gens=#[])
 (J:s.heap.get? b\("list">>>.seq N.toArray)) (Y:IntsAre N ns) (W:⇑ns<=sizeLine) (hr:cx k callerA)
 (Fn:∀base:Heap,K.In base->base.Ns mainGlobals M->j7 M base->dk P w K M base CX k a fd [x] O) (hB:j7 M s.heap) (l:∀(s:Zu) (u:Zt),BindsTo s fd ⟨[u],[]⟩ [(x,u)])
 (L:s.heap.get? c\(PySem.W.tabObj #[])) (hKP:K.lookup c=none) (E:isCodeTable s.heap c)
 (I:∀H:Hp,H c\(.fB #[])->aD K H b (ns.map V.int)->O [↑b] H (λv _=>v=.bl true) λ_ _ _=>False)
 (F:∀H e i,CX [] H s (λ_ _ _=>False) e i->False):
 codeAny (model P w) callerA (.call ↑a ⟨[↑b],[]⟩) (λr i=>r=.ok (.ret (.bool true))/\OldK s.heap i.heap/\i.os=s.os/\AllBare i.gens) s:=by
 let rv:=yo Y;let C:b≠c:=λz=>by cbv
 let main:∀H:Hp,H c\(.fB #[])->(∀f u,H f\u->K.lookup f=none/\(f=c\/f=b/\∃X,u=.cS ("list">>>.seq N.toArray) (.lst X)))->aD K H b (ns.map V.int)->dD P w H s.heap->
  codeAny (model P w) callerA (.call ↑a ⟨[↑b],[]⟩) (λr i=>r=.ok (.ret (.bool true))/\OldK s.heap i.heap/\i.os=s.os/\AllBare i.gens) s:=by
  intro H T Q h3 S
  let nodict:∀{f:Zs} {o:Obj} {t:Array DictEntry} {A:Nat},s.heap.get? f\o->o.data=.dict t A->H f=none:=λ{f o t A} e d=>by
   cases q:H f with
   |none=>rfl
   |some u=>
    cbv
  let y:∀{f:Zs} {m:Str->Zl},s.heap.Ns f m->(pB s.heap H).Ns f m:=λ{f m} ζ=>by let⟨o,t,A,e,d,r⟩:=ζ;rwa[⟨o,t,A,ui e (nodict e d),d,r⟩]
  let Z:K.In (pB s.heap H):=λf o e=>ui (R f o e) (by
   cases q:H f with
   |none=>rfl
   |some u=>rw[(Q f u q).1]at e;ext e)
  let md:Mod K M (pB s.heap H):=⟨Z,y n,⟨D,y g,G⟩,let ⟨mc,z1,z2⟩:=p;⟨mc,y z1,z2⟩⟩;let e0:lV P w K M (pB s.heap H) callerA [] s H:=⟨2,md,λf o e=>NP e,ajR (Gn _ _),trivial,λf z=>absurd (show f∈([]:Zn) from z) (by simp),S,.of_eq hg⟩
  let bb:j7 M (pB s.heap H):=by
   let⟨U,ob,b1,b2,b3,b4⟩:=hB;rwa[⟨U,ob,b1,ui b2 ?_,b3,b4⟩]
   cases q:H U with
   |none=>rfl
   |some u=>
    cbv
  rwa[ai9 ((Fn _ Z (y n) bb).run callerA [] s H ⟨[↑b],[]⟩ [↑b] [↑b] _ _ hr e0 (l s ↑b) (.cons rfl .nil) (I H T h3)) λr i h=>?_]
  cases r with
  |error e=>exact(F H e i h).elim
  |ok fl=>
   cases fl with
   |next=>exact False.elim h
   |brk=>exact False.elim h
   |cont=>exact False.elim h
   |ret u=>
    let⟨v,H',os,bare,un,j,r',q⟩:=h;let q':v=.bl true:=q;subst q';obtain rfl:u=Value.bool true:=r'
    let each:∀f o,s.heap.get? f\o->asItWas s.heap i.heap f o/\∃o',i.heap.get? f\o':=λf o e=>by
     cases q:H f with
     |none=>
      let z:=un.keep f o e q (by intro z;rwa[absurd (show f∈([]:Zn) from z) (by simp)]) (by simp);rwa[.inl z,o,z]
     |some u=>
      rcases (Q f u q).2 with rfl|⟨rfl,X,rfl⟩
      ·rw[L]at e;ext e;let⟨more,z⟩:=un.ib^T;let z2:i.heap.get? f\{ cls:=.none,data:=.fields (#[]++more) }:=j^z;rwa[.inr (.inl ⟨E,2,#[],more,2,z2⟩),_,z2]
      ·let⟨z1,_⟩:=S^q;let⟨z2,_⟩:=j^un.gN _ _ _ q;rw[e]at z1;ext z1;rwa[.inl z2,_,z2]
    rwa[2,⟨λf o e=>(each f o e).1,λf o e=>(each f o e).2⟩,os,bare]
 cases B:K.lookup b with
 |some o=>
  let e:=R b o B;rw[J]at e;ext e;rwa[main (upd (λ_=>none) c (.fB #[])) ah (λf u z=>?_) (.inr ⟨_,N.toArray,_,B,222,[agV,⇑Y]▸W,3⟩) λf u z=>?_]
  ·cases g:f=c
   ·cbv
   ·rw[ak g]at z;ext z
  ·cases g:f=c
   ·subst g;rw[ah]at z;ext z;rwa[L]
   ·rw[ak g]at z;ext z
 |none=>
  rwa[main (upd (upd (λ_=>none) c (.fB #[])) b (.cS ("list">>>.seq N.toArray) (.lst (ns.map V.int)))) (by rw[ak C.symm,ah]) (λf u z=>?_) (.inl (.inr ⟨_,ah⟩)) λf u z=>?_]
  ·cases g:f=b
   ·subst g;rw[ah]at z;ext z;rwa[B,.inr ⟨212⟩]
   ·rw[ak g]at z;cases g:f=c
    ·cbv
    ·rw[ak g]at z;ext z
  ·cases g:f=b
   ·subst g;rw[ah]at z;ext z;rwa[J,[agH]▸W,N,_,rv,J]
   ·rw[ak g]at z;cases g:f=c
    ·subst g;rw[ah]at z;ext z;rwa[L]
    ·rw[ak g]at z;ext z
theorem qQ.okT {mg:Str->Zl}{base:Heap}{j:lh}{qual:Str}{st:Stmt}{fd:FuncData}{f:Zp}{k:Nat}{sp:Sp}(F:qQ K x qual st a fd)(hc:fd.code=↑c)(S:aS Z f (aB st))(len:∀b H Q E,sp b H Q E->⇑b=⇑f)
 (d:∀(A:Around) (outer:Zq) (s:Zu) (H:Hp) (b:Zb) (Q:VK) (E:XK),cx k (A.deeper (envOfC qual (aB st) ↥s a ↑c))->sp b H Q E->
  ∃t,iJ (cy j P w K mg base Z qual (aB st) a ↑c A outer s H E).tQ (cE st) t/\t { nx:=λ_ p=>Q .non p,rt:=Q } (start Z b) H):dk P w K mg base j (k+ 1) a fd f sp:=by
 let⟨q,u,kV,doc,pm,r,g,ct,m,rfl,lk,i⟩:=F.ex;let e:g=↑c:=hc;subst e;rwa[zE lk i S len λA outer s H b Q E o h=>?_]
 let⟨t,n,l⟩:=d A outer s H b Q E o h;rwa[t,n.tQ,l]
structure LamAt (K:Za1) (fd:FuncData) (c Pt:Zs):Prop where
 code:fd.code=↑c
 hd:PySem.W.codeHdIn K c Pt=true
 no:K.lookup Pt=none
def Kg {l:PySem.W.OpenLaw}{k:Nat}{loose:Zp}{XP:(Str->Zl)->Heap->Prop}{C:World->Heap->Prop}{d:DefRec}{K:Params->Za1}{CX:World->lh}{sp:World->Sp}
 (hn:l.most\n) (y:n<=sizeLine) (q:d.params.defaults=[]) (hr:cx k callerA) (T:∀(w:World) (h:Heap),C w h->(K w.params).In h/\h.get? a\(PySem.W.tabObj #[]))
 (F:∀(w:World) (g:Str->Zl) (j:Zs) (h:Heap),(K w.params).In h->h.Ns mainGlobals g->g d.name\↑j->
  ∃fd:FuncData,(∃fd2 c,LamAt (K w.params) fd2 c a)/\(∀(s:Zu) (u:Zt),BindsTo s fd ⟨[u],[]⟩ [(x,u)])/\∀base:Heap,(K w.params).In base->base.Ns mainGlobals g->j7 g base->dk l.prog w (K w.params) g base (CX w) k j fd [x] (sp w))
 (A:∀(w:World) (H:Hp) (b:Zs) (ns:Zg),⇑ns<=n->H a\(.fB #[])->aD (K w.params) H b (ns.map V.int)->sp w [↑b] H (λv _=>v=.bl true) λ_ _ _=>False)
 (t:∀(w:World) (H:Hp) (s:Zu) (e:Zt) (m:Zu),CX w [] H s (λ_ _ _=>False) e m->False):
 PySem.W.WalkO P loose XP C l.row.toRowW d [] (λf D=>PySem.call f D):=by
 rwa[Att.CF hn q λw B s g mb j o pm cd doc b D ns G Y ho hd hcd z i hints hlen L=>?_]
 let⟨p,hP⟩:=T w _ Y;let⟨fd,⟨fd2,c,E⟩,J,S⟩:=F w g j _ p G.T.g z;let⟨I,r,_,_,_,_,_,_,_,Z,M,g3,W,_⟩:=PySem.W.codeHd_of_K p E.hd;let hB:j7 g s.heap:=let ⟨X,N,a1,a2,O,U,R,a6⟩:=G.T.bmain;⟨X,N,a1,O,⟨U,R,a6⟩,a2⟩
 rwa[Hx p G.T.g G.T.b G.T.builtins G.T.nolimit L i hints (agT hlen y) hr S hB J hP E.no ⟨c,I,r,Z,M,g3,W⟩ (λH Q hS=>A w H b ns hlen Q hS) λH e m=>t w H s e m]
namespace Lr
def RN:typeLookup (.type "list_reverseiterator") "__len__"=pure none:=by kernel_rfl
def OL:typeLookup (.type "list_reverseiterator") "__length_hint__"=pure (some (.builtin "list_reverseiterator.__length_hint__")):=by kernel_rfl
section
variable {prog:Program}{w:World}{A:Around}{E:Zt->Zu->Prop}{s:Zu}{it l:Zs}{items:Zm}
def hint {Q:Bool->Zu->Prop}(hm:s.heap.IsRevIter it l z)(h:Q false s):(prog<|>w) A (Builtin.List.listLengthHint ↑it) Q E s:=by
 rwa[agB (wpAny_specialOf hm.typeIs RN ?_)];rwa[agB (wpAny_specialOf hm.typeIs OL ?_)];generalize c:("list_reverseiterator.__length_hint__":String)=d
 wp_delta
 subst c;rwa[agB (wpAny_isInstance (T:="list_reverseiterator") (b:=true) hm.typeIs (by kernel_rfl) ?_)];rwa[aj2 (λa=>absurd a ⋯) (λ_=>?_)];rwa[aj2 (λ_=>?_) (λa=>absurd ⋯ a)];rwa[agI h]
theorem extend {R:Result->Zu->Prop}(z:A.handled=none)(hit:s.heap.IsRevIter it l ((items.size:Int) - 1))(y:s.heap.IsList l items)(k:l≠it)(hlen:items.size<=sizeLine)(S:Zs)(n:S≠it)(x:S≠l)(res:Zt)(g:Nat)(D:s.heap.get? S\("list">>>.seq #[] g))
 (G:∀g1 t a d,(∀b o,b≠S->b≠it->s.heap.get? b\o->g1.get? b\o)->g1.get? S\{ cls:=.type "list",dict:=none,data:=.seq a d,slots:=#[] }->
  ItemsOf (λi v=>items[items.size - 1 - i]?\v) a items.size->R (.ok (.ret res)) { s with heap:=g1,toks:=t }):
 (prog<|>w) A.in1 (Builtin.List.listExtendWith ↑S ↑it res)
  (λfin c=>match fin with|.done f=>R (.ok f) c|.again d=>d.quiet=true/\codeAny (model prog w) A d R c) (λe c=>R (.error e) c) s:=by
 rwa[agB (aja (T:="list_reverseiterator") hit.typeIs ?_)];let u:Builtin.List.listSameRef ↑S ↑it=false:=by simp[Builtin.List.listSameRef,n]
 let r:(Value.type "list_reverseiterator"==Value.type "list")=false:=⋯
 let B:(Value.type "list_reverseiterator"==Value.type "tuple")=false:=⋯
 simp only[u,r,B,Bool.or_false,ajp,ajE];rwa[agB (wpAny_pyIter_revIter hit ?_)];rwa[agB (ahQ (hint hit ?_))];let W:=(Walks.listRev (prog:=prog) (w:=w) (A:=A.in1) z it l k items).toS
 let m:S∉[it,l]:=λI=>by
  cbv
 rwa[agI ⟨ajc F.plain_extend_loop _,5⟩];rwa[codeAny_extend_loopS W hlen S m res items.size 0 _ #[] _ rfl (ahd _) ⟨ahd _,by simpa using hit,y⟩ D (ItemsOf.nil _) λc a d h p j=>?_]
 rw[Moved.eq_with h];rwa[G c.heap c.toks a d (λb o H C e=>h.heap b o (λq=>?_) e) p j]
 cbv
def init {R:Result->Zu->Prop}(z:A.handled=none)(hit:s.heap.IsRevIter it l ((items.size:Int) - 1))(y:s.heap.IsList l items)(n:l≠it)(hlen:items.size<=sizeLine)(S:Zs)(g:S≠it)(h:S≠l)(t:s.heap.get? S\("list">>>.seq #[]))
 (B:∀g1 p a d,(∀b o,b≠S->b≠it->s.heap.get? b\o->g1.get? b\o)->g1.get? S\{ cls:=.type "list",dict:=none,data:=.seq a d,slots:=#[] }->
  ItemsOf (λi v=>items[items.size - 1 - i]?\v) a items.size->R (.ok (.ret .none)) { s with heap:=g1,toks:=p }):
 (prog<|>w) A.in1 (Builtin.«list.__init__» ⟨[↑S,↑it],[]⟩)
  (λfin k=>match fin with|.done f=>R (.ok f) k|.again d=>d.quiet=true/\codeAny (model prog w) A d R k) (λe k=>R (.error e) k) s:=by
 show wpAny _ _ (do let old <-Builtin.List.listItems ↑S;Builtin.List.listUpdate ↑S (λ_=>#[]);letGo old.toList.reverse;Builtin.List.listExtendWith ↑S ↑it .none) _ _ s;rwa[agB ?_];unfold Builtin.List.listItems;rwa[agB (ajk t rfl (agI ?_))];show wpAny _ _ (updateSeq S (λ_=>#[]) >>=λ_=>letGo (#[]:Zm).toList.reverse >>=λ_=>Builtin.List.listExtendWith ↑S ↑it .none) _ _ s;rwa[agB (ai6 t rfl ?_)];let u:=aht (Obj.mapSeq (λ_=>(#[]:Zm))) t rfl;let c:∀b o,b≠S->s.heap.get? b\o->(s.heap.update S (Obj.mapSeq (λ_=>(#[]:Zm)))).get? b\o:=λb o m e=>(ahv^ahZ m).trans e
 rwa[extend (s:={ s with heap:=s.heap.update S (Obj.mapSeq (λ_=>(#[]:Zm))) }) z (hit.at λo e=>c _ o g.symm e) (y.at λo e=>c _ o h.symm e) n hlen S g h .none _ u λg1 p a d x q j=>?_]
 rwa[B g1 p a d (λb o m r e=>x b o m r (c b o m e)) q j]
theorem call (z:A.handled=none)(hit:s.heap.IsRevIter it l ((items.size:Int) - 1))(q:s.heap.IsList l items)(g:l≠it)(hlen:items.size<=sizeLine)
 (x:∀g1 j a h,(∀b o,b≠it->s.heap.get? b\o->g1.get? b\o)->g1.get? ↥s\{ cls:=.type "list",dict:=none,data:=.seq a h,slots:=#[] }->ItemsOf (λi v=>items[items.size - 1 - i]?\v) a items.size->Q ↑↥s { s with heap:=g1,toks:=j }):
 (prog<|>w) A (PySem.call (.type "list") [↑it]) Q E s:=by
 rwa[callType_codes (Q₁:=λobj c=>obj=↑↥s/\c={ s with heap:=s.heap.push ("list">>>.seq #[]) }) F.called_list (F.typeCall_list_1 _) F.entry_list_init (code_list_new _ ⟨22⟩) λobj c d=>?_]
 let⟨rfl,rfl⟩:=d;let t:(s.heap.push ("list">>>.seq #[])).get? ↥s\("list">>>.seq #[]):=agU _ rfl;let p:it<↥s:=let ⟨o,m,_⟩:=hit;agX m
 let k:l<↥s:=let ⟨o,m,_⟩:=q;agX m
 rwa[⟨⟨_,t,2⟩,F.args_list_init_2 _ _,init (A:=A.in1) (s:={ s with heap:=s.heap.push ("list">>>.seq #[]) }) z (hit.at λo e=>agD _ e) (q.at λo e=>agD _ e) g hlen _ (ahT p) (ahT k) t λg1 j a h y n f=>?_⟩];rwa[2,x g1 j a h (λb o u e=>y b o (ahf (agX e)) u (agD _ e)) n f]
end
end Lr
section
variable {X:Cx}{a e:Expr}{ta:TA}{p p2 pos An:Pos}
def Kh (K:Za1)(ta:TA):TE:=λ d H Q=>ta d H λc b=>∃(l:Zs) (ys:Zb),c=[↑l]/\aD K b l ys/\∀D,b D=none->Q ↑D (upd b D (.lst ys.reverse))
def Ki {ys:Zb}{acc:Zm}(b:Vals ys N)(h:ItemsOf (λi v=>N.toArray[N.toArray.size - 1 - i]?\v) acc N.toArray.size):acc.toList=N.reverse:=by
 let f:acc.size=⇑N:=by simpa using h.1
 rwa[aiF λi=>?_]
 cases d:i<⇑N
 ·let e:acc[i]?\(acc[i]'∅):=Array.getElem?_eq_getElem ∅
  let c:=h.2 i _ e
  cbv
 cbv
theorem rA:∀{ys:Zb} {b:Zk},Vals ys b->Vals ys.reverse b.reverse
 |_,_,.nil=>.nil
 |_,_,.cons r t=>[List.reverse_cons,List.reverse_cons]▸(rA t).append (.cons r .nil)
def Fz (R:X.calm=true)(P:Gl X "list")(M:X.mg "list"=none)(V:Gl X "reversed")(O:X.mg "reversed"=none)(ha:PA X [a] ta)(hs:starEach [a] X.env=[(false,eval a X.env)])
 (L:starEach [.Call (.Name "reversed" p) [a] [] pos] X.env=[(false,eval (.Call (.Name "reversed" p) [a] [] pos) X.env)]):PE X (.Call (.Name "list" p2) [.Call (.Name "reversed" p) [a] [] pos] [] An) (Kh X.K ta):=by
 intro i s N H Q I h;rwa[ahO (gY I P M boot_list ?_)];rwa[ahE ?_ L rfl];rwa[ahC ?_];rwa[Call_ (gY I V O boot_reversed (ahE (a9 (ha pos i s N H _ I h) λus s1 ζ=>?_) hs rfl))];let⟨vs,B,k,U,Z⟩:=ζ;let⟨l,ys,e,Y,q⟩:=Z;subst e;let⟨u,rfl,ru⟩:=vals1 U;ext ru;let⟨g,F,pl,hz⟩:=k.list Y;let hl:=⇑F;let t:∀b o,s1.heap.get? b\o->(s1.heap.push (revObj l ((g.toArray.size:Int) - 1))).get? b\o:=λb o e=>agD _ e
 let C:l<↥s1:=let ⟨o,ho,_⟩:=pl.isList;agX ho
 let w:=vy k (agJ ↥s1);rwa[call_reversed_list pl.isList (aib ?_)];let I2:Inv X i N B { s1 with heap:=s1.heap.push (revObj l ((g.toArray.size:Int) - 1)) }:=k.kept (t':=s1.toks) t;rwa[Lr.call (s:={ s1 with heap:=s1.heap.push (revObj l ((g.toArray.size:Int) - 1)) }) (I.ok.hd R) ⟨_,agU _ rfl,22⟩ (pl.isList.at λo e=>t^e) (ahf C) (by rw[agV];omega) λJ A acc c W T x=>?_]
 let r:=Ki F x;let E:Inv X i N B { s1 with heap:=J,toks:=A }:=I2.turned (t':=A) (λb o j e=>W b o j e) w.none w.loc (.inr w.new) w.cell w.pin;let G:(s1.heap.push (revObj l ((g.toArray.size:Int) - 1))).objs.size=↥s1+ 1:=air ..;generalize hD:(s1.heap.push (revObj l ((g.toArray.size:Int) - 1))).objs.size=D at T G ⊢;let f:B D=none:=k.aM.fresh ∅;let y:=vy k (b:=D) ∅;let nD:∀{b:Zs},b∉[D]->b≠D:=λj z=>j (by simp[z])
 refine⟨↑D,upd B D (.lst ys.reverse),Inv.step (s:={ s1 with heap:=J,toks:=A }) E (h':=J) (t':=A) (g':=s1.gens) (d':=s1.drawn) (ch:=[D]) (λb j=>[agK.mp j]▸⟨.inr y.new,y.loc,y.cell,y.pin⟩) (λb o _ _ _ e _=>e) (λb o _ _ _ e _=>⟨o.slots,e⟩) (λb o R _ n=>[ak (nD R)]▸n) (λb o _ e=>⟨o,e⟩)
  (λb xs e=>[ak (av e f)]▸e) (λb o u e=>[ak (av e f)]▸e) (λb ps e=>⟨#[],by rw[ak (av e f),e];simp⟩) (λm O=>O) (λb u e=>?_) E.bare,2,q D f⟩
 ·cases j:b=D
  ·subst j;rw[ah]at e;ext e;erw[[List.length_reverse]▸hz,g.reverse,c,rA F];rw[<-r,Array.toArray_toList];rwa[T]
  ·rw[ak j]at e;rwa[(E.aM b u e).fu (λd v _ q=>q) (λd q=>[ak (av q f)]▸q) λd xs q=>[ak (av q f)]▸q]
def AQ (d c:TE):TE:=λ b H Q=>d b H Q\/c b H Q
def vz {c:TE}(g:PE X e r)(f:PE X e c):PE X e (AQ r c):=λb s d H Q I h=>h.elim (g b s d H Q I) (f b s d H Q I)
def RP (C:Zs):TE:=λ_ H Q=>∀x d,H x=none->H d=none->d≠x->Q ↑x (upd (upd H d (.own x)) x (.ins C d []))
def uF (d:PySem.W.makesIn X.K b=true)(n:PySem.W.findIn X.K ↑b "__init__"=some (some (.builtin "object.__init__")))(kp:PySem.W.keepIn X.K ↑b=true)(j:Gl X x)(q:X.mg x\↑b)
 (f:(x==("__debug__":Str))=false:=by decide):PE X (.Call (.Name x p) [] [] pos) (RP b):=by
 intro g s r H Q I h;rwa[ahO (jY I j q ?_ f)];rwa[PySem.W.callWith_K0 I.dm kp (ajD ?_)];let l:=Inv.made (C:=b) I;let k:=h (↥s+ 1) ↥s (I.aM.fresh (aiT _)) (I.aM.fresh (agJ _)) (ahf (ah6 _));let Y:=PySem.W.makes_of (M:=model X.prog X.w) I.dm d;rwa[Gz I.dm d n (λself=>PySem.W.Looks.of_pure (PySem.W.oi_bind self)) ?_]
 let m:((s.heap.push PySem.W.emptyDict).push (PySem.W.instObj b ↥s)).get? (↥s+ 1)\(PySem.W.instObj b ↥s):=by
  have:=agU (s.heap.push PySem.W.emptyDict) (o:=PySem.W.instObj b ↥s) rfl
  rwa [air]at this
 let t1:PySem.W.Looks (model X.prog X.w) ((s.heap.push PySem.W.emptyDict).push (PySem.W.instObj b ↥s)) (typeOf ↑(↥s+ 1)) ↑b:=(PySem.W.Looks.ld m).andThen .now;let i:PySem.W.Looks (model X.prog X.w) ((s.heap.push PySem.W.emptyDict).push (PySem.W.instObj b ↥s)) (isInstance ↑(↥s+ 1) (.type "object")) true:=t1.andThen (Y.top.keeps λc o e=>agD _ (agD _ e));rwa[aiA PySem.W.oi_plain PySem.W.entry_oi (@PySem.W.check_slot (model X.prog X.w) _ _ _ "object.__init__" "object" "__init__" ↑(↥s+ 1) [] [] _ PySem.W.oi_kind PySem.W.oi_split i (PySem.W.oi_args ↑(↥s+ 1)) ?_)];rwa[agI (And.intro rfl ⟨↑(↥s+ 1),_,l,rfl,k⟩)]
inductive Vp (K:Za1) (xs:Zb) (H:Hp) (Q:VK):Prop
 |mk (x:V) (D:Zs) (t:Zt) (b:Bool):xs=[x,↑D]->jG K H x t->PySem.W.kitOne K t ↑D\b->Q (.bl b) H->Vp K xs H Q
end
end L2
namespace L2
def nm (E:Zh)(c:Nat):Nat:=E.getD c 0
def qo (R:Za2)(E:Zh)(a:Nat)(z:Int)(b:Nat):Prop:=∃c d,R c z d/\nm E c=a/\nm E d=b
noncomputable def vA (x y a:Nat):Nat:=if a=y then x else a
def vB (h:n<m)(E:Zh)(c:Nat):nm (E.map (vA n m)) c=vA n m (nm E c):=by
 unfold nm;rw[agM,agM,agY]
 cases E[c]? with
 |some x=>rfl
 |none=>show 0=vA n m 0;unfold vA;rw[ag3 ∅]
def RT (u v:Nat)(W:Za2)(a:Nat)(z:Int)(b:Nat):Prop:=∃c d,W c z d/\vA u v c=a/\vA u v d=b
inductive One (ws:Za3) (nr:Nat):Zh->(Za2)->Dt->Zh->(Za2)->Prop
 |meet {E:Zh} {W:Za2} {c u v:Nat} {z:Int}:u<v->E[u]?\u->E[v]?\v->W c z u->W c z v->One ws nr E W (hH c z u v) (E.map (vA u v)) (RT u v W)
 |rule {E:Zh} {W:Za2} {which k c d:Nat} {word:Zg} {p:Zh} {z:Int}:ws[which]?\word->⇑p=⇑word+ 1->p[0]?=p[⇑word]?->(which<nr\/p[0]?\0)->(∀x∈p,E[x]?\x)->word[k]?\z->p[k]?\c->p[k+ 1]?\d->
  (∀(i a b:Nat) (y:Int),i≠k->word[i]?\y->p[i]?\a->p[i+ 1]?\b->W a y b)->One ws nr E W (lP which p k) E (fz W c z d)
inductive Go (ws:Za3) (nr:Nat):Zh->(Za2)->List Dt->Zh->(Za2)->Prop
 |nil {E:Zh} {W W':Za2}:(∀a z b,W a z b↔W' a z b)->Go ws nr E W [] E W'
 |cons {E E1 E2:Zh} {W W1 W2:Za2} {row:Dt} {ms:List Dt}:One ws nr E W row E1 W1->Go ws nr E1 W1 ms E2 W2->Go ws nr E W (row::ms) E2 W2
section
variable {ws:Za3}{nr:Nat}{E E1 E2:Zh}{W W' W1 W2:Za2}{ms ns:List Dt}
def Go.congr (h:Go ws nr E W ms E1 W1):∀{W':Za2},(∀a z b,W' a z b↔W a z b)->Go ws nr E W' ms E1 W1:=by
 induction h with
 |nil e=>exact λh=>.nil λa z b=>(h a z b).trans (e a z b)
 |cons o _ m=>
  intro W' h
  cases o with
  |meet j c l f k=>exact .cons (.meet j c l ((h^_).mpr f) ((h^_).mpr k)) (m λa z b=>by
   constructor
   ·rintro ⟨g,d,q,r⟩;rwa[g,d,(h^_).mp q,r]
   ·rintro ⟨g,d,q,r⟩;rwa[g,d,(h^_).mpr q,r])
  |rule j c l f k v p u w=>exact .cons (.rule j c l f k v p u λi a b y n x s t=>(h^_).mpr (w i a b y n x s t)) (m λa z b=>by
   unfold fz;rw[h])
def Go.app (h:Go ws nr E W ms E1 W1):∀{E2:Zh} {W2:Za2} {ns:List Dt},Go ws nr E1 W1 ns E2 W2->Go ws nr E W (ms++ns) E2 W2:=by
 induction h with
 |nil e=>exact λg=>g.congr e
 |cons o _ a=>exact λg=>.cons o (a g)
end
def OO (h:n<m)(a:Nat)(z:Int)(b:Nat):RT n m (qo R B) a z b↔qo R (B.map (vA n m)) a z b:=by
 constructor
 ·rintro ⟨g,i,⟨d,c,r,rfl,rfl⟩,e,f⟩;rwa[d,c,r,by rw[vB h,e],by rw[vB h,f]]
 ·rintro ⟨d,c,r,e,f⟩;rwa[11,⟨d,c,r,22⟩,by rw[<-vB h,e],by rw[<-vB h,f]]
section
variable {ws:Za3}{nr:Nat}{S S':RS}{pend:Ze}{R:Za2}{ks:Zg}
def pR {S:RS}(wf:S.Wf){c:Nat}(a:c<S.q):S.aU[c]?\(S.aw c):=by
 unfold RS.aw;rw[agM,agG ([wf.e]▸a)];rfl
def RV (l:j6 S pend S'):Good S pend R->(∀c z d,R c z d->z∈ks)->∃e,S'.rows=S.rows++e/\Go ws nr S.aU (qo R S.aU) e S'.aU (qo R S'.aU):=by
 induction l with
 |nil S=>exact λ_ _=>⟨[],(ahe _).symm,.nil λ_ _ _=>Iff.rfl⟩
 | @take S S' pend w _ E=>
   intro g p;let⟨g1,_,r,_,q⟩:=g.take p;let⟨e,v,go⟩:=E g1 p;rcases q with ⟨_,h,B⟩|⟨_,c,z,x,y,u,m,D,F,k,h,_,A⟩
   ·rw[tW B]at go;rwa[e,by rw[v,h],go]
   ·let⟨_,o,_,ex⟩:=g.st _ _ _ u;let f:min x y<max x y:=by rcases Nat.lt_or_gt_of_ne k with q|q <;> ext
    let C:(S.takeIn pend w).1.aU=S.aU.map (vA (min x y) (max x y)):=by
     rwa[aiF λi=>?_]
     rw[agY];cases t:i<S.q
     ·rw[pR g1.wf ([r]▸t),pR g.wf t,A];rfl
     ·rw[aho (by rw[g1.wf.e,r];omega),aho (by rw[g.wf.e];omega)];rfl
    let ix:qo R S.aU c z x:=g.so _ _ _ u;let m:qo R S.aU c z y:=m;let n:=pR g.wf o;let j:=pR g.wf D;rw[ex]at n;rw[F]at j;rwa[⟨hH c z (min x y) (max x y)::e,by rw[v,h,ahy];rfl,.cons (.meet f ?_ ?_ ?_ ?_) ((C ▸ go).congr λa s b=>OO f a s b)⟩]
    ·rcases aki x y with q|q
     ·rw[ajz q];rwa[n]
     ·rw[ajN q];rwa[j]
    ·rcases aki x y with q|q
     ·rw[akj q];rwa[j]
     ·rw[aj3 q];rwa[n]
    ·rcases aki x y with q|q
     ·cbv
     ·rw[ajN q];rwa[m]
    ·rcases aki x y with q|q
     ·cbv
     ·rw[aj3 q];rwa[ix]
theorem rB {c:Nat->Int->Zi}:∀{w:Zg} {r e:Nat},wk c r w\e->⇑(r::cq c r w)=⇑w+ 1/\(r::cq c r w)[⇑w]?\e/\∀(i:Nat) (y:Int),w[i]?\y->∃a b,(r::cq c r w)[i]?\a/\(r::cq c r w)[i+ 1]?\b/\c a y\b
 |[],r,e,h=>by
  rwa[⟨2,by rw[<-Za0 h];rfl,λi y q=>by simp at q⟩]
 |z::w,r,e,h=>by
  let⟨d,f,j⟩:=oF h;let⟨g,k,l⟩:=rB j;rw[m7 f];rwa[⟨by rw[aha,g];rfl,k,λi y q=>?_⟩]
  cases i with
  |zero=>rwa[r,d,22,by rw[<-Za0 q];rwa[f]]
  |succ i=>exact l i y q
theorem uG (g:Good S [] R):∀{w:Zg} {r e:Nat},wk S.by r w=some e->S.aU[r]?\r->∀x∈r::cq S.by r w,S.aU[x]?\x
 |[],r,e,h,b,x,a=>by rw[agK.mp a];rwa[b]
 |z::w,r,e,h,b,x,a=>by
  let⟨d,c,i⟩:=oF h;rcases agW.mp a with rfl|a
  ·rwa[b]
  ·rw[m7 c]at a;let⟨_,f,_,j⟩:=g.st _ _ _ c;have:=pR g.wf f;rw[j]at this;rwa[uG g i this x a]
def Kj (f:nm B n=n)(e:nm B m=m)(a:Nat)(y:Int)(b:Nat):fz (qo R B) n z m a y b↔qo (fz R n z m) B a y b:=by
 constructor
 ·rintro (⟨g,h,r,c,d⟩|⟨rfl,rfl,rfl⟩|⟨rfl,rfl,rfl⟩)
  ·rwa[g,h,.inl r,c,d]
  ·rwa[11,.inr (.inl ⟨222⟩),f,e]
  ·rwa[11,.inr (.inr ⟨222⟩),e,f]
 ·rintro ⟨g,h,r|⟨rfl,rfl,rfl⟩|⟨rfl,rfl,rfl⟩,c,d⟩
  ·rwa[.inl ⟨g,h,r,c,d⟩]
  ·rwa[.inr (.inl ⟨c.symm.trans f,2,d.symm.trans e⟩)]
  ·rwa[.inr (.inr ⟨c.symm.trans e,2,d.symm.trans f⟩)]
def Kk {start:Nat}{word:Zg}(g:Good S [] R)(c:AH ws nr S n word start m i j z):One ws nr S.aU (qo R S.aU) (lP n ((start::cq S.by start (word.take m))++(j::cq S.by j (word.drop (m+ 1)))) m) S.aU (fz (qo R S.aU) i z j):=by
 let H:m<⇑word:=(agE.mp c.hz).1;let⟨d,A,G⟩:=rB c.f;let⟨v,F,B⟩:=rB c.r;let lt:⇑(word.take m)=m:=by rw[ahm];ext
 let ld:⇑(word.drop (m+ 1))=⇑word - (m+ 1):=ahG ..;rw[lt]at d A;rw[ld]at v F;let u:=pR g.wf c.s.1;rw[c.s.2]at u;let t:=pR g.wf c.hd.1;rw[c.hd.2]at t;let left:∀h,h<=m->((start::cq S.by start (word.take m))++(j::cq S.by j (word.drop (m+ 1))))[h]?=(start::cq S.by start (word.take m))[h]?:=λh w=>agN (by rw[d];omega)
 let right:∀h,((start::cq S.by start (word.take m))++(j::cq S.by j (word.drop (m+ 1))))[m+ 1+ h]?=(j::cq S.by j (word.drop (m+ 1)))[h]?:=λh=>by
  rw[agR (by rw[d];omega),d]
  congr 1
  ext
 rwa[.rule c.w (by rw[agF,d,v];omega) ?_ ?_ (λx k=>?_) c.hz ?_ ?_ λh a b y w E o l=>?_]
 ·cbv
 ·rw[left 0 ∅];exact c.n.imp id λe=>by rw[e];rfl
 ·rcases agS.mp k with k|k
  ·rwa[uG g c.f u x k]
  ·rwa[uG g c.r t x k]
 ·rw[left m (agJ _)];rwa[A]
 ·rw[right 0];rfl
 ·rcases Nat.lt_or_gt_of_ne w with q|q
  ·let⟨D,C,p,s,r⟩:=G h y (by cbv);rw[left h ∅,p]at o;rw[left (h+ 1) ∅,s]at l;obtain rfl:=Za0 o;obtain rfl:=Za0 l;rwa[g.so _ _ _ r]
  ·obtain⟨f,rfl⟩:∃f,h=m+ 1+ f:=⟨h - (m+ 1),3⟩;let⟨D,C,p,s,r⟩:=B f y ([List.getElem?_drop]▸E);rw[right,p]at o;rw[show m+ 1+ f+ 1=m+ 1+ (f+ 1) by ext,right,s]at l;obtain rfl:=Za0 o;obtain rfl:=Za0 l;rwa[g.so _ _ _ r]
def Mm (t:Tr ws nr S S')(C:∀w∈ws,∀z∈w,z∈ks/\-z∈ks):Good S [] R->fI S->(∀a z b,R a z b->z∈ks)->∃p,Good S' [] p/\fI S'/\(∀a z b,p a z b->z∈ks)/\∃j,S'.rows=S.rows++j/\Go ws nr S.aU (qo R S.aU) j S'.aU (qo p S'.aU):=by
 induction t with
 |refl=>exact λg w k=>⟨R,g,w,k,[],(ahe _).symm,.nil λ_ _ _=>Iff.rfl⟩
 |step _ f u E=>
  rename_i l G h word start m c d z _;intro g x k;let⟨D,g1,n,v,j,H,o⟩:=E g x k;let s:=C word (agC f.w) z (agC f.hz)
  let i:∀a y b,fz D c z d a y b->y∈ks:=by
   rintro a y b (r|⟨_,e,_⟩|⟨_,e,_⟩)
   ·rwa[v _ _ _ r]
   ·rw[e];rwa[s.1]
   ·rw[e];rwa[s.2]
  let gl:=g1.lay z f.hc.1 f.hd.1 (l.rows++[lP h ((start::cq l.by start (word.take m))++(d::cq l.by d (word.drop (m+ 1)))) m]);let⟨A,F,_⟩:=u.all gl i ⟨n.a,n.b,n.c⟩;let⟨q,B,go2⟩:=RV (ws:=ws) (nr:=nr) u gl i;rwa[⟨_,A,F,i,j++(_::q),5,o.app (.cons (Kk g1 f) (go2.congr λa y b=>Kj f.hc.2 f.hd.2 a y b))⟩];rw[B];show (l.rows++[_])++q=_
  cbv
end
end L2
namespace L2
open PySem PySem.Spec PyProof.Rows
def Wc (a:Program)(w:World)(A:Around)(env:Env):Zr->(Bool->Zu->Prop)->Zu->Prop
 |[],K,s=>K true s
 |c::_,K,s=>(a<|>w) A (isTrue c env (eval c env)) K (λ_ _=>False) s
def AU {R:Result->Zu->Prop}{elt target iter:Expr}{cs:Zr}{scope:Scope}{pos:Pos}{it acc:Zt}{env:Env}(i:⇑cs<=1)(I:Nat->Zu->Prop)
 (turn:∀n s,I n s->(P<|>w) A (pyNext it) (λr c=>match r with
  |none=>R (.ok .next) c
  |some v=>(P<|>w) A (letOwnedTupleGo target it v) (λ_ e=>(P<|>w) A (assign target env v) (λ_ g=>Wc P w A env cs (λb a=>
   match b with
   |true=>(P<|>w) A (eval elt env) (λx f=>(P<|>w) A (call (.builtin "list.append") [acc,x]) (λ_ d=>∃m,m<n/\I m d) (λ_ _=>False) f) (λ_ _=>False) a
   |false=>∃m,m<n/\I m a) g) (λ_ _=>False) e) (λ_ _=>False) c) (λ_ _=>False) s)
 (n:Nat) (h:I n s):codeAny (model P w) A (.compLoop (.ListComp elt [⟨target,iter,cs,(0)⟩] scope pos) 0 it acc env) R s:=
 match cs,i,turn with
 |[],_,turn=>CH I turn n h
 |[_],_,turn=>y9 I turn n h
def Mp (X:Cx):Zr->TT->Prop
 |[],a=>a=λ_ H Q=>Q true H
 |c::_,a=>PT X c a
def OQ {e:TT}{Q:Bool->Hp->Prop}{K:Bool->Zu->Prop}(h:Mp X C e)(i:X.xe=λ_ _=>False)(I:Inv X o D H s)(q:e D H Q)(k:∀b a d,Inv X o D d a->Q b d->K b a):Wc X.prog X.w X.A X.env C K s:=
 match C,h with
 |[],h=>by
  rw[h]at q;rwa[k true s H I q]
 |c::_,h=>by
  have:=h o s D H Q I q;rw[i]at this;rwa[a9 this λb a ζ=>?_];let⟨d,f,g⟩:=ζ;rwa[k b a d f g]
section
variable {X:Cx}{elt iter vp:Expr}{x:Str}{px pos:Pos}{scope:Scope}{cl:List (Str×Zs)}{fns:Zp}{ixs:Zh}{wi:TI}{tt:TT}{te:TE}
theorem yH {cs:Zr}{use:Option (Zt->Sem Unit)}{RQ:Zt->Zu->Prop}{Q:VK}(hl:⇑cs<=1)(hc:X.calm=true)(hi:PI X (.Name x px) iter wi)(S:dR X x fns ixs scope cl)
 (ht:∀(C:Zs) (s:Zu) (H:Hp) (ex:Zn),Mp (dv X (x::fns) scope cl C s H ex) cs tt) (he:∀(C:Zs) (s:Zu) (H:Hp) (ex:Zn),PE (dv X (x::fns) scope cl C s H ex) elt te)
 (hs:∀x,foldedSetIterable iter X.env x=pure x) (I:Inv X o D H s) (h:oy wi (iO ixs) tt te D H Q)
 (fin:∀(C k:Zs) (H3:Hp) (ys:Zb) (s4:Zu) (m:Str->Zl),s4.heap.Ns C m->(∀G,Heap.SameBut C s4.heap G->Inv X o D (upd H3 k (.lst ys)) (s4<*G))->upd H3 k (.lst ys) C=none->X.env.locals≠C->(∀z c,X.env.cells.lookup z\c->c≠C)->X.dX.heap.objs.size<=C->(∀g∈X.pn++o,g.1≠C)->Q ↑k (upd H3 k (.lst ys))->compPost (model X.prog X.w) X.A X.xe use RQ ↑k C (.ok .next) s4):
 X⁻¹ X.A (comprehension (.ListComp elt [⟨.Name x px,iter,cs,(0)⟩] scope pos) scope X.env p (newList []) false (eval iter X.env) use) RQ X.xe s:=by
 rwa[wpAny_comprehension_free rfl hs S.Aa S.kind S.names (a9 (hi o s D H _ I h) λv s1 h1=>a9 h1 λitv s2 h2=>?_)];let⟨it,Y,tn,J,H2,e,A,T,Hw,f2,W,⟨m0,w0⟩,turn⟩:=h2;subst e
 let E:∀b∈Y,b<↥s2:=λb t=>by
  let⟨f,ho,_⟩:=T.obj _ _ Hw b t;rwa[agX ho]
 rwa[ahB (wpAny_newFunctionEnv S.cell (by intro y hy;simp at hy) (λKl O N=>?_) S.kind)];generalize AV:s2.heap.push { cls:=.type "list",dict:=none,data:=.seq ([]:Zk).toArray }=F at O N ⊢;generalize hD:↥s2=k at E ⊢;let hC:F.objs.size=k+ 1:=by rw[<-AV,air,hD]
 generalize hCe:F.objs.size=C at hC O N ⊢;let w:k<C:=∅
 let Hy:k≠C:=ahf w;let L:∀b u,s2.heap.get? b\u->F.get? b\u:=λb u q=>by rw[<-AV];rwa[agD _ q]
 let Mq:∀{b u},s2.heap.get? b\u->b<k:=λq=>by rw[<-hD];rwa[agX q]
 let U:∀b u,F.get? b\u->Kl.get? b\u:=λb u q=>
  N.extBut b u (ahf (ahc (agX q) (ajR hCe))) (agD _ q)
 let hDo:F.get? k\{ cls:=.type "list",dict:=none,data:=.seq ([]:Zk).toArray }:=by rw[<-AV,<-hD];rwa[agU _ rfl]
 let I3:Inv X o D H2 (s2<*F):=A.kept (t':=s2.toks) L;let Mr:H2 k=none:=A.aM.fresh ∅;let hnC:H2 C=none:=A.aM.fresh ∅
 let Km:∀b∈k::Y,b∉cJ X.stack:=λb t z=>by
  rcases agW.mp (A.zM b z) with e|z
  ·rcases agW.mp t with Z|t
   ·rwa[absurd A.lt (by rw[<-e,Z,<-hD];rwa[ahV _])]
   ·rwa[(f2 b t).2.1 e]
  ·rcases agW.mp t with Z|t
   ·rwa[A.EV (by rw[Z,<-hD];rwa[agJ _]) z]
   ·rwa[(f2 b t).2.2.1 z]
 let lg:∀y c,cl.lookup y\c->∀b∈k::Y,c≠b:=λy c q b t z=>by
  let⟨v,hv⟩:=A.cell y c (S.sub y c q);rcases agW.mp t with Z|t
  ·rwa[absurd hv.lt (by rw[z,Z,<-hD];rwa[ahV _])]
  ·rwa[(f2 b t).2.2.2.2.1 y c (S.sub y c q) z]
 let' R:Cx:=dv X (x::fns) scope cl C (s2<*F) H2 (k::Y)
 let ok:R.Ok:={
  mod:=A.ok.mod
  kind:=S.kind
  glob:=A.ok.glob
  blt:=A.ok.blt
  above:=by show F.objs.size<=C;ext
  inj:=λy z c q1 q2=>A.ok.inj y z c (S.sub^q1) (S.sub^q2)
  has:=S.has
  zL:=λy c q=>nomatch q
  hd:=A.ok.hd
  frames:=A.ok.frames
  Dh:=.inl rfl
  Lz:=λb t=>⟨by
   rcases agW.mp t with Z|t
   ·rw[Z];rwa[Hy]
   ·rwa[ahf (ajV (E b t) w)],λy c q=>lg y c q b t⟩
  bs:=I3.bs
  qN:=agT I3.ok.qN I3.sz
  uk:=λb f q t=>by
   rcases agW.mp t with Z|t
   ·rwa[absurd (Mq (A.bs b f q).1) (by rw[Z];rwa[ahV _])]
   ·rcases (f2 b t).2.2.2.1 with z|z
    ·rwa[A.ok.uk b f q z]
    ·rwa[absurd (agX (A.ok.bs b f q).1) (Nat.not_lt.mpr z)]
  wZ:=Km
  i6:=I3.stack
  tO:=I3.nZ }
 let start:∀(v0:Zc),v0=none->Inv R [(k,{ cls:=.type "list",dict:=none,data:=.seq ([]:Zk).toArray })] (v0::iO ixs D) H2 { s2 with heap:=Kl,toks:=s2.toks+ ⇑([]:List (Str×Zt)) }:=λv0 hv0=>{
  ok:=ok
  os:=rfl
  bare:=A.bare
  base:=Un.kept U
  loc:=⟨_,O,λi y v e1 Z e3=>by
   cases i with
   |zero=>rw[hv0]at Z;ext Z
   |succ j=>
    let e1':fns[j]?\y:=e1
    let RW:(iO ixs D)[j]?\(some v):=Z
    let⟨i,hi1,hi2,hk,c,mj,Ml⟩:=S.at_ j y e1';unfold iO at RW;rw[agY,hi1]at RW
    let e3':D[i]?\(some v):=by
     let z:(D[i]?).join\v:=Za0 RW
     cases q:D[i]? with
     |none=>rw[q]at z;ext z
     |some f=>rw[q]at z;rw[show f=some v from z]
    let⟨m,_,hl⟩:=A.loc;let⟨u,r,l⟩:=hl i y v hi2 e3' (hk.elim (λz=>.inr (.inl z)) λz=>.inr (.inr z));rwa[⟨u,r,.inr ⟨Ml,c,mj,5⟩⟩];rcases l with ⟨z,_⟩|⟨_,c',hc',Vq⟩
    ·rcases hk with hk|hk <;> cbv
    ·have:c'=c:=Za0 (hc'.symm.trans (S.sub^mj));subst this;let⟨f,ho,hd⟩:=Vq;rwa[f,U^L^ho,hd]⟩
  cell:=λy c q=>by
   let⟨v,f,ho,hd⟩:=A.cell y c (S.sub y c q);rwa[v,f,U^L^ho,hd]
  free:=hnC
  gO:=λy c q=>A.gO y c (S.sub y c q)
  pin:=λg hp=>by
   let RX:g=(k,{ cls:=.type "list",dict:=none,data:=.seq ([]:Zk).toArray }):=by simpa [R,dv] using hp
   subst RX;rwa[U^hDo,Mr,Hy,Km k (agP ..),λv z=>nomatch z]
  aM:=(A.aM.kept L).kept U
  len:=by show ⇑(v0::iO ixs D)=⇑(x::fns);simp[iO,S.len] }
 let RZ:∀{H':Hp} {P:List (Zs×Obj)},(∀b∈Y,H' b=none)->(∀g∈P,g.1=k)->∀b∈Y,pD R P H' b:=λ{H' P} hn hp b t=>
  ⟨hn b t,ahf (ajV (E b t) w),Km b (ag4 _ t),.inl (ag4 _ t),λy c q=>lg y c q b (ag4 _ t),λg q=>by
   let q':g∈P:=by simpa [R,dv] using q
   rw[hp g q'];rwa[ahT (E b t)]⟩
 let loop:codeAny (model X.prog X.w) X.A (.compLoop (.ListComp elt [⟨.Name x px,iter,cs,(0)⟩] scope pos) 0 ↑it ↑k (compEnvC scope cl C X.env))
  (compPost (model X.prog X.w) X.A X.xe use RQ ↑k C) { s2 with heap:=Kl,toks:=s2.toks+ ⇑([]:List (Str×Zt)) }:=by
  refine AU hl (λn s'=>∃(i:Nat) (ys:Zb) (M:Zk) (nn:Nat) (v0:Zc) (H':Hp),Inv R [(k,{ cls:=.type "list",dict:=none,data:=.seq M.toArray nn })] (v0::iO ixs D) H' s'/\tn i s'.heap/\(∀b∈Y,H' b=none)/\Vals ys M/\W i n ys H') ?_ m0
   ⟨(0),[],[],(0),none,H2,start none rfl,T.keep _ _ _ Hw λb _ f q=>U^L^q,λb t=>(f2 b t).1,.nil,w0⟩
  rintro n s3 ⟨i,ys,M,nn,v0,H3,J3,Wd,Wg,vv,w3⟩
  let Kn:∀g∈([(k,({ cls:=.type "list",dict:=none,data:=.seq M.toArray nn }:Obj))]:List (Zs×Obj)),g.1=k:=λg hp=>by
   cbv
  rcases turn i n ys H3 w3 with ⟨stop,hlen,q⟩|⟨go,hlen,step⟩
  ·-- the end
   rwa[a9 (T.done R rfl rfl rfl hc i _ s3 _ H3 _ J3 (RZ Wg Kn) Wd stop) λr s4 ζ=>?_];let⟨hr,J4⟩:=ζ
   subst hr;let⟨m,hn,_⟩:=J4.loc;let⟨gD,nD,_,_,_⟩:=J4.pin (k,{ cls:=.type "list",dict:=none,data:=.seq M.toArray nn }) (by simp[R,dv]);let B:=J4.base
   let inv:∀G,Heap.SameBut C s4.heap G->Inv X o D (upd H3 k (.lst ys)) (s4<*G):=λG hsb=>by
    let kC:∀b u,b≠C->s4.heap.get? b\u->G.get? b\u:=λb u t q=>(hsb.2 b t).trans q
    let ne:∀{b f},s2.heap.get? b\f->b≠C/\b≠k:=λq=>⟨ahf (ajV (Mq q) w),ahf (Mq q)⟩
    let vC:∀{b f},s2.heap.get? b\f->b∉Y->b∉k::Y:=λq hx z=>(agW.mp z).elim (ne q).2 hx
    let uu:Un (cJ X.stack) Y H2 (upd H3 k (.lst ys)) s2.heap G:={
     keep:=λb f q n t hx=>kC b f (ne q).1 (B.keep b f (L b f q) n t (vC q hx))
     slot:=λb f q n t hx=>by
      let⟨sl,e⟩:=B.slot b f (L b f q) n t (vC q hx);rwa[sl,kC b _ (ne q).1 e]
     free:=λb f q n hx=>by rw[ak (ne q).2];rwa[B.free b f (L b f q) n (vC q hx)]
     there:=λb f q hx=>by
      let⟨o',e⟩:=B.there b f (L b f q) (vC q hx);rwa[o',kC b _ (ne q).1 e]
     ia:=λb xs q=>by rw[ak (av q Mr)];rwa[B.ia b xs q]
     gN:=λb f xs q=>by rw[ak (av q Mr)];rwa[B.gN b f xs q]
     ib:=λb ps q=>by
      let⟨more,e⟩:=B.ib b ps q;rwa[⟨more,[ak (av q Mr)]▸e⟩ ]}
    let aM:dD X.prog X.w (upd H3 k (.lst ys)) G:=λb u e=>by
     cases t:b=k
     ·subst t;rw[ah]at e;ext e;rwa[hlen,M,nn,vv,kC _ _ Hy gD]
     ·rw[ak t]at e;refine(J4.aM b u e).fu (λc v hc q=>kC c v ?_ q) (λc q=>[ak (av q nD)]▸q) λc xs q=>by rw[ak (av q nD)];rwa[q]
      let fC:H3 C=none:=J4.free
      cbv
    rwa[A.EW (s':=(s4<*G)) J4.os uu aM J4.bare (λb t=>⟨(f2 b t).2.2.2.1,(f2 b t).2.1,(f2 b t).2.2.2.2.1,(f2 b t).2.2.2.2.2⟩)]
   let ab:∀{b f},s2.heap.get? b\f->b≠C:=λq z=>absurd (Mq q) ([z]▸Nat.not_lt.mpr (ajQ w))
   rwa[fin C k H3 ys s4 m hn inv ([ak (ahZ Hy)]▸J4.free) (λz=>?_) (λz c hz=>?_) (agT (by have:=A.sz;rw[hD]at this;rwa[this]) (ajQ w)) (λg hp=>ab (A.pin g hp).1) (q k nD)]
   ·let h1:=A.lt
    cbv
   ·let⟨v,f,ho,_⟩:=A.cell z c hz;rwa[ab ho]
  ·-- a turn
   rwa[a9 (T.item R rfl rfl rfl hc i _ s3 _ H3 _ J3 (RZ Wg Kn) Wd go) λr s4 ζ=>?_];let⟨u,hr,h4⟩:=ζ
   subst hr;rwa[a9 h4 λ_ s5 ζ=>?_];let⟨xv,H5,J5,r5,y5,Hz,HB⟩:=ζ
   let J5':=J5.pinned (RZ HB Kn) (T.obj^Hz);let hg:PG R (.Name x px) (lA 0):=Dl (X:=R) (i:=0) S.nd rfl (.inl (tU S.own)) (.inr (tU S.own));rwa[a9 (hg _ s5 _ H5 xv u (λ fm H'=>fm=some xv::iO ixs D/\H'=H5) J5' r5 ⟨22⟩) λ_ s6 ζ=>?_];let⟨σ6,H6,J6,e6,e6'⟩:=ζ
   subst e6 e6';rwa[OQ (ht C (s2<*F) H2 (k::Y)) rfl J6 (step xv H6 y5) λbt Wh R6 HC q6=>?_]
   cases bt with
   |true=>
    rwa[a9 (he C (s2<*F) H2 (k::Y) _ Wh _ R6 _ HC q6) λyv s7 ζ=>?_];let⟨y,H7,J7,r7,m',R7,w7⟩:=ζ
    let⟨gD,nD,_,_,_⟩:=J7.pin (k,{ cls:=.type "list",dict:=none,data:=.seq M.toArray nn }) (by simp[R,dv]);let R8:tn (i+ 1) s7.heap:=T.keep _ _ _ Hz λb t f e=>(J7.pin (b,f) (agL _ (agL _ (iA t e)))).1
    let Sb:∀b∈Y,H7 b=none:=λb t=>by
     let⟨f,e,d⟩:=T.obj _ _ Hz b t;rwa[(J7.pin (b,f) (agL _ (agL _ (iA t e)))).2.1]
    let J7':Inv R [] (some xv::iO ixs D) H7 s7:=J7.jh λg hp=>nomatch hp
    rwa[wpAny_list_append_plain (hsz:=by rw[agV,<-⇑vv];omega) ⟨nn,gD⟩ λh8 pl8 Wi=>?_]
    let⟨n8,g8⟩:=pl8
    let J8:Inv R [] (some xv::iO ixs D) H7 (s7<*h8):=J7'.turned (t':=s7.toks) (it:=k) (λb f t e=>(Wi.2 b t).trans e) nD (Hy) (.inl (agP ..))
     (λy c q=>lg y c q k (agP ..)) (λg hp=>by simp[R,dv]at hp)
    rwa[⟨m',R7,i+ 1,ys++[y],M++[yv],n8,some xv,H7,J8.jh λg hp=>?_,5,Sb,vv.append (.cons r7 .nil),w7⟩]
    ·cbv
    ·rwa[T.keep _ _ _ R8 λb t f e=>(Wi.2 b (ahf (E b t))).trans e]
   |false=>
    let⟨m',R7,w7⟩:=q6;let⟨gD,nD,_,_,_⟩:=HC.pin (k,{ cls:=.type "list",dict:=none,data:=.seq M.toArray nn }) (by simp[R,dv]);let R8:tn (i+ 1) Wh.heap:=T.keep _ _ _ Hz λb t f e=>(HC.pin (b,f) (agL _ (agL _ (iA t e)))).1
    let Sb:∀b∈Y,R6 b=none:=λb t=>by
     let⟨f,e,d⟩:=T.obj _ _ Hz b t;rwa[(HC.pin (b,f) (agL _ (agL _ (iA t e)))).2.1]
    rwa[⟨m',R7,i+ 1,ys,M,nn,some xv,R6,HC.jh λg hp=>?_,R8,Sb,vv,w7⟩]
    cbv
 rwa[codeAny_compStart_list loop (T.self _ 0 _ _ _ (T.keep _ _ _ Hw λb _ f q=>U^L^q) loop)]
def AW {cs:Zr}(e:⇑cs<=1)(k:X.calm=true)(g:PI X (.Name x px) iter wi)(S:dR X x fns ixs scope cl)(d:∀(C:Zs) (s:Zu) (H:Hp) (ex:Zn),Mp (dv X (x::fns) scope cl C s H ex) cs tt)
 (j:∀(C:Zs) (s:Zu) (H:Hp) (ex:Zn),PE (dv X (x::fns) scope cl C s H ex) elt te) (f:∀x,foldedSetIterable iter X.env x=pure x):PE X (.ListComp elt [⟨.Name x px,iter,cs,(0)⟩] scope pos) (oy wi (iO ixs) tt te):=by
 intro c s o H Q I h;rwa[yH e k g S d j f I h λC D n ys l m i inv _ _ _ _ _ q=>⟨m,i,λa b=>⟨↑D,_,inv a b,2,q⟩⟩]
def tX {cs:Zr}{a:Pos}(L:⇑cs<=1)(P:X.N.Nodup)(i:X.N[n]?\f)(M:Loc X.env.scope f)(T:X.calm=true)(O:PI X (.Name x px) iter wi)(S:dR X x fns ixs scope cl)(B:∀(C:Zs) (s:Zu) (H:Hp) (ex:Zn),Mp (dv X (x::fns) scope cl C s H ex) cs tt)
 (R:∀(C:Zs) (s:Zu) (H:Hp) (ex:Zn),PE (dv X (x::fns) scope cl C s H ex) elt te) (N:∀x,foldedSetIterable iter X.env x=pure x) (r:swapsWith (.ListComp elt [⟨.Name x px,iter,cs,(0)⟩] scope pos) (some (.Name f p)) a.line X.env=pure true)
 (l:X.fn f=true\/X.env.scope.names.lookup f=some .local):PS X (.Assign [.Name f p] (.ListComp elt [⟨.Name x px,iter,cs,(0)⟩] scope pos) a) (xc (oy wi (iO ixs) tt te) (lA n)):=by
 intro d s σ H U I h;rw[exec_Assign_Name_used _ _ _ _ r];rwa[agB (ajB (agB ?_))];rwa[agB (ahF (yH (RQ:=λ_ w=>SP X d U .next w) L T O S B R N I h λC D Z ys V m Q inv t A z sz J q=>?_) (λ_ w F=>agI (agI F)) λ_ _ e=>e)];rwa[wpAny_assign_Name (ye (inv _ ⟨2,λ_ _=>rfl⟩) P i M (v:=↑D) rfl (λs5 G c=>?_) l)];let⟨y,j,k⟩:=c
 let g:C≠y:=by
  rcases k with e|e
  ·cbv
  ·rwa[ahZ (z f y e)]
 rwa[⟨m,Q.sameBut j g,λh6 u=>?_⟩];rwa[11,G.turned (t':=s5.toks) (it:=C) (λb o E e=>(u.2 b E).trans e) t (ahZ A) (.inr sz) z J,q]
def jc (c:X.calm=true)(d:PI X (.Name x px) iter wi)(S:dR X x fns ixs scope cl)
 (a:∀(C:Zs) (s:Zu) (H:Hp) (ex:Zn),PE (dv X (x::fns) scope cl C s H ex) elt te)
 (b:∀x,foldedSetIterable iter X.env x=pure x:=by intro _;rfl):
 PE X (.ListComp elt [⟨.Name x px,iter,[],(0)⟩] scope pos) (LZ wi (iO ixs) te):=AW (cs:=[]) ⋯ c d S (λ_ _ _ _=>rfl) a b
def FC (e:X.calm=true)(b:PI X (.Name x px) iter wi)(S:dR X x fns ixs scope cl)
 (c:∀(C:Zs) (s:Zu) (H:Hp) (ex:Zn),PT (dv X (x::fns) scope cl C s H ex) vp tt) (a:∀(C:Zs) (s:Zu) (H:Hp) (ex:Zn),PE (dv X (x::fns) scope cl C s H ex) elt te)
 (d:∀x,foldedSetIterable iter X.env x=pure x):
 PE X (.ListComp elt [⟨.Name x px,iter,[vp],(0)⟩] scope pos) (oy wi (iO ixs) tt te):=AW (cs:=[vp]) (agJ _) e b S c a d
def kj {iy:Nat}{a:Pos}(i:X.N.Nodup)(c:X.N[iy]?\f)(g:Loc X.env.scope f)(j:X.calm=true)(k:PI X (.Name x px) iter wi)(S:dR X x fns ixs scope cl)
 (e:∀(C:Zs) (s:Zu) (H:Hp) (ex:Zn),PE (dv X (x::fns) scope cl C s H ex) elt te)
 (h:∀x,foldedSetIterable iter X.env x=pure x:=by intro _;rfl) (d:swapsWith (.ListComp elt [⟨.Name x px,iter,[],(0)⟩] scope pos) (some (.Name f p)) a.line X.env=pure true:=by rfl)
 (b:X.fn f=true\/X.env.scope.names.lookup f=some .local:=by trivial):
 PS X (.Assign [.Name f p] (.ListComp elt [⟨.Name x px,iter,[],(0)⟩] scope pos) a) (xc (LZ wi (iO ixs) te) (lA iy)):=tX (cs:=[]) ⋯ i c g j k S (λ_ _ _ _=>rfl) e h d b
def qp {iy:Nat}{a:Pos}(j:X.N.Nodup)(c:X.N[iy]?\f)(g:Loc X.env.scope f)(k:X.calm=true)(l:PI X (.Name x px) iter wi)(S:dR X x fns ixs scope cl)
 (h:∀(C:Zs) (s:Zu) (H:Hp) (ex:Zn),PT (dv X (x::fns) scope cl C s H ex) vp tt) (e:∀(C:Zs) (s:Zu) (H:Hp) (ex:Zn),PE (dv X (x::fns) scope cl C s H ex) elt te)
 (i:∀x,foldedSetIterable iter X.env x=pure x:=by intro _;rfl) (d:swapsWith (.ListComp elt [⟨.Name x px,iter,[vp],(0)⟩] scope pos) (some (.Name f p)) a.line X.env=pure true:=by rfl)
 (b:X.fn f=true\/X.env.scope.names.lookup f=some .local:=by trivial):
 PS X (.Assign [.Name f p] (.ListComp elt [⟨.Name x px,iter,[vp],(0)⟩] scope pos) a) (xc (oy wi (iO ixs) tt te) (lA iy)):=tX (cs:=[vp]) (agJ _) j c g k l S h e i d b
end
def TrD (h base:Heap)(e:Zs)(cls:Zt)(g:Zo)(f:Zt):Prop:=
 ∃a b T d c,h.get? e\a/\(a.cls=cls/\a.dict=g)/\a.data=.fields b/\b[1]?\↑T/\base.get? T=none/\T≠e/\h.get? T\d/\d.data=.fields c/\c[3]?\f
def kX (base:Heap)(l:Zq)(e:Zs)(cls:Zt)(b:Zo)(a:Zt)(h:Heap):Prop:=base.StaysIn h/\base.get? e=none/\h.FunFrames base l/\TrD h base e cls b a
def yI (f:Zm->Zm)(o:Obj):(Obj.mapFields f o).dict=o.dict:=by
 let⟨a,b,d,e⟩:=o;cases d <;> rfl
section
variable {M:Model}{A:Around}{E:Zt->Zu->Prop}{s:Zu}{base:Heap}{env:Env}{outer:Zq}{L e:Zs}{cls:Zt}{dx:Zo}
def HD {v:Obj}{y:Zm}{head:Zt}{n:Bool}(B:A.frames\(env::outer))(z:s.heap.FunFrames base (env::outer))(P:env.frame\L)
 (Q:s.heap.get? e\v) (G:base.StaysIn s.heap) (F:base.get? e=none) (N:v.data=.fields y) (w:1<y.size)
 (h:∀D,kX base (env::outer) e v.cls v.dict (rawInt L) D->s.heap.UpToSlots D->U () (s<*D)):
 wpAny M A (do let a <-frameOf env;let pl <-entryPlaceOf L n;let b <-EntryCells.newEntry head a .none (rawInt L) .none pl;setField ↑e 1 b) U E s:=by
 let u:e∉(env::outer).filterMap (·.frame):=λI=>by
  let⟨_,o,R,k⟩:=z.mem I
  cbv
 rwa[agB (wpAny_frameOf_fun B z P λc f=>?_)];rwa[agB (wpAny_entryPlaceOf λpl C=>?_)];unfold EntryCells.newEntry newFields;rwa[agB (ahB ?_ (C.sizeOk5 _ _ _ _ _))];let i:c.get? e\v:=(f.2.1 e u).trans Q;let g:base.StaysIn c:=λb o j=>(f.2.1 b λI=>by rw[(z.mem I).1]at j;ext j).trans (G b o j)
 let l:=agD (h:=c) { cls:=.type "traceback",dict:=none,data:=.fields ([head,↑L,.none,rawInt L,.none]++(if pl.isEmpty then List.replicate 6 Value.none else pl)).toArray } i;rwa[aiU l N w ?_];let x:c.objs.size≠e:=ahT (agX i);let m:=aii N (·.setIfInBounds 1 (Value.ref c.objs.size));let t:=aht (Obj.mapFields (·.setIfInBounds 1 (Value.ref c.objs.size))) l (aiQ m)
 let r:=(ahv (c.push { cls:=.type "traceback",dict:=none,data:=.fields ([head,↑L,.none,rawInt L,.none]++(if pl.isEmpty then List.replicate 6 Value.none else pl)).toArray })
  (Obj.mapFields (·.setIfInBounds 1 (Value.ref c.objs.size))) (ahZ x)).trans (agU c rfl)
 let keep:∀b o,b≠e->c.get? b\o->_\o:=λb o J p=>(ahv (c.push { cls:=.type "traceback",dict:=none,data:=.fields ([head,↑L,.none,rawInt L,.none]++(if pl.isEmpty then List.replicate 6 Value.none else pl)).toArray }) (Obj.mapFields (·.setIfInBounds 1 (Value.ref c.objs.size))) (ahZ J)).trans (agD _ p)
 let d:∀b o,s.heap.get? b\o->(∀y,o.data≠.fields y)->b≠e:=λb o p k q=>by
  cbv
 rwa[h _ ⟨λb o j=>keep b o (λq=>by cbv) (g b o j),F,z.of_keeps λb o p k=>?_,5⟩ λb o p k=>?_]
 ·let⟨O,H⟩:=f.2.2 b o p;rwa[_,keep b _ (d b o p k) H,2]
 ·rwa[11,c.objs.size,11,t,⟨Obj.cls_mapFields _ _,yI _ _⟩,m,by simp[w],g.fresh,x,r,2,by cbv]
 ·let⟨O,H⟩:=f.2.2 b o p;rwa[O,keep b _ (d b o p k) H]
def Sd {y:Obj}{x:Zm}{k:Obj}{j:Zm}{l:Zq}(w:base.StaysIn s.heap)(t:base.get? e=none)(D:s.heap.FunFrames base l)
 (G:s.heap.get? e\k) (H:k.cls=cls/\k.dict=dx) (B:k.data=.fields j) (C:j[1]?\↑a) (r:base.get? a=none) (m:a≠e) (z:s.heap.get? a\y) (i:y.data=.fields x) (F:x[3]?\v)
 (h:∀p,kX base l e cls dx u p->s.heap.UpToSlots p->U () (s<*p)):wpAny M A (setField ↑a 3 u) U E s:=by
 let g:3<x.size:=(ain.mp F).1;let other:∀b,b≠a->(s.heap.update a (Obj.mapFields (·.setIfInBounds 3 u))).get? b=s.heap.get? b:=λb f=>ahv^ahZ f
 let c:∀b o,s.heap.get? b\o->(∀j,o.data≠.fields j)->b≠a:=λb o f d q=>by
  cbv
 rwa[aiU z i g (h _ ⟨λb o n=>(other b λq=>by cbv).trans (w b o n),t,D.of_keeps λb o f d=>⟨o,(other b (c b o f d)).trans f,2⟩,5⟩ λb o f d=>⟨o.slots,(other b (c b o f d)).trans f⟩)]
 rwa[k,j,a,11,(other e (ahZ m)).trans G,H,B,C,r,m,aht _ z (aiQ (aii i _)),aii i _,by simp[g]]
def vD {l:Zq}(p:kX base l e cls dx v s.heap)(m:∀c,kX base l e cls dx .none c->s.heap.UpToSlots c->U () (s<*c)):wpAny M A (setFlight ↑e none) U E s:=by
 let⟨h,f,o,u,t,T,r,w,k,a,i,j,d,g,n,b,q⟩:=p;unfold setFlight;rwa[agB (ahI k i j ?_)];rw[ag8 (show (Value.ref T !=Value.none)=true from by simp)];rwa[Sd h f o k a i j d g n b q m]
def Ms (g:A.frames\(env::outer))(q:env.frame\L)(l:kX base (env::outer) e cls dx .none s.heap)
 (x:∀d,kX base (env::outer) e cls dx (rawInt L) d->s.heap.UpToSlots d->U () (s<*d)):wpAny M A (noteFrame ↑e env) U E s:=by
 let⟨b,a,k,N,J,T,I,O,u,⟨rfl,rfl⟩,n,p,h,j,o,c,t⟩:=l;unfold noteFrame;simp only[q];rwa[agB (ahI u n p ?_)];rw[ag8 (show (Value.ref T !=Value.none)=true from by simp)];rwa[agB (ahI o c t ?_)];rw[ag3 (show ¬((Value.none==rawInt L)=true) from by simp[rawInt])];rwa[agB (Sd b a k u ⟨22⟩ n p h j o c t λw H z=>?_)];let⟨b,a,k,B,y,P,G,F,m,⟨D,v⟩,f,i,_⟩:=H;rwa[HD (s:=(s<*w)) g k q m b a f (ain.mp i).1 λd r C=>?_]
 rw[D,v]at r;rwa[x d r (z.trans C)]
def OS (b:A.frames\(env::outer))(f:env.frame\L)(c:kX base (env::outer) e cls dx .none s.heap)
 (n:∀a,kX base outer e cls dx .none a->s.heap.UpToSlots a->U () (s<*a)):wpAny M A (leaving env ↑e) U E s:=by
 unfold leaving;rwa[agB (Ms b f c λl h o=>vD (s:=(s<*l)) h λj ζ k=>?_)];let⟨d,g,⟨11,i⟩,m⟩:=ζ;rwa[n j ⟨d,g,i,m⟩ (o.trans k)]
def Ko {b:Obj}{i:Zm}(c:A.frames\(env::outer))(t:s.heap.FunFrames base (env::outer))(j:env.frame\L)
 (k:s.heap.get? e\b) (g:base.StaysIn s.heap) (f:base.get? e=none) (h:b.data=.fields i) (a:i[1]?=some .none)
 (n:∀d,kX base outer e b.cls b.dict .none d->s.heap.UpToSlots d->U () (s<*d)):wpAny M A (leaving env ↑e) U E s:=by
 unfold leaving noteFrame;simp only[j];rwa[agB (agB (ahI k h a ?_))];rw[ag3 ⋯];rwa[HD c t j k g f h (ain.mp a).1 λa o r=>vD (s:=(s<*a)) o λm ζ q=>?_];let⟨l,u,⟨11,p⟩,v⟩:=ζ;rwa[n m ⟨l,u,p,v⟩ (r.trans q)]
end
end L2
namespace L2
open PySem PySem.Spec PyProof.Rows PySem.Calls PySem.W Builtin Builtin.ObjectAttr
def yJ (x C:Zs)(e:Zo)(d:Bool)(h:Heap):Prop:=∃b c,h.get? x\b/\b.cls=↑C/\b.dict=e/\b.data=.fields c/\(d=true->c[1]?=some .none/\∃a,c[0]?\↑a)
noncomputable def XO (x C:Zs)(b:Zo)(a:Bool):HO:=.ext (yJ x C b a)
def yJ.fu {x:Zs}{dx:Zo}{nw:Bool}(p:yJ x a dx nw h)(k:∀o,h.get? x\o->g.get? x\o):yJ x a dx nw g:=by
 let⟨c,b,e,r⟩:=p;rwa[c,b,k _ e,r]
def yJ.ex {x:Zs}{dx:Zo}{nw:Bool}(p:yJ x a dx nw h):Ff x a h:=let ⟨f,b,e,c,_,d,_⟩:=p;⟨f,b,e,c,d⟩
def AX (d:Zs)(fs:List (Str×V))(h:Heap):Prop:=∃a,h.Ns1 d a/\(∀f,eJ (fs.lookup f) (a f))/\Within a (fs.map (·.1))
noncomputable def XD (d:Zs)(fs:List (Str×V)):HO:=.ext (AX d fs)
def AX.fu {fs:List (Str×V)}(p:AX d fs h)(k:∀o,h.get? d\o->g.get? d\o):AX d fs g:=by
 let⟨a,n,r⟩:=p;rwa[a,n.at k,r]
def zG {x:Zs}{c:Zo}{b:Bool}(p:yJ x a c b h):bZ P w H h x (XO x a c b):=⟨p,let ⟨d,_,e,_⟩:=p;⟨d,e⟩,λ_ _ q k=>q.fu k⟩
def Mt {fs:List (Str×V)}(p:AX d fs h):bZ P w H h d (XD d fs):=⟨p,let ⟨_,⟨o,_,_,e,_⟩,_⟩:=p;⟨o,e⟩,λ_ _ q k=>q.fu k⟩
noncomputable def mw:Zk->Bool
 |.ref _::r=>mw r
 |l=>l==Ak
def FD (e:mw N=true):(∃c r,N=↑c::r/\mw r=true)\/N=Ak:=by
 cases N with
 |nil=>exact .inr (ajC.mp e)
 |cons c r=>cases c <;> first|rwa[.inl ⟨_,_,rfl,e⟩]|rwa[.inr (ajC.mp e)]
theorem qq (self:Zt):∀(l:Zk),mw l=true->refuseLoop self "__setattr__" l=pure ()/\l.contains (.type "object")=true/\l.isEmpty=false
 |[],e=>by ext e
 |v::l,e=>by
  rcases FD e with ⟨c,r,q,e⟩|q
  ·injection q with b d
   subst b d;let a:=qq self l e;rwa[[refuseLoop_ref]▸a.1,by cbv,2]
  ·rw[q];rwa[PySem.F.store_ValueError.passes self,42]
structure AY (K:Za1) (C:Zs):Prop where
 mr:(clsIn K C).any (λcd=>mw cd.mro)=true
 hd:hasDictIn K C=true
 sa:findIn K ↑C "__setattr__"=some (some (.builtin "object.__setattr__"))
 ga:findIn K ↑C "__getattribute__"=some (some (.builtin "BaseException.__getattribute__"))
 gt:findIn K ↑C "__getattr__"=some none
 be:subIn K ↑C (.type "BaseException")\true
section
variable {prog:Program}{w:World}{A:Around}{R:Result->Zu->Prop}{s:Zu}{K:Za1}{x C:Zs}{name:Str}{v:Zt}
def DX {p:Obj}{t:Option Obj}{g:Tok}(X:K.In s.heap)(I:PySem.W.InstAt s.heap x p C t)(m:(clsIn K C).any (λcd=>mw cd.mro)=true)(j:takerIn K C name\none)
 (h:∀b,(prog<|>w) A.in1 (storeInOwnDict ↑x ↑C (.str name g) name v b)
  (λfin d=>match fin with|.done f=>R (.ok f) d|.again i=>i.quiet=true/\codeAny (model prog w) A i R d) (λe d=>R (.error e) d) s):
 codeAny (model prog w) A (.call (.builtin "object.__setattr__") ⟨[↑x,.str name g,v],[]⟩) R s:=by
 let c:=PySem.F.store_object;let⟨cd,y,o⟩:=any_some m;let⟨n,B,z⟩:=qq ↑x _ o;let sub:Looks (model prog w) s.heap (isInstance ↑x (.type "object")) true:=I.type.andThen (looks_mroIn X (by unfold mroIn;cbv));rwa[aiA c.slot.plain c.entry (@check_slot (model prog w) _ _ s "object.__setattr__" "object" "__setattr__" ↑x [.str name g,v] [] _ c.kind c.split sub (c.args ↑x (.str name g) v) ?_)];let⟨attr,u,r⟩:=Option.bind_eq_some_iff.mp j;let hm:Looks (model prog w) s.heap (mroOf ↑C) cd.mro:=(looks_clsIn X y).andThen .now
 let l:Looks (model prog w) s.heap (storeTaker? attr) none:=by
  cases attr with
  |none=>exact .now
  |some a=>
   let⟨b,k,q⟩:=ahU.mp r;rwa[(looks_takesIn X k).andThen ?_]
   cases b with
   |true=>ext q
   |false=>exact .now
 rw[osa_eq,refuse_eq];rwa[agB (agB (I.type.here (agB (hm.here ?_))))];rw[n];rwa[agI (agB (I.type.here (agB ((looks_findIn X u).here (agB (l.here ?_))))))];rwa[h _]
def YL {ns:Zp}{f:Obj}{t:Zm}(X:K.In s.heap)(c:AY K C)(z:s.heap.get? x\f)(j:f.cls=↑C)(q:f.data=.fields t)(D:takerIn K C name\none)
 (e:f.dict\d) (B:s.heap.Ns1 d M) (I:PySem.Within M ns) (H:⇑ns<=sizeLine)
 (h:∀i,i.Ns1 d (λy=>if y=name then some v else M y)->Heap.SameBut d s.heap i->U () { s with heap:=i,toks:=s.toks+ 2 }):
 (prog<|>w) A (setAttr ↑x name v) U E s:=by
 let⟨P,L,O,p⟩:=f;dsimp only at j q e;subst j q e;let⟨u,S,T,F,r⟩:=id B;let J:PySem.W.InstAt s.heap x ⟨↑C,some d,.fields t,p⟩ C (some u):=⟨z,22,F⟩;rwa[set_plain X J c.sa (DX (s:={ s with toks:=s.toks+ 1 }) X J c.mr D λb=>?_)];let⟨Q,j,o⟩:=any_some c.hd;rwa[agB (agI (agB (agB (wpAny_loadPart z (agB (Looks.here (s:={ s with toks:=s.toks+ 1 }) (looks_clsIn X j) ?_))))))];rw[o];rwa[agI (a:=some d) (agB (agI (agB ?_)))];rwa[wpAny_nsSet1 (s:={ s with toks:=s.toks+ 1 }) B λi g l=>?_]
 let⟨u,N,G,n,k,m⟩:=g.count (PySem.Within.cons name v I);rwa[agB (wpAny_lookBehind n ([k]▸pastItsLine_dict (agT m (by rw[aha];omega))) ?_)];rwa[agI (h _ g l)]
def Vr {f:Obj}{r:Zm}(X:K.In s.heap)(c:AY K C)(n:s.heap.get? x\f)(p:f.cls=↑C)(F:f.data=.fields r)(G:takerIn K C name\none)(g:f.dict=none)
 (h:∀j,j.Ns1 ↥s (λy=>if y=name then some v else none)->j.get? x\{ f with dict:=some ↥s }->(∀b o,b≠x->s.heap.get? b\o->j.get? b\o)->U () { s with heap:=j,toks:=s.toks+ 2 }):
 (prog<|>w) A (setAttr ↑x name v) U E s:=by
 let⟨P,L,O,m⟩:=f;dsimp only at p F g;subst p F g;let J:PySem.W.InstAt s.heap x ⟨↑C,none,.fields r,m⟩ C none:=⟨n,22,True.intro⟩;rwa[set_plain X J c.sa (DX (s:={ s with toks:=s.toks+ 1 }) X J c.mr G λb=>?_)];let⟨S,p,D⟩:=any_some c.hd;rwa[agB (agI (agB (agB (wpAny_loadPart n (agB (Looks.here (s:={ s with toks:=s.toks+ 1 }) (looks_clsIn X p) ?_))))))];rw[D];let d:(s.heap.push ("dict">>>.dict #[])).get? x\⟨↑C,none,.fields r,m⟩:=agD _ n;let i:x≠↥s:=ahf (agX n);rwa[agB (wpAny_alloc' ?_)];rwa[agB (wpAny_update' d ?_)];rwa[agI (a:=some ↥s) (agB (agI (agB ?_)))]
 let q:((s.heap.push ("dict">>>.dict #[])).update x λo=>{ cls:=o.cls,dict:=some ↥s,data:=o.data,slots:=o.slots }).get? ↥s
  =some ("dict">>>.dict #[]):=(Heap.get?_update_ne _ _ _ _ i.symm).trans (Heap.get?_push_at rfl rfl)
 let u:((s.heap.push ("dict">>>.dict #[])).update x λo=>{ cls:=o.cls,dict:=some ↥s,data:=o.data,slots:=o.slots }).Ns ↥s (λ_=>none):=
  ⟨_,#[],_,q,2,λe M=>absurd M (by simp),λ_=>rfl⟩
 rwa[wpAny_nsSet1 (s:={ s with heap:=(s.heap.push ("dict">>>.dict #[])).update x λo=>{ cls:=o.cls,dict:=some ↥s,data:=o.data,slots:=o.slots },toks:=s.toks+ 1 }) (Heap.Ns1.of_empty u) λj l k=>?_]
 let⟨Q,N,I,B,t,z⟩:=l.count (Within.cons name v Within.nil);rwa[agB (wpAny_lookBehind B ([t]▸pastItsLine_dict (agT z (by rw[aha,aih,sizeLine_eq];omega))) ?_)];rwa[agI (h _ l ?_ λb o H e=>?_)]
 ·rwa[(k.2 x i).trans (aht _ d rfl)]
 ·rwa[(k.2 b (ahf (agX e))).trans ((Heap.get?_update_ne _ _ _ _ H).trans (agD _ e))]
end
end L2
namespace L2
open PySem PySem.Spec PyProof.Rows PySem.Calls PySem.W
noncomputable def xD (K:Frag)(C f:Zs):Bool:=match K.lookup C with
 |some ⟨.type "type",_,.cls cd,c⟩=>(match cd.mro,c.toList with
  |.ref b::a,#v[_,_,_,_,.builtin n,_]=>b==C && n=="ValueError.__new__" && !cd.hasDel && tailIn K Ak a && nsOkIn K cd.ns && nsIn K cd.ns "__init__"==some (some ↑f)
  |_,_=>false)
 |_=>false
def OU {K:Frag}(X:K.In h)(G:h.Ns a M)(e:nsIn K a x\some v):M x\v:=by
 let⟨o,m,p,i,b,_,g⟩:=G;unfold nsIn at e;split at e
 ·rename_i c d f k l q;have:=X^q;rw[i]at this;ext this;ext b;split at e
  ·rename_i n j;ext e;rw[<-g];unfold nsFind findBy;rw[<-Array.find?_toList,j];rfl
  ·split at e <;> ext e
 ·ext e
def AZ (XK:K.In h)(q:xD K a b=true):∃n N nm o bs k s sub r col t E A G D F w,
 h.get? a=some (excClassObj nm o a N bs n k s sub r col t E A G D F "ValueError.__new__")/\h.Ns N w/\w "__init__"=some ↑b/\OwnTail h Ak n:=by
 unfold xD at q;split at q
 ·rename_i t cls m j;split at q
  ·rename_i H n x y z u nid v f c;simp only[aix,ajC,Bool.not_eq_true']at q;let⟨⟨⟨⟨⟨rfl,rfl⟩,e⟩,g⟩,i⟩,d⟩:=q;let⟨nm,bs,mro,C,o,B,s,sub,r,col,del⟩:=cls;dsimp only at f e i d;subst f e
   let p:m=#[x,y,z,u,some (.builtin "ValueError.__new__"),v]:=by
    let⟨l⟩:=m;simp only at c;rw[c]
   subst p;rwa[n,C,nm,o,bs,B,s,sub,r,col,t,x,y,z,u,v,_,XK^j,.of_isNs (PySem.W.isNs_of_in XK i),OU XK (.of_isNs (PySem.W.isNs_of_in XK i)) d,PySem.W.tail_of_in XK g]
  ·ext q
 ·ext q
section
variable {prog:Program}{w:World}{A:Around}{E:Zt->Zu->Prop}{h:Heap}{g:Array GenState}{d:Drawn}{t:Nat}{os:OsState}
variable {nm q:Str}{C N:Zs}{bs bm Mu:Zk}{hdct:Bool}{sn:Zp}{sub:Zk}{ab:Bool}{col:Option Bool}{dd:Zo}{k0 k1 k2 k3 k5:Zl}{B newId HF:String}
theorem vE (F:ExcBaseFacts B newId HF Mu)(T:OwnTail h Mu bm){n:Str->Zl}{rest:Zk}{s:Zs}{y:Obj}{Q:Fin->Zu->Prop}
 (j:h.get? C\excClassObj nm q C N bs bm hdct sn sub ab col dd k0 k1 k2 k3 k5 newId) (L:h.Ns N n) (J:n "__init__"=some ↑s)
 (u:h.get? s\y) (p:y.cls=.type "function")
 (G:∀l e,Heap.MadeExcOf h l e ↑C rest->
  (prog<|>w) A (call ↑s (↑e::rest)) (λr v=>r=.none/\Q (.done (.ret ↑e)) v) E ⟨l,g,d,t,os⟩) (Vs:⇑rest<=sizeLine):
 (prog<|>w) A (Builtin.«type.__call__» ⟨↑C::rest,[]⟩) Q E ⟨h,g,d,t,os⟩:=by
 repeat (first|with_reducible rwa[ajH j ?_]|with_reducible rwa[wpAny_madeBy_exc j ?_]|wp_step)
 rwa[codeAny_call_builtin_code (Code.quiet_builtin _ F.quiet) (wpAny_check_new_subT F T j ?_)];rwa[codeAny_exc_new_subT F T j ?_ Vs];show wpAny _ _ _ _ _ _
 let a:=agD { cls:=↑C,data:=.fields #[↑h.objs.size,.none,.none,.none,.bool false,.none] }
  (agD ("tuple">>>.seq rest.toArray) j)
 let c:=agD { cls:=↑C,data:=.fields #[↑h.objs.size,.none,.none,.none,.bool false,.none] }
  (agD ("tuple">>>.seq rest.toArray) u)
 let i:((h.push ("tuple">>>.seq rest.toArray)).push { cls:=↑C,data:=.fields #[↑h.objs.size,.none,.none,.none,.bool false,.none] }).Ns N n:=
  let ⟨o,I,M,e,r⟩:=L;⟨o,I,M,agD _ (agD _ e),r⟩
 let f:((h.push ("tuple">>>.seq rest.toArray)).push
  { cls:=↑C,data:=.fields #[↑h.objs.size,.none,.none,.none,.bool false,.none] }).get? (h.objs.size+ 1)=some
  { cls:=↑C,data:=.fields #[↑h.objs.size,.none,.none,.none,.bool false,.none] }:=by heap_get
 let m:(Value.ref C::bm).contains ↑C=true:=by simp
 let k:=T.keeps (h':=(h.push ("tuple">>>.seq rest.toArray)).push { cls:=↑C,data:=.fields #[↑h.objs.size,.none,.none,.none,.bool false,.none] })
  λb o e=>agD _ (agD _ e)
 unfold isInstance
 repeat (first|with_reducible rwa[ajH f ?_]|(with_reducible rwa[wpAny_isSubtype_exc a ?_];rw[m])|wp_step)
 show wpAny _ _ (typeLookup ↑C _) _ _ _;rwa[wpAny_typeLookup_tail a i k F.mroIs F.init.lookup ?_];rw[J];rwa[ahQ (agB ?_)];unfold bindSpecial;rwa[agB (aja (T:="function") ⟨_,c,p⟩ ?_)];rw[ag8 ⋯];rwa[agI (agB (ahF (G _ (h.objs.size+ 1) ⟨λb o z=>agD _ (agD _ z),Heap.get?_none_of_le (aiT _),h.objs.size,f,Heap.get?_none_of_le (agJ _),5⟩) (λr v H=>?_) λ_ _ x=>x))]
 ·rwa[agD _ (Heap.get?_push_at rfl rfl)]
 ·let⟨rfl,D⟩:=H
  wp_walk
  rwa[D]
def FE (F:ExcBaseFacts B newId HF Mu)(T:OwnTail h Mu bm){k:Str->Zl}{rest:Zk}{i:Zs}{l:Obj}{Q:Zt->Zu->Prop}
 (b:h.get? C\excClassObj nm q C N bs bm hdct sn sub ab col dd k0 k1 k2 k3 k5 newId) (p:h.Ns N k) (o:k "__init__"=some ↑i)
 (j:h.get? i\l) (f:l.cls=.type "function")
 (n:∀c e,Heap.MadeExcOf h c e ↑C rest->
  (prog<|>w) (A.under (.builtin "type.__call__" ⟨↑C::rest,[]⟩)) (call ↑i (↑e::rest)) (λr m=>r=.none/\Q ↑e m) E ⟨c,g,d,t,os⟩) (a:⇑rest<=sizeLine):
 (prog<|>w) A (call ↑C rest) Q E ⟨h,g,d,t,os⟩:=by
 let u:=tc_lookup;let x:=tc_bind ↑C;let v:(⟨h,g,d,t,os⟩:Zu).TypeIs ↑C "type":=⟨_,b,2⟩;rwa[ajD (codeAny_of_tree ?_)];show wpAny _ _ (callAny ↑C _) _ _ _
 repeat (any_goals (first|assumption|with_reducible rwa[ajH b ?_]|wp_step))
 erw[2];rwa[codeAny_call_builtin_at (Code.quiet_builtin _ ⋯) entry_typeCall (wpAny_check_type_call_sub b (vE (Vs:=a) F T b p o j f λc e s=>?_))];rwa[n c e s]
def Kq {M:Model}{env:Env}{x:Sem Zt}{Q:Flow->Zu->Prop}(b:bm.contains (.type "BaseException")=true)(r:A.handled=none)
 (h:wpAny M A x (λv a=>∃e f i,v=↑e/\a.heap.get? C\excClassObj nm q C N bs bm hdct sn sub ab col dd k0 k1 k2 k3 k5 newId/\
  a.heap.get? e=some f/\f.cls=↑C/\f.data=.fields i/\i[1]?=some .none/\E ↑e a) E s):
 wpAny M A (raiseStmt env (some x) none) Q E s:=by
 let j:(Value.ref C::bm).contains (.type "BaseException")=true:=by rw[List.contains_cons,b,Bool.or_true]
 unfold raiseStmt;rwa[agB (ahF h (λv a c=>?_) λ_ _ x=>x)];let⟨e,f,i,rfl,l,m,n,k,o,p⟩:=c;let⟨F,g,d,D,os⟩:=a;let⟨z,G,y,u⟩:=f;dsimp only at n k;subst n k
 repeat (first|with_reducible rwa[ajH m ?_]|with_reducible rwa[ajH l ?_]|(with_reducible rwa[wpAny_isSubtype_exc l ?_];rw[j])|with_reducible rwa[agB (ahI m rfl o ?_)]|wp_step)
 all_goals rwa[wpAny_raiseNew_none r p]
end
end L2
namespace L2
open PySem PySem.Spec PyProof.Rows
inductive c9 (P:Program) (w:World) (outer:Zq) (H:Hp) (s:Zu) (E:XK) (e:Zt) (s':Zu):Prop
 |mk (x C:Zs) (dx:Zo) (B:Heap) (H':Hp):e=↑x->s'.os=s.os->AllBare s'.gens->kX B outer x ↑C dx .none s'.heap->Un (cJ outer) [] H H' s.heap s'.heap->dD P w H' B->(∀b o,s.heap.get? b\o->H b=none->b∉cJ outer->B.get? b\o)->(∀b o,s.heap.get? b\o->b∉cJ outer->∃o',B.get? b\o')->E ↑C dx H'->c9 P w outer H s E e s'
noncomputable def del (H:Hp)(x:Zs):Hp:=λb=>if b=x then none else H b
def rD {x:Zs}(h:b≠x):del H x b=H b:=by unfold del;rw[ag3 h]
def Kr {x:Zs}{u:HO}(h:del H x b\u):b≠x/\H b\u:=by
 unfold del at h
 cbv
def gy:Passes (c9 P w) X (λ_ _ _=>False):=λ_ _ _ _ _ _ _ ζ=>by let⟨_,_,_,_,_,_,_,_,_,_,_,_,_,q⟩:=ζ;rwa[q.elim]
def Mw {a:Zq}(h:c9 P w a H s (λ_ _ _=>False) v t):False:=let ⟨_,_,_,_,_,_,_,_,_,_,_,_,_,q⟩:=h;q
section
variable {P:Program}{w:World}{K:Za1}{mg:Str->Zl}{base:Heap}{N:Zp}{qual:Str}{scope:Scope}{f:Zs}{cd:Zt}{A:Around}{outer:Zq}{s:Zu}{H:Hp}{E:XK}{pins:List (Zs×Obj)}{σ:St}{H1:Hp}{s1:Zu}
def pS {o:Obj}(I:Inv (cy (c9 P w) P w K mg base N qual scope f cd A outer s H E) pins σ H1 s1)(e:s.heap.get? b\o)(a:b∉cJ outer):b∉cJ (cy (c9 P w) P w K mg base N qual scope f cd A outer s H E).stack:=λz=>by
 rcases agW.mp (show b∈↥s::cJ outer from z) with z|z
 ·rwa[absurd (agX e) (by rw[z];rwa[ahV _])]
 ·rwa[a z]
def Se {x:Zs}{R:Zo}(I:Inv (cy (c9 P w) P w K mg base N qual scope f cd A outer s H E) pins σ H1 s1)(F:H1 x\XO x a R true)(Z:s.heap.get? x=none)(q:E ↑a R (del H1 x)):
 (cy (c9 P w) P w K mg base N qual scope f cd A outer s H E).xe ↑x s1:=by
 let t:=I.ok.frames;let C:∀env∈(cy (c9 P w) P w K mg base N qual scope f cd A outer s H E).stack,∀b,env.frame\b->b∈x::cJ (cy (c9 P w) P w K mg base N qual scope f cd A outer s H E).stack:=λenv X b k=>ag4 _ (ajY.mpr ⟨env,X,k⟩)
 let G:=PySem.W.funFrames_hide I.stack C;let⟨⟨ob,vs,d,rfl',rfl,i,l⟩,_,_⟩:=I.aM x _ F;let nx:∀b o,s.heap.get? b\o->b≠x:=λb o e z=>by cbv
 let out:∀b o,s.heap.get? b\o->b∉cJ outer->b∉x::cJ (cy (c9 P w) P w K mg base N qual scope f cd A outer s H E).stack:=λb o e k z=>(agW.mp z).elim (nx b o e) (pS I e k)
 rwa[Ko (s:=s1) (base:=PySem.W.hideAll s1.heap (x::cJ (cy (c9 P w) P w K mg base N qual scope f cd A outer s H E).stack)) (L:=↥s) t G rfl d (λb o z=>PySem.W.of_hideAll _ z) (PySem.W.hideAll_none _ (.head _)) i (l rfl).1 λy r ups=>?_]
 let S:∀b o,s.heap.get? b\o->H b=none->b∉cJ outer->(PySem.W.hideAll s1.heap (x::cJ (cy (c9 P w) P w K mg base N qual scope f cd A outer s H E).stack)).get? b\o:=λb o d g h=>
  ajO _ (I.base.keep b o d g h (by simp[cy])) (out b o d h)
 let O:∀b o,s.heap.get? b\o->b∉cJ outer->∃j,(PySem.W.hideAll s1.heap (x::cJ (cy (c9 P w) P w K mg base N qual scope f cd A outer s H E).stack)).get? b\j:=λb o d h=>by
  let⟨j,i⟩:=I.base.there b o d (by simp[cy]);rwa[j,ajO _ i (out b o d h)]
 let M:∀b o,s1.heap.get? b\o->b∈cJ outer->∃B,y.get? b\{ o with slots:=B }:=λb o d g=>by
  let⟨_,o2,h,Y⟩:=I.stack.mem (show b∈cJ (cy (c9 P w) P w K mg base N qual scope f cd A outer s H E).stack from ag4 _ g);rw[d]at h;ext h;rwa[ups b o d Y]
 let dl:∀{b:Zs} {u:HO},H1 b\u->(∀ T,u≠.ext T)->del H1 x b\u:=λ{b u} e n=>by
  rw[rD]
  ·rwa[e]
  ·intro z;rw[z,F]at e;rwa[n _ (Za0 e).symm]
 rw[rfl']at r;rwa[⟨x,a,11,del H1 x,2,I.os,I.bare,r,⟨λb o d g h _=>r.1 b o (S b o d g h),λb o d g h _=>?_,λb o d g _=>?_,λb o d _=>?_,λb Q e=>dl (I.base.ia b Q e) (by cbv),λb o u e=>dl (I.base.gN b o u e) (by cbv),λb V e=>?_⟩,5,S,O,q⟩]
 ·let⟨B,i⟩:=I.base.slot b o d g h (by simp[cy]);let⟨D,l⟩:=M b _ i h;rwa[D,l]
 ·rw[rD (nx b o d)];rwa[I.base.free b o d g (by simp[cy])]
 ·cases k:b∈cJ outer
  ·let⟨j,i⟩:=I.base.there b o d (by simp[cy]);let⟨B,l⟩:=M b j i k;rwa[_,l]
  ·let⟨j,i⟩:=O b o d k;rwa[j,r.1 b j i]
 ·let⟨m,g⟩:=I.base.ib b V e;rwa[m,dl g (by cbv)]
 ·intro b u d;let⟨U,d⟩:=Kr d
  let p:∀c v,c≠x->H1 c\v->c∉x::cJ (cy (c9 P w) P w K mg base N qual scope f cd A outer s H E).stack:=λc v J g z=>by
   rcases agW.mp z with z|z
   ·rwa[J z]
   ·rw[I.nZ c z]at g;ext g
  rwa[(I.aM b u d).fu (λc v J z=>ajO _ z ?_) (λc z=>dl z (by cbv)) λc Q z=>dl z (by cbv)]
  rcases J with z2|z2
  ·rw[z2];rwa[p b u U d]
  ·rwa[p c _ (λz=>by rw[z,F]at z2;ext z2) z2]
def Vt:Passes (c9 P w) (cy (c9 P w) P w K mg base N qual scope f cd A outer s H E) E:=by
 intro pins σ H1 s1 e S I z;let⟨x,C,M,B,J,rfl,os,bare,G,un,l,O,F,q⟩:=z;rwa[OS (L:=↥s) I.ok.frames rfl G λt k ups=>?_]
 let p:∀b o,s.heap.get? b\o->H b=none->b∉cJ outer->B.get? b\o:=λb o a d c=>
  O b o (I.base.keep b o a d c (by simp[cy])) (I.base.free b o a d (by simp[cy])) (pS I a c)
 let m:∀b o,s.heap.get? b\o->b∉cJ outer->∃h,B.get? b\h:=λb o a c=>by
  let⟨h,g⟩:=I.base.there b o a (by simp[cy]);rwa[F b h g (pS I a c)]
 let D:∀b o,s1.heap.get? b\o->b∈cJ outer->∃u,t.get? b\{ o with slots:=u }:=λb o a d=>by
  let i:b∈cJ (cy (c9 P w) P w K mg base N qual scope f cd A outer s H E).stack:=ag4 _ d;let⟨_,T,c,Q⟩:=I.stack.mem i;rw[a]at c;ext c;let⟨u,g⟩:=un.slot b o a (I.nZ b i) i (by simp);let⟨j,r⟩:=ups b _ g Q;rwa[j,r]
 rwa[⟨x,C,M,B,J,2,os.trans I.os,bare,k,⟨λb o a d c _=>k.1 b o (p b o a d c),λb o a d c _=>?_,λb o a d _=>?_,λb o a _=>?_,λb n a=>un.ia b n (I.base.ia b n a),λb o n a=>un.gN b o n (I.base.gN b o n a),λb y a=>?_⟩,l,p,m,q⟩]
 ·let⟨u,g⟩:=I.base.slot b o a d c (by simp[cy]);let⟨j,r⟩:=D b _ g c;rwa[j,r]
 ·let⟨h,g⟩:=I.base.there b o a (by simp[cy]);rwa[un.free b h g (I.base.free b o a d (by simp[cy])) (by simp)]
 ·cases v:b∈cJ outer
  ·let⟨h,g⟩:=I.base.there b o a (by simp[cy])
   cbv
  ·let⟨h,g⟩:=m b o a v;rwa[h,k.1 b h g]
 ·let⟨U,d⟩:=I.base.ib b y a;let⟨R,c⟩:=un.ib b _ d
  cbv
end
section
variable {P:Program}{w:World}{K:Za1}{mg:Str->Zl}{base:Heap}
theorem qQ.Sf {qual:Str}{st:Stmt}{fd:FuncData}{e:Zp}{k:Nat}{sp:Sp}(F:qQ K x qual st a fd)(S:aS Z e (aB st))(len:∀c H Q E,sp c H Q E->⇑c=⇑e)
 (d:∀(b:Zt) (A:Around) (outer:Zq) (s:Zu) (H:Hp) (c:Zb) (Q:VK) (E:XK),cx k (A.deeper (envOfC qual (aB st) ↥s a b))->sp c H Q E->
  ∃t,iJ (cy (c9 P w) P w K mg base Z qual (aB st) a b A outer s H E) (cE st) t/\t { nx:=λ_ i=>Q .non i,rt:=Q } (start Z c) H):dk P w K mg base (c9 P w) (k+ 1) a fd e sp:=by
 let⟨l,n,kV,doc,pm,m,b,ct,j,rfl,lk,g⟩:=F.ex;rwa[zE lk g S len λA outer s H c Q E h f=>d b A outer s H c Q E h f]
end
section
variable {X:Cx}{pins:List (Zs×Obj)}{σ:St}{H:Hp}{s:Zu}{h':Heap}{e C:Zs}{vs:Zk}
def Inv.Vu (I:Inv X pins σ H s)(hm:Heap.MadeExcOf s.heap h' e ↑C vs)(hex:X.ex=[]):H e=none/\X.dX.heap.get? e=none/\Inv X pins σ (upd H e (XO e C none true)) (s<*h'):=by
 let a:H e=none:=by
  cases q:H e with
  |none=>rfl
  |some u=>
   let⟨o,d⟩:=(I.aM e u q).get;rw[hm.new]at d;ext d
 let ne:∀b o,s.heap.get? b\o->b≠e:=λb o q z=>by rw[z,hm.new]at q;ext q
 let h:X.dX.heap.get? e=none:=by
  cases q:X.dX.heap.get? e with
  |none=>rfl
  |some o=>
   let⟨l,d⟩:=I.base.there e o q (by rw[hex];simp)
   cbv
 rwa[⟨a,h,I.un (t':=s.toks) ⟨λb u q _ _ _=>hm.keeps b u q,λb u q _ _ _=>⟨u.slots,hm.keeps b u q⟩,λb u q n _=>[ak (ne b u q)]▸n,λb u q _=>⟨u,hm.keeps b u q⟩,λb g q=>[ak (av q a)]▸q,λb u g q=>[ak (av q a)]▸q,λb k q=>⟨#[],by rw[ak (av q a),q];simp⟩⟩ λb u q=>?_⟩];cases f:b=e
 ·subst f;rw[ah]at q;ext q;let⟨t,i,_,_⟩:=hm.there;rwa[zG ⟨11,i,222,λ_=>⟨212⟩⟩]
 ·rw[ak f]at q;rwa[(I.aM b u q).fu (λc v _ q=>hm.keeps c v q) (λc q=>[ak (av q a)]▸q) λc g q=>[ak (av q a)]▸q]
end
section
variable {X:Cx}{k:Nat}{f C:Zs}{fd:FuncData}{ps:Zp}{sp:Sp}{x:Str}{p pos cG:Pos}{e:Expr}{es:Zr}{t:TA}{E:XK}
def Wj (X:Cx)(C:Zs)(E:XK):Prop:=∀(a:List (Zs×Obj)) (c:St) (H:Hp) (s:Zu) (x:Zs) (b:Zo),Inv X a c H s->H x\XO x C b true->X.dX.heap.get? x=none->E ↑C b (del H x)->X.xe ↑x s
def lvD {base:Heap}{qual:Str}{scope:Scope}{f C:Zs}{a:Zq}{E:XK}:Wj (cy (c9 P w) P w K M base Z qual scope f v A a s H E) C E:=λ_ _ _ _ _ _ I c b q=>Se I c b q
def OV (C:Zs)(sp:Sp)(E:XK)(t:TA):TS:=λ_ g H=>t g H λd b=>∀x,b x=none->sp (↑x::d) (upd b x (XO x C none true)) (λv a=>v=.non/\∃c,a x\XO x C c true/\E ↑C c (del a x)) (λ_ _ _=>False)
theorem HG (F:dk X.prog X.w X.K X.mg X.base (c9 X.prog X.w) k f fd ps sp)(hr:cx (k+ 1) X.A)(hb:Binds X.K fd ps [])(hc:X.calm=true)(hg:Gl X x)(hm:X.mg x\↑C)(hC:xD X.K C f=true)(hf:PySem.W.isFn X.K ↑f=true)(hk:PySem.W.keepIn X.K ↑C=true)
 (ha:PA X (e::es) t) (lv:Wj X C E) (hex:X.ex=[]) (A0:⇑ps<=1000) (w:(x==("__debug__":Str))=false) (he:starEach (e::es) X.env=(false,eval e X.env)::starEach es X.env) (G:(backTo cG (starEach es X.env)).any (·.1)=false):
 PS X (.Raise (some (.Call (.Name x p) (e::es) [] cG)) none pos) (OV C sp E t):=by
 intro c s σ H D I h;let⟨R,N,nm,qn,bs,i,sn,sub,Q,col,dd,k0,k1,T,Z,k5,mN,W,o2,o3,o4⟩:=AZ I.ok.mod.ve hC;let kp:∀{P O n},Inv X c P O n->∀b o,X.base.get? b\o->n.heap.get? b\o:=λJ b o q=>(J.bs b o q).1
 rw[arm_exec_Raise];rwa[agB (ajB (Kq (C:=C) (nm:=nm) (q:=qn) (N:=N) (bs:=bs) (bm:=R) (hdct:=i) (sn:=sn) (sub:=sub) (ab:=Q) (col:=col) (dd:=dd) (k0:=k0) (k1:=k1) (k2:=T) (k3:=Z) (k5:=k5) (newId:="ValueError.__new__") (o4.hasType ⋯) (I.ok.hd hc) (agB (ahF (E:=X.xe) ?_ (λv Y m=>agB (ajB (agI m))) λ_ _ x=>x))))];rwa[ahO (jY I hg hm ?_ w)];rwa[ajo (h₀:=X.base) I.ok.mod.ve hk (a9 (ha cG c s σ H _ I h) λus s1 ζ=>?_) he G];let⟨vs,H1,j,r,q⟩:=ζ;rwa[⟨j.dm,5⟩];let⟨oI,M,B⟩:=ahU.mp (ajC.mp hf)
 let len:⇑us<=1000:=by
  let h1:=F.len _ _ _ _ (q (↥s1) (j.aM.fresh (agJ _)));rw[aha]at h1;rw[<-⇑r];ext
 let⟨hh,g,d,tk,os⟩:=s1;rwa[FE (A:=X.A) aiM (o4.keeps (kp j)) (kp j _ _ W) (o2.keeps (kp j)) o3 (j.dm^M) B (λh' y z=>?_) (agT len ⋯)];let⟨hn,h0,J⟩:=j.Vu z hex;let hq:=q y hn;let r2:Vals (V.ref y::vs) (Value.ref y::us):=.cons rfl r
 let hl:⇑(Value.ref y::us++[])=⇑ps:=by
  rw[ahe,<-⇑r2];rwa[F.len _ _ _ _ hq]
 let l:=hb _ (Value.ref y::us) J.dm hl;rw[ahe]at l;rwa[ajD (ai9 (F.run _ X.stack _ _ ⟨Value.ref y::us,[]⟩ (Value.ref y::us) _ _ _ (hr.make C us []) (J.zQ.make C us []) l r2 hq) λr n a=>?_)]
 cases r with
 |error e=>exact(Mw a).elim
 |ok fl=>
  cases fl with
  |ret u=>
   let⟨v,O,L,rv,ev,dx,S,q3⟩:=J.after a;subst ev;let⟨⟨ob,ws,a1,a2,a3,a4,a5⟩,_,_⟩:=L.aM y _ S;rwa[rv,y,ob,ws,2,kp L _ _ W,a1,a2,a4,(a5 rfl).1,lv c σ O n y dx L S h0 q3]
  |next=>exact False.elim a
  |brk=>exact False.elim a
  |cont=>exact False.elim a
end
end L2
namespace L2
open PySem PySem.Spec PyProof.Rows PySem.W
section
variable {M:Model}{A:Around}{E:Zt->Zu->Prop}{s:Zu}{x a:Zs}{ob:Obj}{vs:Zm}{tv:Zt}
def Ks {Q:Fin->Zu->Prop}(e:s.heap.get? x\ob)(c:ob.data=.fields vs)(d:vs[0]?\↑a)
 (h:Q (.done (.ret .none)) { s with heap:=(s.heap.push ("tuple">>>.seq #[tv])).update x (Obj.mapFields (·.setIfInBounds 0 ↑↥s)) }):wpAny M A (Builtin.«BaseException.__init__» ⟨[↑x,tv],[]⟩) Q E s:=by
 let b:=agD ("tuple">>>.seq #[tv]) e;unfold Builtin.«BaseException.__init__»;rwa[agB (wpAny_newTuple ?_)];unfold Builtin.BaseException.bexcPut;rwa[agB (agB (ahI b c d (agB (aiU b c (ain.mp d).1 ?_))))]
 wp_walk
 rwa[h]
end
section
variable {X:Cx}{Y:Zs}{y f:Str}{np apos pos pos':Pos}{e:Expr}{es:Zr}{t:TA}
structure Kt (K:Za1) (Y:Zs):Prop where
 sp:specialIn K ↑Y "__getattribute__"=some (some (.builtin "type.__getattribute__"))
 rd:readsIn K Y (.type "type")=true
 fc:(match findCls K ↑Y (.type "type") "__init__" with|some (.val (.builtin i))=>i=="ValueError.__init__" | _=>false)=true
def Kt.find {Y:Zs}(b:Kt K Y):findCls K ↑Y (.type "type") "__init__"=some (.val (.builtin "ValueError.__init__")):=by
 have:=b.fc
 cbv
def YM (C:Zs)(t:TA):TE:=λ d H Q=>t d H λb a=>∃(x:Zs) (c:Zo) (l:Zh),b=[↑x,.str (tx l)]/\a x\XO x C c true/\Q .non a
def Ku {pl:Sem Bool}(hC:xD X.K a b=true)(B:Kt X.K Y)(V:Gl X y)(hm:X.mg y\↑Y)(ha:PA X (e::es) t)(v:(y==("__debug__":Str))=false)
 (A:starEach (e::es) X.env=(false,eval e X.env)::starEach es X.env) (C:(backTo pos (starEach es X.env)).any (·.1)=false)
 (S:eval (.Call (.Attribute (.Name y np) "__init__" apos) (e::es) [] pos) X.env=(do
  let P <-eval (.Name y np) X.env
  standAt apos.atName
  let (f,first) <-holding [P] (getMethod P "__init__" pl)
  callWith pos f first (backTo pos (starEach (e::es) X.env)) (backToKw pos (keywordEach [] X.env)))):
 PE X (.Call (.Attribute (.Name y np) "__init__" apos) (e::es) [] pos) (YM a t):=by
 intro k s σ H Q I h;rwa[methodCall_KW (pl:=pl) (jY I V hm ?_ v) S];rwa[method_cls I.dm B.sp (cls_value I.dm B.rd B.find rfl ?_)];rwa[PyProof.Rows.callWith_builtin1 (a9 (ha pos k _ σ H _ (I.tok _) h) λus s1 ζ=>?_) A C];let⟨vs,n,w,r,x,G,l,ev,p,q⟩:=ζ;subst ev;let⟨u,O,rfl,Z,ry⟩:=vals2 r;ext Z;let⟨bm,N,nm,qn,bs,F,sn,sub,ab,col,dd,k0,k1,k2,k3,k5,mN,W,o2,o3,o4⟩:=AZ I.ok.mod.ve hC;let kp:∀d o,X.base.get? d\o->s1.heap.get? d\o:=λd o q=>(w.bs d o q).1
 let⟨⟨ob,ws,m,M,a3,L,a5⟩,_,_⟩:=w.aM x _ p;let⟨b1,c,E⟩:=a5 rfl;let⟨g,gg,dr,U,os⟩:=s1;rwa[ajD (aiA aiM.init.plain aiM.initEntry (wpAny_check_init_subT aiM (o4.keeps kp) (kp^W) m M ?_))];rwa[Ks m L E ?_];let R:x≠g.objs.size:=ahf (agX m);let D:=agD ("tuple">>>.seq #[O]) m;let i:=aii L (·.setIfInBounds 0 (Value.ref g.objs.size));let j:=aht (Obj.mapFields (·.setIfInBounds 0 (Value.ref g.objs.size))) D (aiQ i)
 let J:=w.write (h':=(g.push ("tuple">>>.seq #[O])).update x (Obj.mapFields (·.setIfInBounds 0 ↑g.objs.size))) (t':=U) (o:=XO x a G true) (x:=x) (e:=x) ([p]▸True.intro) (.inl rfl) (λd u T z=>(ahv^ahZ T).trans (agD _ z)) ⟨_,j⟩
  (zG ⟨11,j,(Obj.cls_mapFields _ _).trans M,(yI _ _).trans a3,i,λ_=>⟨by cbv,g.objs.size,by simp[(ain.mp E).1]⟩⟩)
 let eH:upd n x (XO x a G true)=n:=by
  funext d
  cases z:d=x
  ·rw[z,ah,p]
  ·rw[ak z]
 rw[eH]at J;rwa[.non,n,J,2,q]
def Vv (K:Za1)(k i:TE)(f:Str):TS:=λD c H=>i c H λy j=>k c j λx b=>∃(a C:Zs) (h:Zo) (g:Bool),x=↑a/\b a\XO a C h g/\AY K C/\kD K C f/\
 match h with
 |none=>∀d,b d=none->D.nx c (upd (upd b d (XD d [(f,y)])) a (XO a C (some d) g))
 |some d=>∃fs,d≠a/\b d\XD d fs/\⇑fs<1000/\D.nx c (upd b d (XD d (bK f y fs)))
def HJ {fs:List (Str×V)}{mA:Str->Zl}{y:V}(r:∀f,eJ (fs.lookup f) (mA f))(a:PySem.Within mA (fs.map (·.1)))(c:RelV y u):(∀g,eJ ((bK f y fs).lookup g) (if g=f then some u else mA g))/\PySem.Within (λg=>if g=f then some u else mA g) ((bK f y fs).map (·.1)):=by
 rwa[⟨λg=>?_,λg b=>?_⟩]
 ·rw[nM];cases q:g=f
  ·rw[ag8 q,ag8 q];rwa[c]
  cbv
 ·cases q:g=f
  ·rw[q];rwa[(kB f y fs).1]
  ·rwa[(kB f y fs).2 g (a g λz=>b ?_)]
   cbv
def DY {o value:Expr}{Q:TE}(ha:PE X o r)(hv:PE X value Q)(hs:swapsWith value (some (.Attribute o f pos')) pos.line X.env=pure false):PS X (.Assign [.Attribute o f pos'] value pos) (Vv X.K r Q f):=by
 intro k s A H D I h;rwa[plainObj_wpAny_Assign_Attribute (a9 (hv k s A H _ I h) λu s1 ζ=>?_) hs];let⟨y,H1,Z,S,q⟩:=ζ;rwa[a9 (ha k s1 A H1 _ Z q) λov s2 ζ=>?_];let⟨x,H2,l,rx,a,C,dx,nw,ex,U,c,n,B⟩:=ζ;subst ex;obtain rfl:ov=Value.ref a:=rx;let⟨⟨ob,vs,N,O,R,L,a5⟩,_,_⟩:=l.aM a _ U
 cases dx with
 |some d=>
  let⟨fs,nd,T,hl,B⟩:=B;let⟨⟨mA,hn,i,P⟩,_,_⟩:=l.aM d _ T;rwa[YL l.dm c N O L n.E4 R hn P (by rw[agH,sizeLine_eq];omega) λp j sb=>?_]
  let⟨M,F⟩:=HJ (f:=f) i P S;let⟨w,_,_,v,_⟩:=id j;rwa[A,_,l.write (x:=d) (e:=d) ([T]▸True.intro) (.inl rfl) (λb u G z=>(sb.2 b G).trans z) ⟨w,v⟩ (Mt ⟨_,j,M,F⟩),B]
 |none=>
  rwa[Vr l.dm c N O L n.E4 R λp j m kp=>?_]
  let V:H2 ↥s2=none:=l.aM.fresh (agJ _);let E:↥s2≠a:=ahT (agX N);let⟨w,es,ep,v,W⟩:=id j;let⟨M,F⟩:=HJ (fs:=[]) (mA:=λ_=>none) (f:=f) (λ_=>True.intro) (λg hg=>absurd rfl hg) S;let J:=l.laid (a:=↥s2) (o:=XD ↥s2 [(f,y)]) (h':=s2.heap.push w) (t':=s2.toks) (λb u z=>agD _ z) (agJ _) (Mt ⟨_,⟨w,es,ep,Heap.get?_push_at rfl (Heap.get?_some_iff.mp v).2,W⟩,M,F⟩);rwa[⟨A,_,J.write (h':=p) (x:=a) (e:=a) (o:=XO a C (some ↥s2) nw) ([ak E.symm,U]▸True.intro) (.inl rfl) (λb u G z=>?_) ⟨_,m⟩ (zG ⟨11,m,O,2,L,a5⟩),B _ V⟩];rcases Heap.get?_push_cases z with ⟨rfl,rfl⟩|z
  ·rwa[v]
  ·rwa[kp b u G z]
inductive YN (K:Za1) (f:Str) (x:V) (H:Hp) (Q:VK):Prop
 |mk (a C d:Zs) (nw:Bool) (fs:List (Str×V)) (v:V):x=↑a->H a\XO a C (some d) nw->H d\XD d fs->AY K C->kD K C f->fs.lookup f\v->Q v H->YN K f x H Q
end
end L2
namespace L2
open PySem PySem.Spec PyProof.Rows
def eS (X:Cx)(a:List (Zs×Obj))(g:St)(d:Hp)(x C:Zs)(f:Zo)(s:Zu):Prop:=
 ∃(B:Heap) (c:Hp) (s1:Zu),Inv X a g c s1/\s.os=s1.os/\AllBare s.gens/\kX B X.stack x ↑C f .none s.heap/\Un (cJ X.stack) [] c d s1.heap s.heap/\dD X.prog X.w d B/\
  (∀b o,s1.heap.get? b\o->c b=none->b∉cJ X.stack->B.get? b\o)/\(∀b o,s1.heap.get? b\o->b∉cJ X.stack->∃e,B.get? b\e)
section
variable {X:Cx}{pins:List (Zs×Obj)}{σ:St}{H':Hp}{x C:Zs}{dx:Zo}{s:Zu}
def eS.of {E:XK}(I:Inv X pins σ H t)(c:c9 X.prog X.w X.stack H t E v s):∃x C dx H',v=↑x/\eS X pins σ H' x C dx s/\E ↑C dx H':=by
 let⟨x,C,dx,B,H',rfl,os,bare,fl,un,a,d,b,q⟩:=c;rwa[x,C,dx,H',2,⟨B,H,t,I,os,bare,fl,un,a,d,b⟩,q]
def eS.step {fl:Zt}{s1:Zu}(I:Inv X pins σ H s1)(os:s.os=s1.os)(bare:AllBare s.gens)(un:Un (cJ X.stack) [] H H' s1.heap s.heap)(aM:dD X.prog X.w H' g)
 (q:∀b o,s1.heap.get? b\o->H b=none->b∉cJ X.stack->g.get? b\o) (p:∀b o,s1.heap.get? b\o->b∉cJ X.stack->∃i,g.get? b\i) (a:kX g X.stack x ↑C dx .none h) (u:s.heap.UpToSlots h):eS X pins σ H' x C dx (s<*h):=by
 let n:∀b o,s1.heap.get? b\o->b∈cJ X.stack->∃sl,h.get? b\{ o with slots:=sl }:=λb o e c=>by
  let⟨t,f,r⟩:=I.Ma c;rw[e]at f;ext f;let⟨sl,m⟩:=un.slot b o e (I.nZ b c) c (by simp);let⟨k,j⟩:=u b _ m r;rwa[k,j]
 rwa[⟨g,H,s1,I,os,bare,a,⟨λb o d f l _=>a.1 b o (q b o d f l),λb o d _ l _=>n b o d l,un.free,λb o d _=>?_,un.ia,un.gN,un.ib⟩,aM,q,p⟩];cases c:b∈cJ X.stack
 ·let⟨sl,j⟩:=n b o d c;rwa[_,j]
 ·let⟨i,m⟩:=p b o d c;rwa[i,a.1 b i m]
def eS.look (t:eS X pins σ H' x C dx s)(a:X.stack=X.env::X.outer)(k:X.env.frame\X.env.locals)(hA:A.frames\X.stack)
 (h:∀d,eS X pins σ H' x C dx (s<*d)->U () (s<*d)):
 X⁻¹ A (noteFrame ↑x X.env) (λ_ f=>X⁻¹ A (setFlight ↑x none) U E f) E s:=by
 let⟨B,o,p,I,os,bare,fl,un,aM,n,j⟩:=t;let b:=fl;rw[a]at b;rwa[Ms (base:=B) (hA.trans (by rw[a])) k b λe l i=>?_]
 rwa[vD (s:=(s<*e)) l λm c g=>h m (eS.step (fl:=.none) I os bare un aM n j ([a]▸c) (i.trans g))]
def eS.again (t:eS X pins σ H' x C dx s)(h:∀b,eS X pins σ H' x C dx (s<*b)->U () (s<*b)):
 X⁻¹ A (setFlight ↑x none) U E s:=by
 let⟨B,f,g,I,os,bare,fl,un,aM,d,c⟩:=t;rwa[vD fl λe a u=>h e (eS.step (fl:=.none) I os bare un aM d c a u)]
def eS.inv (t:eS X pins σ H' x C dx s):Inv X pins σ H' s:=by
 let⟨B,c,d,I,os,bare,fl,un,aM,e,a⟩:=t;rwa[I.EW (ch:=[]) os un (aM.kept fl.1) bare (λb z=>absurd z (by simp))]
def eS.none (t:eS X pins σ H' x C dx s):H' x=none:=by
 let⟨B,c,d,I,os,bare,fl,un,aM,f,b⟩:=t
 cases e:H' x with
 |none=>rfl
 |some u=>
  let⟨o,a⟩:=(aM x u e).get;rw[fl.2.1]at a;ext a
def eS.at (t:eS X pins σ H' x C dx s):yJ x C dx false s.heap:=by
 let⟨B,e,f,I,os,bare,fl,un,aM,g,d⟩:=t;let⟨_,_,_,c,a,_,_,_,b,hc,hd,_⟩:=fl;rwa[c,a,b,hc.1,hc.2,hd,λz=>by ext z]
def eS.YP (t:eS X pins σ H' x C dx s):Inv X pins σ (upd H' x (XO x C dx false)) s:=by
 let F:=t.none;let h:=t.at;let⟨B,D,E,I,os,bare,fl,un,aM,l,y⟩:=t;let⟨r,p,G,_,_,hd,_⟩:=id h;let ne:∀b u,H' b\u->b≠x:=λb u e z=>by cbv
 rwa[I.EW (ch:=[]) os ⟨un.keep,un.slot,λb o d f k=>?_,un.there,λb g e=>?_,λb o u e=>?_,λb j e=>?_⟩ (λb u e=>?_) bare (λb z=>absurd z (by simp))]
 ·rwa[(ak ?_).trans (un.free b o d f k)];rintro rfl;cases a:b∈cJ X.stack
  ·let⟨w,i,A⟩:=I.Ma a;rw[d]at i;ext i;let⟨sl,n⟩:=un.slot b o d f a (by simp)
   cbv
  ·have:=l b o d f a;rw[fl.2.1]at this
   cbv
 ·have:=un.ia b g e;rw[ak (ne^this)];ext
 ·have:=un.gN b o u e;rw[ak (ne^this)];ext
 ·let⟨m,this⟩:=un.ib b j e;rwa[m,by rw[ak (ne^this)];ext]
 ·cases a:b=x
  ·subst a;rw[ah]at e;ext e;rwa[zG h]
  ·rw[ak a]at e;rwa[(aM b u e).fu (λc v _ q=>fl.1 c v q) (λc q=>[ak (ne^q)]▸q) λc g q=>[ak (ne^q)]▸q]
end
abbrev HK:=Zs->Zo->St->Hp->Prop
abbrev Mx:=St->Hp->VK->HK->Prop
abbrev yK:=Ends->HK->St->Hp->Prop
def Sg (X:Cx)(a:List (Zs×Obj))(R:HK)(e:Zt)(s:Zu):Prop:=∃x C b c H,e=↑x/\eS X a c H x C b s/\R C b c H
def Wk (X:Cx)(e:Expr)(t:Mx):Prop:=
 ∀(a:List (Zs×Obj)) (s:Zu) (b:St) (H:Hp) (Q:VK) (R:HK),Inv X a b H s->t b H Q R->X⁻¹ X.A (eval e X.env) (EP X a b Q) (Sg X a R) s
def DZ (X:Cx)(st:Stmt)(t:yK):Prop:=
 ∀(a:List (Zs×Obj)) (s:Zu) (b:St) (H:Hp) (D:Ends) (R:HK),Inv X a b H s->t D R b H->X⁻¹ X.A (exec st X.env) (SP X a D) (Sg X a R) s
section
variable {X:Cx}{k:Nat}{f:Zs}{fd:FuncData}{ps:Zp}{sp:Sp}{x:Str}{p pos:Pos}{e:Expr}{es:Zr}{t:TA}{ds:Zk}{dvs:Zb}
def Sh (sp:Sp)(dvs:Zb)(t:TA):Mx:=λ a H Q R=>t a H λd g=>sp (d++dvs) g Q λc h b=>∃C,c=↑C/\R C h a b
theorem A1 (F:dk X.prog X.w X.K X.mg X.base (c9 X.prog X.w) k f fd ps sp)(N:cx k X.A)(E:Gl X x)(P:X.mg x\↑f)(G:PySem.W.keepIn X.K ↑f=true)(D:Binds X.K fd ps ds)(A:Vals dvs ds)
 (W:PA X.tQ (e::es) t) (m:(x==("__debug__":Str))=false:=by decide) (U:starEach (e::es) X.env=(false,eval e X.env)::starEach es X.env:=by rfl) (g:(backTo pos (starEach es X.env)).any (·.1)=false:=by rfl):
 Wk X (.Call (.Name x p) (e::es) [] pos) (Sh sp dvs t):=by
 intro b s j H Q R I h;rwa[ahO (jY I E P ?_ m)];rwa[ajo (h₀:=X.base) I.ok.mod.ve G (ahF (W pos b s j H _ (I.wish _) h) (λd i ζ=>?_) λ_ _ z=>False.elim z) U g];let⟨o,v,n,r,q⟩:=ζ;rwa[⟨n.dm,5⟩];let J:=n.ie;let w:Vals (o++dvs) (d++ds):=r.append A;let M:⇑(d++ds)=⇑ps:=by rw[<-⇑w];rwa[F.len _ _ _ _ q]
 rwa[ajD (ai9 (F.run X.A X.stack i v ⟨d,[]⟩ (d++ds) (o++dvs) Q _ N J.zQ (D i d J.dm M) w q) λr B a=>?_)]
 cases r with
 |error e=>
  let a:c9 X.prog X.w X.stack v i (λc l S=>∃C,c=Value.ref C/\R C l j S) e B:=a;let⟨x,C,l,Y,rfl,L,Z,T,z⟩:=eS.of J a;ext T;rwa[x,C,l,j,Y,2,L,z]
 |ok O=>
  cases O with
  |ret u=>exact J.after a
  |next=>exact False.elim a
  |brk=>exact False.elim a
  |cont=>exact False.elim a
def Vw (i:Nat)(b:Mx):yK:=λD R a H=>b a H (λv c=>D.nx (a.set i (some v)) c) R
def D0 {x:Str}{b:Mx}{pos':Pos}(w:X.N.Nodup)(o:X.N[i]?\x)(r:Loc X.env.scope x)(u:Wk X e b)(n:swapsWith e (some (.Name x pos')) pos.line X.env=pure false:=by rfl)(l:X.fn x=true\/X.env.scope.names.lookup x=some .local:=by trivial):
 DZ X (.Assign [.Name x pos'] e pos) (Vw i b):=by
 intro a s q H D R I h;rwa[wpAny_Assign_Name (a9 (u a s q H _ R I h) λv A ζ=>?_) n];let⟨y,m,d,c,g⟩:=ζ;rwa[pC d w o r c (λz j=>⟨_,m,j,g⟩) l]
def YQ (c:TT)(t u:yK):yK:=λD R a H=>c a H λb d=>if b=true then t D R a d else u D R a d
def Si {c:Expr}{a b:Stmt}{o:TT}{u w:yK}(E:PT X.tQ c o)(C:DZ X a u)(y:DZ X b w):DZ X (.If c [a] [b] pos) (YQ o u w):=by
 intro g s l H D R I h
 let one:∀{st:Stmt} {m:yK} {j:Zu} {i:Hp},DZ X st m->Inv X g l i j->m D R l i->X⁻¹ X.A (execs [st] X.env) (SP X g D) (Sg X g R) j:=λ{st m j i} A J q=>
  wpAny_execs_cons (a9 (A g j l i D R J q) λB F z=>by
   cases B with
   |next=>exact aiZ z
   |ret v=>exact z
   |brk=>exact z
   |cont=>exact z)
 rwa[wpAny_If (ahF (E g s l H _ (I.wish _) h) (λd j ζ=>?_) λ_ _ z=>False.elim z)];let⟨i,n,r⟩:=ζ
 cases d with
 |true=>exact one C n.ie r
 |false=>exact one y n.ie r
end
abbrev yL:=Ends->Zs->Zo->St->Hp->Prop
def My (X:Cx)(d:List ExceptHandler)(t:yL):Prop:=
 ∀(a:List (Zs×Obj)) (s:Zu) (c:St) (H:Hp) (x C:Zs) (b:Zo) (D:Ends),eS X a c H x C b s->t D C b c H->X⁻¹ X.A (handleBy ↑x X.env d) (SP X a D) X.xe s
section
variable {X:Cx}{y n:Str}{Y:Zs}{np pos:Pos}{Fg:Stmt}{suite:List Stmt}{rest:List ExceptHandler}{tb:TS}{tr:yL}{i:Nat}
def Vx (K:Za1)(Y:Zs)(i:Nat)(tb:TS)(tr:yL):yL:=λD C d e H=>∃b,PySem.W.exmOne K ↑C ↑Y\b/\
 if b=true then ∀x,H x=none->tb { nx:=λ a c=>D.nx (a.set i none) c,rt:=D.rt,bk:=λ a c=>D.bk (a.set i none) c,ct:=λ a c=>D.ct (a.set i none) c } (e.set i (some ↑x)) (upd H x (XO x C d false)) else tr D C d e H
def Sj (l:X.N.Nodup)(k:X.N[i]?\n)(g:X.env.scope.names.lookup n=some .local)(B:Gl X y)(N:X.mg y\↑Y)(A:∀x,iJ (X.yu x) (Fg :: suite) tb)(G:My X rest tr)(w:(y==("__debug__":Str))=false):
 My X (.ExceptHandler (some (.Name y np)) (some n) (Fg :: suite) pos::rest) (Vx X.K Y i tb tr):=by
 intro a s M H x C O D j h;let⟨b,p,h⟩:=h;let I:=j.inv;rwa[wpAny_handleBy_cons (codeAny_handlers_test ?_) f!""];rwa[jY (X:=X.yu x) (I.yu x) B N ?_ w];rwa[PySem.W.exm_one I.dm j.at.ex.Fh p _ _ _ _ (λ_ _ e=>e) ?_]
 cases b with
 |false=>exact G a s M H x C O D j h
 |true=>
  let h:=h x j.none;rwa[codeAny_handlers_suite_as (j.again λP o=>?_)];let J:=o.YP;rwa[pC (X:=X.yu x) (J.yu x) l k (.inl g) (v:=↑x) rfl (λE F=>?_) (.inr g)];rwa[ahF (A x a E _ _ _ F h) (λL Q q=>?_) λ_ _ z=>False.elim z]
  cases L with
  |next=>let⟨f,t,d,q⟩:=q;rwa[sQ (d.zF I.ok) l k g λm c=>⟨11,c,q⟩]
  |brk=>let⟨f,t,d,q⟩:=q;rwa[sQ (d.zF I.ok) l k g λm c=>⟨11,c,q⟩]
  |cont=>let⟨f,t,d,q⟩:=q;rwa[sQ (d.zF I.ok) l k g λm c=>⟨11,c,q⟩]
  |ret u=>let⟨v,f,t,d,r,q⟩:=q;rwa[sQ (d.zF I.ok) l k g λm c=>⟨v,11,c,r,q⟩]
def Vy:yL:=λ_ _ _ _ _=>False
def Sl:My X rest Vy:=λ_ _ _ _ _ _ _ _ _ h=>h.elim
def Vz (t:yK)(c:yL):TS:=λD e H=>t D (λC d a b=>c D C d a b) e H
def OW {st:Stmt}{t:yK}{b:ExceptHandler}{j:List ExceptHandler}{c:yL}(d:X.stack=X.env::X.outer)(l:X.env.frame\X.env.locals)(k:DZ X st t)(o:My X (b :: j) c):
 PS X (.Try [st] (b :: j) [] [] pos) (Vz t c):=by
 intro a s u H D I h;rwa[wpAny_Try_except (wpAny_execs_cons (ahF (k a s u H D _ I h) (λp r q=>?_) λe r q=>?_))]
 ·cases p with
  |next=>exact aiZ (aiZ q)
  |ret v=>exact q
  |brk=>exact q
  |cont=>exact q
 ·let⟨x,C,w,g,m,rfl,c,q⟩:=q;rwa[c.look d l I.ok.frames λz f=>o a _ g m x C w D f q]
end
def FG (K:Za1)(C:Zs):Bool:=match PySem.W.findIn K ↑C "__init__" with
 |some (some ↑f)=>xD K C f
 |_=>false
def Ea (h:FG K a=true)(e:PySem.W.findIn K ↑a "__init__"=some (some ↑b)):xD K a b=true:=by
 unfold FG at h;rw[e]at h;rwa[h]
structure YR (K:Za1) (x qual:Str) (st:Stmt) (f:Zs) (fd:FuncData) (dV:Zt):Prop where
 ex:∃(oc:Zt) (od:Zo) (kV doc pm:Zt) (an:Zo) (cz ct:Zt) (zZ:Array Zl),
  fd=PySem.W.fnOf x qual (dB st) (cE st) (aB st) dV kV doc pm an cz ct/\K.lookup f\⟨oc,od,.func fd,zZ⟩/\PySem.W.codeIn K cz qual=true
 kp:PySem.W.keepIn K ↑f=true
structure DDef (K:Za1) (mg:Str->Zl) (x:Str) (st:Stmt) (ps:Zp) (f:Zs) (fd:FuncData) (d:Str):Prop where
 F:∃dV,YR K x x st f fd dV
 kp:PySem.W.keepIn K ↑f=true
 m:mg x\↑f
 b:Binds K fd ps []
 bd:∃t,Binds K fd ps [.str d t]
section
variable {P:Program}{w:World}{K:Za1}{mg:Str->Zl}{base:Heap}
theorem DDef.Sf {st:Stmt}{fd:FuncData}{e:Zp}{k:Nat}{sp:Sp}(D:DDef K mg x st e a fd f)(S:aS Z e (aB st))(len:∀c H Q E,sp c H Q E->⇑c=⇑e)
 (d:∀(b:Zt) (A:Around) (outer:Zq) (s:Zu) (H:Hp) (c:Zb) (Q:VK) (E:XK),cx k (A.deeper (envOfC x (aB st) ↥s a b))->sp c H Q E->
  ∃t,iJ (cy (c9 P w) P w K mg base Z x (aB st) a b A outer s H E) (cE st) t/\t { nx:=λ_ j=>Q .non j,rt:=Q } (start Z c) H):dk P w K mg base (c9 P w) (k+ 1) a fd e sp:=by
 let⟨p,F⟩:=D.F;let⟨m,o,kV,doc,pm,n,b,ct,l,rfl,lk,h⟩:=F.ex;rwa[zE lk h S len λA outer s H c Q E i g=>d b A outer s H c Q E i g]
def DDef.of {st:Stmt}{y d:Zo}{j r:Array Zl}{kV doc pm ct A:Zt}{dd:Zo}{t:Tok}(X:K.In h)(G:h.Ns mainGlobals mg)(e:PySem.W.nsIn K mainGlobals x\some ↑a)(l:K.lookup a\⟨v,y,.func (PySem.W.fnOf x x (dB st) (cE st) (aB st) ↑b kV doc pm d u ct),j⟩)(c:PySem.W.codeIn K u x=true)(k:PySem.W.keepIn K ↑a=true)
 (lt:K.lookup b\⟨A,dd,.seq #[.str f t] n,r⟩)
 (g:∀(kV doc pm:Zt) (d:Zo) (u ct:Zt) (us:Zk),⇑us=⇑Z->∃i:Option Zm->Sem (List (Str×Zt)),bindArgs (PySem.W.fnOf x x (dB st) (cE st) (aB st) ↑b kV doc pm d u ct) ⟨us,[]⟩=seqItems? ↑b >>=i/\i (some #[.str f t])=pure (Z.zip us))
 (z:∀(kV doc pm:Zt) (d:Zo) (u ct:Zt) (us:Zk),⇑us+ 1=⇑Z->∃i:Option Zm->Sem (List (Str×Zt)),bindArgs (PySem.W.fnOf x x (dB st) (cE st) (aB st) ↑b kV doc pm d u ct) ⟨us,[]⟩=seqItems? ↑b >>=i/\i (some #[.str f t])=pure (Z.zip (us++[.str f t]))):
 DDef K mg x st Z a (PySem.W.fnOf x x (dB st) (cE st) (aB st) ↑b kV doc pm d u ct) f:=by
 rwa[⟨⟨_,⟨v,y,kV,doc,pm,d,u,ct,j,2,l,c⟩,k⟩,k,PySem.W.mg_of X G e,λs us p m=>?_,t,λs us p m=>?_⟩]
 ·rw[ahe]at m ⊢;let⟨i,q,o⟩:=g kV doc pm d u ct us m;rwa[BindsTo.of_defaults (T:=b) rfl (p^lt) rfl q o]
 ·let⟨i,q,o⟩:=z kV doc pm d u ct us (by simpa using m);rwa[BindsTo.of_defaults (T:=b) rfl (p^lt) rfl q o]
end
end L2
namespace L2
def FH {c:Nat}{g:Zg}(b:S.Wf):(S.make c z g).stand=S.stand+ 1:=by
 unfold RS.stand;show (List.range (S.q+ 1)).countP _=_;rw[ahR,List.countP_append,List.countP_singleton]
 let d:(S.make c z g).aw S.q=S.q:=by
  show (S.grown c z g).aw S.q=S.q;rw[fG b,ag8 rfl]
 rw[show decide ((S.make c z g).aw S.q=S.q)=true from ahh d,ag8 rfl]
 congr 1
 rwa[akg λa e=>?_]
 have:(S.make c z g).aw a=S.aw a:=by
  show (S.grown c z g).aw a=S.aw a;rw[fG b,ag3 (by have:=ahj.mp e;omega)]
 rw[this]
def Kv (hw:S.Wf)(d:n<S.q):(S.make n z l).by m y=if m=S.q/\y= -z then some n else if m=n/\y=z then some S.q else S.by m y:=by
 unfold RS.make RS.keep;let b:(S.grown n z l).ways.length=S.q+ 1:=by show ⇑(S.ways++[[]])=_;rw[agF,hw.w];rfl
 let c:∀a s,(S.grown n z l).by a s=S.by a s:=λa s=>by unfold RS.by;rw[m5 hw]
 show (((S.grown n z l).cf n z S.q).cf S.q (-z) n).by m y=_;rw[jr (by show ⇑((S.grown n z l).ways.set n _) > _;rw[ahb,b];omega),jr (by rw[b];omega),c]
def rE (h:fI S)(g:S.Wf)(c:Nat)(z:Int)(f:Zg):fI (S.make c z f):=by
 let e:∀b,(S.make c z f).aw b=if b=S.q then S.q else S.aw b:=λb=>fG g c z f b
 rwa[⟨λb a d=>?_,λb a=>?_,λb a=>?_⟩]
 ·let a:b<S.q+ 1:=a;rw[e]at d;cases q:b=S.q
  ·cbv
  ·rw[ag3 q]at d;rwa[h.a b ∅ d]
 ·let a:b∈S.aY:=a;have:=h.c b a;rw[e,ag3 ∅];rwa[h.b b a]
 ·let a:b∈S.aY:=a;have:=h.c b a;show b<S.q+ 1;ext
def Eb (d:Dt):Prop:=(∃n,d=.i n)\/∃l,d=.s l
def Eb.low {k:Nat}{d:Dt}(h:Eb d)(a:bR H k q d):bR H n q d:=by
 rcases h with ⟨b,rfl⟩|⟨l,rfl⟩
 ·ext a;rwa[.i]
 ·ext a;rwa[.s]
def OX {k:Nat}{b:List Dt}(h:∀x∈b,Eb x)(a:bR H (k+ 1) q (.t b)):bR H (n+ 1) q (.t b):=by
 cases a with
 |t g f i=>exact .t g f λj q d e c=>(h d (agC c)).low (i j q d e c)
def Dp (d:Dt):Prop:=∃a,d=.t a/\∀x∈a,Eb x\/∃as,x=.t as/\∀y∈as,Eb y
def Dp.low {d:Dt}(h:Dp d)(b:bR H 4 q d):bR H 2 q d:=by
 let⟨k,rfl,h⟩:=h
 cases b with
 |t g f i=>
  rwa[.t g f λj q d e c=>?_]
  let b:=i j q d e c;rcases h d (agC c) with a|⟨as,rfl,a⟩
  ·rwa[a.low b]
  ·rwa[OX a b]
def Ec {a:List Dt}(h:∀x∈a,Eb x):Dp (.t a):=⟨a,rfl,λx b=>.inl (h x b)⟩
def Sn (c:Nat)(z:Int)(n:Nat):Dp (qW c z n):=Ec λx a=>by
 simp only[agW,ahx,aiR]at a;rcases a with rfl|rfl|rfl|rfl
 ·rwa[.inr ⟨_,rfl⟩]
 all_goals rwa[.inl ⟨_,rfl⟩]
def Sq {e:Za3}{b:Zh}{W:Za2}{row:Dt}(h:One e n B W row b R):Dp row:=by
 cases h with
 |meet=>
  rwa[Ec λx a=>?_]
  simp only[agW,ahx,aiR]at a;rcases a with rfl|rfl|rfl|rfl|rfl
  ·rwa[.inr ⟨_,rfl⟩]
  all_goals rwa[.inl ⟨_,rfl⟩]
 |rule=>
  rwa[⟨12,λx a=>?_⟩];simp only[agW,ahx,aiR]at a;rcases a with rfl|rfl|rfl|rfl
  ·rwa[.inl (.inr ⟨_,rfl⟩)]
  ·rwa[.inl (.inl ⟨_,rfl⟩)]
  ·rwa[.inr ⟨_,rfl,λy d=>?_⟩];let⟨c,_,rfl⟩:=ahu.mp d;rwa[.inl ⟨12⟩]
  ·rwa[.inl (.inl ⟨12⟩)]
def VA {e:Za3}{c:Zh}{W:Za2}{b:List Dt}(h:Go e n B W b c R):∀x∈b,Dp x:=by
 induction h with
 |nil=>cbv
 |cons o _ d=>
  intro x a;rcases agW.mp a with rfl|a
  ·rwa[Sq o]
  ·rwa[d x a]
section
variable {S S':RS}{R:Za2}{ks:Zg}{pend:Ze}
def j6.gap (l:j6 S pend S'):Good S pend R->(∀c z d,R c z d->z∈ks)->eB S R ks->eB S' R ks:=by
 induction l with
 |nil S=>exact λ_ _ h=>h
 |take _ b=>
  intro g a h;rwa[b (g.take a).1 a (h.take g)]
def j6.wr (l:j6 S pend S'):Good S pend R->(∀c z d,R c z d->z∈ks)->⇑S.aY<=⇑S.rows->⇑S'.aY<=⇑S'.rows:=by
 induction l with
 |nil S=>exact λ_ _ h=>h
 |take _ i=>
  intro g e h;let⟨f,_,_,_,q⟩:=g.take e;rwa[i f e ?_];rcases q with ⟨_,a,b⟩|⟨_,_,_,_,_,_,_,_,_,_,a,b,_⟩
  ·rw[a,b];rwa[h]
  ·rw[a,b,agF,agF,ahP,ahP];ext
structure YS (S:RS) (L:Nat) (ks:Zg) (R:Za2):Prop where
 g:Good S [] R
 w:fI S
 k:∀a z b,R a z b->z∈ks
 gi:eB S R ks
 l:S.L=L
 m:0<S.q
 d:∀x∈S.rows,Dp x
 wr:⇑S.aY<=⇑S.rows
def YS.new {L:Nat}{ks:Zg}:YS (RS.new L ks) L ks (λ_ _ _=>False):=by
 rwa[⟨uB L _,⟨λc hc e=>?_,(λc hc=>by ext hc),(λc hc=>by ext hc)⟩,(λ_ _ _ z=>z.elim),Oo L _,2,Nat.one_pos,(λx a=>by ext a),agJ _⟩];have:c=0:=by have:c<1:=hc;ext
 subst this;rwa[absurd rfl e]
def YS.make (h:YS S n ks R)(hc:m<S.q)(f:S.aw m=m)(g:S.by m z=none)(hz:z∈ks)(c: -z∈ks):YS (S.make m z ks) n ks (fz R m z S.q):=by
 erw[h.g.make hc f g _,rE h.w h.g.wf _ _ _,λa y b r=>?_,h.gi.make h.g hc f g,h.l,Nat.succ_pos _,λx d=>?_]
 ·rcases r with r|⟨_,e,_⟩|⟨_,e,_⟩
  ·rwa[h.k _ _ _ r]
  ·rw[e];rwa[hz]
  ·rw[e];rwa[c]
 ·let d:x∈S.rows++[qW m z S.q]:=d;rcases agS.mp d with p|p
  ·rwa[h.d x p]
  ·rw[agK.mp p];rwa[Sn^_]
 ·show ⇑S.aY<=⇑(S.rows++[_]);rw[agF];have:=h.wr;ext
def YS.tr {ws:Za3}(t:Tr ws m S S')(o:∀w∈ws,∀z∈w,z∈ks/\-z∈ks)(h:YS S n ks R):∃u,YS S' n ks u/\S'.q=S.q/\(∀a z b,R a z b->u a z b)/\∃v,S'.rows=S.rows++v/\∃E W B F,Go ws m E W v B F:=by
 induction t with
 |refl=>rwa[R,h,2,λ_ _ _ r=>r,[],(ahe _).symm,1111,.nil (E:=S.aU) (W:=λ_ _ _=>False) λ_ _ _=>Iff.rfl]
 |step L ra j P=>
  rename_i k Z which word start f c d z;let⟨C,g,M,N,O,e1,E,W,B,F,g1⟩:=P;let hz:=o word (agC ra.w) z (agC ra.hz)
  let i:∀a y b,fz C c z d a y b->y∈ks:=by
   rintro a y b (r|⟨_,e,_⟩|⟨_,e,_⟩)
   ·rwa[g.k _ _ _ r]
   ·rw[e];rwa[hz.1]
   ·rw[e];rwa[hz.2]
  let gl:=g.g.lay z ra.hc.1 ra.hd.1 (pO k which word start f d).rows;let⟨I,Q,A,l2,_⟩:=j.all gl i ⟨g.w.a,g.w.b,g.w.c⟩;let gp:=j.gap gl i ((g.gi.more λa y b r=>.inl r).rows _);let⟨u,X,T,Y,H,J,p⟩:=Mm (Tr.step (Tr.refl k) ra j) (R:=C) o g.g g.w g.k;let⟨R0,U,w0,V,l,G,s⟩:=Mm (Tr.step L ra j) (R:=R) o h.g h.w h.k;rwa[⟨_,⟨I,Q,i,gp,l2.trans g.l,[A]▸g.m,λx D=>?_,j.wr gl i (by show ⇑k.aY<=⇑(k.rows++[_]);rw[agF];have:=g.wr;omega)⟩,A.trans M,λa y b r=>.inl (N _ _ _ r),l,G,1111,s⟩];rw[J]at D;rcases agS.mp D with q|q
  ·rwa[g.d x q]
  ·rwa[VA p x q]
end
def CI.make {bs:List (Nat×Zg×Nat)}{gs:Zf}{W:bI}(h:CI S bs gs [] W fT none)(d:Good S [] R)(hc:n<S.q)(x:S.aw n=n)(A:S.by n z=none)(f:∀b∈bs,b.2.2<S.q)(g:Zg):CI (S.make n z g) bs gs [] W (λr s=>r=n/\s=z) none:=by
 let i:=d.make hc x A g;let k:S.q<=(S.make n z g).q:=aiT _;let lt:=Later.of d i ja k;let el:∀b,b<S.q->(S.make n z g).aw b=S.aw b:=λb c=>(fG d.wf n z g b).trans (ag3 ∅)
 rwa[⟨h.len,λa u q=>?_,λa b B I m=>?_,(λa j=>by ext j),λr s a q=>?_,h.sl,h.bd⟩]
 ·let⟨C,v,E⟩:=h.al a u q;rwa[C,v.later lt k,E]
 ·let c:=f b (agC m);rw[el _ c];rcases h.de a b B I m with w|w
  ·rwa[.inl w]
  ·cases e:S.aw b.2.2=b.2.2
   ·right
    have:=lt.wk w;rw[el _ c,e]at this;rwa[this]
   ·rwa[.inl e]
 ·let⟨l,p,G,D,o,j,F,w⟩:=h.en r s a q;erw[l,p,G,D,ahc o k,j,F];rcases w with ⟨t,H⟩|w
  ·cases e:l=n/\s=z
   ·rwa[.inr e]
   ·left
    rw[el _ o,Kv d.wf hc,ag3 (λy=>by omega),ag3 e];rwa[t,H]
  ·rwa[w.elim]
noncomputable def pw (s:Int)(n:Nat):Zg:=List.replicate n s
def FI (h:(pw z n)[m]?\y):m<n/\y=z:=by
 unfold pw at h;rw[List.getElem?_replicate]at h;split at h
 ·rwa[3,(Za0 h).symm]
 ·ext h
structure Pth (S:RS) (P:Nat->Int) (lo:Int):Prop where
 el:∀c,c<S.q->S.aw c=c
 rg:∀c,c<S.q->lo<=P c/\P c<lo+ S.q
 on:∀t:Int,lo<=t->t<lo+ S.q->∃c,c<S.q/\P c=t
 inj:∀a b,a<S.q->b<S.q->P a=P b->a=b
 by_:∀a z b,S.by a z=some b->(z=1\/z= -1)/\P b=P a+ z
 ch:∀a b,a<S.q->b<S.q->P b=P a+ 1->S.by a 1=some b
section
variable {S:RS}
structure Rng (S:RS) (G:Int->Nat) (M:Nat):Prop where
 st:∀t,S.by (G t) 1=some (G (t+ 1))
 pm:∀t,G (t+ M)=G t
end
def Per (G:Int->Nat)(k:Int):Prop:=∀t,G (t+ k)=G t
def UR (d:Nat)(p:Nat)(z:Int)(q:Nat):Prop:=p<d/\q<d/\(d:Int)∣(p:Int)+ z - q
end L2
namespace L2
open PySem PySem.Spec PyProof.Rows
inductive Sr (K:Za1) (xs:Zb) (H:Hp) (Q:VK):Prop
 |mk (l:Zs) (ns:Zg):xs=[↑l]->aD K H l (ao ns)->⇑ns<64->(∀D ms,H D=none->ms.Perm ns->ms.Pairwise (·<= ·)->Q ↑D (upd H D (.lst (ao ms))))->Sr K xs H Q
section
variable {X:Cx}
inductive Ed (x:V) (vs:Zb) (H:Hp) (Q:VK):Prop
 |mk (a:Zs) (ns:Zg) (k:Int):x=↑a->vs=[.int k]->H a\.lst (ao ns)->Q (.int (ns.count k:Nat)) H->Ed x vs H Q
def qu:zV X "list.count" Ed:=by
 intro b s l H x j v m Q I f d h;let⟨a,i,k,rfl,rfl,e,q⟩:=h;ext f;let⟨u,rfl,g⟩:=d.one;let⟨t,rfl⟩:=g;let⟨c,r,p,_⟩:=I.list (aD.of e);rwa[count_list_ints p.isList (jL r) ⟨.int _,H,I.tok _,⟨12⟩,q⟩]
end
abbrev Def.Ok {K:Za1} {mg:Str->Zl} {x:Str} {st:Stmt} {ps:Zp} {f:Zs} {fd:FuncData} (_:Def K mg x st ps f fd) (P:Program) (w:World) (base:Heap) (k:Nat) (sp:Sp):Prop:=dk P w K mg base (c9 P w) k f fd ps sp
abbrev MDef.Ok {K:Za1} {C:Zs} {x q:Str} {st:Stmt} {ps:Zp} {f:Zs} {fd:FuncData} (_:MDef K C x q st ps f fd) (mg:Str->Zl) (P:Program) (w:World) (base:Heap) (k:Nat) (sp:Sp):Prop:=dk P w K mg base (c9 P w) k f fd ps sp
section
variable {P:Program}{w:World}{K:Za1}{mg:Str->Zl}{base:Heap}{x q:Str}{st:Stmt}{ps N:Zp}{f C:Zs}{fd:FuncData}{k:Nat}{sp:Sp}
def Def.on (D:Def K mg x st ps f fd)(S:aS N ps (aB st))
 (a:∀(b:Zt) (A:Around) (outer:Zq) (s:Zu) (H:Hp) (c:Zb) (Q:VK) (E:XK),cx k (A.deeper (envOfC x (aB st) ↥s f b))->sp c H Q E->
  ∃t,iJ (cy (c9 P w) P w K mg base N x (aB st) f b A outer s H E).tQ (cE st) t/\t { nx:=λ_ d=>Q .non d,rt:=Q } (start N c) H) (len:∀c H Q E,sp c H Q E->⇑c=⇑ps:=by intro _ _ _ _ h;rcases h with ⟨⟩;subst_vars;rfl):D.Ok P w base (k+ 1) sp:=D.F.okN S len a
def MDef.on (D:MDef K C x q st ps f fd)(S:aS N ps (aB st))
 (a:∀(b:Zt) (A:Around) (outer:Zq) (s:Zu) (H:Hp) (c:Zb) (Q:VK) (E:XK),cx k (A.deeper (envOfC q (aB st) ↥s f b))->sp c H Q E->
  ∃t,iJ (cy (c9 P w) P w K mg base N q (aB st) f b A outer s H E).tQ (cE st) t/\t { nx:=λ_ d=>Q .non d,rt:=Q } (start N c) H) (len:∀c H Q E,sp c H Q E->⇑c=⇑ps:=by intro _ _ _ _ h;rcases h with ⟨⟩;subst_vars;rfl):D.Ok mg P w base (k+ 1) sp:=D.F.okN S len a
end
section
variable {X:Cx}{x q m:Str}{st:Stmt}{ps:Zp}{f C:Zs}{fd:FuncData}{k j i:Nat}{sp:Sp}{e o:Expr}{es:Zr}{t:TA}{ta te:TE}{p pos pos' apos:Pos}
def pc (D:Def X.K X.mg x st ps f fd)(F:dk X.prog X.w X.K X.mg X.base (c9 X.prog X.w) k f fd ps sp)(g:cx j X.A)(d:PA X (e::es) t)(hj:k<=j:=by decide)(h:Gl X x:=by rfl)(b:(x==("__debug__":Str))=false:=by decide)(c:starEach (e::es) X.env=(false,eval e X.env)::starEach es X.env:=by rfl)(a:(backTo pos (starEach es X.env)).any (·.1)=false:=by rfl):
 PE X (.Call (.Name x p) (e::es) [] pos) (LQ sp [] (λ_ _ _=>False) t):=xg F (g.mono hj) h D.m D.F.kp D.b .nil gy d b c a
def pm {pl:Sem Bool}(g:PE X o ta)(c:jW X.K C)(D:MDef X.K C m q st ps f fd)(F:dk X.prog X.w X.K X.mg X.base (c9 X.prog X.w) k f fd ps sp)(n:cx j X.A)(l:PA X (e::es) t)(h:k<=j:=by decide)(a:starEach (e::es) X.env=(false,eval e X.env)::starEach es X.env:=by rfl)(b:(backTo pos (starEach es X.env)).any (·.1)=false:=by rfl)
 (r:eval (.Call (.Attribute o m apos) (e::es) [] pos) X.env=(do
  let d <-eval o X.env
  standAt apos.atName
  let (f,first) <-holding [d] (getMethod d m pl)
  callWith pos f first (backTo pos (starEach (e::es) X.env)) (backToKw pos (keywordEach [] X.env))):=by rfl):
 PE X (.Call (.Attribute o m apos) (e::es) [] pos) (kh C m sp [] (λ_ _ _=>False) ta t):=j0 g c D.m F (n.mono h) D.b .nil gy l a b r
def vF {pl:Sem Bool}(b:PE X o ta)(c:jW X.K C)(D:MDef X.K C m q st ps f fd)(F:dk X.prog X.w X.K X.mg X.base (c9 X.prog X.w) k f fd ps sp)(g:cx j X.A)(d:k<=j:=by decide)
 (h:eval (.Call (.Attribute o m apos) [] [] pos) X.env=(do
  let a <-eval o X.env
  standAt apos.atName
  let (f,first) <-holding [a] (getMethod a m pl)
  callWith pos f first (backTo pos (starEach [] X.env)) (backToKw pos (keywordEach [] X.env))):=by rfl):
 PE X (.Call (.Attribute o m apos) [] [] pos) (kh C m sp [] (λ_ _ _=>False) ta jZ):=Jz b c D.m F (g.mono d) D.b .nil gy h
def bH (i:Nat)(d:X.N.Nodup)(b:PE X e te)(g:X.N[i]?\x:=by rfl)(h:Loc X.env.scope x:=by trivial)(c:swapsWith e (some (.Name x pos')) pos.line X.env=pure false:=by rfl)(a:X.fn x=true\/X.env.scope.names.lookup x=some .local:=by trivial):
 PS X (.Assign [.Name x pos'] e pos) (xc te (lA i)):=Qd d g h b c a
def dz (i:Nat)(a:X.N.Nodup)(b:X.N[i]?\x:=by rfl)(c:Loc X.env.scope x:=by trivial)(d:X.fn x=true\/X.env.scope.names.lookup x=some .local:=by trivial):PG X (.Name x pos) (lA i):=Dl a b c d
end
inductive VB (x:V) (y:V) (H:Hp) (Q:VK):Prop
 |mk (a b:Zs) (xs:Zb):x=↑a->y=↑b->H a\.lst xs->H b\.lst []->Q (.bl (!decide (⇑xs=0))) H->VB x y H Q
end L2
namespace M11
noncomputable def flip (k:Nat):Nat:=if k % 2=0 then k+ 1 else k - 1
noncomputable def nx (T:Za3)(k i:Nat):Nat:=((T.getD i []).getD k 0).toNat
structure Tab (L:Nat) (T:Za3):Prop where
 pos:1<=⇑T
 top:⇑T<=300
 let1:1<=L
 Ss:L<=40
 row:∀(i:Nat) (r:Zg),T[i]?\r->⇑r=2* L
 val:∀i k,i<⇑T->k<2* L->∃r:Zg,T[i]?\r/\r[k]?\((nx T k i:Nat):Int)
 lt:∀i k,i<⇑T->k<2* L->nx T k i<⇑T
 back:∀i k,i<⇑T->k<2* L->nx T (flip k) (nx T k i)=i
noncomputable def pl (s:Int):Nat:=if 0<s then 2* s.natAbs - 2 else 2* s.natAbs - 1
def walk (T:Za3)(w:Zg)(i:Nat):Nat:=w.foldl (λi s=>nx T (pl s) i) i
def bE (L:Nat)(w:Zg):Prop:=∀s∈w,s≠0/\s.natAbs<=L
noncomputable def back (w:Zg):Zg:=w.reverse.map λz=>-z
def kl (h:z≠0/\z.natAbs<=n):pl z<2* n:=by
 unfold pl;split <;> ext
def Ee (h:z≠0):pl (-z)=flip (pl z):=by
 unfold pl flip;rw[Int.natAbs_neg];cases a:0<z
 ·rw[ag8 a,ag3 (show ¬ 0 < -z by omega),ag8 ∅];ext
 ·rw[ag3 a,ag8 (show 0 < -z by omega),ag3 ∅];ext
theorem sY {L:Nat}{T:Za3}(c:Tab L T):∀{w:Zg} {i:Nat},bE L w->i<⇑T->walk T w i<⇑T
 |[],i,_,a=>a
 |s::w,i,b,a=>sY c (w:=w) (λs d=>b s (ag4 _ d)) (c.lt i (pl s) a (kl (b s (agP ..))))
def ip (T:Za3)(w u:Zg)(i:Nat):walk T (w++u) i=walk T u (walk T w i):=aiH ..
theorem rF {L:Nat}{T:Za3}(c:Tab L T):∀{w:Zg} {i:Nat},bE L w->i<⇑T->walk T (w++back w) i=i
 |[],i,_,_=>rfl
 |s::w,i,d,f=>by
  let a:=d s (agP ..);let b:bE L w:=λs a=>d s (ag4 _ a)
  let e:back (s::w)=back w++[-s]:=by unfold back;rw[List.reverse_cons,ahi];rfl
  let g:=rF c (i:=nx T (pl s) i) b (c.lt i (pl s) f (kl a));rw[e,aiO,<-ahy];show walk T ((w++back w)++[-s]) (nx T (pl s) i)=i;rw[ip,g];show nx T (pl (-s)) (nx T (pl s) i)=i;rw[Ee a.1];rwa[c.back i (pl s) f (kl a)]
def lH (h:bE n l):bE n (back l):=λs a=>by
 unfold back at a;let⟨y,b,rfl⟩:=ahu.mp a;have:=h y (akk.mp b);ext
structure Pm (p:Nat) (r:Zg):Prop where
 len:⇑r=p
 nd:r.Nodup
 rg:∀z∈r,0<=z/\z<(p:Int)
def Pm.at (h:Pm n l){i:Nat}(b:i<n):∃j:Nat,l[i]?\(j:Int)/\j<n:=by
 let a:i<⇑l:=by rw[h.len];rwa[b]
 have:=h.rg l[i] (List.getElem_mem a);rwa[l[i].toNat,by rw[agG a,show ((l[i].toNat:Nat):Int)=l[i] by ext],3]
def OY {k:Nat}(h:k<2* n):flip k<2* n:=by unfold flip;split <;> ext
def afa (L:Nat)(f:Nat->Int->Int)(come:Zg)(x:Int)(r:Zg)(m:Nat):Prop:=⇑r=m/\∀k,k<m->∃j:Nat,r[k]?\(j:Int)/\come[j]?\(f k x)
theorem eF:∀(n:Nat) (l:Zh),l.Nodup->(∀x∈l,x<n)->⇑l<=n
 |0,[],_,_=>agJ _
 |0,a::l,_,h=>absurd (h a (agP ..)) ∅
 |n+ 1,l,b,h=>by
  cases c:n∈l
  ·have:=eF n (l.erase n) (b.erase n) (λx d=>by
    cbv)
   rw[ai8 c]at this;ext
  ·have:=eF n l b (λx d=>by
    cbv)
   ext
def vG (j:l.Nodup)(h:∀x∈l,0<=x/\x<(n:Int)):⇑l<=n:=by
 let f:(l.map Int.toNat).Nodup:=by
  rwa[ah1.mpr (aiw ?_ j)];intro a b d g c z;have:=h a d;have:=h b g;rwa[c ∅]
 have:=eF n (l.map Int.toNat) f (λx i=>by
  let⟨y,e,rfl⟩:=ahu.mp i;have:=h y e;omega)
 rw[agH]at this;rwa[this]
def Pm.Sv (h:Pm n l){x:Nat}(g:x<n):∃i:Nat,l[i]?\(x:Int)/\i<n:=by
 let c:(x:Int)∈l:=by
  rwa[aiX λc=>?_]
  have:=vG (n:=n) (l:=(x:Int)::l) (ahk.mpr ⟨c,h.nd⟩) (λy d=>by
   rcases agW.mp d with e|d
   ·rw[e];ext
   ·rwa[h.rg y d])
  rw[aha,h.len]at this;ext
 let⟨i,f,e⟩:=aiz.mp c;rwa[i,by rw[agG f,e],by rw[<-h.len];rwa[f]]
def afb (p:Nat)(r t:Zg):Prop:=⇑t=p/\∀k j:Nat,r[k]?\(j:Int)->t[j]?\(k:Int)
def afc (p:Nat)(r t:Zg)(n:Nat):Prop:=⇑t=p/\∀k j:Nat,k<n->r[k]?\(j:Int)->t[j]?\(k:Int)
end M11
namespace M12
open M11
def Fc (W:Nat)(E:Zg)(N:Nat):Prop:=(∀z∈E,0<=z/\z<(N:Int))/\∀j:Nat,0<j->j<N->∃p:Nat,p<j* W/\E[p]?\(j:Int)/\∀(q:Nat) (z:Int),q<p->E[q]?\z->z<(j:Int)
def Fc.old {W:Nat}(h:Fc W l n)(k:i<n):Fc W (l++[(i:Int)]) n:=by
 rwa[⟨λz hz=>?_,λj e d=>?_⟩]
 ·rcases agS.mp hz with hz|hz
  ·rwa[h.1 z hz]
  ·rw[agK.mp hz];ext
 ·let⟨p,b,c,f⟩:=h.2 j e d;let g:=(agE.mp c).1;rwa[⟨p,b,by cbv,λq z a hz=>f q z a ?_⟩];rw[agN ∅]at hz;rwa[hz]
def Fc.new {W:Nat}{E:Zg}(h:Fc W E n)(hN:0<n)(hE:⇑E<n* W):Fc W (E++[(n:Int)]) (n+ 1):=by
 rwa[⟨λz hz=>?_,λj d i=>?_⟩]
 ·rcases agS.mp hz with hz|hz
  ·have:=h.1 z hz;ext
  ·rw[agK.mp hz];ext
 ·cases e:j=n
  ·subst e;rwa[⟨⇑E,hE,by cbv,λq z a hz=>?_⟩];rw[agN a]at hz;rwa[(h.1 z (agC hz)).2]
  ·let⟨p,b,c,f⟩:=h.2 j d ∅;let g:=(agE.mp c).1;rwa[⟨p,b,by cbv,λq z a hz=>f q z a ?_⟩];rw[agN ∅]at hz;rwa[hz]
def Fc.zero (W:Nat):Fc W [] 1:=⟨(λz hz=>by ext hz),(λj b a=>∅)⟩
theorem Ef {W:Nat}(d:0<W):∀{T:Za3} {i k:Nat} {r:Zg},(∀(i:Nat) (r:Zg),T[i]?\r->⇑r=W)->T[i]?\r->k<W->T.flatten[i* W+ k]?=r[k]?
 |[],i,k,r,_,a,_=>by simp at a
 |s::T,0,k,r,h,a,b=>by
  cbv
 |s::T,i+ 1,k,r,h,a,b=>by
  let c:=h 0 s rfl;rw[ai2,agR (by rw[c,Nat.succ_mul];omega),c];let e:(i+ 1)* W+ k - W=i* W+ k:=by rw[Nat.succ_mul];ext
  rw[e];rwa[Ef d (λi r a=>h (i+ 1) r a) a b]
noncomputable def st (k:Nat):Int:=if k % 2=0 then ((k / 2+ 1:Nat):Int) else -((k / 2+ 1:Nat):Int)
def vH (k:Nat):pl (st k)=k:=by
 unfold pl st;cases h:k % 2=0
 ·rw[ag8 h,ag8 ∅];ext
 ·rw[ag3 h,ag3 ∅];ext
def sZ {k:Nat}(h:k<2* n):st k≠0/\(st k).natAbs<=n:=by
 unfold st;split <;> ext
def Sw:Zh->Zh->Prop
 |a::u,b::v=>a<b\/(a=b/\Sw u v)
 |_,_=>False
def abI (u v:Zh):Prop:=⇑u<⇑v\/(⇑u=⇑v/\Sw u v)
def Lw (L:Nat)(T:Za3)(ws:List Zh):Prop:=⇑ws=⇑T/\ws[0]?\[]/\
 ∀(j p:Nat),0<j->j<⇑T->T.flatten[p]?\(j:Int)->(∀(q:Nat) (z:Int),q<p->T.flatten[q]?\z->z<(j:Int))->∃u,ws[p / (2* L)]?\u/\ws[j]?\(u++[p % (2* L)])
end M12
namespace M17
noncomputable def it (f:Nat->Nat):Nat->Nat->Nat
 |0,x=>x
 |n+ 1,x=>f (it f n x)
theorem vI (f:Nat->Nat)(m:Nat):∀(n x:Nat),it f (m+ n) x=it f n (it f m x)
 |0,x=>rfl
 |n+ 1,x=>ahS f (vI f m n x)
theorem tf {f:Nat->Nat}(h:∀x,x<m->f x<m):∀(n x:Nat),x<m->it f n x<m
 |0,x,a=>a
 |n+ 1,x,a=>h _ (tf h n x a)
theorem HL {f:Nat->Nat}(h:∀x,x<m->f x<m)(b:∀x y,x<m->y<m->f x=f y->x=y):∀(n x y:Nat),x<m->y<m->it f n x=it f n y->x=y
 |0,x,y,_,_,e=>e
 |n+ 1,x,y,c,a,e=>HL h b n x y c a (b _ _ (tf h n x c) (tf h n y a) e)
theorem mx {f:Nat->Nat}{x:Nat}(h:it f n x=x):∀k,it f (n* k) x=x
 |0=>rfl
 |k+ 1=>by
  rw[Nat.mul_succ,vI,mx h k,h]
def ring {f:Nat->Nat}{x:Nat}(h:∀x,x<n->f x<n)(r:∀x y,x<n->y<n->f x=f y->x=y)(k:x<n):∃c,1<=c/\c<=n/\it f c x=x:=by
 rwa[aiX λs=>?_]
 let ne:∀i j,i<j->j<=n->it f i x≠it f j x:=λi j m t e=>by
  rwa[s ⟨j - i,335⟩];let p:it f j x=it f i (it f (j - i) x):=by rw[<-vI,show j - i+ i=j by ext]
  rw[p]at e;rwa[(HL h r i x _ k (tf h _ x k) e).symm]
 let o:((List.range (n+ 1)).map λi=>((it f i x:Nat):Int)).Nodup:=by
  rw[ajI,ah1];rwa[aiw (R:=λa b=>a<b) (λu l g e=>?_) aiK];have:=ahj.mp l;rwa[ne _ _ g ∅ ∅]
 have:=M11.vG (n:=n) o λz q=>by
  let⟨i,_,rfl⟩:=ahu.mp q;have:=tf h i x k;ext
 rw[agH,ahp]at this;ext
def VC {f:Nat->Nat}(g:n<=6)(h:∀x,x<n->f x<n)(b:∀x y,x<n->y<n->f x=f y->x=y)(x:Nat)(d:x<n):it f 60 x=x:=by
 let⟨c,j,i,e⟩:=ring h b d;let a:c=1\/c=2\/c=3\/c=4\/c=5\/c=6:=∅
 rcases a with rfl|rfl|rfl|rfl|rfl|rfl
 ·rwa[mx e 60]
 ·rwa[mx e 30]
 ·rwa[mx e 20]
 ·rwa[mx e 15]
 ·rwa[mx e 12]
 ·rwa[mx e 10]
end M17
namespace M24
noncomputable def add (come:Zh)(y:Nat):Zh:=if y∈come then come else come++[y]
def da (f:Nat->Nat->Nat)(x:Nat)(come:Zh)(k:Nat):Zh:=(List.range k).foldl (λc i=>add c (f i x)) come
def iq (f:Nat->Nat->Nat)(x:Nat)(come:Zh)(k:Nat):da f x come (k+ 1)=add (da f x come k) (f k x):=by
 unfold da;rw[ahR,aiH];rfl
def aX (f:Nat->Nat->Nat)(k a:Nat):Nat->Zh
 |0=>[a]
 |n+ 1=>match (aX f k a n)[n]? with
  |some x=>da f x (aX f k a n) k
  |none=>aX f k a n
def uH (f:Nat->Nat->Nat)(k a:Nat):aX f k a 0=[a]:=rfl
def eT {f:Nat->Nat->Nat}{k x:Nat}(h:(aX f k n m)[m]?\x):aX f k n (m+ 1)=da f x (aX f k n m) k:=by
 rw[aX,h]
def my {f:Nat->Nat->Nat}{k:Nat}(h:(aX f k n m)[m]?=none):aX f k n (m+ 1)=aX f k n m:=by
 rw[aX,h]
def Eg (come:Zh)(y:Nat):∃t,add come y=come++t:=by
 unfold add;split
 ·rwa[[],(ahe _).symm]
 cbv
theorem mz (f:Nat->Nat->Nat)(x:Nat)(come:Zh):∀k,∃t,da f x come k=come++t
 |0=>⟨[],(ahe _).symm⟩
 |k+ 1=>by
  let⟨t,b⟩:=mz f x come k;let⟨u,a⟩:=Eg (da f x come k) (f k x);rwa[t++u,by rw[iq,a,b,ahy]]
def uI (f:Nat->Nat->Nat)(k a n:Nat):∃t,aX f k a (n+ 1)=aX f k a n++t:=by
 cases h:(aX f k a n)[n]? with
 |none=>rwa[[],by rw[my h,ahe]]
 |some x=>let⟨t,b⟩:=mz f x (aX f k a n) k;rwa[t,by rw[eT h,b]]
theorem xE (f:Nat->Nat->Nat)(k a n:Nat):∀m,∃t,aX f k a (n+ m)=aX f k a n++t
 |0=>⟨[],(ahe _).symm⟩
 |m+ 1=>by
  let⟨t,c⟩:=xE f k a n m;let⟨u,b⟩:=uI f k a (n+ m)
  cbv
def OZ {come:Zh}:m∈add come n↔m∈come\/m=n:=by
 unfold add
 cbv
def Sx {come:Zh}(h:come.Nodup)(y:Nat):(add come y).Nodup:=by
 unfold add
 cbv
theorem oK {f:Nat->Nat->Nat}{x:Nat}{come:Zh}(h:come.Nodup):∀k,(da f x come k).Nodup
 |0=>h
 |k+ 1=>[iq]▸Sx (oK h k) _
theorem gA (f:Nat->Nat->Nat)(k a:Nat):∀n,(aX f k a n).Nodup
 |0=>by rw[uH];simp
 |n+ 1=>by
  cases h:(aX f k a n)[n]? with
  |none=>rw[my h];rwa[gA f k a n]
  |some x=>rw[eT h];rwa[oK (gA f k a n) k]
theorem jd {f:Nat->Nat->Nat}{x:Nat}{come:Zh}{z:Nat}:∀{k:Nat},z∈da f x come k↔z∈come\/∃i,i<k/\z=f i x
 |0=>⟨.inl,λq=>q.elim id λζ=>by let⟨i,a,_⟩:=ζ;rwa[absurd a (Nat.not_lt_zero _)]⟩
 |k+ 1=>by
  rw[iq,OZ,jd (k:=k)]
  cbv
theorem lQ {f:Nat->Nat->Nat}{k x0:Nat}{P:Nat->Prop}(b:P x0)(c:∀x i,P x->i<k->P (f i x)):∀n,∀z∈aX f k x0 n,P z
 |0,z,a=>by rw[uH,agK]at a;rw[a];rwa[b]
 |n+ 1,z,a=>by
  cases h:(aX f k x0 n)[n]? with
  |none=>rw[my h]at a;rwa[lQ b c n z a]
  |some x=>
   rw[eT h,jd]at a;rcases a with a|⟨i,d,rfl⟩
   ·rwa[lQ b c n z a]
   ·rwa[c _ _ (lQ b c n x (agC h)) d]
theorem jN {f:Nat->Nat->Nat}{k:Nat}:∀{n j x i:Nat},j<n->(aX f k m n)[j]?\x->i<k->f i x∈aX f k m n
 |n+ 1,j,x,i,g,b,c=>by
  cases h:(aX f k m n)[n]? with
  |none=>
   rw[my h]at b ⊢;let o:=ajL.mp h;let l:=(agE.mp b).1;rwa[jN (show j<n by omega) b c]
  |some y=>
   let⟨t,d⟩:=mz f y (aX f k m n) k;let p:=(agE.mp h).1
   let a:(aX f k m n)[j]?\x:=by
    rw[eT h,d,agN ∅]at b;rwa[b]
   cases e:j=n
   ·rw[e,h]at a;rw[eT h,jd];rwa[.inr ⟨i,c,by cbv⟩]
   ·rw[eT h,jd];rwa[.inl (jN (show j<n by omega) a c)]
noncomputable def ix (come:Zh)(y:Nat):Nat:=come.findIdx λz=>z==y
theorem vJ:∀{come:Zh} {i y:Nat},come.Nodup->come[i]?\y->ix come y=i
 |[],i,y,_,h=>by simp at h
 |a::l,0,y,_,h=>by
  let e:a=y:=Za0 h;unfold ix
  cbv
 |a::l,i+ 1,y,d,h=>by
  rw[List.getElem?_cons_succ]at h;let f:=agC h
  let b:(a==y)=false:=by
   rw[agZ];intro e;rwa[(ahk.mp d).1 (by cbv)]
  let c:ix l y=i:=vJ (ahk.mp d).2 h;unfold ix at c ⊢;rw[List.findIdx_cons,b];show l.findIdx _+ 1=i+ 1;rw[c]
def HM {come:Zh}(b:come.Nodup)(h:n∈come):come[ix come n]?\n:=by
 let⟨i,a⟩:=ahs h;rw[vJ b a];rwa[a]
def vK {come:Zh}(b:(come++B).Nodup)(h:n∈come):ix (come++B) n=ix come n:=by
 let⟨i,a⟩:=ahs h;let c:(come++B)[i]?\n:=by rw[agN (agE.mp a).1];rwa[a]
 rw[vJ b c,vJ (ahz.mp b).1 a]
def eU (f:Nat->Nat->Nat)(k:Nat)(come:Zh):Za3:=come.map λx=>(List.range k).map λi=>((ix come (f i x):Nat):Int)
def HN {come:Zh}(h:n∉come):ix (come++[n]) n=⇑come:=by
 induction come with
 |nil=>unfold ix;rw[ajs,List.findIdx_cons];simp
 |cons a l b=>
  rw[agW,not_or]at h;let c:(a==n)=false:=by rw[agZ];rwa[λe=>h.1 e.symm]
  have:=b h.2;unfold ix at this ⊢
  cbv
def j8 (f:Nat->Nat->Nat)(k a n:Nat):Za3:=((aX f k a n).take n).map λx=>(List.range k).map λi=>((ix (aX f k a n) (f i x):Nat):Int)
def yM (f:Nat->Nat->Nat)(k a:Nat):j8 f k a 0=[]:=rfl
def yN {f:Nat->Nat->Nat}{k x:Nat}(h:(aX f k n m)[m]?\x):j8 f k n (m+ 1)=j8 f k n m++[(List.range k).map λi=>((ix (aX f k n (m+ 1)) (f i x):Nat):Int)]:=by
 let⟨t,e⟩:=uI f k n m;let b:=gA f k n (m+ 1);let q:=(agE.mp h).1
 let l:(aX f k n (m+ 1)).take (m+ 1)=(aX f k n m).take m++[x]:=by
  rw[e,List.take_append_of_le_length ∅,aiD,h];rfl
 unfold j8;rw[l,ahi]
 congr 1
 rwa[ahJ λc o=>?_]
 rwa[ahJ λi p=>?_]
 let⟨j,d⟩:=ahs o
 let a:j<m:=by
  have:=(agE.mp d).1;rw[ahm]at this;ext
 rw[ajT a]at d;let g:=jN a d (ahj.mp p);rw[e]at b ⊢;rw[vK b g]
def A2 {f:Nat->Nat->Nat}{k:Nat}(h:⇑(aX f k n m)=m):j8 f k n m=eU f k (aX f k n m):=by
 unfold j8 eU
 cbv
end M24
namespace M55
open M11 M24
theorem yO {f:Nat->Nat->Nat}{x:Nat}{come:Zh}{m:Nat}:∀n,∃t,da f x come (m+ n)=da f x come m++t
 |0=>⟨[],(ahe _).symm⟩
 |n+ 1=>by
  let⟨t,b⟩:=yO (m:=m) n;let⟨u,a⟩:=Eg (da f x come (m+ n)) (f (m+ n) x);rwa[t++u,by rw[<-Nat.add_assoc,iq,a,b,ahy]]
section
variable {f:Nat->Nat->Nat}{k N:Nat}
theorem HP {x:Nat}(h:(aX f k 0 n)[n]?\x){E:Zg}(g:⇑E=n* k)(l:M12.Fc k E ⇑(aX f k 0 n)):∀m,m<=k->M12.Fc k (E++(List.range m).map λi=>((ix (aX f k 0 (n+ 1)) (f i x):Nat):Int)) ⇑(da f x (aX f k 0 n) m)
 |0,_=>by rw[List.range_zero,List.map_nil,ahe];rwa[l]
 |m+ 1,p=>by
  let j:=HP h g l m ∅;let a:=gA f k 0 (n+ 1);let⟨t,b⟩:=yO (f:=f) (x:=x) (come:=aX f k 0 n) (m:=m+ 1) (k - (m+ 1));rw[show m+ 1+ (k - (m+ 1))=k by ext,<-eT h]at b;rw[ahR,ahi,<-ahy,List.map_singleton];generalize e:aX f k 0 (n+ 1)=O at *;let r:=(agE.mp h).1;let⟨u,o⟩:=mz f x (aX f k 0 n) m;let hlen:n<⇑(da f x (aX f k 0 n) m):=by rw[o,agF];ext
  rw[iq]at b ⊢;cases c:f m x∈da f x (aX f k 0 n) m
  ·let d:add (da f x (aX f k 0 n) m) (f m x)=da f x (aX f k 0 n) m:=by unfold add;rw[ag8 c]
   rw[d]at b ⊢;rw[b]at a;let q:=vK a c;let lt:=(agE.mp (HM (ahz.mp a).1 c)).1;rw[show ix O (f m x)=ix (da f x (aX f k 0 n) m) (f m x) by rw[b];rwa[q]];rwa[j.old lt]
  ·let d:add (da f x (aX f k 0 n) m) (f m x)=da f x (aX f k 0 n) m++[f m x]:=by unfold add;rw[ag3 c]
   rw[d]at b ⊢;rw[b]at a;let q:=vK a (agL (da f x (aX f k 0 n) m) agP);rw[show ix O (f m x)=⇑(da f x (aX f k 0 n) m) by rw[b,q];rwa[HN c],agF];rwa[j.new ∅ ?_];rw[agF,agH,ahp,g];have:(n+ 1)* k<=⇑(da f x (aX f k 0 n) m)* k:=aik _ hlen;rw[aje]at this;ext
theorem Sy (d:⇑(aX f k 0 N)=N):∀n,n<=N->(j8 f k 0 n).flatten.length=n* k/\M12.Fc k (j8 f k 0 n).flatten ⇑(aX f k 0 n)
 |0,_=>⟨by rw[yM,Nat.zero_mul];rfl,[yM,uH]▸M12.Fc.zero k⟩
 |n+ 1,i=>by
  let⟨c,g⟩:=Sy d n ∅
  let a:∃x,(aX f k 0 n)[n]?\x:=by
   cases e:(aX f k 0 n)[n]? with
   |some x=>rwa[x,2]
   |none=>
    exfalso
    let h:=ajL.mp e
    have:∀m,(aX f k 0 (n+ m))=aX f k 0 n:=λm=>by
     induction m with
     |zero=>rfl
     |succ m b=>rw[<-Nat.add_assoc,my ([b]▸ajL.mpr ∅),b]
    have:=this (N - n);rw[show n+ (N - n)=N by ext]at this;rw[this]at d;ext
  let⟨x,a⟩:=a;rw[yN a,List.flatten_append,List.flatten_singleton];erw[by rw[agF,c,agH,ahp,aje,Nat.one_mul]];have:=HP a c g k (agJ _);rw[eT a]at this ⊢;rwa[this]
def fc (a:⇑(aX f k 0 N)=N):M12.Fc k (eU f k (aX f k 0 N)).flatten ⇑(eU f k (aX f k 0 N)):=by
 have:=(Sy a N (agJ _)).2;rw[A2 a]at this;unfold eU;rw[agH];rwa[this]
def A3 {come:Zh}(a:j<k)(b:come[i]?\n):nx (eU f k come) j i=ix come (f j n):=by
 unfold nx eU;rw[agM (l:=List.map _ come),agY,b];show ((((List.range k).map λi=>((ix come (f i n):Nat):Int))).getD j 0).toNat=_;rw[agM,agY,aip a];rfl
def pT (c:⇑(aX f k 0 N)=N){j i y:Nat}(b:j<k)(a:(aX f k 0 N)[i]?\y):(aX f k 0 N)[nx (eU f k (aX f k 0 N)) j i]?\(f j y):=by
 rw[A3 b a];rwa[HM (gA _ _ _ N) (jN (by have:=(agE.mp a).1;omega) a b)]
end
def Sz {f:Nat->Nat->Nat}(l:⇑(aX f (2* n) 0 m)=m)(p:∀x∈aX f (2* n) 0 m,∀j,j<2* n->f (flip j) (f j x)=x)(g:1<=n)(o:n<=40)(s:1<=m)(q:m<=300):Tab n (eU f (2* n) (aX f (2* n) 0 m)):=by
 let hlen:⇑(eU f (2* n) (aX f (2* n) 0 m))=m:=by unfold eU;rw[agH,l]
 let c:∀i,i<⇑(eU f (2* n) (aX f (2* n) 0 m))->∃y,(aX f (2* n) 0 m)[i]?\y:=λi d=>⟨_,agG ∅⟩
 rwa[⟨33,g,o,λi r h=>?_,λi k d a=>?_,λi k d a=>?_,λi k d a=>?_⟩]
 ·unfold eU at h;rw[agY]at h
  cases e:(aX f (2* n) 0 m)[i]? with
  |none=>rw[e]at h;ext h
  |some y=>
   rw[e]at h;rw[<-Za0 h,agH,ahp]
 ·let⟨y,b⟩:=c i d;erw[_,by unfold eU;rw[agY,b];rfl];rw[A3 a b,agY,aip a];rfl
 ·let⟨y,b⟩:=c i d;have:=(agE.mp (pT l a b)).1;ext
 ·let⟨y,b⟩:=c i d;rw[A3 (OY a) (pT l a b),p y (agC b) k a];rwa[vJ (gA _ _ _ m) b]
end M55
namespace K39
open PySem L2
noncomputable def top (i:Nat):Stmt:=PySem.Challenge.pw_cosetyard_k39_whole_over_points_alike.main.body.getD i (.Pass ⟨(0),(0),(0),(0)⟩)
abbrev A4:Stmt:=top 1
abbrev oM:Stmt:=top 2
abbrev vL:Stmt:=top 10
abbrev vM:Stmt:=top 12
abbrev vN:Stmt:=top 13
abbrev vO:Stmt:=top 18
abbrev vP:Stmt:=top 19
abbrev vQ:Stmt:=top 22
abbrev Mz:Stmt:=top 23
abbrev HQ:Stmt:=top 25
abbrev oN:Stmt:=top 27
abbrev tY:Stmt:=top 29
abbrev oO:Stmt:=top 30
abbrev rH:Stmt:=top 31
abbrev qv:Stmt:=top 32
abbrev rJ:Stmt:=top 33
abbrev tZ:Stmt:=top 34
abbrev rK:Stmt:=top 35
abbrev qw:Stmt:=top 36
abbrev rL:Stmt:=top 37
abbrev qx:Stmt:=top 38
abbrev rM:Stmt:=top 39
abbrev MA:Stmt:=top 40
abbrev mB:Stmt:=inClass (top 3) 0
abbrev m8:Stmt:=inClass (top 3) 1
abbrev t9:Stmt:=inClass (top 3) 2
abbrev kK:Stmt:=inClass (top 4) 0
abbrev jw:Stmt:=inClass (top 4) 1
abbrev m9:Stmt:=inClass (top 4) 2
abbrev mC:Stmt:=inClass (top 4) 3
abbrev oQ:Stmt:=inClass (top 4) 4
abbrev nh:Stmt:=inClass (top 4) 5
abbrev oR:Stmt:=inClass (top 4) 6
abbrev qy:Stmt:=inClass (top 4) 7
abbrev oS:Stmt:=inClass (top 4) 8
abbrev oT:Stmt:=inClass (top 4) 9
abbrev kL:Stmt:=inClass (top 4) 10
abbrev kM:Stmt:=inClass (top 8) 0
abbrev ua:Stmt:=inClass (top 15) 0
abbrev jO:Stmt:=inClass (top 16) 0
abbrev rN:Stmt:=inClass (top 17) 0
abbrev mD:Stmt:=inClass (top 21) 0
abbrev rO:Stmt:=inClass (top 21) 1
abbrev ub:Stmt:=inClass (top 21) 2
abbrev vR:Stmt:=inClass (top 21) 3
abbrev qA:Stmt:=inClass (top 21) 4
abbrev mE:Stmt:=inClass (top 21) 5
abbrev qB:Stmt:=inClass (top 21) 6
abbrev lj:Stmt:=inClass (top 21) 7
abbrev rP:Stmt:=inClass (top 21) 8
abbrev ni:Stmt:=inClass (top 21) 9
abbrev jP:Stmt:=inClass (top 21) 10
abbrev nj:Stmt:=inClass (top 21) 11
set_option genInjectivity false in
structure qC where
 Kw:Zs
 Kx:FuncData
 xF:Zs
 xG:FuncData
 FJ:Zs
 FK:FuncData
 FL:Zs
 FN:FuncData
 FP:Zs
 FQ:FuncData
 vS:Zs
 vT:FuncData
 FU:Zs
 FV:FuncData
 FW:Zs
 FX:FuncData
 ti:Zs
 tj:FuncData
 HR:Zs
 HS:FuncData
 xH:Zs
 xI:FuncData
 CN:Zs
 CP:FuncData
 xJ:Zs
 xK:FuncData
 A5:Zs
 A6:FuncData
 zf:Zs
 zg:FuncData
 A7:Zs
 A8:FuncData
 CQ:Zs
 CT:FuncData
 A9:Zs
 Ba:FuncData
 zh:Zs
 zi:FuncData
 Bb:Zs
 Bc:FuncData
 zj:Zs
 zk:FuncData
 Bd:Zs
 Be:FuncData
 VD:Zs
 VF:FuncData
 mF:Zs
 uJ:FuncData
 vU:Zs
 vV:FuncData
 CV:Zs
 CW:FuncData
 kO:Zs
 rQ:FuncData
 oU:Zs
 oV:FuncData
 vW:Zs
 vX:FuncData
 uK:Zs
 uL:FuncData
 xM:Zs
 xN:FuncData
 vY:Zs
 vZ:FuncData
 xO:Zs
 xP:FuncData
 zl:Zs
 zo:FuncData
 xQ:Zs
 xR:FuncData
 xS:Zs
 xT:FuncData
 rS:Zs
 rT:FuncData
 rV:Zs
 rX:FuncData
 CY:Zs
 CZ:FuncData
 nk:Zs
 jQ:FuncData
 Bf:Zs
 Bg:FuncData
 mG:Zs
 uM:FuncData
 Bh:Zs
 Bi:FuncData
 C0:Zs
 C1:FuncData
 FY:Zs
 FZ:FuncData
 zp:Zs
 zq:FuncData
 uN:Zs
 uO:FuncData
 zr:Zs
 zt:FuncData
 tF:Zs
 tG:FuncData
 Bj:Zs
 Bk:FuncData
 v7:Zs
 wc:FuncData
 pU:Zs
 pV:FuncData
 wg:Zs
 wj:FuncData
 km:Zs
 ny:Zs
 bD:Zs
 cQ:Zs
 bL:Zs
 cC:Zs
 az:Zs
 aK:Zs
 aF:Zs
 YT:Zs
 eD:Zs
set_option genInjectivity false in
structure Txt (K:Za1) (mg:Str->Zl) (A:qC):Prop where
 walked:Def K mg "walked" A4 ["rooms","room","word"] A.Kw A.Kx
 mH:Def K mg "first_places" oM ["rules"] A.xF A.xG
 pW:Def K mg "steps_of" vL ["letters"] A.FJ A.FK
 numbered:Def K mg "numbered" vM ["rooms"] A.FL A.FN
 mI:Def K mg "place_of" vN ["step"] A.FP A.FQ
 pX:Def K mg "order_by" vO ["name"] A.vS A.vT
 mh:Def K mg "first_of" vP ["rooms","some"] A.FU A.FV
 pY:Def K mg "all_gaps" vQ ["letters"] A.FW A.FX
 own:Def K mg "own" Mz ["value"] A.ti A.tj
 fill:DDef K mg "fill" HQ ["letters","rules","part","limit","order"] A.HR A.HS (tx [114,111,111,109,115])
 bM:Def K mg "_law_cell_at" oN ["_law_script","_law_k"] A.xH A.xI
 rY:Def K mg "_law_step" tY ["_law_number","_law_letters"] A.CN A.CP
 mJ:Def K mg "_law_turning" oO ["_law_number","_law_many","_law_plain"] A.xJ A.xK
 iE:Def K mg "_law_moved" rH ["_law_turns","_law_point","_law_word"] A.A5 A.A6
 ko:Def K mg "_law_rounds" qv ["_law_turns","_law_points_here","_law_word"] A.zf A.zg
 pZ:Def K mg "_law_rules" rJ ["_law_turns","_law_letters","_law_mask","_law_room"] A.A7 A.A8
 rZ:Def K mg "_law_part" tZ ["_law_script","_law_turns","_law_letters","_law_first"] A.CQ A.CT
 p1:Def K mg "_law_group" rK ["_law_script"] A.A9 A.Ba
 nT:Def K mg "_law_filled" qw ["_law_letters","_law_rules_here","_law_part_here","_law_limit_here","_law_order"] A.zh A.zi
 p5:Def K mg "_law_limit" rL ["_law_script"] A.Bb A.Bc
 nU:Def K mg "_law_points" qx ["_law_table","_law_turns","_law_first"] A.zj A.zk
 p6:Def K mg "_law_looks" rM ["_law_table","_law_room"] A.Bd A.Be
 law:Def K mg "law" MA ["_law_script"] A.VD A.VF
 gB:MDef K A.aK "__init__" "Going.__init__" mB ["self","which","word","start"] A.mF A.uJ
 kY:MDef K A.aK "advance" "Going.advance" m8 ["self","rooms"] A.vU A.vV
 r0:MDef K A.aK "row" "Going.row" t9 ["self","rooms"] A.CV A.CW
 eV:MDef K A.aF "__init__" "Closing.__init__" kK ["self","rooms","rules","part"] A.kO A.rQ
 fh:MDef K A.aF "begin_rules" "Closing.begin_rules" jw ["self","room"] A.oU A.oV
 iX:MDef K A.aF "begin" "Closing.begin" m9 ["self","which","word","room"] A.vW A.vX
 iF:MDef K A.aF "settle" "Closing.settle" mC ["self"] A.uK A.uL
 mK:MDef K A.aF "make" "Closing.make" oQ ["self","room","step"] A.xM A.xN
 kZ:MDef K A.aF "go_on" "Closing.go_on" nh ["self","number"] A.vY A.vZ
 jR:MDef K A.aF "wait" "Closing.wait" oR ["self","number","room","step"] A.xO A.xP
 nV:MDef K A.aF "lay" "Closing.lay" qy ["self","going"] A.zl A.zo
 eX:MDef K A.aF "wake" "Closing.wake" oS ["self","room","step"] A.xQ A.xR
 mM:MDef K A.aF "hear" "Closing.hear" oT ["self"] A.xS A.xT
 je:MDef K A.aF "wake_all" "Closing.wake_all" kL ["self","room"] A.rS A.rT
 dJ:MDef K A.bD "__init__" "TooMany.__init__" kM ["self","made","rows"] A.rV A.rX
 jx:MDef K A.cQ "gap" "Order.gap" ua ["self","rooms"] A.CY A.CZ
 gZ:MDef K A.bL "gap" "ByLetters.gap" jO ["self","rooms"] A.nk A.jQ
 iG:MDef K A.cC "gap" "Newest.gap" rN ["self","rooms"] A.Bf A.Bg
 gC:MDef K A.az "__init__" "Rooms.__init__" mD ["self","letters"] A.mG A.uM
 p7:MDef K A.az "make" "Rooms.make" rO ["self","room","step"] A.Bh A.Bi
 r6:MDef K A.az "lay" "Rooms.lay" ub ["self","room","step","other","row"] A.C0 A.C1
 iu:MDef K A.az "by" "Rooms.by" vR ["self","room","step"] A.FY A.FZ
 hJ:MDef K A.az "elder" "Rooms.elder" qA ["self","room"] A.zp A.zq
 eG:MDef K A.az "standing" "Rooms.standing" mE ["self"] A.uN A.uO
 kr:MDef K A.az "paper" "Rooms.paper" qB ["self"] A.zr A.zt
 fK:MDef K A.az "first_gap" "Rooms.first_gap" lj ["self","room"] A.tF A.tG
 lI:MDef K A.az "keep" "Rooms.keep" rP ["self","room","step","other"] A.Bj A.Bk
 k8:MDef K A.az "take_in" "Rooms.take_in" ni ["self","way","pending"] A.v7 A.wc
 fL:MDef K A.az "put_together" "Rooms.put_together" jP ["self","room","step","one","other","pending"] A.pU A.pV
 lb:MDef K A.az "put_off" "Rooms.put_off" nj ["self","room","pending"] A.wg A.wj
 ku:mg "enumerate"=none
 MB:mg "min"=none
 VG:mg "max"=none
 eI:mg "range"=none
 cR:mg "len"=none
 tm:mg "tuple"=none
 iR:mg "list"=none
 gE:mg "isinstance"=none
 abJ:mg "bool"=none
 VH:mg "int"=none
 Bl:mg "dict"=none
 F0:mg "reversed"=none
 afd:mg "abs"=none
 C2:mg "YardError"=some ↑A.km
 Wm:mg "NoOrder"=some ↑A.ny
 yP:mg "TooMany"=some ↑A.bD
 O6:mg "Order"=some ↑A.cQ
 C3:mg "ByLetters"=some ↑A.bL
 Ky:mg "Newest"=some ↑A.cC
 O8:mg "Rooms"=some ↑A.az
 O9:mg "Going"=some ↑A.aK
 HV:mg "Closing"=some ↑A.aF
 Kz:PySem.W.plainGet K A.az Str.empty=true
 KC:PySem.W.hasDictIn K A.az=true
 KD:PySem.W.plainOver K A.az=true
 KG:PySem.W.findIn K ↑A.az "__setattr__"=some (some (.builtin "object.__setattr__"))
 uP:PySem.W.makesIn K A.az=true
 KH:PySem.W.keepIn K ↑A.az=true
 sg:PySem.W.findIn K ↑A.az "letters"=some none
 oW:PySem.W.findIn K ↑A.az "made"=some none
 sh:PySem.W.findIn K ↑A.az "rows"=some none
 iS:PySem.W.findIn K ↑A.az "ways"=some none
 si:PySem.W.findIn K ↑A.az "gaps"=some none
 jf:PySem.W.findIn K ↑A.az "elders"=some none
 mO:PySem.W.findIn K ↑A.az "called"=some none
 sj:PySem.W.findIn K ↑A.az "went"=some none
 KJ:PySem.W.plainGet K A.aK Str.empty=true
 KL:PySem.W.hasDictIn K A.aK=true
 KN:PySem.W.plainOver K A.aK=true
 KP:PySem.W.findIn K ↑A.aK "__setattr__"=some (some (.builtin "object.__setattr__"))
 uQ:PySem.W.makesIn K A.aK=true
 KQ:PySem.W.keepIn K ↑A.aK=true
 Bm:PySem.W.findIn K ↑A.aK "which"=some none
 jy:PySem.W.findIn K ↑A.aK "word"=some none
 p8:PySem.W.findIn K ↑A.aK "start"=some none
 gS:PySem.W.findIn K ↑A.aK "front"=some none
 eY:PySem.W.findIn K ↑A.aK "first"=some none
 hM:PySem.W.findIn K ↑A.aK "rear"=some none
 iH:PySem.W.findIn K ↑A.aK "last"=some none
 F1:PySem.W.plainGet K A.aF Str.empty=true
 F2:PySem.W.hasDictIn K A.aF=true
 F3:PySem.W.plainOver K A.aF=true
 F4:PySem.W.findIn K ↑A.aF "__setattr__"=some (some (.builtin "object.__setattr__"))
 p9:PySem.W.makesIn K A.aF=true
 F5:PySem.W.keepIn K ↑A.aF=true
 eZ:PySem.W.findIn K ↑A.aF "rooms"=some none
 Bn:PySem.W.findIn K ↑A.aF "rules"=some none
 jz:PySem.W.findIn K ↑A.aF "goings"=some none
 kP:PySem.W.findIn K ↑A.aF "agenda"=some none
 jS:PySem.W.findIn K ↑A.aF "waiting"=some none
 mP:PySem.W.findIn K ↑A.aF "heard"=some none
 KR:PySem.W.plainGet K A.cQ Str.empty=true
 KS:PySem.W.hasDictIn K A.cQ=true
 KW:PySem.W.plainOver K A.cQ=true
 KY:PySem.W.findIn K ↑A.cQ "__setattr__"=some (some (.builtin "object.__setattr__"))
 KZ:PySem.W.makesIn K A.cQ=true
 K0:PySem.W.keepIn K ↑A.cQ=true
 K1:PySem.W.findIn K ↑A.cQ "__init__"=some (some (.builtin "object.__init__"))
 YV:PySem.W.findIn K ↑A.cQ "__class__"=some (some (.builtin "object.__class__"))
 YW:PySem.W.mroIn K A.cQ (.type "object")\true
 Bo:PySem.W.plainGet K A.bL Str.empty=true
 Bp:PySem.W.hasDictIn K A.bL=true
 Bq:PySem.W.plainOver K A.bL=true
 Br:PySem.W.findIn K ↑A.bL "__setattr__"=some (some (.builtin "object.__setattr__"))
 Bs:PySem.W.makesIn K A.bL=true
 Bu:PySem.W.keepIn K ↑A.bL=true
 Bv:PySem.W.findIn K ↑A.bL "__init__"=some (some (.builtin "object.__init__"))
 SD:PySem.W.findIn K ↑A.bL "__class__"=some (some (.builtin "object.__class__"))
 SF:PySem.W.mroIn K A.bL (.type "object")\true
 HW:PySem.W.plainGet K A.cC Str.empty=true
 HX:PySem.W.hasDictIn K A.cC=true
 HY:PySem.W.plainOver K A.cC=true
 HZ:PySem.W.findIn K ↑A.cC "__setattr__"=some (some (.builtin "object.__setattr__"))
 Ia:PySem.W.makesIn K A.cC=true
 Ib:PySem.W.keepIn K ↑A.cC=true
 Ic:PySem.W.findIn K ↑A.cC "__init__"=some (some (.builtin "object.__init__"))
 Wn:PySem.W.findIn K ↑A.cC "__class__"=some (some (.builtin "object.__class__"))
 Wo:PySem.W.mroIn K A.cC (.type "object")\true
 Wq:PySem.W.excIn K A.ny Ak "ValueError.__new__"=true
 wm:L2.FG K A.bD=true
 F6:PySem.W.keepIn K ↑A.bD=true
 Wr:PySem.W.exmOne K ↑A.bD ↑A.bD\true
 F7:(PySem.W.clsIn K A.bD).any (λcd=>L2.mw cd.mro)=true
 F8:PySem.W.hasDictIn K A.bD=true
 F9:PySem.W.findIn K ↑A.bD "__setattr__"=some (some (.builtin "object.__setattr__"))
 Ga:PySem.W.findIn K ↑A.bD "__getattribute__"=some (some (.builtin "BaseException.__getattribute__"))
 Gb:PySem.W.findIn K ↑A.bD "__getattr__"=some none
 Ge:PySem.W.subIn K ↑A.bD (.type "BaseException")\true
 Pa:PySem.W.findIn K ↑A.bD "made"=some none
 Pb:PySem.W.findIn K ↑A.bD "rows"=some none
 YX:PySem.W.specialIn K ↑A.km "__getattribute__"=some (some (.builtin "type.__getattribute__"))
 YY:PySem.W.readsIn K A.km (.type "type")=true
 YZ:(match PySem.W.findCls K ↑A.km (.type "type") "__init__" with|some (.val (.builtin i))=>i=="ValueError.__init__" | _=>false)=true
 lam:LamAt K A.jQ A.YT A.eD
def aJ {A:qC}(T:Txt K M A):jW K A.az:=⟨T.Kz,T.KC,T.KD,T.KG⟩
def uP {A:qC}(T:Txt K M A):Mk K A.az A.mG:=⟨T.uP,T.gC.m.at_,T.gC.m.fn,T.KH⟩
def aT {A:qC}(T:Txt K M A):jW K A.aK:=⟨T.KJ,T.KL,T.KN,T.KP⟩
def uQ {A:qC}(T:Txt K M A):Mk K A.aK A.mF:=⟨T.uQ,T.gB.m.at_,T.gB.m.fn,T.KQ⟩
def aL {A:qC}(T:Txt K M A):jW K A.aF:=⟨T.F1,T.F2,T.F3,T.F4⟩
def p9 {A:qC}(T:Txt K M A):Mk K A.aF A.kO:=⟨T.p9,T.eV.m.at_,T.eV.m.fn,T.F5⟩
def Bw {A:qC}(T:Txt K M A):jW K A.cQ:=⟨T.KR,T.KS,T.KW,T.KY⟩
def sk {A:qC}(T:Txt K M A):jW K A.bL:=⟨T.Bo,T.Bp,T.Bq,T.Br⟩
def yQ {A:qC}(T:Txt K M A):jW K A.cC:=⟨T.HW,T.HX,T.HY,T.HZ⟩
def nB:aS ["rooms","room","word","path","step"] ["rooms","room","word"] (aB A4):=(by ac_rfl)
def hY:aS ["rules","places","which","rule"] ["rules"] (aB oM):=(by ac_rfl)
def nX:aS ["letters","steps","letter"] ["letters"] (aB vL):=(by ac_rfl)
def fU:aS ["rooms","steps","found","numbers","rows","others","other"] ["rooms"] (aB vM):=(by ac_rfl)
def C4:aS ["step"] ["step"] (aB vN):=(by ac_rfl)
def C5:aS ["name"] ["name"] (aB vO):=(by ac_rfl)
def nY:aS ["rooms","some","room","step"] ["rooms","some"] (aB vP):=(by ac_rfl)
def C6:aS ["letters"] ["letters"] (aB vQ):=(by ac_rfl)
def Ie:aS ["value"] ["value"] (aB Mz):=(by ac_rfl)
def lS:aS ["letters","rules","part","limit","order","chosen","rooms","closing","gap"] ["letters","rules","part","limit","order"] (aB HQ):=(by ac_rfl)
def wq:aS ["_law_script","_law_k"] ["_law_script","_law_k"] (aB oN):=(by ac_rfl)
def Bx:aS ["_law_number","_law_letters"] ["_law_number","_law_letters"] (aB tY):=(by ac_rfl)
def fM:aS ["_law_number","_law_many","_law_plain","_law_by","_law_some","_law_turned"] ["_law_number","_law_many","_law_plain"] (aB oO):=(by ac_rfl)
def iY:aS ["_law_turns","_law_point","_law_word","_law_step_here"] ["_law_turns","_law_point","_law_word"] (aB rH):=(by ac_rfl)
def gF:aS ["_law_turns","_law_points_here","_law_word","_law_count","_law_spots"] ["_law_turns","_law_points_here","_law_word"] (aB qv):=(by ac_rfl)
def cW:aS ["_law_turns","_law_letters","_law_mask","_law_room","_law_words","_law_k","_law_j","_law_found","_law_word","_law_often"] ["_law_turns","_law_letters","_law_mask","_law_room"] (aB rJ):=(by ac_rfl)
def gG:aS ["_law_script","_law_turns","_law_letters","_law_first","_law_way","_law_words","_law_word","_law_cell"] ["_law_script","_law_turns","_law_letters","_law_first"] (aB tZ):=(by ac_rfl)
def cw:aS ["_law_script","_law_plain","_law_many","_law_letters","_law_turns","_law_k","_law_mask","_law_first","_law_rules_here"] ["_law_script"] (aB rK):=(by ac_rfl)
def dM:aS ["_law_letters","_law_rules_here","_law_part_here","_law_limit_here","_law_order","_law_found","_law_refused","e"] ["_law_letters","_law_rules_here","_law_part_here","_law_limit_here","_law_order"] (aB qw):=(by ac_rfl)
def iZ:aS ["_law_script","_law_cell","_law_limit_here"] ["_law_script"] (aB rL):=(by ac_rfl)
def dN:aS ["_law_table","_law_turns","_law_first","_law_points_here","_law_room","_law_row","_law_at","_law_other","_law_step_here"] ["_law_table","_law_turns","_law_first"] (aB qx):=(by ac_rfl)
def dC:aS ["_law_table","_law_room","_law_twins","_law_come","_law_at","_law_row","_law_twin","_law_k"] ["_law_table","_law_room"] (aB rM):=(by ac_rfl)
def df:aS ["_law_script","_law_letters","_law_turns","_law_rules_here","_law_part_here","_law_first","_law_limit_here","_law_order","_law_found","_law_refused","_law_table","_law_points_here","_law_come","_law_at","_law_letter","_law_step_here","_law_point","_law_over","_law_looks_here"] ["_law_script"] (aB MA):=(by ac_rfl)
def tH:aS ["self","which","word","start"] ["self","which","word","start"] (aB mB):=(by ac_rfl)
def jg:aS ["self","rooms","room"] ["self","rooms"] (aB m8):=(by ac_rfl)
def mQ:aS ["self","rooms","ahead","behind"] ["self","rooms"] (aB t9):=(by ac_rfl)
def fi:aS ["self","rooms","rules","part","room","which","word"] ["self","rooms","rules","part"] (aB kK):=(by ac_rfl)
def fV:aS ["self","room","rule","which"] ["self","room"] (aB jw):=(by ac_rfl)
def uR:aS ["self","which","word","room"] ["self","which","word","room"] (aB m9):=(by ac_rfl)
def tI:aS ["self"] ["self"] (aB mC):=(by ac_rfl)
def wu:aS ["self","room","step"] ["self","room","step"] (aB oQ):=(by ac_rfl)
def mR:aS ["self","number","going"] ["self","number"] (aB nh):=(by ac_rfl)
def jT:aS ["self","number","room","step","steps","numbers"] ["self","number","room","step"] (aB oR):=(by ac_rfl)
def oX:aS ["self","going","step"] ["self","going"] (aB qy):=(by ac_rfl)
def wx:aS ["self","room","step"] ["self","room","step"] (aB oS):=(by ac_rfl)
def wy:aS ["self"] ["self"] (aB oT):=(by ac_rfl)
def fj:aS ["self","room","step","elder"] ["self","room"] (aB kL):=(by ac_rfl)
def qJ:aS ["self","made","rows"] ["self","made","rows"] (aB kM):=(by ac_rfl)
def By:aS ["self","rooms"] ["self","rooms"] (aB ua):=(by ac_rfl)
def mS:aS ["self","rooms","gaps"] ["self","rooms"] (aB jO):=(by ac_rfl)
def zu:aS ["self","rooms"] ["self","rooms"] (aB rN):=(by ac_rfl)
def tJ:aS ["self","letters"] ["self","letters"] (aB mD):=(by ac_rfl)
def qD:aS ["self","room","step","number"] ["self","room","step"] (aB rO):=(by ac_rfl)
def sr:aS ["self","room","step","other","row","pending"] ["self","room","step","other","row"] (aB ub):=(by ac_rfl)
def C7:aS ["self","room","step"] ["self","room","step"] (aB vR):=(by ac_rfl)
def xU:aS ["self","room"] ["self","room"] (aB qA):=(by ac_rfl)
def tK:aS ["self"] ["self"] (aB mE):=(by ac_rfl)
def xV:aS ["self"] ["self"] (aB qB):=(by ac_rfl)
def kQ:aS ["self","room","step"] ["self","room"] (aB lj):=(by ac_rfl)
def zv:aS ["self","room","step","other"] ["self","room","step","other"] (aB rP):=(by ac_rfl)
def dO:aS ["self","way","pending","room","step","other","led_to","come_from"] ["self","way","pending"] (aB ni):=(by ac_rfl)
def dW:aS ["self","room","step","one","other","pending","less","more","number"] ["self","room","step","one","other","pending"] (aB jP):=(by ac_rfl)
def gT:aS ["self","room","pending","ways","step","other"] ["self","room","pending"] (aB nj):=(by ac_rfl)
section
variable {P:Program}{w:World}{K:Za1}{mg:Str->Zl}{base:Heap}{A:qC}
def g6 {c:PySem.Const}{p:PySem.Pos}{a:List PySem.Expr}{env:PySem.Env}:PySem.starEach (.Constant c j p::a) env=(false,PySem.eval (.Constant c j p) env)::PySem.starEach a env:=rfl
def zH (K:Za1)(d:Zs):Sp:=λb H Q _=>∃(a:Zs) (ns:Zg),b=[↑a]/\aD K H a (ns.map V.int)/\⇑ns<=63/\H d\(.fB #[])/\∀c,Q (.bl true) c
def bq (n:Nat):Zg:=(List.range n).map M12.st
def tq (n:Nat):⇑(bq n)=n:=by unfold bq;cbv
def su (h:i<n):(bq n)[i]?\(M12.st i):=by
 unfold bq;rw[agY,aip h];rfl
def Pg (i:Nat):bq (2* i)++[1+ (i:Int)]++[-(1+ (i:Int))]=bq (2* (i+ 1)):=by
 let e:2* (i+ 1)=2* i+ 1+ 1:=∅
 rw[e];unfold bq;rw[ahR,ahR,ahi,ahi];let a:M12.st (2* i)=1+ (i:Int):=by unfold M12.st;rw[ag8 ∅];ext
 let b:M12.st (2* i+ 1)= -(1+ (i:Int)):=by unfold M12.st;rw[ag3 ∅];ext
 show _=(List.range (2* i)).map M12.st++[M12.st (2* i)]++[M12.st (2* i+ 1)];rw[a,b]
def Ig (n:Nat):(bq n).Nodup:=by
 unfold bq;rwa[ah1.mpr (List.Pairwise.imp ?_ ajh)];intro a b c z;let d:=M12.vH a;rw[z,M12.vH]at d;rwa[c d.symm]
def dF {rs:Zn}(h:rs[i]?\a):iQ (rs.map V.ref) (i:Int)\(V.ref a):=cD (by rw[agY,h];rfl)
def K2:Sp:=λb H Q _=>∃L:Nat,b=[.int L]/\1<=L/\L<=200/\∀l a,aq H a->a l\.lst (ao ((List.range (2* L)).map M12.st))->Q ↑l a
def SG:Sp:=λb H Q _=>∃L:Nat,b=[.int L]/\1<=L/\L<=200/\∀d a,aq H a->H d=none->a d\.dK (gK (bq (2* L)))->Q ↑d a
inductive MC (C:Zs) (vs:Zb) (H:Hp) (Q:VK) (E_:XK):Prop
 |mk (x dx:Zs) (L:Nat):vs=[↑x,.int L]->H x\.ins C dx []->1<=L->L<=200->(∀a H',(∀b o,H b\o->b≠x->H' b\o)->ay C H' x (RS.new L (bq (2* L))) a->(∀b,a.own x b->b=x\/H b=none)->Q .non H')->MC C vs H Q E_
def cY (a:RA)(r:Zs)(H c:Hp):Prop:=∀b o,¬a.own r b->H b\o->c b\o
inductive Ih (C:Zs) (vs:Zb) (H:Hp) (Q:VK) (E_:XK):Prop
 |mk (r:Zs) (S:RS) (a:RA) (c d:Nat) (z:Int):vs=[↑r,.int c,.int z,.int d]->ay C H r S a->S.Wf->c<S.q->d<S.q->(∀l∈S.ways,⇑l<=100000)->(∀H',cY a r H H'->ay C H' r (S.keep c z d) a->Q .non H')->Ih C vs H Q E_
inductive Ii (C:Zs) (vs:Zb) (H:Hp) (Q:VK) (E_:XK):Prop
 |mk (r:Zs) (S:RS) (a:RA) (c:Nat) (z:Int):vs=[↑r,.int c,.int z]->ay C H r S a->S.Wf->1<=S.L->S.L<=200->c<S.q->S.q<=100000->⇑S.rows<=1000000->(∀l∈S.ways,⇑l<=100000)->(∀a' H',cY a r H H'->ay C H' r (S.make c z (bq (2* S.L))) a'->(∀b,a'.own r b->a.own r b\/H b=none)->Q (.int S.q) H')->Ii C vs H Q E_
inductive MD (C:Zs) (vs:Zb) (H:Hp) (Q:VK) (E_:XK):Prop
 |mk (r:Zs) (S:RS) (a:RA) (c:Nat) (z:Int):vs=[↑r,.int c,.int z]->ay C H r S a->c<⇑S.ways->(Q (((S.by c z).map λn:Nat=>V.int (n:Int)).getD .non) H)->MD C vs H Q E_
inductive Eh (C:Zs) (vs:Zb) (H:Hp) (Q:VK) (E_:XK):Prop
 |mk (r:Zs) (S:RS) (a:RA) (c e:Nat):vs=[↑r,.int c]->ay C H r S a->S.aU[c]?\e->Q (.int e) H->Eh C vs H Q E_
inductive wz (C:Zs) (vs:Zb) (H:Hp) (Q:VK) (E_:XK):Prop
 |mk (r:Zs) (S:RS) (a:RA):vs=[↑r]->ay C H r S a->S.Wf->S.q<=100000->(∀l,H l=none->Q ↑l (upd H l (.lst (ao (nI ((List.range S.q).filter λc=>decide (S.aU[c]?\c)))))))->wz C vs H Q E_
def wA (k:Nat):Sp:=λc H Q _=>∃(v:V) (d:Dt),c=[v]/\bR H k v d/\ml d/\∀b a,aq H a->bR a k b d->Q b a
inductive Ei (k:Nat) (C:Zs) (vs:Zb) (H:Hp) (Q:VK) (E_:XK):Prop
 |mk (r:Zs) (S:RS) (a:RA):vs=[↑r]->ay C H r S a->⇑S.rows<=1000000->(∀p d,d∈S.rows->bR H 4 ↑p d->bR H k ↑p d)->(∀l ps H',aq H H'->H l=none->H' l\.lst (ps.map V.ref)->Each (λp d=>bR H' 4 ↑p d) ps S.rows->Q ↑l H')->Ei k C vs H Q E_
def Ij (T:Txt K mg A):dk P w K mg base (c9 P w) 2 A.ti A.tj ["value"] (wA 0):=by
 rwa[T.own.F.okN Ie (λc H Q E h=>?_) (λp u f s H c Q E x h=>?_)]
 ·let⟨v,d,rfl,_⟩:=h;rfl
 ·let⟨v,d,rfl,g,j,k⟩:=h
  erw[_,(ai (bJ (ic (bz j1 rfl T.gE ahY (ae (pv 0) (ae (lO (v:=.ty "tuple") rfl T.tm ajg rfl) aj))))
   ky
   bj)
   (ai (bJ (ic (bz j1 rfl T.gE ahY (ae (pv 0) (ae (lO (v:=.ty "list") rfl T.iR ah4 rfl) aj))))
    ky
    bj)
   (ai (bJ (ic (bz j1 rfl T.gE ahY (ae (pv 0) (ae (lO (v:=.ty "dict") rfl T.Bl aka rfl) aj))))
    ky
    bj)
   (au (bx (pv 0))))))]
  rwa[gR ?_];intro q t o
  let atom:(∃n,v=.int n)\/(∃l,v=.str (tx l))\/∃(a:Zs) (c:Zb) (m:List Dt),v=↑a/\d=.t m/\False:=by
   cases g with
   |i=>exact .inl ⟨12⟩
   |s=>exact .inr (.inl ⟨12⟩)
   |n=>ext j
   |b=>ext j
  rcases atom with ⟨n,rfl⟩|⟨l,rfl⟩|⟨a,c,m,rfl,rfl,r⟩
  ·rwa[⟨_,rfl,_,_,_,_,rfl,.int n,qj K,_,rfl,dY ?_⟩];rwa[⟨1211112,.int n,qX K,12,dY ?_⟩];rwa[⟨1211112,.int n,qY K,12,dY ?_⟩];rwa[12,k _ H (λ_ _ e=>e) g]
  ·rwa[⟨1211112,.str (tx l),qk K,12,dY ?_⟩];rwa[⟨1211112,.str (tx l),qZ K,12,dY ?_⟩];rwa[⟨1211112,.str (tx l),q9 K,12,dY ?_⟩];rwa[12,k _ H (λ_ _ e=>e) g]
  ·rwa[r.elim]
def Bz (T:Txt K mg A)(p:dk P w K mg base (c9 P w) j A.ti A.tj ["value"] (wA m)):dk P w K mg base (c9 P w) (j+ 1) A.ti A.tj ["value"] (wA (m+ 1)):=by
 rwa[T.own.F.okN Ie (λg H Q E h=>?_) (λcz AA I s H g Q E J h=>?_)]
 ·let⟨v,d,rfl,_⟩:=h;rfl
 ·let⟨v,d,rfl,M,z,k⟩:=h
  erw[_,(ai (bJ (ic (bz j1 rfl T.gE ahY (ae (pv 0) (ae (lO (v:=.ty "tuple") rfl T.tm ajg rfl) aj))))
   (au (bx (fE qg rfl T.tm ajg (ae (jc (fns:=[]) (ixs:=[]) (cl:=[]) rfl (zN (pv 0)) (lC ⋯ ⋯ rfl ⋯ rfl) (λC s H ex=>(pc (hj:=agJ _) T.own p J (ae (pv 0) aj)))) aj))))
   bj)
   (ai (bJ (ic (bz j1 rfl T.gE ahY (ae (pv 0) (ae (lO (v:=.ty "list") rfl T.iR ah4 rfl) aj))))
    ky
    bj)
   (ai (bJ (ic (bz j1 rfl T.gE ahY (ae (pv 0) (ae (lO (v:=.ty "dict") rfl T.Bl aka rfl) aj))))
    ky
    bj)
   (au (bx (pv 0))))))]
  rwa[gR ?_];intro jA fX X
  let atom:(∃n,v=.int n)\/(∃l,v=.str (tx l))\/∃(a:Zs) (g:Zb) (ds:List Dt),v=↑a/\d=.t ds/\(H a\.tup g/\⇑g=⇑ds/\∀(c:Nat) (v:V) (x:Dt),g[c]?\v->ds[c]?\x->bR H m v x):=by
   cases M with
   |i=>exact .inl ⟨12⟩
   |s=>exact .inr (.inl ⟨12⟩)
   |n=>ext z
   |b=>ext z
   |t o N L=>exact .inr (.inr ⟨11122,o,N,L⟩)
   |l=>ext z
  rcases atom with ⟨n,rfl⟩|⟨l,rfl⟩|⟨a,g,ds,rfl,rfl,F⟩
  ·rwa[⟨_,rfl,_,_,_,_,rfl,.int n,qj K,_,rfl,dY ?_⟩];rwa[⟨1211112,.int n,qX K,12,dY ?_⟩];rwa[⟨1211112,.int n,qY K,12,dY ?_⟩];rwa[12,k _ H (λ_ _ e=>e) M]
  ·rwa[⟨1211112,.str (tx l),qk K,12,dY ?_⟩];rwa[⟨1211112,.str (tx l),qZ K,12,dY ?_⟩];rwa[⟨1211112,.str (tx l),q9 K,12,dY ?_⟩];rwa[12,k _ H (λ_ _ e=>e) M]
  ·let⟨o,N,L⟩:=F;obtain⟨hz,r⟩:⇑ds<=100000/\∀x∈ds,ml x:=by cases z with|t a b=>exact⟨a,b⟩
   rwa[⟨1211112,.tup o,JK K "tuple",12,jI ?_⟩];erw[12,a,2,⟨_,bN.of o⟩];rwa[m4 ⇑g (λi=>g.getD i .non) (λf v i=>∃x,ds[i]?\x/\ml x/\bR f m v x) (λH1 f v i s ζ=>by let⟨x,e,hn,q⟩:=ζ;rwa[⟨x,e,hn,q.same s⟩]) ?_ (λi f s2 u=>QG (bN.of (s2^o)) i u) (λi x f Z s2 u y=>?_) (λf s2=>JH (bN.of (s2^o))) (λi f Rr u s2 kk=>?_) (λD f ys s2 Y hl J=>?_)]
   ·rwa[agT ∅ (show 100000<=sizeLine by decide)]
   ·let⟨e,F⟩:=N0 (bN.of (s2^o)) i x Z u y
    cbv
   ·let F:g[i]?\(g.getD i .non):=by rw[agM,agG u];rfl
    let B:ds[i]?\(ds[i]'∅):=agG ∅
    rwa[⟨12112,(L i _ _ F B).same s2,r _ (agC B),λU H' S q'=>kk U H' S ⟨_,B,r _ (agC B),q'⟩⟩]
   ·rwa[⟨D,ys,2,.inl ⟨aD.of ah,λl G=>?_⟩⟩];let O:aq f (upd f D (.lst ys)):=aq.upd Y;let R:aq (upd f D (.lst ys)) (upd (upd f D (.lst ys)) l (.tup ys)):=aq.upd G;rwa[k _ _ (s2.trans (O.trans R)) (.t ah ∅ λc v x e1 e2=>?_)];obtain⟨y,e3,-,q⟩:=J c v e1;obtain rfl:y=x:=Za0 (e3.symm.trans e2);rwa[q.same (O.trans R)]
def Ik (T:Txt K mg A):dk P w K mg base (c9 P w) 3 A.ti A.tj ["value"] (wA 1):=Bz T (Ij T)
def yR (T:Txt K mg A):dk P w K mg base (c9 P w) 4 A.ti A.tj ["value"] (wA 2):=Bz T (Ik T)
def uc (T:Txt K mg A):T.pW.Ok P w base 1 K2:=by
 rwa[T.pW.on nX (λu B f s H z Q E C h=>?_) (len:=by rintro _ _ _ _ ⟨L,rfl,_⟩;rfl)]
 ·let⟨L,rfl,t,y,k⟩:=h
  erw[_,(ai (bH 1 nX.nd (bT aj))
   (ai (cK ag9 rfl (kA rfl T.eI (ae ax (ae (aP cZ (pv 0) ax) aj))) (dz 2 nX.nd)
    (ai (aV (cH agQ ag0 ag2 bO (pv 1) (ae (pv 2) aj)))
    (au (aV (cH agQ ag0 ag2 bO (pv 1) (ae (e8 dE (pv 2)) aj))))))
   (au (bx (pv 1)))))]
  rwa[fS ?_];intro x q;rwa[⟨ahd _,λl g=>?_⟩];let p:aq H (upd H l (.lst [])):=aq.upd g;let m:upd H l (.lst []) l\(.lst (ao (bq (2* 0)))):=ah;change upd H l (.lst [])=H0 at p m ⊢;erw[121122,(1),(L:Int)+ 1,2,⟨3333⟩];rwa[jk (lo:=1) (n:=((L:Int)+ 1 - 1).toNat) (λi j c=>∃v:Zc,j=#v[.int L,↑l,v]/\aq H c/\c l\.lst (ao (bq (2* i)))) ⟨none,2,p,m⟩ ?_ ?_]
  ·rintro i j c D ⟨v,rfl,d,a⟩;let r:i<L:=∅
   erw[12,.inl ⟨21,aD.of a⟩,12,l,1122,a,5]
   ·rw[aI,tq];rwa[agO (show 2* i<=400 by omega) ⋯]
   erw[12,.inl ⟨21,aD.of ah⟩,1212,l,1122,ah,5]
   ·rw[agF,aI,tq];rwa[agO (show 2* i+ 1<=400 by omega) ⋯]
   erw[12,λb o e=>?_]
   ·rw[ak (av e g),ak (av e g)];rwa[d^e]
   ·rw[ah,<-Pg,ints_app,ints_app];rfl
  ·rintro j c ⟨v,rfl,d,a⟩;rw[show ((L:Int)+ 1 - 1).toNat=L by ext]at a;rwa[12,k l c d a]
def ud (T:Txt K mg A):T.pY.Ok P w base 2 SG:=by
 rwa[T.pY.on C6 (λY AA n s H vs Q E B h=>?_) (len:=by rintro _ _ _ _ ⟨L,rfl,_⟩;rfl)]
 ·let⟨L,rfl,o,G,k⟩:=h;erw[_,(au (bx (fE (vq rfl) rfl T.Bl aka (ae (jc (fns:=[]) (ixs:=[]) (cl:=[]) rfl (cX (pc T.pW (uc T) B (ae (pv 0) aj))) (lC ⋯ ⋯ rfl ⋯ rfl) (λC s H ex=>(cP (ae (pv 0) (ae mZ aj))))) aj))))];rwa[⟨12,L,2,o,G,λl Z s1 j=>⟨l,2,⟨_,aD.of j⟩,5⟩⟩];let hn:⇑(ao ((List.range (2* L)).map M12.st))=2* L:=by rw[aI,agH,ahp]
  rwa[m4 (2* L) (λi=>.int (M12.st i)) (λc v i=>∃p,v=↑p/\c p\.tup [.int (M12.st i),.bl true]) (λZ c v i s ζ=>by let⟨p,e,q⟩:=ζ;rwa[⟨p,e,s^q⟩]) ?_ (λi c s2 f=>kH (aD.of (s2^j)) i ∅) (λi x c U s2 f y=>?_) (λc s2=>?_) (λi c Rr f s2 X=>?_) (λD c ys s2 S u B=>?_)]
  ·rwa[agT (show 2* L<=400 by omega) ⋯]
  ·let⟨e,hx⟩:=jl (aD.of (s2^j)) i x U ∅ y;erw[e];rw[show (ao ((List.range (2* L)).map M12.st))[i]?=some (.int (M12.st i)) from bU (su f)]at hx
   cbv
  ·have:=ig (aD.of (K:=K) (s2^j));rw[hn]at this;rwa[this]
  ·rwa[⟨12,(Za4 2),λt R=>X _ _ (aq.upd R) ⟨t,2,ah⟩⟩]
  ·let⟨g,rfl,F⟩:=sX (P:=λi p=>c p\.tup [.int (M12.st i),.bl true]) ys 0 (λi v hv=>[ajW]▸B i v hv);let J:aq c (upd c D (.lst (g.map V.ref))):=aq.upd S;rw[agH]at u;rwa[⟨D,g,gK (bq (2* L)),2,ah,by rw[Rb,tq,u],λi p kv M r=>?_,λd I=>?_⟩]
   ·let f:i<2* L:=by rw[<-u];rwa[(agE.mp M).1]
    have:=F i p M;rw[ajW]at this;unfold gK at r;rw[agY,su f]at r;rw[<-Za0 r];rwa[J^this]
   ·let e:fF [] (gK (bq (2* L)))=gK (bq (2* L)):=by
     rw[yw _ _ ?_,ajs];rw[ajs];unfold gK;rw[ahw];rwa[ah1.mpr (List.Pairwise.imp (λ{a b} m z=>m (Sum.inl.inj z)) (Ig _))]
    rw[e];let O:aq (upd c D (.lst (g.map V.ref))) (upd (upd c D (.lst (g.map V.ref))) d (.dK (gK (bq (2* L))))):=aq.upd I;let N:=s1.trans (s2.trans J);rwa[k d _ (N.trans O) (N.free I) ah]
def hO (T:Txt K mg A):T.iu.Ok mg P w base 1 (MD A.az):=by
 rwa[T.iu.on C7 (λf n d s H m Q E j h=>?_)]
 ·let⟨r,S,a,c,z,rfl,h,l,k⟩:=h;let b:=hV j;erw[_,(au (bx (JT b (bC bu (aH (pv 0) rfl) (pv 1) (λ_ _=>rfl)) (pv 2) ⟨2222⟩)))];let i:S.ways[c]?\(S.way c):=by unfold RS.way;rw[agM,agG l];rfl
  let⟨p,g,e⟩:=h.rW.at i;erw[12,r,_,a.dx,112,h.ins,aJ T,T.iS,iC^_,12,a.aW,11122,aD.of h.hW,dF g,p,2,.inl ⟨_,.inl e⟩,121,eQ.k (k:=Sum.inl z) e];rw[kI];rwa[k]
def iI (T:Txt K mg A):T.hJ.Ok mg P w base 1 (Eh A.az):=by
 rwa[T.hJ.on xU (λd j b s H g Q E i h=>?_)]
 ·let⟨r,S,a,c,e,rfl,h,f,k⟩:=h;erw[_,(au (bx (bC bu (aH (pv 0) rfl) (pv 1) (λ_ _=>rfl))))];rwa[12,r,_,a.dx,112,h.ins,aJ T,T.jf,jm^_,12,a.aE,11122,aD.of h.hE,cD (bU (gk f)),k]
def oY {c:Nat}(h:c<⇑S.ways):S.ways[c]?\(S.way c):=by unfold RS.way;cbv
def wB {c:Nat}(h:c<⇑S.gaps):S.gaps[c]?\(S.gap c):=by unfold RS.gap;cbv
def BD (h:∀l∈S.ways,⇑l<=m):⇑(S.way n)<=m:=by
 unfold RS.way;rw[agM]
 cases e:S.ways[n]? with
 |none=>exact ahd _
 |some l=>exact h l (agC e)
def MF (h:O.ws[i]?\b):O.own a b:=.inr (.inr (dw (agC h)))
def VJ (h:O.gs[i]?\b):O.own a b:=.inr (.inr (gu (agC h)))
def cY.upd {o:HO}(h:O.own a b):cY O a H (upd H b o):=λc u d e=>[ak (λz=>d ([z]▸h))]▸e
def cY.trans (h:cY O a H I)(d:cY O a I J):cY O a H J:=λb u c e=>d b u c (h b u c e)
def qE (T:Txt K mg A):T.lI.Ok mg P w base 1 (Ih A.az):=by
 rwa[T.lI.on zv (λcz AA F s H vs Q E hr h=>?_)]
 ·let⟨r,S,a,c,d,z,rfl,h,hw,hc,M,Y,k⟩:=h;let j:=hV hr
  erw[_,(ai (oq j (bC bu (aH (pv 0) rfl) (pv 1) (λ_ _=>rfl)) (pv 2) (pv 3) rfl)
   (ai (oq j (bC bu (aH (pv 0) rfl) (pv 3) (λ_ _=>rfl)) (e8 dE (pv 2)) (pv 1) rfl)
   (ai (aV (uy (bC bu (aH (pv 0) rfl) (pv 1) (λ_ _=>rfl)) (pv 2) du ⟨2222⟩))
   (au (aV (uy (bC bu (aH (pv 0) rfl) (pv 3) (λ_ _=>rfl)) (e8 dE (pv 2)) du ⟨2222⟩))))))]
  rwa[gR ?_];intro jA fX gH;let⟨p,b,J⟩:=h.rW.at (oY (S:=S) (c:=c) ([hw.w]▸hc));let b1:⇑(S.way c)<=100000:=BD Y;erw[1212,r,_,a.dx,112,h.ins,aJ T,T.iS,iC^_,12,a.aW,11122,aD.of h.hW,dF b,12,p,12,pJ.k (k:=Sum.inl z) J ([As]▸agO b1 ⋯)];rw[Au];let n:ay A.az _ r (S.cf c z d) a:=h.Aw b (iP (S.way c) z d);let X:cY a r H (upd H p (.dK (wK (iP (S.way c) z d)))):=cY.upd (MF b);change upd H p (.dK (wK (iP (S.way c) z d)))=G at n X ⊢;let w1:(S.cf c z d).ways.length=S.q:=by show ⇑(S.ways.set c _)=_;rw[ahb,hw.w]
  let⟨q,D,B⟩:=n.rW.at (oY (S:=S.cf c z d) (c:=d) ([w1]▸M))
  let b2:⇑((S.cf c z d).way d)<=100001:=BD λl g=>by
   rcases aiV g with g|rfl
   ·rwa[Nat.le_succ_of_le (Y l g)]
   ·rwa[agT (J1^_) (by omega)]
  rwa[⟨_,rfl,_,rfl,r,_,a.dx,_,_,rfl,n.ins,aJ T,T.iS,iC^_,_,rfl,a.aW,_,_,_,rfl,rfl,aD.of n.hW,dF D,_,rfl,_,rfl,q,_,rfl,pJ.k (k:=Sum.inl (-z)) B (by rw[As];rwa[agO b2 (by decide)]),?_⟩];rw[Au];let f:ay A.az _ r ((S.cf c z d).cf d (-z) c) a:=n.Aw D (iP ((S.cf c z d).way d) (-z) c);let O:cY a r G (upd G q (.dK (wK (iP ((S.cf c z d).way d) (-z) c)))):=cY.upd (MF D);change upd G q (.dK (wK (iP ((S.cf c z d).way d) (-z) c)))=H2 at f O ⊢;generalize U:(S.cf c z d).cf d (-z) c=C at f ⊢;let N:⇑C.gaps=S.q:=by rw[<-U];rwa[hw.g]
  let⟨p3,o,m⟩:=f.rG.at (wB (S:=C) (c:=c) ([N]▸hc))
  let pop:∀{H:Hp} {S:RS} {c:Nat} {z:Int} {p:Zs},ay A.az H r S a->a.gs[c]?\p->H p\.dK (gK (S.gap c))->∀{Q:V->Hp->Prop},(∀v L,cY a r H L->ay A.az L r (S.lE c z) a->Q v L)->
   JS p (.int z) .non H Q:=by
   intro H S c z p h b J Q B
   suffices q:(∀v,bB (gK (S.gap c)) (Sum.inl z)\v->Q v (upd H p (.dK (fe (gK (S.gap c)) (Sum.inl z)))))/\(bB (gK (S.gap c)) (Sum.inl z)=none->Q .non H) from ⟨_,Sum.inl z,J,2,q.1,q.2⟩
   rw[G9,Oe];cases I:z∈S.gap c
   ·rw[ag8 I];rwa[λv _=>B _ _ (cY.upd (VJ b)) (h.Rh b _),λz=>by ext z]
   ·rw[ag3 I];rwa[⟨λv z=>(by ext z),λ_=>B _ _ (λ_ _ _ e=>e) ?_⟩];let e:(S.gap c).filter (λx=>decide (x≠z))=S.gap c:=List.filter_eq_self.mpr λx hx=>ahh λz=>I (z ▸ hx)
    let g:c<⇑S.gaps:=by rw[<-h.rG.1];rwa[(agE.mp b).1]
    have:S.lE c z=S:=by
     unfold RS.lE RS.setG;rw[e]
     let es:S.gaps.set c (S.gap c)=S.gaps:=aiF λi=>by
      cases Z:c=i
      ·subst Z;rw[ahA g,wB g]
      ·rw[ah2 Z]
     rw[es]
    rw[this];rwa[h]
  rwa[⟨12,r,_,a.dx,112,f.ins,aJ T,T.si,sU^_,12,a.aG,11122,aD.of f.hG,dF o,p3,2,.inl ⟨_,.inl m⟩,12,pop f o m λv H3 u3 t=>?_⟩];generalize e3:C.lE c z=S3 at t;let g3:⇑S3.gaps=S.q:=by rw[<-e3];show ⇑(C.gaps.set c _)=_;rw[ahb,N]
  let⟨p4,y,u⟩:=t.rG.at (wB (S:=S3) (c:=d) ([g3]▸M));rwa[⟨12,r,_,a.dx,112,t.ins,aJ T,T.si,sU^_,12,a.aG,11122,aD.of t.hG,dF y,p4,2,.inl ⟨_,.inl u⟩,1212,pop t y u λv H4 u4 R=>?_⟩];rwa[k H4 (X.trans (O.trans (u3.trans u4))) ?_];rw[<-e3,<-U]at R;rwa[R]
def tL (T:Txt K mg A):T.gC.Ok mg P w base 3 (MC A.az):=by
 rwa[T.gC.on tJ (λcz AA outer s H vs Q E hr h=>?_)]
 ·let⟨x,j,L,rfl,hx,mU,nF,k⟩:=h
  erw[_,(ai (b9 (pv 0) (pv 1) rfl)
   (ai (b9 (pv 0) ax rfl)
   (ai (b9 (pv 0) (bT aj) rfl)
   (ai (b9 (pv 0) (bT (ae fQ aj)) rfl)
   (ai (b9 (pv 0) (bT (ae (pc T.pY (ud T) hr (ae (pv 1) aj)) aj)) rfl)
   (ai (b9 (pv 0) (bT (ae ax aj)) rfl)
   (ai (b9 (pv 0) (bT (ae (bT (ae ax aj)) aj)) rfl)
   (au (b9 (pv 0) (bT aj) rfl)))))))))]
  rwa[Ay ?_];intro MG BE qF nH jA fX gH
  let st:∀{H0:Hp} {fs:List (Str×V)} {f:Str} {v:V},H0 x\.ins A.az j fs->(∀b o,H b\o->b≠x->H0 b\o)->upd H0 x (.ins A.az j (bK f v fs)) x\.ins A.az j (bK f v fs)/\(∀b o,H b\o->b≠x->upd H0 x (.ins A.az j (bK f v fs)) b\o)/\∀b o,b≠x->H0 b\o->upd H0 x (.ins A.az j (bK f v fs)) b\o:=
   λ_ h=>⟨ah,λb o e n=>[ak n]▸h b o e n,λb o n e=>[ak n]▸e⟩
  erw[1212,x,_,j,12,hx,aJ T,T.sg,(by show 0<1000;decide)];obtain⟨x1,o1,-⟩:=st (f:="letters") (v:=.int L) hx (λb o e _=>e);change upd H x (.ins A.az j (bK "letters" (.int L) []))=H1 at x1 o1 ⊢;let f1:⇑(bK "letters" (.int L) ([]:List (Str×V)))<=1:=jo (n:=0) (agJ _);erw[12,x,_,j,12,x1,aJ T,T.oW,agO f1 ⋯];obtain⟨x2,o2,-⟩:=st (f:="made") (v:=.int 1) x1 o1;let f2:=jo (f:="made") (v:=.int 1) f1;generalize e2:bK "made" (.int 1) (bK "letters" (.int L) [])=Wt at x2 o2 f2 ⊢;change upd H1 x (.ins A.az j Wt)=H2 at x2 o2 ⊢;rwa[⟨ahd _,λD nR=>⟨12,x,_,j,12,aq.upd nR _ _ x2,aJ T,T.sh,agO f2 ⋯,5⟩⟩];let Wu:upd H2 D (.lst []) D\(.lst []):=ah;let I:D≠x:=(av x2 nR).symm;let s3:=aq.upd (o:=.lst []) nR
  let n0:∀{b:Zs} {H0:Hp},(∀c o,H c\o->c≠x->H0 c\o)->H0 b=none->b≠x->H b=none:=λ{b H0} h n nx=>by
   cases e:H b with
   |none=>rfl
   |some o=>rw[h b o e nx]at n;ext n
  let kR:=n0 o2 nR I;change upd H2 D (.lst [])=H3 at Wu s3 ⊢;let⟨x4,o4,k4⟩:=st (f:="rows") (v:=↑D) (s3^x2) (λb o e n=>s3^o2 b o e n);let f4:=jo (f:="rows") (v:=↑D) f2;generalize e4:bK "rows" ↑D Wt=Wv at x4 o4 f4 k4 ⊢;let SJ:=k4 _ _ I Wu;change upd H3 x (.ins A.az j Wv)=H4 at x4 o4 SJ ⊢;intro wd SK;let q:wd≠x:=(av x4 SK).symm;let Ww:=n0 o4 SK q;let s5:=aq.upd (o:=.dK []) SK;let SM:upd H4 wd (.dK []) wd\(.dK []):=ah;change upd H4 wd (.dK [])=H5 at s5 SM ⊢;rwa[⟨(Za4 1),λz nW=>⟨12,x,_,j,12,aq.upd nW _ _ (s5^x4),aJ T,T.iS,agO f4 ⋯,5⟩⟩];let X:z≠x:=(av (s5^x4) nW).symm;let kW:=n0 (λb o e n=>s5^o4 b o e n) nW X;let nWR:z≠D:=(av (s5^SJ) nW).symm;let s6:=aq.upd (o:=.lst [↑wd]) nW;let Wx:upd H5 z (.lst [↑wd]) z\(.lst [↑wd]):=ah;change upd H5 z (.lst [↑wd])=H6 at s6 Wx ⊢;let⟨x7,o7,k7⟩:=st (f:="ways") (v:=↑z) (s6^s5^x4) (λb o e n=>s6^s5^o4 b o e n);let f7:=jo (f:="ways") (v:=↑z) f4;generalize e7:bK "ways" ↑z Wv=Wy at x7 o7 f7 k7 ⊢;let SN:=k7 _ _ I (s6^s5^SJ);let SQ:=k7 _ _ X Wx;let K3:=k7 _ _ q (s6^SM);change upd H6 x (.ins A.az j Wy)=H7 at x7 o7 SN SQ K3 ⊢;rwa[⟨12,L,2,mU,nF,λgd H8 s8 SR Y0=>?_⟩];let y:gd≠x:=(av x7 SR).symm;let kgd:=n0 o7 SR y;let ngw:gd≠wd:=(av K3 SR).symm;rwa[⟨(Za4 1),λF nG=>⟨12,x,_,j,12,aq.upd nG _ _ (s8^x7),aJ T,T.si,agO f7 ⋯,5⟩⟩];let Il:F≠x:=(av (s8^x7) nG).symm;let kG:=n0 (λb o e n=>s8^o7 b o e n) nG Il;let nGR:F≠D:=(av (s8^SN) nG).symm;let nGW:F≠z:=(av (s8^SQ) nG).symm;let s9:=aq.upd (o:=.lst [↑gd]) nG;let Wz:upd H8 F (.lst [↑gd]) F\(.lst [↑gd]):=ah;change upd H8 F (.lst [↑gd])=H9 at s9 Wz ⊢;let⟨x10,MH,Z⟩:=st (f:="gaps") (v:=↑F) (s9^s8^x7) (λb o e n=>s9^s8^o7 b o e n);let Io:=jo (f:="gaps") (v:=↑F) f7;generalize e10:bK "gaps" ↑F Wy=SV at x10 MH Io Z ⊢;let K4:=Z _ _ I (s9^s8^SN);let K5:=Z _ _ X (s9^s8^SQ);let MJ:=Z _ _ q (s9^s8^K3);let K6:=Z _ _ Il Wz;let MK:=Z _ _ y (s9^Y0);change upd H9 x (.ins A.az j SV)=Ej at x10 MH K4 K5 MJ K6 MK ⊢;rwa[⟨4,λB nE=>⟨12,x,_,j,12,aq.upd nE _ _ x10,aJ T,T.jf,agO Io ⋯,5⟩⟩];let ML:B≠x:=(av x10 nE).symm;let kE:=n0 MH nE ML;let nER:B≠D:=(av K4 nE).symm;let nEW:B≠z:=(av K5 nE).symm;let nEG:B≠F:=(av K6 nE).symm;let u:=aq.upd (o:=.lst [.int 0]) nE;let SW:upd Ej B (.lst [.int 0]) B\(.lst [.int 0]):=ah;change upd Ej B (.lst [.int 0])=SX at u SW ⊢;let⟨Y,Ip,N⟩:=st (f:="elders") (v:=↑B) (u^x10) (λb o e n=>u^MH b o e n);let SY:=jo (f:="elders") (v:=↑B) Io;generalize e12:bK "elders" ↑B SV=S0 at Y Ip SY N ⊢;let S:=N _ _ I (u^K4);let O:=N _ _ X (u^K5);let MN:=N _ _ q (u^MJ);let U:=N _ _ Il (u^K6);let MP:=N _ _ y (u^MK);let R:=N _ _ ML SW;change upd SX x (.ins A.az j S0)=WB at Y Ip S O MN U MP R ⊢;rwa[⟨4,λcl t=>⟨(Za4 1),λC nC=>⟨12,x,_,j,12,aq.upd nC _ _ (aq.upd t _ _ Y),aJ T,T.mO,agO SY ⋯,5⟩⟩⟩];let K7:cl≠x:=(av Y t).symm;let kcl:=n0 Ip t K7;let ncR:cl≠D:=(av S t).symm;let ncW:cl≠z:=(av O t).symm;let ncG:cl≠F:=(av U t).symm;let ncE:cl≠B:=(av R t).symm;let a:=aq.upd (o:=.lst [.int 0]) t;let G:upd WB cl (.lst [.int 0]) cl\(.lst [.int 0]):=ah;change upd WB cl (.lst [.int 0])=WC at a G nC ⊢;let S5:C≠x:=(av (a^Y) nC).symm;let kC:=n0 (λb o e n=>a^Ip b o e n) nC S5;let nCR:C≠D:=(av (a^S) nC).symm;let nCW:C≠z:=(av (a^O) nC).symm;let nCG:C≠F:=(av (a^U) nC).symm;let nCE:C≠B:=(av (a^R) nC).symm;let nCc:C≠cl:=(av G nC).symm;let l:=aq.upd (o:=.lst [↑cl]) nC;let S6:upd WC C (.lst [↑cl]) C\(.lst [↑cl]):=ah;change upd WC C (.lst [↑cl])=H14 at l S6 ⊢;let⟨Iq,MQ,r⟩:=st (f:="called") (v:=↑C) (l^a^Y) (λb o e n=>l^a^Ip b o e n);let MR:=jo (f:="called") (v:=↑C) SY;generalize e15:bK "called" ↑C S0=S7 at Iq MQ MR r ⊢;let K8:=r _ _ I (l^a^S);let K9:=r _ _ X (l^a^O);let MS:=r _ _ q (l^a^MN);let La:=r _ _ Il (l^a^U);let MT:=r _ _ y (l^a^MP);let Lb:=r _ _ ML (l^a^R);let M:=r _ _ K7 (l^G);let Lc:=r _ _ S5 S6;change upd H14 x (.ins A.az j S7)=WD at Iq MQ K8 K9 MS La MT Lb M Lc ⊢;rwa[⟨ahd _,λJ nN=>⟨12,x,_,j,12,aq.upd nN _ _ Iq,aJ T,T.sj,agO MR ⋯,5⟩⟩];let WG:J≠x:=(av Iq nN).symm;let kN:=n0 MQ nN WG;let nNR:J≠D:=(av K8 nN).symm;let nNW:J≠z:=(av K9 nN).symm;let nNG:J≠F:=(av La nN).symm;let nNE:J≠B:=(av Lb nN).symm;let nNC:J≠C:=(av Lc nN).symm;let nNc:J≠cl:=(av M nN).symm;let g:=aq.upd (o:=.lst []) nN;let S8:upd WD J (.lst []) J\(.lst []):=ah;change upd WD J (.lst [])=H16 at g S8 ⊢;let⟨WH,WK,m⟩:=st (f:="went") (v:=↑J) (g^Iq) (λb o e n=>g^MQ b o e n)
  let ef:bK "went" ↑J S7=fy (L:Int) 1 ⟨j,D,z,F,B,C,J,[],[wd],[gd],[cl]⟩:=by
   rw[<-e15,<-e12,<-e10,<-e7,<-e4,<-e2]
   kernel_rfl
  rw[ef]at WH WK m ⊢;rwa[k ⟨j,D,z,F,B,C,J,[],[wd],[gd],[cl]⟩ _ WK ⟨WH,m _ _ I (g^K8),m _ _ X (g^K9),m _ _ Il (g^La),m _ _ ML (g^Lb),m _ _ S5 (g^Lc),m _ _ WG S8,⟨2,(λi p d h=>by simp at h)⟩,555,(λd hd=>by ext hd),55⟩ ?_]
  ·rwa[Each.snoc (ps:=[]) (xs:=[]) ⟨2,λi p d h=>by simp at h⟩ (m _ _ q (g^MS))]
  ·rwa[Each.snoc (ps:=[]) (xs:=[]) ⟨2,λi p d h=>by simp at h⟩ (m _ _ y (g^MT))]
  ·rwa[Each.snoc (ps:=[]) (xs:=[]) ⟨2,λi p d h=>by simp at h⟩ (m _ _ K7 (g^M))]
  ·show [D,z,F,B,C,J,cl].Nodup;simp only[ahk,agW,ahx,aiR,not_or,ais,and_true,ai7]
   cbv
  ·show [wd,gd].Nodup;simp only[ahk,agW,ahx,aiR,ais,and_true,ai7];rwa[ngw.symm]
  ·intro b hb;rcases hb with rfl|hb|hb
   ·rwa[.inl rfl]
   ·simp only[RA.lists,agW,ahx,aiR]at hb
    cbv
   ·simp only[RA.eA,agS,agW,ahx,aiR]at hb
    cbv
def _root_.Lake.L2.ay.BF (h:ay a H b S O){p:Zs}(c:H p=none):¬O.own b p:=λz=>by
 let⟨o,e⟩:=h.there z
 cbv
def zx (T:Txt K mg A):T.p7.Ok mg P w base 3 (Ii A.az):=by
 rwa[T.p7.on qD (λcz AA outer s H vs Q E hr h=>?_)]
 ·let⟨r,S,a,c,z,rfl,h,hw,mU,nF,hc,hm,o6,hz,k⟩:=h
  erw[_,(ai (bH 3 qD.nd (aH (pv 0) rfl))
   (ai (b9 (pv 0) (aP cZ (pv 3) ax) rfl)
   (ai (aV (cH agQ ag0 ag2 bO (aH (pv 0) rfl) (ae (cP (ae (fA (l:=[110,101,119]) rfl) (ae (pv 1) (ae (pv 2) (ae (pv 3) aj))))) aj)))
   (ai (aV (cH agQ ag0 ag2 bO (aH (pv 0) rfl) (ae fQ aj)))
   (ai (aV (cH agQ ag0 ag2 bO (aH (pv 0) rfl) (ae (pc T.pY (ud T) hr (ae (aH (pv 0) rfl) aj)) aj)))
   (ai (aV (cH agQ ag0 ag2 bO (aH (pv 0) rfl) (ae (pv 3) aj)))
   (ai (aV (cH agQ ag0 ag2 bO (aH (pv 0) rfl) (ae (bT (ae (pv 3) aj)) aj)))
   (ai (aV (pm (pv 0) (aJ T) T.lI (qE T) hr (ae (pv 1) (ae (pv 2) (ae (pv 3) aj)))))
   (au (bx (pv 3)))))))))))]
  rwa[J9 ?_];intro WL MG BE qF nH jA fX gH;erw[12,r,_,a.dx,112,h.ins,aJ T,T.oW,sS^_];erw[12112212,r,_,a.dx,12,h.ins,aJ T,T.oW,(by show 8<1000;decide)];rw[Hc,show (S.q:Int)+ 1=((S.q+ 1:Nat):Int) by ext];let h1:=h.Og (S.q+ 1);let u1:cY a r H (upd H r (.ins A.az a.dx (fy S.L ((S.q+ 1:Nat):Int) a))):=cY.upd (.inl rfl);change upd H r (.ins A.az a.dx (fy S.L ((S.q+ 1:Nat):Int) a))=H1 at h1 u1 ⊢;let lR:⇑(a.rs.map V.ref)<sizeLine:=by rw[agH,h.rR.1];rwa[agO o6 ⋯]
  rwa[⟨12,r,_,a.dx,112,h1.ins,aJ T,T.sh,sT^_,.inl ⟨21,aD.of h1.hR⟩,121212,(Za4 4),λt ht=>⟨a.aR,1122,aq.upd ht _ _ h1.hR,lR,5⟩⟩];let s2:=aq.upd (o:=.tup [.str (tx [110,101,119]),.int c,.int z,.int S.q]) ht;let WM:upd H1 t (.tup [.str (tx [110,101,119]),.int c,.int z,.int S.q]) t\(.tup [.str (tx [110,101,119]),.int c,.int z,.int S.q]):=ah;change upd H1 t (.tup [.str (tx [110,101,119]),.int c,.int z,.int S.q])=H2 at s2 WM ⊢
  let hd2:bR H2 4 ↑t (qW c z S.q):=by
   rwa[.t WM rfl λj v d u G=>?_]
   rcases j with _|_|_|_|j
   ·simp at u G;subst u G;rwa[.s]
   ·simp at u G;subst u G;rwa[.i]
   ·simp at u G;subst u G;rwa[.i]
   ·simp at u G;subst u G;rwa[.i]
   ·simp at u
  let nl:ml (qW c z S.q):=.t (by show 4<=100000;decide) λd hd=>by
   simp only[agW,ahx,aiR]at hd;rcases hd with rfl|rfl|rfl|rfl
   ·rwa[.s]
   ·rwa[.i]
   ·rwa[.i]
   ·rwa[.i]
  let B:=(h1.same s2).Av hd2 nl;let u3:cY a r H2 (upd H2 a.aR (.lst (a.rs.map V.ref++[↑t]))):=cY.upd (.inr (.inl fZ));change upd H2 a.aR (.lst (a.rs.map V.ref++[↑t]))=H3 at B u3 ⊢;generalize O:({ a with rs:=a.rs++[t] }:RA)=m at B;let X:∀b,m.own r b->a.own r b:=λb f=>by rw[<-O]at f;rwa[f]
  let afe:∀b,a.own r b->m.own r b:=λb f=>by rw[<-O];rwa[f]
  let ewG:m.dx=a.dx:=by rw[<-O]
  let U3:cY a r H H3:=u1.trans (λb o f e=>u3 b o f (s2^e));erw[12,r,_,m.dx,112,B.ins,aJ T,T.iS,iC^_,.inl ⟨21,aD.of B.hW⟩];intro wd x;let hdW:⇑(m.ws.map V.ref)<sizeLine:=by rw[agH,B.rW.1];show ⇑S.ways<sizeLine;rw[hw.w];rwa[agO hm ⋯]
  let s4:=aq.upd (o:=.dK []) x;let J:upd H3 wd (.dK []) wd\(.dK (wK [])):=ah;let Y1:=B.BF x;erw[m.aW,1122,s4^B.hW,hdW];change upd H3 wd (.dK [])=H4 at s4 J ⊢;let D:=(B.same s4).Rf J (λz=>Y1 (.inr (.inr z)));let u5:cY m r H4 (upd H4 m.aW (.lst (m.ws.map V.ref++[↑wd]))):=cY.upd (.inr (.inl gb));change upd H4 m.aW (.lst (m.ws.map V.ref++[↑wd]))=H5 at D u5 ⊢;generalize ea5:({ m with ws:=m.ws++[wd] }:RA)=i at D
  let afn:∀b,i.own r b->m.own r b\/b=wd:=λb f=>by
   rw[<-ea5]at f;rcases f with f|f|f
   ·rwa[.inl (.inl f)]
   ·rwa[.inl (.inr (.inl f))]
   ·simp only[RA.eA,agS,agK]at f;rcases f with (f|f)|f
    ·rwa[.inl (.inr (.inr (ag6 _ f)))]
    ·rwa[.inr f]
    ·rwa[.inl (.inr (.inr (agL _ f)))]
  let Ww:H wd=none\/a.own r wd:=by
   cases y:a.own r wd
   ·rwa[.inr y]
   ·rwa[.inl ?_]
    cases e:H wd with
    |none=>rfl
    |some o=>rw[U3 wd o y e]at x;ext x
  let U5:cY a r H H5:=U3.trans λb o f e=>u5 b o (λz=>f (X b z)) (s4^e)
  rwa[⟨12,r,_,i.dx,112,D.ins,aJ T,T.si,sU^_,.inl ⟨21,aD.of D.hG⟩,12,r,_,i.dx,112,D.ins,aJ T,T.sg,vr^_,S.L,2,mU,nF,λq H6 s6 M U=>?_⟩];let hdG:⇑(i.gs.map V.ref)<sizeLine:=by rw[agH,D.rG.1];show ⇑S.gaps<sizeLine;rw[hw.g];rwa[agO hm ⋯]
  let h6:=D.same s6;let Y2:=D.BF M;erw[i.aG,1122,h6.hG,hdG];let R:=h6.Rg U (λz=>Y2 (.inr (.inr z)));let u7:cY i r H6 (upd H6 i.aG (.lst (i.gs.map V.ref++[↑q]))):=cY.upd (.inr (.inl iW));change upd H6 i.aG (.lst (i.gs.map V.ref++[↑q]))=H7 at R u7 ⊢;generalize ea7:({ i with gs:=i.gs++[q] }:RA)=g at R
  let afo:∀b,g.own r b->i.own r b\/b=q:=λb f=>by
   rw[<-ea7]at f;rcases f with f|f|f
   ·rwa[.inl (.inl f)]
   ·rwa[.inl (.inr (.inl f))]
   ·simp only[RA.eA,agS,agK]at f;rcases f with f|f|f
    ·rwa[.inl (.inr (.inr (ag6 _ f)))]
    ·rwa[.inl (.inr (.inr (agL _ f)))]
    ·rwa[.inr f]
  let w5:H wd=none\/a.own r wd:=Ww
  let Y3:∀b o,¬a.own r b->H b\o->¬i.own r b:=λb o f e z=>by
   cbv
  let U7:cY a r H H7:=λb o f e=>u7 b o (Y3 b o f e) (s6^U5 b o f e)
  let kgd:H q=none\/a.own r q:=by
   cases y:a.own r q
   ·rwa[.inr y]
   ·rwa[.inl ?_]
    cases e:H q with
    |none=>rfl
    |some o=>rw[U5 q o y e]at M;ext M
  erw[12,r,_,g.dx,112,R.ins,aJ T,T.jf,jm^_,.inl ⟨21,aD.of R.hE⟩,12,g.aE,1122,R.hE,5]
  ·rw[aI,bF];show ⇑S.aU<sizeLine;rw[hw.e];rwa[agO hm ⋯]
  let eE:ao (nI S.aU)++[V.int (S.q:Int)]=ao (nI (S.aU++[S.q])):=by rw[gn,ints_app];rfl
  show _;let I:=R.yx (S.aU++[S.q]);rw[<-eE]at I;let u8:cY g r H7 (upd H7 g.aE (.lst (ao (nI S.aU)++[V.int (S.q:Int)]))):=cY.upd (.inr (.inl gQ));change upd H7 g.aE (.lst (ao (nI S.aU)++[V.int (S.q:Int)]))=H8 at I u8 ⊢
  let F:∀b o,¬a.own r b->H b\o->¬g.own r b:=λb o f e z=>by
   cbv
  let U8:cY a r H H8:=λb o f e=>u8 b o (F b o f e) (U7 b o f e)
  rwa[⟨12,r,_,g.dx,112,I.ins,aJ T,T.mO,m3^_,.inl ⟨21,aD.of I.hC⟩,12,(Za4 1),λcl p=>⟨g.aC,1122,aq.upd p _ _ I.hC,55⟩⟩]
  ·rw[agH,I.rC.1];show ⇑S.called<sizeLine;rw[hw.c];rwa[agO hm ⋯]
  let s9:=aq.upd (o:=.lst [.int (S.q:Int)]) p;let C:upd H8 cl (.lst [.int (S.q:Int)]) cl\(.lst (ao (nI [S.q]))):=ah;let Z:=I.BF p;change upd H8 cl (.lst [.int (S.q:Int)])=H9 at s9 C ⊢;let N:=(I.same s9).Hd C (λz=>Z (.inr (.inl z)));let Y:cY g r H9 (upd H9 g.aC (.lst (g.cs.map V.ref++[↑cl]))):=cY.upd (.inr (.inl iD));change upd H9 g.aC (.lst (g.cs.map V.ref++[↑cl]))=Ej at N Y ⊢;generalize Y4:({ g with cs:=g.cs++[cl] }:RA)=n at N
  let aff:∀b,n.own r b->g.own r b\/b=cl:=λb f=>by
   rw[<-Y4]at f;rcases f with f|f|f
   ·rwa[.inl (.inl f)]
   ·let AO:b∈g.lists++[cl]:=f;rcases agS.mp AO with f|f
    ·rwa[.inl (.inr (.inl f))]
    cbv
   ·rwa[.inl (.inr (.inr f))]
  let kcl:H cl=none\/a.own r cl:=by
   cases y:a.own r cl
   ·rwa[.inr y]
   ·rwa[.inl ?_]
    cases e:H cl with
    |none=>rfl
    |some o=>rw[U8 cl o y e]at p;ext p
  let L:∀b o,¬a.own r b->H b\o->¬n.own r b:=λb o f e z=>by
   cbv
  let U10:cY a r H Ej:=λb o f e=>Y b o (F b o f e) (s9^U8 b o f e)
  let hS:ay A.az Ej r (S.grown c z (bq (2* S.L))) n:=N;rwa[⟨12,r,n.dx,12,hS.ins,cL _ _ _ ⋯,121212,r,S.grown c z (bq (2* S.L)),n,c,S.q,z,2,hS,⟨5555⟩,555,λSX u11 h11=>?_⟩]
  ·show ⇑(S.ways++[[]])=S.q+ 1;rw[agF,hw.w];rfl
  ·show ⇑(S.gaps++[_])=S.q+ 1;rw[agF,hw.g];rfl
  ·show ⇑(S.aU++[_])=S.q+ 1;rw[agF,hw.e];rfl
  ·show ⇑(S.called++[_])=S.q+ 1;rw[agF,hw.c];rfl
  ·show c<S.q+ 1;ext
  ·show S.q<S.q+ 1;ext
  ·intro l hl;rcases agS.mp hl with hl|hl
   ·rwa[hz l hl]
   cbv
  ·rwa[⟨_,rfl,k n SX (λb o f e=>u11 b o (L b o f e) (U10 b o f e)) h11 λb f=>?_⟩]
   cbv
def gf (T:Txt K mg A):T.eG.Ok mg P w base 1 (wz A.az):=by
 rwa[T.eG.on tK (λo v g s H u Q E y h=>?_)]
 ·let⟨r,S,a,rfl,h,hw,q,k⟩:=h;erw[_,(au (bx (FC (fns:=["self"]) (ixs:=[0]) (cl:=_) rfl (jj rfl T.eI (ae (aH (pv 0) rfl) aj)) (lD rfl rfl ⋯ rfl ⋯ rfl ⋯ ⋯ rfl rfl rfl rfl) (λC s H ex=>(aZ fb (bC (Ao (K:=K) rfl) (Oi (K:=K) rfl (pv 1) rfl) (pv 0) (λ_ _=>rfl)) (pv 0) (bh _))) (λC s H ex=>(pv 0)) (by intro _;rfl))))];erw[12,r,_,a.dx,112,h.ins,aJ T,T.oW,sS^_,(S.q:Int),233];rw[ahg];erw[λi m ys j=>m=S.q - i/\i<=S.q/\ys=ao (nI ((List.range i).filter λc=>decide (S.aU[c]?\c)))/\j=H,⟨S.q,by simp,ahd _,22⟩];rintro i m ys j ⟨rfl,B,rfl,rfl⟩
  let hlen:⇑(ao (nI ((List.range i).filter λc=>decide (S.aU[c]?\c))))<=i:=by
   rw[aI,bF];rwa[agT (ait _ _) (by cbv)]
  cases b:i<S.q
  ·rwa[.inr ⟨b,5,λx t f=>?_⟩]
   ·rwa[agO (agT hlen (show i<=100000 by omega)) ⋯]
   let⟨rfl,rfl⟩:=f;let l:S.aU[i]?\(S.aU[i]'([hw.e]▸b)):=agG _
   change S.aU[i]'(by cbv)=e at l;erw[12,r,_,a.dx,112,h.ins,aJ T,T.jf,jm^_,12,a.aE,11122,aD.of h.hE,([ajX]▸cD (bU (gk l)))];erw[12212];cases d:e=i
   ·subst d;rw[show decide (V.int (e:Int)=V.int (0+ (e:Int)))=true from ahh (by rw[ajX])];rwa[⟨12,S.q - (e+ 1),32,b,52⟩];rw[ahR,aj5,ajf (by cbv),List.filter_nil,gn,ints_app,ajX];rfl
   ·rw[show decide (V.int (e:Int)=V.int (0+ (i:Int)))=false from ahD (λz=>d (by injection z with z;omega))];rwa[⟨S.q - (i+ 1),32,b,52⟩];rw[ahR,aj5,aj4 (by cbv),List.filter_nil,ahe]
  ·let e:i=S.q:=∅
   subst e;rwa[.inl ⟨agJ _,agT hlen (agT q ⋯),λD n=>k D n⟩]
def o8 (T:Txt K mg A):T.kr.Ok mg P w base 5 (Ei 2 A.az):=by
 rwa[T.kr.on xV (λcz AA m s H vs Q E X h=>?_)]
 ·let⟨r,S,a,rfl,h,B,u,k⟩:=h;erw[_,(au (bx (jc (fns:=[]) (ixs:=[]) (cl:=[]) rfl (cX (aH (pv 0) rfl)) (lC ⋯ ⋯ rfl ⋯ rfl) (λC s H ex=>(pc T.own (yR T) X (ae (pv 0) aj))))))];erw[12,r,_,a.dx,112,h.ins,aJ T,T.sh,sT^_,a.aR,2,⟨_,aD.of h.hR⟩];let j:⇑(a.rs.map V.ref)=⇑S.rows:=by rw[agH,h.rR.1]
  let L:∀i,i<⇑S.rows->∃p d,a.rs[i]?\p/\S.rows[i]?\d/\d∈S.rows/\bR H 4 ↑p d:=λi f=>by
   let c:=agG f;let⟨p,o,q⟩:=h.rR.at c;rwa[p,_,o,c,agC c,q]
  rwa[m4 ⇑S.rows (λi=>(a.rs.map V.ref).getD i .non) (λb v i=>∃p d,v=↑p/\S.rows[i]?\d/\ml d/\bR b 4 ↑p d) (λH1 b v i s q0=>by let⟨p,x,e,n,hn,q⟩:=q0;rwa[p,x,e,n,hn,q.same s]) ?_ (λi b s2 f=>kH (aD.of (s2^h.hR)) i ∅) (λi x b H3 s2 f y=>?_) (λb s2=>?_) (λi b Rr f s2 kk=>?_) (λD b ys s2 N U X=>?_)]
  ·rwa[agT B ⋯]
  ·let⟨e,F⟩:=jl (aD.of (s2^h.hR)) i x H3 ∅ y;erw[e];rw[agM,F];rfl
  ·have:=ig (aD.of (K:=K) (s2^h.hR));rw[j]at this;rwa[this]
  ·let⟨p,d,o,c,g,q⟩:=L i f;let F:(a.rs.map V.ref).getD i .non=↑p:=by rw[agM,agY,o];rfl
   let q1:=(u p d g q).same s2;rw[F];rwa[⟨12,↑p,d,2,q1,h.flat d g,λv' H' s' Z=>?_⟩]
   have:∃J,v'=↑J:=by
    let I:∃R,d=.t R:=by
     cases q with
     |t=>cbv
     |l=>exact absurd (h.flat _ g) (λz=>by ext z)
    let⟨R,rfl⟩:=I
    cases Z with
    |t=>cbv
   let⟨J,rfl⟩:=this;rwa[kk _ H' s' ⟨J,d,2,c,h.flat d g,Z.le ⋯⟩]
  ·let⟨O,rfl,G⟩:=sX (P:=λi p=>∃d,S.rows[i]?\d/\bR b 4 ↑p d) ys 0 (λi v hv=>by
    cbv)
   let M:aq b (upd b D (.lst (O.map V.ref))):=aq.upd N;rw[agH]at U;rwa[k D O _ (s2.trans M) (s2.free N) ah ⟨U,λi p d e1 n=>?_⟩];let⟨d',Y,q⟩:=G i p e1;rw[ajW]at Y;obtain rfl:d'=d:=Za0 (Y.symm.trans n);rwa[q.same M]
def dg (H:Hp)(p:Zs)(a:Ze):Prop:=∃b:Zn,H p\.lst (b.map V.ref)/\Each (λq (w:Way)=>H q\.tup [.int (w.1:Int),.int w.2.1,.int (w.2.2:Int)]) b a
def qc (a:RA)(r p:Zs)(H c:Hp):Prop:=∀b o,¬a.own r b->b≠p->H b\o->c b\o
def dg.keep {c:Ze}(h:dg H a c)(k:∀o,H a\o->I a\o)(f:∀b d,H b\.tup d->I b\.tup d):dg I a c:=by
 let⟨g,j,i⟩:=h;rwa[g,k _ j,i.imp λq w _ _ e=>f^e]
structure Small (S:RS):Prop where
 m:S.q<=100000
 w:∀l∈S.ways,⇑l<=100000
 r:⇑S.rows<=1000000
 n:⇑S.aY<=1000000
 c:∀l∈S.called,⇑l<=1000000
inductive BG (C:Zs) (vs:Zb) (H:Hp) (Q:VK) (E_:XK):Prop
 |mk (r p:Zs) (S:RS) (a:RA) (c:Nat) (pend:Ze):vs=[↑r,.int c,↑p]->ay C H r S a->S.Wf->c<S.q->Fv S c->(∀l∈S.ways,⇑l<=100000)->dg H p pend->¬a.own r p->⇑pend<=1000000->(∀a' H',qc a r p H H'->ay C H' r (S.oE c pend).1 a'->dg H' p (S.oE c pend).2->(∀b,a'.own r b->a.own r b\/H b=none)->Q .non H')->BG C vs H Q E_
inductive Ek (C:Zs) (vs:Zb) (H:Hp) (Q:VK) (E_:XK):Prop
 |mk (r p:Zs) (S:RS) (a:RA) (c x y:Nat) (z:Int) (pend:Ze):vs=[↑r,.int c,.int z,.int x,.int y,↑p]->ay C H r S a->S.Wf->x<S.q->y<S.q->x≠y->Fv S (max x y)->(∀n∈S.cj (max x y),n<S.q)->Small S->dg H p pend->¬a.own r p->⇑pend<=1000000->(∀a' H',qc a r p H H'->ay C H' r (S.meet c z x y pend).1 a'->dg H' p (S.meet c z x y pend).2->(∀b,a'.own r b->a.own r b\/H b=none)->Q .non H')->Ek C vs H Q E_
structure wC (S:RS):Prop where
 wf:S.Wf
 el:∀c,c<S.q->S.aw c<S.q
 bl:∀c z d,S.by c z=some d->d<S.q
 cl:∀c,∀n∈S.cj c,n<S.q
 off:∀c,c<S.q->Fv S c
 sm:Small S
inductive BH (C:Zs) (vs:Zb) (H:Hp) (Q:VK) (E_:XK):Prop
 |mk (r t p:Zs) (S:RS) (a:RA) (w:Way) (pend:Ze):vs=[↑r,↑t,↑p]->ay C H r S a->H t\.tup [.int (w.1:Int),.int w.2.1,.int (w.2.2:Int)]->wC S->w.1<S.q->w.2.2<S.q->dg H p pend->¬a.own r p->⇑pend<=1000000->(∀a' H',qc a r p H H'->ay C H' r (S.takeIn pend w).1 a'->dg H' p (S.takeIn pend w).2->(∀b,a'.own r b->a.own r b\/H b=none)->Q .non H')->BH C vs H Q E_
inductive MV (C:Zs) (vs:Zb) (H:Hp) (Q:VK) (E_:XK):Prop
 |mk (r q:Zs) (S:RS) (a:RA) (c d:Nat) (z:Int) (row:Dt) (I:RS->Ze->Prop) (μ:RS->Ze->Nat):vs=[↑r,.int c,.int z,.int d,↑q]->ay C H r S a->⇑S.rows<=1000000->bR H 2 ↑q row->ml row->I { S with rows:=S.rows++[row] } [(c,z,d)]->(∀S pend w,I S (pend++[w])->wC S/\w.1<S.q/\w.2.2<S.q/\⇑pend<=1000000/\I (S.takeIn pend w).1 (S.takeIn pend w).2/\μ (S.takeIn pend w).1 (S.takeIn pend w).2 < μ S (pend++[w]))->(∀S' a' H',cY a r H H'->ay C H' r S' a'->I S' []->(∀b,a'.own r b->a.own r b\/H b=none)->Q .non H')->MV C vs H Q E_
def pe (h:i<n):qP n (i:Int)\i:=by
 unfold qP;rw[ag8 ∅,ag8 ∅,ahg]
def Ld {l:List (Int×Nat)}(a:(l.map (·.1)).Nodup){q:Int×Nat}(h:q∈l):fx l q.1\q.2:=by
 induction l with
 |nil=>ext h
 |cons p l b=>
  unfold fx;rw[ahW,ahk]at a;cases e:p.1=q.1
  ·cbv
  ·rw[ajn (by simpa using e)];rcases agW.mp h with rfl|h
   ·rwa[absurd rfl e]
   ·rwa[b a.2 h]
def uS (T:Txt K mg A):T.lb.Ok mg P w base 1 (BG A.az):=by
 rwa[T.lb.on gT (λcz AA outer s H vs Q E hr h=>?_)]
 ·let⟨r,p,S,a,c,d,rfl,h,hw,hc,ok,sm,hP,np,oJ,k⟩:=h;let qG:=hV hr
  erw[_,(ai (bH 3 gT.nd (bC bu (aH (pv 0) rfl) (pv 1) (λ_ _=>rfl)))
   (ai (jE fQ (oh (aH (pv 0) rfl) (pv 1) set_list))
   (au (cK ag9 rfl (cX (fE (jM rfl) rfl T.iR ah4 (ae (pv 3) aj))) (dz 4 gT.nd)
    (ai (bH 5 gT.nd (sP qG (pv 3) (pv 4) (λ_ _=>rfl)))
    (ai (bP (bJ (aZ lB (pv 5) (pv 1) (bh _))
     (au (aV (JV (bC bu (aH (pv 0) rfl) (pv 5) (λ_ _=>rfl)) (e8 dE (pv 4)) ⟨2222⟩)))
     bj))
    (au (aV (cH agQ ag0 ag2 bO (pv 2) (ae (cP (ae (pv 1) (ae (pv 4) (ae (pv 5) aj)))) aj))))))))))]
  rwa[fS ?_];intro fX gH;let U:c<⇑S.ways:=by rw[hw.w];rwa[hc]
  let⟨wd,u,WN⟩:=h.rW.at (oY U);let WO:⇑(S.way c)<=100000:=BD sm;erw[12,r,_,a.dx,112,h.ins,aJ T,T.iS,iC^_,12,a.aW,11122,aD.of h.hW,dF u];intro F D;let s1:=aq.upd (o:=.dK []) D;let R:upd H F (.dK []) F\(.dK (wK [])):=ah;let nn:=h.BF D;let nnp:F≠p:=λz=>by let⟨J,q1,_⟩:=hP;cbv
  change upd H F (.dK [])=H1 at s1 R ⊢;let h1:=h.same s1;let hi:c<⇑a.ws:=by rw[h.rW.1];rwa[U]
  erw[12,r,_,a.dx,112,h1.ins,aJ T,T.iS,iC^_,12,a.aW,11,c,22,h1.hW,pe ([agH]▸hi)];let h2:=h1.Ri hi R (λz=>nn (.inr (.inr z)));let u2:∀b o,b≠a.aW->H1 b\o->upd H1 a.aW (.lst ((a.ws.map V.ref).set c ↑F)) b\o:=λb o v e=>by rw[ak v];rwa[e]
  change upd H1 a.aW (.lst ((a.ws.map V.ref).set c ↑F))=H2 at h2 u2 ⊢;let npW:p≠a.aW:=λz=>np (.inr (.inl ([z]▸gb)))
  let wdW:wd≠a.aW:=(h.ld gb (dw (agC u))).symm;let N:H2 wd\(.dK (wK (S.way c))):=u2 _ _ wdW (s1^WN);generalize El:({ a with ws:=a.ws.set c F }:RA)=a2 at h2;let WQ:ay A.az H2 r (cV c S d []).1 a2:=h2
  let Y5:¬a2.own r wd:=λz=>by
   rw[<-El]at z;rcases z with z|z|z
   ·rwa[(h.rd (dw (agC u))) z.symm]
   ·rwa[h.ld z (dw (agC u)) rfl]
   ·let WR:=ahz.mp h.mn;let z':wd∈a.ws.set c F++a.gs:=z;rcases agS.mp z' with z|z
    ·let⟨j,M⟩:=ahs z;cases e:c=j
     ·subst e;rw[ahA hi]at M;have:F=wd:=Za0 M;rw[this,WN]at D;ext D
     ·rw[ah2 e]at M;rwa[e ((akf hi WR.1).mp (u.trans M.symm))]
    ·rwa[WR.2.2 wd (agC u) wd z rfl]
  let L:∀b,a2.own r b->a.own r b\/H b=none:=λb f=>by
   rw[<-El]at f;rcases f with f|f|f
   ·rwa[.inl (.inl f)]
   ·rwa[.inl (.inr (.inl f))]
   ·let AO:b∈a.ws.set c F++a.gs:=f;rcases agS.mp AO with f|f
    ·rcases aiV f with f|rfl
     ·rwa[.inl (.inr (.inr (ag6 _ f)))]
     ·rwa[.inr D]
    ·rwa[.inl (.inr (.inr (agL _ f)))]
  let wD:¬a2.own r p:=λz=>by
   rcases L p z with q|q
   ·rwa[np q]
   ·let⟨J,q1,_⟩:=hP;cbv
  let DW:dg H2 p (cV c S d []).2:=hP.keep (λo e=>u2 _ _ npW (s1^e)) (λb X e=>u2 _ _ (h.tl e gb) (s1^e));let B2:qc a r p H H2:=λb o v _ e=>u2 _ _ (λz=>v (.inr (.inl ([z]▸gb)))) (s1^e)
  rwa[⟨12,wd,12,N,λl nl=>?_⟩];let s3:=aq.upd (o:=.lst ((wK (S.way c)).map λB=>kV B.1)) nl;let Y:upd H2 l (.lst ((wK (S.way c)).map λB=>kV B.1)) l\(.lst ((wK (S.way c)).map λB=>kV B.1)):=ah;let Em:=WQ.BF nl;let WT:l≠p:=λz=>by let⟨J,q1,_⟩:=DW;cbv
  let nlw:l≠wd:=λz=>by cbv
  let nlH:H l=none\/a.own r l:=by
   cases ho:a.own r l
   ·rwa[.inr ho]
   ·rwa[.inl ?_]
    cases e:H l with
    |none=>rfl
    |some o=>rw[B2 l o ho WT e]at nl;ext nl
  change upd H2 l (.lst ((wK (S.way c)).map λB=>kV B.1))=H3 at s3 Y ⊢;erw[l,2,⟨_,aD.of Y⟩];let hlen:⇑((wK (S.way c)).map λB=>kV B.1)=⇑(S.way c):=by rw[agH,As]
  rwa[eP (xs:=(wK (S.way c)).map λB=>kV B.1) (λi σ I=>∃v4 v5,σ=#v[↑r,.int (c:Int),↑p,↑wd,v4,v5]/\ay A.az I r (cV c S d ((S.way c).take i)).1 a2/\dg I p (cV c S d ((S.way c).take i)).2/\(∀b o,¬a2.own r b->b≠p->H3 b\o->I b\o)) ⟨none,none,2,WQ.same s3,DW.keep (λo e=>s3^e) (λb X e=>s3^e),λb o _ _ e=>e⟩ (λi σ I _ q0=>by let⟨_,_,_,_,_,Z⟩:=q0;rwa[aD.of (Z _ _ Em WT Y)]) ?_ ?_]
  ·rintro i x σ I hx ⟨v4,v5,rfl,O,y,Z⟩;let G:i<⇑(S.way c):=by rw[<-hlen];rwa[(agE.mp hx).1]
   let hg:(S.way c)[i]?\((S.way c)[i]'G):=agG G
   change (S.way c)[i]'G=w at hg
   let ex:x=.int w.1:=by
    unfold wK at hx;rw[agY,agY,hg]at hx;rwa[(Za0 hx).symm]
   subst ex;let hm:=agC hg;let Ir:(S.way c).take (i+ 1)=(S.way c).take i++[w]:=by rw[aiD,hg];rfl
   let Y6:I wd\(.dK (wK (S.way c))):=Z _ _ Y5 (λz=>by let⟨J,q1,_⟩:=DW;cbv) (s3^N);let hv:bB (wK (S.way c)) (Sum.inl w.1)\(.int (w.2:Int)):=by rw[kI,Ld ok.nd hm];rfl
   let ou:=ok.lt w hm;let RL:=(gM c S d ((S.way c).take i)).1;erw[1212,wd,12,(by have:=eQ.k (k:=Sum.inl w.1) Y6;rw[hv]at this;rwa[this])];erw[λ fm H'=>fm=#v[↑r,.int (c:Int),↑p,↑wd,.int w.1,.int (w.2:Int)]/\ay A.az H' r (cV c S d ((S.way c).take (i+ 1))).1 a2/\dg H' p (cV c S d ((S.way c).take i)).2/\(∀b o,¬a2.own r b->b≠p->H3 b\o->H' b\o),5]
   ·rwa[⟨1212212,bW (λtV=>?_) (λtV=>?_)⟩]
    ·let n:w.2≠c:=λz=>by cbv
     let hd2:w.2<(cV c S d ((S.way c).take i)).1.ways.length:=by rw[RL,hw.w];rwa[ou]
     let⟨pd,C,WU⟩:=O.rW.at (oY hd2)
     let Rj:((cV c S d ((S.way c).take i)).1.by w.2 (-w.1)).isSome=true:=by
      rw[xB U _ (λq hq=>[hw.w]▸ok.lt q (List.mem_of_mem_take hq)),ag3]
      ·rwa[ok.bk w hm n]
      ·rintro (q|⟨q,hq,q1,q2⟩)
       ·rwa[n q]
       ·let⟨j,M⟩:=ahs hq
        let hji:j<i:=by
         have:=(agE.mp M).1;rw[ahm]at this;ext
        rw[ajT hji]at M;let e1:((S.way c).map (·.1))[j]?\q.1:=by rw[agY,M];rfl
        let e2:((S.way c).map (·.1))[i]?\w.1:=by rw[agY,hg];rfl
        let e3:q.1=w.1:=∅
        rw[e3]at e1;have:=(akf ([agH]▸G) ok.nd).mp (e2.trans e1.symm);ext
     let⟨m,MX⟩:=ajS.mp Rj;erw[12,r,_,a2.dx,112,O.ins,aJ T,T.iS,iC^_,12,a2.aW,11122,aD.of O.hW,dF C,pd,2,.inl ⟨_,.inl WU⟩,12121,Sum.inl (-w.1),.int (m:Int),WU,25]
     ·rw[kI];show ((cV c S d ((S.way c).take i)).1.by w.2 (-w.1)).map _=_;rw[MX];rfl
     ·rw[Oj];rwa[⟨25,y.keep (λo e=>?_) (λb X e=>?_),λb o v g e=>?_⟩]
      ·rw[Ir,ik];unfold jq;simp only[n,akc,ai7,ne_eq];rwa[O.Aw C _]
      ·rw[ak (λz=>wD (.inr (.inr (dw ([z]▸agC C)))))];rwa[e]
      ·rw[ak (O.td e (dw (agC C)))];rwa[e]
      ·rw[ak (λz=>v (.inr (.inr (dw ([z]▸agC C)))))];rwa[Z b o v g e]
    ·let n:w.2=c:=by
      cases e:w.2=c
      ·rwa[e]
      ·cbv
     rwa[⟨25,y,Z⟩];rw[Ir,ik];unfold jq
     cbv
   rintro fm H5 ⟨rfl,h5,hP5,kk5⟩;let⟨J,Iu,BI⟩:=hP5
   let BJ:⇑(J.map V.ref)<sizeLine:=by
    rw[agH,BI.1,yy,agF,agH,ahm];rwa[agO (show _<=1100000 by omega) ⋯]
   rwa[⟨12,.inl ⟨21,aD.of Iu⟩,121212,(Za4 3),λt nt=>?_⟩];let s6:=aq.upd (o:=.tup [.int (c:Int),.int w.1,.int (w.2:Int)]) nt;let WV:upd H5 t (.tup [.int (c:Int),.int w.1,.int (w.2:Int)]) t\(.tup [.int (c:Int),.int w.1,.int (w.2:Int)]):=ah;change upd H5 t (.tup [.int (c:Int),.int w.1,.int (w.2:Int)])=H6 at s6 WV ⊢;erw[p,1122,s6^Iu,BJ];let kp:∀b o,b≠p->H6 b\o->upd H6 p (.lst (J.map V.ref++[↑t])) b\o:=λb o v e=>by rw[ak v];rwa[e]
   let S9:∀b X,H6 b\.tup X->upd H6 p (.lst (J.map V.ref++[↑t])) b\(.tup X):=λb X e=>kp _ _ (bY e (s6^Iu) (by cbv)) e
   rwa[⟨112,(h5.same s6).keep (λb o f e=>kp b o (λz=>wD (z ▸ f)) e) S9,⟨J++[t],55⟩,λb o v g e=>kp b o g (s6^kk5 b o v g e)⟩]
   ·rw[ah,ahi];rfl
   ·rw[Ir,ik];rwa[(BI.imp λq w' _ _ e=>S9^s6^e).snoc (S9^WV)]
  ·rintro σ I ⟨v4,v5,rfl,O,y,Z⟩;rw[hlen,ail]at O y;rwa[k a2 I (λb o v g e=>?_) O y L];let e2:=B2 b o v g e;rwa[Z b o (λz=>by cbv) g (s3^e2)]
def wF (h:n<⇑S.called):S.called[n]?\(S.cj n):=by unfold RS.cj;cbv
def pf (h:n<⇑S.aU):S.aU[n]?\(S.aw n):=by unfold RS.aw;cbv
def Iv (h:∀l∈S.called,⇑l<=m):⇑(S.cj n)<=m:=by
 unfold RS.cj;rw[agM]
 cases e:S.called[n]? with
 |none=>exact ahd _
 |some l=>exact h l (agC e)
theorem uT (x:Nat):∀(l a:Zh),⇑(l.foldl (λa n=>a.set n x) a)=⇑a
 |[],_=>rfl
 |n::l,a=>by rw[List.foldl_cons,uT x l,ahb]
def ints_set (ns:Zg)(i:Nat)(z:Int):(ao ns).set i (.int z)=ao (ns.set i z):=by
 unfold ao;rw[List.map_set]
def jB (T:Txt K mg A):T.fL.Ok mg P w base 2 (Ek A.az):=by
 rwa[T.fL.on dW (λcz AA outer s H vs Q E hr h=>?_)]
 ·let⟨r,p,S,a,c,x,y,z,f,rfl,h,hw,hx,hy,hxy,ok,kJ,sm,hP,np,oJ,k⟩:=h
  erw[_,(ai (bH 6 dW.nd (bz (Gx rfl) rfl T.MB PyProof.Rows.boot_min (ae (pv 3) (ae (pv 4) aj))))
   (ai (bH 7 dW.nd (bz (Gw rfl) rfl T.VG PyProof.Rows.boot_max (ae (pv 3) (ae (pv 4) aj))))
   (ai (aV (cH agQ ag0 ag2 bO (aH (pv 0) rfl) (ae (cP (ae (fA (l:=[109,101,101,116]) rfl) (ae (pv 1) (ae (pv 2) (ae (pv 6) (ae (pv 7) aj)))))) aj)))
   (ai (aV (cH agQ ag0 ag2 bO (aH (pv 0) rfl) (ae (pv 7) aj)))
   (ai (cK ag9 rfl (cX (bC bu (aH (pv 0) rfl) (pv 7) (λ_ _=>rfl))) (dz 8 dW.nd)
    (au (jE (pv 6) (oh (aH (pv 0) rfl) (pv 8) set_list))))
   (ai (aV (cH agQ PySem.F.slot_list_extend PySem.F.type_list_extend yn (bC bu (aH (pv 0) rfl) (pv 6) (λ_ _=>rfl)) (ae (bC bu (aH (pv 0) rfl) (pv 7) (λ_ _=>rfl)) aj)))
   (au (aV (pm (pv 0) (aJ T) T.lb (uS T) hr (ae (pv 7) (ae (pv 5) aj)))))))))))]
  rwa[pM ?_];intro BE qF nH jA fX gH;let C:(if (y:Int)<(x:Int) then (y:Int) else (x:Int))=((min x y:Nat):Int):=by split <;> ext
  let F:(if (y:Int) > (x:Int) then (y:Int) else (x:Int))=((max x y:Nat):Int):=by split <;> ext
  let WW:min x y<max x y:=∅
  let I:max x y<S.q:=∅
  generalize ev:min x y=u at C WW;let ek:∀a' O,qc a r p H O->ay A.az O r ((S.joined c z u (max x y)).oE (max x y) f).1 a'->dg O p ((S.joined c z u (max x y)).oE (max x y) f).2->(∀b,a'.own r b->a.own r b\/H b=none)->Q .non O:=λa' O h1 N M g=>k a' O h1 (by unfold RS.meet;rw[ev];rwa[N]) (by unfold RS.meet;rw[ev];rwa[M]) g
  clear k;change max x y=v at F WW I ok kJ ek;erw[1212112];rw[C];erw[1212112];rw[F];let lR:⇑(a.rs.map V.ref)<sizeLine:=by rw[agH,h.rR.1];rwa[agO sm.r ⋯]
  rwa[⟨12,r,_,a.dx,112,h.ins,aJ T,T.sh,sT^_,.inl ⟨21,aD.of h.hR⟩,12121212,(Za4 5),λt nt=>⟨a.aR,1122,aq.upd nt _ _ h.hR,lR,5⟩⟩];let s1:=aq.upd (o:=.tup [.str (tx [109,101,101,116]),.int (c:Int),.int z,.int (u:Int),.int (v:Int)]) nt;let WX:upd H t (.tup [.str (tx [109,101,101,116]),.int (c:Int),.int z,.int (u:Int),.int (v:Int)]) t\(.tup [.str (tx [109,101,101,116]),.int (c:Int),.int z,.int (u:Int),.int (v:Int)]):=ah;change upd H t (.tup [.str (tx [109,101,101,116]),.int (c:Int),.int z,.int (u:Int),.int (v:Int)])=H1 at s1 WX ⊢
  let G5:bR H1 4 ↑t (hH c z u v):=by
   rwa[.t WX rfl λj w d C F=>?_]
   rcases j with _|_|_|_|_|j
   ·simp at C F;subst C F;rwa[.s]
   ·simp at C F;subst C F;rwa[.i]
   ·simp at C F;subst C F;rwa[.i]
   ·simp at C F;subst C F;rwa[.i]
   ·simp at C F;subst C F;rwa[.i]
   ·simp at C
  let nl:ml (hH c z u v):=.t (by show 5<=100000;decide) λd hd=>by
   simp only[agW,ahx,aiR]at hd;rcases hd with rfl|rfl|rfl|rfl|rfl
   ·rwa[.s]
   ·rwa[.i]
   ·rwa[.i]
   ·rwa[.i]
   ·rwa[.i]
  let N:=(h.same s1).Av G5 nl;let B2:qc a r p H (upd H1 a.aR (.lst (a.rs.map V.ref++[↑t]))):=λb o D _ e=>by rw[ak (λz=>D (.inr (.inl ([z]▸fZ))))];rwa[s1^e]
  let npl:∀{b},b∈a.lists->p≠b:=λhb z=>np (.inr (.inl ([z]▸hb)))
  let P2:dg (upd H1 a.aR (.lst (a.rs.map V.ref++[↑t]))) p f:=hP.keep (λo e=>[ak (npl fZ)]▸s1^e) (λb xs e=>[ak (h.tl e fZ)]▸s1^e);change upd H1 a.aR (.lst (a.rs.map V.ref++[↑t]))=H2 at N B2 P2 ⊢;generalize El:({ a with rs:=a.rs++[t] }:RA)=a2 at N;let Y:∀b,a2.own r b↔a.own r b:=λb=>by rw[<-El];rwa[Iff.rfl]
  let wD:¬a2.own r p:=λz=>np ((Y p).mp z)
  let G:∀{b},b∈a2.lists->p≠b:=λhb z=>wD (.inr (.inl ([z]▸hb)))
  let lN:⇑(ao (nI S.aY))<sizeLine:=by rw[aI,bF];rwa[agO sm.n ⋯]
  erw[12,r,_,a2.dx,112,N.ins,aJ T,T.sj,sV^_,.inl ⟨21,aD.of N.hN⟩,12,a2.aN,1122,N.hN,lN];let eN:ao (nI S.aY)++[V.int (v:Int)]=ao (nI (S.aY++[v])):=by rw[gn,ints_app];rfl
  let M:=N.Oh (S.aY++[v]);rw[<-eN]at M;let B3:qc a r p H (upd H2 a2.aN (.lst (ao (nI S.aY)++[V.int (v:Int)]))):=λb o D B e=>by rw[ak (λz=>D ((Y b).mp (.inr (.inl ([z]▸hX)))))];rwa[B2 b o D B e]
  let P3:dg (upd H2 a2.aN (.lst (ao (nI S.aY)++[V.int (v:Int)]))) p f:=P2.keep (λo e=>[ak (G hX)]▸e) (λb xs e=>[ak (N.tl e hX)]▸e);show _;change upd H2 a2.aN (.lst (ao (nI S.aY)++[V.int (v:Int)]))=H3 at M B3 P3 ⊢;let⟨pv,J,hPV⟩:=M.rC.at (show S.called[v]?=some (S.cj v) from wF ([hw.c]▸I));let mpv:=agC J;erw[12,r,_,a2.dx,112,M.ins,aJ T,T.mO,m3^_,12,a2.aC,11122,aD.of M.hC,dF J,pv,2,⟨_,aD.of hPV⟩];obtain⟨-,-,-,-,-,nc⟩:=vt M.iK;let npE:pv≠a2.aE:=(nc pv mpv).2.2.2.1;rwa[eP (xs:=ao (nI (S.cj v))) (λi σ L=>∃v8,σ=#v[↑r,.int (c:Int),.int z,.int (x:Int),.int (y:Int),↑p,.int (u:Int),.int (v:Int),v8]/\ay A.az L r { S with rows:=S.rows++[hH c z u v],aY:=S.aY++[v],aU:=((S.cj v).take i).foldl (λU n=>U.set n u) S.aU } a2/\qc a r p H L/\dg L p f) ⟨none,2,M,B3,P3⟩ (λi σ L _ ⟨11,g,11⟩=>aD.of (g.rC.2 v pv _ J (show S.called[v]?=some (S.cj v) from wF ([hw.c]▸I)))) ?_ ?_]
  ·rintro i w σ L WY ⟨v8,rfl,g,B4,P4⟩;let⟨m,rfl,Z⟩:=cI WY;unfold nI at Z;rw[agY]at Z
   cases hn:(S.cj v)[i]? with
   |none=>rw[hn]at Z;ext Z
   |some n=>
    rw[hn]at Z;obtain rfl:(n:Int)=m:=Za0 Z;let Iw:=kJ n (agC hn);let DP:⇑(((S.cj v).take i).foldl (λU n=>U.set n u) S.aU)=S.q:=by rw[uT,hw.e]
    erw[1212,r,_,a2.dx,112,g.ins,aJ T,T.jf,jm^_,12,a2.aE,11,n,22,g.hE,pe ([aI,bF,DP]▸Iw)];rw[ints_set,Q9];let h5:=g.yx ((((S.cj v).take i).foldl (λU n=>U.set n u) S.aU).set n u);rwa[⟨125,λb o D B e=>?_,P4.keep (λo e=>?_) (λb xs e=>?_)⟩]
    ·let Ir:(S.cj v).take (i+ 1)=(S.cj v).take i++[n]:=by rw[aiD,hn];rfl
     rw[Ir,aiH];rwa[h5]
    ·rw[ak (λz=>D ((Y b).mp (.inr (.inl ([z]▸gQ)))))];rwa[B4 b o D B e]
    ·rw[ak (G gQ)];rwa[e]
    ·rw[ak (g.tl e gQ)];rwa[e]
  ·rintro σ L ⟨v8,rfl,g,B4,P4⟩;rw[aI,bF,ail]at g;let hul:u<⇑S.called:=by rw[hw.c];ext
   let RJ:v<⇑S.called:=by rw[hw.c];rwa[I]
   let⟨pu,X,WZ⟩:=g.rC.at (show S.called[u]?=some (S.cj u) from wF hul);let Y7:=g.rC.2 v pv _ J (show S.called[v]?=some (S.cj v) from wF RJ);let b1:⇑(S.cj u)<=1000000:=Iv sm.c;let b2:⇑(S.cj v)<=1000000:=Iv sm.c;erw[12,r,_,a2.dx,112,g.ins,aJ T,T.mO,m3^_,12,a2.aC,11122,aD.of g.hC,dF X,.inl ⟨21,aD.of WZ⟩];erw[12,r,_,a2.dx,112,g.ins,aJ T,T.mO,m3^_,12,a2.aC,11122,aD.of g.hC,dF J,pu,pv,1122,WZ,Y7,5]
   ·rw[aI,aI,bF,bF];rwa[agT (show _<=2000000 by omega) ⋯]
   let eC:ao (nI (S.cj u))++ao (nI (S.cj v))=ao (nI (S.cj u++S.cj v)):=by rw[gn,ints_app]
   rw[eC];let h5:=g.He X (S.cj u++S.cj v);let R:=gq (agC X);let B5:qc a r p H (upd L pu (.lst (ao (nI (S.cj u++S.cj v))))):=λb o D B e=>by rw[ak (λz=>D ((Y b).mp (.inr (.inl ([z]▸R)))))];rwa[B4 b o D B e]
   let P5:dg (upd L pu (.lst (ao (nI (S.cj u++S.cj v))))) p f:=P4.keep (λo e=>[ak (G R)]▸e) (λb xs e=>[ak (g.tl e R)]▸e);change upd L pu (.lst (ao (nI (S.cj u++S.cj v))))=H5 at h5 B5 P5 ⊢;let W6:ay A.az H5 r (S.joined c z u v) a2:=h5;rwa[⟨12,r,a2.dx,12,W6.ins,cL _ _ _ ⋯,1212,r,p,S.joined c z u v,a2,v,f,2,W6,⟨hw.w,hw.g,55⟩,I,⟨ok.nd,ok.lt,ok.bk⟩,sm.w,P5,wD,oJ,λa' O b' r' p' o'=>ek a' O (λb o D B e=>b' b o (λz=>D ((Y b).mp z)) B (B5 b o D B e)) r' p' (λb hb=>?_)⟩]
   ·show ⇑((S.cj v).foldl (λU n=>U.set n u) S.aU)=S.q;rw[uT];rwa[hw.e]
   ·show ⇑(S.called.set u (S.cj u++S.cj v))=S.q;rw[ahb];rwa[hw.c]
   ·rcases o' b hb with q|q
    ·rwa[.inl ((Y b).mp q)]
    ·cases ho:a.own r b
     ·rwa[.inl ho]
     ·rwa[.inr ?_]
      cases e:H b with
      |none=>rfl
      |some o=>
       cases hbp:b=p
       ·let⟨qs,q1,_⟩:=P5
        cbv
       ·rw[B5 b o ho hbp e]at q;ext q
def uU (T:Txt K mg A):T.k8.Ok mg P w base 3 (BH A.az):=by
 rwa[T.k8.on dO (λcz AA O s H vs Q E L h=>?_)]
 ·let⟨r,t,p,S,a,w,i,rfl,h,ht,ok,G,y,hP,M,x,k⟩:=h;let B:=hV L
  erw[_,(ai (bH 3 dO.nd (bC bu (aH (pv 0) rfl) (bC gj (pv 1) ax (λ_ _=>rfl)) (λ_ _=>rfl)))
   (ai (bH 4 dO.nd (bC gj (pv 1) ax (λ_ _=>rfl)))
   (ai (bH 5 dO.nd (bC bu (aH (pv 0) rfl) (bC gj (pv 1) ax (λ_ _=>rfl)) (λ_ _=>rfl)))
   (ai (bH 6 dO.nd (l0 B (bC bu (aH (pv 0) rfl) (pv 3) (λ_ _=>rfl)) (pv 4) (pv 5) ⟨2222⟩))
   (ai (bH 7 dO.nd (l0 B (bC bu (aH (pv 0) rfl) (pv 5) (λ_ _=>rfl)) (e8 dE (pv 4)) (pv 3) ⟨2222⟩))
   (au (bP (bJ (aZ lB (pv 6) (pv 5) (bh _))
    (au (aV (pm (pv 0) (aJ T) T.fL (jB T) L (ae (pv 3) (ae (pv 4) (ae (pv 6) (ae (pv 5) (ae (pv 2) aj))))))))
    (au (bP (bJ (aZ lB (pv 7) (pv 3) (bh _))
     (au (aV (pm (pv 0) (aJ T) T.fL (jB T) L (ae (pv 5) (ae (e8 dE (pv 4)) (ae (pv 7) (ae (pv 3) (ae (pv 2) aj))))))))
     (au (aV (pm (pv 0) (aJ T) T.lI (qE T) L (ae (pv 3) (ae (pv 4) (ae (pv 5) aj)))))))))))))))))]
  rwa[pL ?_];intro qF nH jA fX gH;let R:bN K H t [.int (w.1:Int),.int w.2.1,.int (w.2.2:Int)]:=bN.of ht;let C:∀{c:Nat},c<S.q->S.aU[c]?\(S.aw c):=λ{c} j=>pf ([ok.wf.e]▸j)
  let j:=ok.el _ G;let u:=ok.el _ y;erw[12,r,_,a.dx,112,h.ins,aJ T,T.jf,jm^_,12,t,11122,R,(rfl:iQ _ (0:Int)=_),a.aE,11122,aD.of h.hE,cD (bU (gk (C G)))];erw[12,t,11122,R,(rfl:iQ _ (1:Int)=_)];erw[12,r,_,a.dx,112,h.ins,aJ T,T.jf,jm^_,12,t,11122,R,(rfl:iQ _ (2:Int)=_),a.aE,11122,aD.of h.hE,cD (bU (gk (C y)))];let g:=k;clear k;unfold RS.takeIn at g;change S.aw w.1=c at j g ⊢;change S.aw w.2.2=d at u g ⊢;change w.2.1=z at g ⊢;let⟨pc,X,I⟩:=h.rW.at (oY (S:=S) (c:=c) ([ok.wf.w]▸j));let⟨pd,hpd,F⟩:=h.rW.at (oY (S:=S) (c:=d) ([ok.wf.w]▸u));let gd:∀(o:Zi) (n:Nat),(o.map λr:Nat=>V.int (r:Int)).getD (.int (n:Int))=V.int ((o.getD n:Nat):Int):=λo n=>by cases o <;> rfl
  erw[12,r,_,a.dx,112,h.ins,aJ T,T.iS,iC^_,12,a.aW,11122,aD.of h.hW,dF X,pc,2,.inl ⟨_,.inl I⟩,12121,eQ.k (k:=Sum.inl z) I];rw[kI,gd];show _;erw[12,r,_,a.dx,112,h.ins,aJ T,T.iS,iC^_,12,a.aW,11122,aD.of h.hW,dF hpd,pd,2,.inl ⟨_,.inl F⟩,1212121,eQ.k (k:=Sum.inl (-z)) F];rw[kI,gd];let e1:fx (S.way c) z=S.by c z:=rfl;let e2:fx (S.way d) (-z)=S.by d (-z):=rfl;rw[e1,e2]
  let hl:(S.by c z).getD d<S.q:=by
   cases e:S.by c z with
   |none=>exact u
   |some m=>exact ok.bl _ _ _ e
  let hf:(S.by d (-z)).getD c<S.q:=by
   cases e:S.by d (-z) with
   |none=>exact j
   |some m=>exact ok.bl _ _ _ e
  change (S.by c z).getD d=l at hl g ⊢;change (S.by d (-z)).getD c=f at hf g ⊢
  let ne:∀{m n:Nat},m≠n->(!decide (V.int (m:Int)=V.int (n:Int)))=true:=λ{m n} q=>by
   cbv
  rwa[⟨λ_ J=>Q .non J,5,λ_ _ q=>q⟩];cases D:l≠d
  ·rw[ag8 D]at g;erw[1212212];rw[ne D];rwa[jI ?_];rwa[12,r,a.dx,12,h.ins,cL _ _ _ ⋯,1212121212,r,p,S,a,c,l,d,z,i,2,h,ok.wf,hl,u,D,ok.off _ ∅,λn Z=>ok.cl _ n Z,ok.sm,hP,M,x,g]
  ·let Y:l=d:=ajG.mp D;rw[ag3 D]at g;rwa[⟨1212212,ki (by rw[Y]) ?_⟩];rwa[⟨λ_ J=>Q .non J,5,λ_ _ q=>q⟩];cases v:f≠c
   ·rw[ag8 v]at g;erw[1212212];rw[ne v];rwa[jI ?_];rwa[12,r,a.dx,12,h.ins,cL _ _ _ ⋯,121212121212,r,p,S,a,d,f,c,-z,i,2,h,ok.wf,hf,j,v,ok.off _ ∅,λn Z=>ok.cl _ n Z,ok.sm,hP,M,x,g]
   ·let U:f=c:=ajG.mp v;rw[ag3 v]at g;rwa[⟨1212212,ki (by rw[U]) ?_⟩];rwa[⟨12,r,a.dx,12,h.ins,cL _ _ _ ⋯,121212,r,S,a,c,d,z,2,h,ok.wf,j,u,ok.sm.w,λJ N r'=>g a J (λb o nb _ e=>N b o nb e) r' (hP.keep (λo e=>N _ _ M e) (λb xs e=>N _ _ (h.sW e) e)) λb hb=>.inl hb⟩]
def BK (T:Txt K mg A):T.r6.Ok mg P w base 5 (MV A.az):=by
 rwa[T.r6.on sr (λcz AA outer s H vs Q E hr h=>?_)]
 ·let⟨r,q,S,a,c,d,z,row,I,μ,rfl,h,o6,hq,v,hI,step,k⟩:=h
  erw[_,(ai (aV (cH agQ ag0 ag2 bO (aH (pv 0) rfl) (ae (pc T.own (yR T) hr (ae (pv 4) aj)) aj)))
   (ai (bH 5 sr.nd (bT (ae (cP (ae (pv 1) (ae (pv 2) (ae (pv 3) aj)))) aj)))
   (au (bP (eM ag9 (zP (pv 5) (λ_=>rfl))
    (au (aV (pm (pv 0) (aJ T) T.k8 (uU T) hr (ae (GH agQ PySem.F.slot_list_pop PySem.F.type_list_pop GJ (pv 5)) (ae (pv 5) aj))))))))))]
  rwa[fS ?_];intro fX gH;let lR:⇑(a.rs.map V.ref)<sizeLine:=by rw[agH,h.rR.1];rwa[agO o6 ⋯]
  obtain⟨ds,rfl⟩:∃ds,row=.t ds:=by
   cases hq with
   |t=>cbv
   |l=>ext v
  rwa[⟨12,r,_,a.dx,112,h.ins,aJ T,T.sh,sT^_,.inl ⟨21,aD.of h.hR⟩,12,↑q,.t ds,2,hq,v,λv' H1 s1 W7=>?_⟩];obtain⟨Z,rfl⟩:∃Z,v'=↑Z:=by cases W7 with|t=>cbv
  erw[a.aR,1122,s1^h.hR,lR];let h2:=(h.same s1).Av (W7.le ⋯) v;let B2:cY a r H (upd H1 a.aR (.lst (a.rs.map V.ref++[↑Z]))):=λb o n e=>by rw[ak (λz=>n (.inr (.inl ([z]▸fZ))))];rwa[s1^e]
  change upd H1 a.aR (.lst (a.rs.map V.ref++[↑Z]))=H2 at h2 B2 ⊢;generalize El:({ a with rs:=a.rs++[Z] }:RA)=a2 at h2;let eo:∀b,a2.own r b↔a.own r b:=λb=>by rw[<-El];rwa[Iff.rfl]
  rwa[⟨121212,(Za4 3),λt nt=>?_⟩];let s3:=aq.upd (o:=.tup [.int (c:Int),.int z,.int (d:Int)]) nt;let W8:upd H2 t (.tup [.int (c:Int),.int z,.int (d:Int)]) t\(.tup [.int (c:Int),.int z,.int (d:Int)]):=ah;change upd H2 t (.tup [.int (c:Int),.int z,.int (d:Int)])=H3 at s3 W8 ⊢;rwa[⟨(Za4 1),λp W9=>?_⟩];let s4:=aq.upd (o:=.lst [↑t]) W9;let Y:upd H3 p (.lst [↑t]) p\(.lst [↑t]):=ah;let U:¬a2.own r p:=(h2.same s3).BF W9;change upd H3 p (.lst [↑t])=H4 at s4 Y ⊢
  let npH:H p=none:=by
   cases e:H p with
   |none=>rfl
   |some o=>have:=s3^(B2 p o (λz=>U ((eo p).mpr z)) e);cbv
  let B4:cY a r H H4:=λb o n e=>s4^s3^B2 b o n e
  let P4:dg H4 p [(c,z,d)]:=⟨[t],Y,Each.snoc (ps:=[]) (xs:=[]) ⟨2,λi p d h=>by simp at h⟩ (s4^W8)⟩;rwa[⟨λ_ R=>Q .non R,5,λ_ _ q=>q⟩];erw[λm σ j=>∃B G pend,m=μ B pend/\σ=#v[↑r,.int (c:Int),.int z,.int (d:Int),↑q,↑p]/\ay A.az j r B G/\dg j p pend/\I B pend/\¬G.own r p/\(∀b o,¬a.own r b->b≠p->H b\o->j b\o)/\∀b,G.own r b->a.own r b\/H b=none,⟨11,a2,[(c,z,d)],22,(h2.same s3).same s4,P4,hI,U,λb o n _ e=>B4 b o n e,λb F=>.inl ((eo b).mp F)⟩];rintro m σ j ⟨B,G,pend,rfl,rfl,h5,P5,I5,M,B5,O5⟩;let⟨O,y,x⟩:=id P5;erw[12,!(O.map V.ref).isEmpty,.inl ⟨_,aD.of y,2⟩];cases D:pend=[]
  ·subst D;let eq0:O=[]:=ah7 x.1;subst eq0;rwa[dY ?_];rwa[k B G j (λb o n e=>B5 b o n (λz=>by cbv) e) h5 I5 O5]
  ·let J:=aiB D;change pend.getLast D=w at J;change pend.dropLast=pre at J;subst J;let L:⇑O=⇑pre+ 1:=by rw[x.1,agF];rfl
   let Xa:O≠[]:=λz=>by rw[z]at L;ext L
   let u:=aiB Xa;change O.getLast Xa=C at u;change O.dropLast=f at u;subst u;let oJ:⇑f=⇑pre:=by rw[agF]at L;have:⇑([C]:Zn)=1:=rfl;ext
   let⟨ok,hw1,Xb,F,hI2,MY⟩:=step B pre w I5;let htq:j C\(.tup [.int (w.1:Int),.int w.2.1,.int (w.2.2:Int)]):=x.2 ⇑pre C w (by rw[<-oJ,agR (agJ _),aiE];rfl) (by cbv);let ht:(!((f++[C]).map V.ref).isEmpty)=true:=by simp
   rw[ht];rwa[jI ?_];erw[λ fm R=>∃X a6 g,μ X g < μ B (pre++[w])/\fm=#v[↑r,.int (c:Int),.int z,.int (d:Int),↑q,↑p]/\ay A.az R r X a6/\dg R p g/\I X g/\¬a6.own r p/\(∀b o,¬a.own r b->b≠p->H b\o->R b\o)/\∀b,a6.own r b->a.own r b\/H b=none,λ fm R ζ=>by let⟨X,a6,g,lt,e1,e2,e3,e4,e5,e6,e7⟩:=ζ;rwa[⟨_,lt,X,a6,g,2,e1,e2,e3,e4,e5,e6,e7⟩]];erw[12,r,G.dx,12,h5.ins,cL _ _ _ ⋯,12,.inl ⟨21,aD.of y⟩,p,_,↑C,22,y,5]
   ·rw[ahi,agF];show ((f.map V.ref)++[V.ref C])[⇑(f.map V.ref)+ 1 - 1]?=_
    rw[Nat.add_sub_cancel,agR (agJ _),aiE];rfl
   let Ta:((f++[C]).map V.ref).dropLast=f.map V.ref:=by rw[ahi];rwa[List.dropLast_concat]
   rw[Ta];let kp:∀b o,b≠p->j b\o->upd j p (.lst (f.map V.ref)) b\o:=λb o n e=>by rw[ak n];rwa[e]
   let kt:∀b xs,j b\.tup xs->upd j p (.lst (f.map V.ref)) b\(.tup xs):=λb xs e=>kp b _ (bY e y (by cbv)) e
   let h6:=h5.keep (λb o F e=>kp b o (λz=>M (z ▸ F)) e) kt;let P6:dg (upd j p (.lst (f.map V.ref))) p pre:=⟨f,ah,oJ,λi t' w' e1 e2=>kt^(x.2 i t' w' ([agN (agE.mp e1).1]▸e1) ([agN (agE.mp e2).1]▸e2))⟩;change upd j p (.lst (f.map V.ref))=H6 at kp kt h6 P6 ⊢;rwa[⟨12,r,C,p,B,G,w,pre,2,h6,kt^htq,ok,hw1,Xb,P6,M,F,λa7 H7 b7 h7 P7 o7=>?_⟩];rwa[⟨_,a7,_,MY,2,h7,P7,hI2,λz=>?_,λb o n N e=>b7 b o (λz=>?_) N (kp b o N (B5 b o n N e)),λb F=>?_⟩]
   ·rcases o7 p z with q1|q1
    ·rwa[M q1]
    ·let⟨_,q2,_⟩:=P6;cbv
   ·cbv
   ·rcases o7 b F with q1|q1
    ·rwa[O5 b q1]
    ·cases ho:a.own r b
     ·rwa[.inl ho]
     ·rwa[.inr ?_]
      cases e:H b with
      |none=>rfl
      |some o=>
       cbv
def Ph {a:Type}{ws:List a}{z:a}(h:ws[i]?\z):ws.drop i=z::ws.drop (i+ 1):=by
 let b:=(agE.mp h).1;rw[ajK b,(agE.mp h).2]
inductive BL (C:Zs) (vs:Zb) (H:Hp) (Q:VK) (E_:XK):Prop
 |mk (r:Zs) (S:RS) (a:RA) (c:Nat) (t:Zs) (ws:Zg):vs=[↑r,.int c,↑t]->ay C H r S a->S.Wf->c<S.q->(∀c z d,S.by c z=some d->d<S.q)->H t\.tup (ao ws)->⇑ws<=1000->(∀l H',aq H H'->H' l\.lst (ao (nI (c::cq S.by c ws)))->Q ↑l H')->BL C vs H Q E_
def yS (T:Txt K mg A):T.walked.Ok P w base 2 (BL A.az):=by
 rwa[T.walked.on nB (λcz AA F s H vs Q E hr h=>?_)]
 ·let⟨r,S,a,c,t,ws,rfl,h,hw,hc,D,N,X,k⟩:=h
  refine⟨_,(ai (bH 3 nB.nd (bT (ae (pv 1) aj)))
   (ai (cK ag9 rfl (zN (pv 2)) (dz 4 nB.nd)
    (ai (bH 1 nB.nd (pm (pv 0) (aJ T) T.iu (hO T) hr (ae (pv 1) (ae (pv 4) aj))))
    (ai (bJ (aZ vi (pv 1) du (bh _))
     (au uq)
     bj)
    (au (aV (cH agQ ag0 ag2 bO (pv 3) (ae (pv 1) aj)))))))
   (au (bx (pv 3))))),?_⟩
  rwa[fS ?_];intro fX Y;rwa[⟨12,(Za4 1),λl C=>?_⟩];let y:=aq.upd (o:=.lst [.int (c:Int)]) C;let p:upd H l (.lst [.int (c:Int)]) l\(.lst (ao (nI [c]))):=ah;let L:¬a.own r l:=h.BF C;change upd H l (.lst [.int (c:Int)])=R at y p ⊢;let v:=y^N;let G:t≠l:=av N C;erw[12,t,2,⟨_,bN.of v⟩]
  let fin:∀{f:Hp} {pre:Zh},(∀b o,b≠l->R b\o->f b\o)->f l\.lst (ao (nI (c::pre)))->cq S.by c ws=pre->Q ↑l f:=λ{f pre} g d e=>by
   subst e;rwa[k l f (λb o e=>g b o (av e C) (y^e)) d]
  rwa[Dm (xs:=ao ws) (λi B f=>∃cur:Nat,∃pre J,B=#v[↑r,.int (cur:Int),↑t,↑l,J]/\cur<S.q/\⇑pre=i/\cq S.by c ws=pre++cq S.by cur (ws.drop i)/\(∀b o,b≠l->R b\o->f b\o)/\f l\.lst (ao (nI (c::pre)))) ⟨c,[],none,2,hc,22,λ_ _ _ e=>e,p⟩ (λi B f _ U=>by let⟨_,_,_,_,_,_,_,g,_⟩:=U;rwa[bN.of (g _ _ G v)]) ?_ ?_]
  ·rintro i x B f hx ⟨cur,pre,J,rfl,u,m,j,g,d⟩;let⟨z,rfl,O⟩:=cI hx;let hi:i<⇑ws:=(agE.mp O).1;let M:ay A.az f r S a:=(h.same y).keep (λb o Z e=>g b o (λq=>L (q ▸ Z)) e) (λb xs e=>g b _ (bY e p (by cbv)) e);rw[Ph O]at j;erw[12,r,a.dx,12,M.ins,cL _ _ _ ⋯,1212,r,S,a,cur,z,2,M,by rw[hw.w];ext]
   cases I:S.by cur z with
   |none=>
    rwa[⟨12212,jI ?_⟩];rw[yG I,ahe]at j;rwa[12,fin g d j]
   |some b=>
    rw[show (Option.map (λn:Nat=>V.int (n:Int)) (some b)).getD V.non=V.int (b:Int) from rfl];rwa[⟨12212,dY ?_⟩];rw[m7 I]at j;erw[12,.inl ⟨21,aD.of d⟩,12,l,1122,d,5]
    ·rw[aI,bF,aha,m];rwa[agO (show i+ 1<=1001 by omega) ⋯]
    erw[b,pre++[b],12,D _ _ _ I,by rw[agF,m];rfl,by rw[j,ahy];rfl,λx o n e=>[ak n]▸g x o n e];rw[ah,<-aiO,gn,ints_app];rfl
  ·rintro B f ⟨cur,pre,J,rfl,u,m,j,g,d⟩;rw[aI,List.drop_length]at j;rwa[12,fin g d ([j]▸ahe _)]
def gI (g:Gg)(a:Zs):List (Str×V):=[("which",.int g.which),("word",↑a),("start",.int g.start),("front",.int g.front),("first",.int g.first),("rear",.int g.bp),("last",.int g.last)]
def Le (g:Gg)(a:Zs):(gI g a).lookup ("which":Str)\(.int g.which):=by kernel_rfl
def j9 (g:Gg)(a:Zs):(gI g a).lookup ("word":Str)\↑a:=by kernel_rfl
def uV (g:Gg)(a:Zs):(gI g a).lookup ("start":Str)\(.int g.start):=by kernel_rfl
def kb (g:Gg)(a:Zs):(gI g a).lookup ("front":Str)\(.int g.front):=by kernel_rfl
def gU (g:Gg)(a:Zs):(gI g a).lookup ("first":Str)\(.int g.first):=by kernel_rfl
def kc (g:Gg)(a:Zs):(gI g a).lookup ("rear":Str)\(.int g.bp):=by kernel_rfl
def kg (g:Gg)(a:Zs):(gI g a).lookup ("last":Str)\(.int g.last):=by kernel_rfl
def MZ {g:Gg}(h:x∉(["which","word","start","front","first","rear","last"]:Zp)):(gI g a).lookup x=none:=by
 simp only[agW,ahx,aiR,not_or]at h;let⟨e,c,j,d,i,b,f⟩:=h;unfold gI;simp only[List.lookup,agZ.mpr e,agZ.mpr c,agZ.mpr j,agZ.mpr d,agZ.mpr i,agZ.mpr b,agZ.mpr f]
def BM (g:Gg)(a:Zs)(n:Nat):bK "front" (.int n) (gI g a)=gI { g with front:=n } a:=by kernel_rfl
def Lf (g:Gg)(a:Zs)(n:Nat):bK "first" (.int n) (gI g a)=gI { g with first:=n } a:=by kernel_rfl
def Eo (g:Gg)(a:Zs)(n:Nat):bK "rear" (.int n) (gI g a)=gI { g with bp:=n } a:=by kernel_rfl
def Pj (g:Gg)(a:Zs)(n:Nat):bK "last" (.int n) (gI g a)=gI { g with last:=n } a:=by kernel_rfl
structure dS (CG:Zs) (H:Hp) (p dx wa:Zs) (g:Gg):Prop where
 ins:H p\(.ins CG dx (gI g wa))
 wo:H wa\(.tup (ao g.word))
def dS.same {dx:Zs}{g:Gg}(h:dS a H b dx c g)(s:aq H I):dS a I b dx c g:=⟨s^h.ins,s^h.wo⟩
def dS.set {dx:Zs}{g g':Gg}(h:dS a H b dx c g)(e:g'.word=g.word):dS a (upd H b (.ins a dx (gI g' c))) b dx c g':=⟨ah,[ak (bY h.wo h.ins (by cbv)),e]▸h.wo⟩
def iL (a:List (Zg×Nat)):List (Zd×V):=a.map λp=>(p.1.map Sum.inl,V.int p.2)
structure xW (rs:Za3) (fp:List (Zg×Nat)):Prop where
 a:∀p∈fp,rs[p.2]?\p.1
 b:∀w∈rs,∃n,(w,n)∈fp
 n:(fp.map (·.1)).Nodup
def BO {c:List (Zg×Nat)}(w:Zg):bB (iL c) (w.map Sum.inl)=((c.find? λp=>decide (p.1=w)).map λp=>V.int p.2):=by
 induction c with
 |nil=>rfl
 |cons p l d=>
  cases h:p.1=w
  ·rw[List.find?_cons_of_pos (by cbv)];rwa[cU (p:=(p.1.map Sum.inl,V.int p.2)) (by rw[h])]
  ·rw[ajn (by simpa using h)];rwa[(cO (p:=(p.1.map Sum.inl,V.int p.2)) (λz=>h ?_)).trans d]
   let inj:∀{a b:Zg},a.map (Sum.inl:Int->Key)=b.map Sum.inl->a=b:=λ{a b} e=>by
    induction a generalizing b with
    |nil=>cases b with|nil=>rfl|cons=>ext e
    |cons x a d=>cases b with
     |nil=>ext e
     |cons y b=>cbv
   rwa[inj z]
def Lg:Sp:=λc H Q _=>∃(l:Zs) (rs:Za3),c=[↑l]/\b8 H l rs/\⇑rs<=1000/\∀d b a,aq H a->H d=none->a d\.dT (iL b)->xW rs b->Q ↑d a
def wG (T:Txt K mg A):T.mH.Ok P w base 1 Lg:=by
 rwa[T.mH.on hY (λcz AA X s H vs Q E hr h=>?_) (len:=by rintro _ _ _ _ ⟨l,rs,rfl,_⟩;rfl)]
 ·let⟨l,rs,rfl,hW,hl,k⟩:=h;let O:=hV hr
  erw[_,(ai (bH 1 hY.nd JR)
   (ai (cK ag9 rfl (uA rfl T.ku (pv 0)) (kz rfl (cF (dz 2 hY.nd) (cF (dz 3 hY.nd) ji)))
    (au (aV (Kd O (pv 1) (pv 3) (pv 2) ⟨2222⟩))))
   (au (bx (pv 1)))))]
  rwa[fS ?_];intro fX gH;let⟨C,y,x⟩:=id hW;rwa[λd J=>?_]
  let s1:=aq.upd (o:=.dT []) J;let q1:upd H d (.dT []) d\(.dT (iL [])):=ah;change upd H d (.dT [])=H1 at s1 q1 ⊢;let ndl:l≠d:=av y J;erw[12,l,2,⟨_,aD.of (s1^y)⟩]
  refine qV (K:=K) (a:=l) (xs:=C.map V.ref) (λi L B=>∃c v2 N,L=#v[↑l,↑d,v2,N]/\aq H B/\B d\.dT (iL c)/\(∀p∈c,rs[p.2]?\p.1/\p.2<i)/\(∀(j:Nat) (w:Zg),j<i->rs[j]?\w->∃n,(w,n)∈c)/\(c.map (·.1)).Nodup/\⇑c<=i)
   ⟨[],none,none,2,s1,q1,(λp f=>by ext f),λj w D=>absurd D ∅,ais,agJ _⟩ (λi L B _ q0=>by let⟨_,_,_,_,s2,_⟩:=q0;rwa[aD.of (s2^y)]) ?_ ?_
  ·rintro i v L B t hi nt ⟨c,v2,N,rfl,s2,M,F,R,hn,hlen⟩
   let g:i<⇑C:=by
    have:=(agE.mp hi).1;rw[agH]at this;rwa[this]
   let r:i<⇑rs:=by rw[<-x.1];rwa[g]
   let Z:C[i]?\(C[i]'g):=agG g
   let S:rs[i]?\(rs[i]'r):=agG r
   rw[agY,Z]at hi;obtain rfl:V.ref (C[i]'g)=v:=Za0 hi;change C[i]'g=q at Z;change rs[i]'r=w at S;let I:=aq.upd (o:=.tup [.int (i:Int),↑q]) nt;erw[t,12,bN.of ah,21121122];change upd B t (.tup [.int (i:Int),↑q])=H3 at I ⊢;let m:=I^M;let hq:H3 q\(.tup ((w.map (Sum.inl:Int->Key)).map kV)):=by rw[ahw];rwa[(s2.trans I) _ _ (x.2 i q w Z S)]
   rwa[⟨12,d,2,.inr ⟨_,.inl m⟩,1212,iL c,w.map Sum.inl,q,m,2,hq,5,λv G=>?_,λG=>?_⟩]
   ·unfold iL;rw[agH];rwa[agO (show ⇑c<=1000 by omega) ⋯]
   ·rw[BO]at G;let⟨p,f,rfl⟩:=ahU.mp G;let e:p.1=w:=by let h9:=List.find?_some f;simpa using h9
    let hm:=List.mem_of_find?_eq_some f;rwa[⟨c,112,s2.trans I,m,λp f=>⟨(F p f).1,by have:=(F p f).2;ext⟩,λj u D eu=>?_,hn,3⟩];cases U:j<i
    ·rwa[R j u U eu]
    ·cbv
   ·rw[BO]at G
    let hno:∀p∈c,p.1≠w:=λp f e=>by
     have:=List.find?_eq_none.mp (aj9.mp G) p f
     cbv
    let ep:putK (iL c) (w.map Sum.inl) (V.int (i:Int))=iL (c++[(w,i)]):=by
     rw[Ag _ ([BO]▸G)];unfold iL;rw[ahi];rfl
    rw[ep];let Y:H d=none:=J;rwa[⟨c++[(w,i)],112,λb o e=>[ak (av e Y)]▸(s2.trans I) _ _ e,ah,λp f=>?_,λj u D eu=>?_,5,by rw[agF];show _+ 1<=_;ext⟩]
    ·rcases agS.mp f with z|z
     ·rwa[⟨(F p z).1,by have:=(F p z).2;ext⟩]
     ·rw[agK.mp z];rwa[S,by show i<i+ 1;ext]
    ·cbv
    cbv
  ·rintro L B ⟨c,v2,N,rfl,s2,M,F,R,hn,hlen⟩;rwa[⟨12,k d c B s2 J M ⟨λp f=>(F p f).1,λw hw=>?_,hn⟩⟩];let⟨j,D⟩:=ahs hw;rwa[R j w ([agH,x.1]▸(agE.mp D).1) D]
def yT (a:Nat)(word:Zg)(start:Nat):Gg:=⟨a,word,start,start,(0),start,⇑word - 1⟩
inductive Iy (CG:Zs) (vs:Zb) (H:Hp) (Q:VK) (E_:XK):Prop
 |mk (x dx wa:Zs) (which start:Nat) (word:Zg):vs=[↑x,.int which,↑wa,.int start]->H x\.ins CG dx []->H wa\.tup (ao word)->1<=⇑word->⇑word<=1000->(∀H',(∀b o,H b\o->b≠x->H' b\o)->dS CG H' x dx wa (yT which word start)->Q .non H')->Iy CG vs H Q E_
def M0 (a start:Nat)(b:Zs)(l:Int):List (Str×V):=[("which",.int a)]
def M3 (a start:Nat)(b:Zs)(l:Int):List (Str×V):=[("which",.int a),("word",↑b)]
def M4 (a start:Nat)(b:Zs)(l:Int):List (Str×V):=[("which",.int a),("word",↑b),("start",.int start)]
def M5 (a start:Nat)(b:Zs)(l:Int):List (Str×V):=[("which",.int a),("word",↑b),("start",.int start),("front",.int start)]
def M6 (a start:Nat)(b:Zs)(l:Int):List (Str×V):=[("which",.int a),("word",↑b),("start",.int start),("front",.int start),("first",.int 0)]
def M7 (a start:Nat)(b:Zs)(l:Int):List (Str×V):=[("which",.int a),("word",↑b),("start",.int start),("front",.int start),("first",.int 0),("rear",.int start)]
def Tc (a start:Nat)(b:Zs)(l:Int):List (Str×V):=[("which",.int a),("word",↑b),("start",.int start),("front",.int start),("first",.int 0),("rear",.int start),("last",.int l)]
def gy2 (a start:Nat)(b:Zs)(l:Int):bK "word" ↑b (M0 a start b l)=M3 a start b l:=dH (by kernel_rfl)
def gy3 (a start:Nat)(b:Zs)(l:Int):bK "start" (.int start) (M3 a start b l)=M4 a start b l:=dH (by kernel_rfl)
def gy4 (a start:Nat)(b:Zs)(l:Int):bK "front" (.int start) (M4 a start b l)=M5 a start b l:=dH (by kernel_rfl)
def gy5 (a start:Nat)(b:Zs)(l:Int):bK "first" (.int 0) (M5 a start b l)=M6 a start b l:=dH (by kernel_rfl)
def gy6 (a start:Nat)(b:Zs)(l:Int):bK "rear" (.int start) (M6 a start b l)=M7 a start b l:=dH (by kernel_rfl)
def gy7 (a start:Nat)(b:Zs)(l:Int):bK "last" (.int l) (M7 a start b l)=Tc a start b l:=dH (by kernel_rfl)
def tM (T:Txt K mg A):T.gB.Ok mg P w base 1 (Iy A.aK):=by
 rwa[T.gB.on tH (λU AA m s H vs Q E hr h=>?_)]
 ·let⟨x,c,d,a,start,word,rfl,r,f,yU,O,k⟩:=h
  refine⟨_,(ai (b9 (pv 0) (pv 1) rfl)
   (ai (b9 (pv 0) (pv 2) rfl)
   (ai (b9 (pv 0) (pv 3) rfl)
   (ai (b9 (pv 0) (pv 3) rfl)
   (ai (b9 (pv 0) ax rfl)
   (ai (b9 (pv 0) (pv 3) rfl)
   (au (b9 (pv 0) (aP jF (bz bf rfl T.cR ahl (ae (pv 2) aj)) ax) rfl)))))))),?_⟩
  rwa[pM ?_];intro S qF Y X fX L;let st:∀{H0:Hp} {fs gs:List (Str×V)},H0 x\.ins A.aK c fs->(∀b o,H b\o->b≠x->H0 b\o)->upd H0 x (.ins A.aK c gs) x\.ins A.aK c gs/\∀b o,H b\o->b≠x->upd H0 x (.ins A.aK c gs) b\o:=λ_ h=>⟨ah,λb o e n=>[ak n]▸h b o e n⟩
  let g:d≠x:=bY f r f!"";let o0:∀b o,H b\o->b≠x->H b\o:=λb o e _=>e
  erw[1212,x,_,c,12,r,aT T,T.Bm,(by show 0<1000;decide)];rw[show bK "which" (.int a) []=M0 a start d (((⇑word - 1:Nat):Int)) from rfl];let⟨v,D⟩:=st (gs:=M0 a start d (((⇑word - 1:Nat):Int))) r o0;change upd H x (.ins A.aK c (M0 a start d (((⇑word - 1:Nat):Int))))=Z at v D ⊢;erw[1212,x,_,c,12,v,aT T,T.jy,(by show 1<1000;decide)];rw[gy2];let⟨q,C⟩:=st (gs:=M3 a start d (((⇑word - 1:Nat):Int))) v D;change upd Z x (.ins A.aK c (M3 a start d (((⇑word - 1:Nat):Int))))=H2 at q C ⊢;erw[1212,x,_,c,12,q,aT T,T.p8,(by show 2<1000;decide)];rw[gy3];let⟨l,F⟩:=st (gs:=M4 a start d (((⇑word - 1:Nat):Int))) q C;change upd H2 x (.ins A.aK c (M4 a start d (((⇑word - 1:Nat):Int))))=M at l F ⊢;erw[1212,x,_,c,12,l,aT T,T.gS,(by show 3<1000;decide)];rw[gy4];let⟨j,G⟩:=st (gs:=M5 a start d (((⇑word - 1:Nat):Int))) l F;change upd M x (.ins A.aK c (M5 a start d (((⇑word - 1:Nat):Int))))=R at j G ⊢;erw[12,x,_,c,12,j,aT T,T.eY,(by show 4<1000;decide)];rw[gy5];let⟨t,B⟩:=st (gs:=M6 a start d (((⇑word - 1:Nat):Int))) j G;change upd R x (.ins A.aK c (M6 a start d (((⇑word - 1:Nat):Int))))=N at t B ⊢;erw[1212,x,_,c,12,t,aT T,T.hM,(by show 5<1000;decide)];rw[gy6];let⟨u,i⟩:=st (gs:=M7 a start d (((⇑word - 1:Nat):Int))) t B;change upd N x (.ins A.aK c (M7 a start d (((⇑word - 1:Nat):Int))))=I at u i ⊢;erw[12,d,12,.inr (bN.of (i _ _ f g)),112212,x,_,c,12,u,aT T,T.iH,(by show 6<1000;decide)];rw[show V.int ((⇑(ao word):Int) - 1)=V.int (((⇑word - 1:Nat):Int)) by show V.int ((⇑(ao word):Int) - 1)=_;rw[aI];congr 1;ext];rw[gy7];let⟨y,p⟩:=st (gs:=Tc a start d (((⇑word - 1:Nat):Int))) u i;change upd I x (.ins A.aK c (Tc a start d (((⇑word - 1:Nat):Int))))=J at y p ⊢;rwa[k J p ⟨y,p _ _ f g⟩]
structure sv (S:RS) (g g':Gg):Prop where
 wh:g'.which=g.which
 wo:g'.word=g.word
 st:g'.start=g.start
 gi:GI S g'
 ef:S.aw g'.front=g'.front
 er:S.aw g'.bp=g'.bp
 k1:S.aw g.front=g.front->S.by g.front g.z1=none->g'.front=g.front/\g'.first=g.first
 k2:S.aw g.bp=g.bp->S.by g.bp g.z2=none->g'.bp=g.bp/\g'.last=g.last
def sv.fwd {g g1:Gg}(h:sv S g g1)(i:Good S [] R)(a:g1.first<g1.last){c:Nat}(hc:S.by g1.front g1.z1=some c):sv S g { g1 with front:=c,first:=g1.first+ 1 }:=by
 let⟨_,b,_,e⟩:=i.st _ _ _ hc;let ll:=h.gi.ll;let hz:=Gg.qm (g:=g1) ∅;rwa[⟨h.wh,h.wo,h.st,⟨a,ll,h.gi.s,b,h.gi.r,5,h.gi.wr⟩,e,h.er,λf d=>?_,h.k2⟩]
 ·have:=h.gi.wf;rw[h.ef]at this;show wk S.by _ (g1.word.take (g1.first+ 1))=some (S.aw c);rw[take_snoc hz,rq this,Hl hc,e]
 ·let⟨j,k⟩:=h.k1 f d;unfold Gg.z1 at hc d;rw[j,k,h.wo,d]at hc;ext hc
def sv.bwd {g g1:Gg}(h:sv S g g1)(d:Good S [] R)(f:g1.first<g1.last){c:Nat}(hc:S.by g1.bp g1.z2=some c):sv S g { g1 with bp:=c,last:=g1.last - 1 }:=by
 let⟨_,a,_,e⟩:=d.st _ _ _ hc;let ll:=h.gi.ll;let hz:=Gg.at2 (g:=g1) ll;rwa[⟨h.wh,h.wo,h.st,⟨by show g1.first<=g1.last - 1;ext,by show g1.last - 1<⇑g1.word;ext,h.gi.s,h.gi.f,a,h.gi.wf,5⟩,h.ef,e,h.k1,λi b=>?_⟩]
 ·have:=h.gi.wr;rw[h.er]at this;show wk S.by (S.aw c) (g1.word.drop (g1.last - 1+ 1))=some (S.aw g1.start);rw[show g1.last - 1+ 1=g1.last by ext,drop_cons hz,e,jv (d.sy _ _ _ hc)];ext
 ·let⟨j,k⟩:=h.k2 i b;unfold Gg.z2 at hc b;rw[j,k,h.wo,b]at hc;ext hc
inductive M8 (CR CG:Zs) (vs:Zb) (H:Hp) (Q:VK) (E_:XK):Prop
 |mk (p dx wa r:Zs) (g:Gg) (S:RS) (a:RA) (R:Za2):vs=[↑p,↑r]->dS CG H p dx wa g->ay CR H r S a->Good S [] R->GI S g->¬a.own r p->⇑g.word<=1000->(∀g' H',(∀b o,b≠p->H b\o->H' b\o)->dS CG H' p dx wa g'->V7 S g g'->Q .non H')->M8 CR CG vs H Q E_
def uW (T:Txt K mg A):T.kY.Ok mg P w base 2 (M8 A.az A.aK):=by
 rwa[T.kY.on jg (λcz AA outer s H vs Q E X h=>?_)]
 ·let⟨p,d,t,r,g,S,a,R,rfl,O,hR,C,y,Y,G,k⟩:=h
  refine⟨_,(ai (b9 (pv 0) (pm (pv 1) (aJ T) T.hJ (iI T) X (ae (aH (pv 0) rfl) aj)) rfl)
   (ai (b9 (pv 0) (pm (pv 1) (aJ T) T.hJ (iI T) X (ae (aH (pv 0) rfl) aj)) rfl)
   (ai (bP (eM ag9 (aZ m2 (aH (pv 0) rfl) (aH (pv 0) rfl) (bh _))
    (ai (bH 2 jg.nd (pm (pv 1) (aJ T) T.iu (hO T) X (ae (aH (pv 0) rfl) (ae (bC gj (aH (pv 0) rfl) (aH (pv 0) rfl) (λ_ _=>rfl)) aj))))
    (ai (bJ (aZ vi (pv 2) du (bh _))
     (au uq)
     bj)
    (ai (b9 (pv 0) (pv 2) rfl)
    (au (b9 (pv 0) (aP cZ (aH (pv 0) rfl) ax) rfl)))))))
   (au (bP (eM ag9 (aZ m2 (aH (pv 0) rfl) (aH (pv 0) rfl) (bh _))
    (ai (bH 2 jg.nd (pm (pv 1) (aJ T) T.iu (hO T) X (ae (aH (pv 0) rfl) (ae (e8 dE (bC gj (aH (pv 0) rfl) (aH (pv 0) rfl) (λ_ _=>rfl))) aj))))
    (ai (bJ (aZ vi (pv 2) du (bh _))
     (au uq)
     bj)
    (ai (b9 (pv 0) (pv 2) rfl)
    (au (b9 (pv 0) (aP jF (aH (pv 0) rfl) ax) rfl))))))))))),?_⟩
  rwa[gR ?_];intro jA fX gH;let eo:∀{c:Nat},c<S.q->S.aU[c]?\(S.aw c):=λ{c} hc=>pf ([C.wf.e]▸hc)
  let kp:∀{F:Hp},(∀b o,b≠p->H b\o->F b\o)->ay A.az F r S a:=λ{F} f=>hR.keep (λb o hb e=>f b o (λz=>Y (z ▸ hb)) e) (λb xs e=>f b _ (bY e O.ins f!"") e)
  let up:∀{F:Hp} {o2:HO},(∀b o,b≠p->H b\o->F b\o)->∀b o,b≠p->H b\o->upd F p o2 b\o:=λf b o n e=>by rw[ak n];rwa[f b o n e]
  erw[12,r,a.dx,12,hR.ins,cL _ _ _ ⋯,12,p,_,d,112,O.ins,aT T,T.gS,kb _ _,r,S,a,g.front,S.aw g.front,2,hR,eo y.f,12,p,_,d,12,O.ins,aT T,T.gS,(by show 7<1000;decide)];rw[BM];let U:=O.set (g':={ g with front:=S.aw g.front }) rfl;let Z:=up (o2:=.ins A.aK d (gI { g with front:=S.aw g.front } t)) (λb o _ e=>e);change upd H p (.ins A.aK d (gI { g with front:=S.aw g.front } t))=H1 at U Z ⊢;let R1:=kp Z;erw[12,r,a.dx,12,R1.ins,cL _ _ _ ⋯,12,p,_,d,112,U.ins,aT T,T.hM,kc _ _,r,S,a,g.bp,S.aw g.bp,2,R1,eo y.r,12,p,_,d,12,U.ins,aT T,T.hM,(by show 7<1000;decide)];rw[Eo];let p2:=U.set (g':={ g with front:=S.aw g.front,bp:=S.aw g.bp }) rfl;let f2:=up (o2:=.ins A.aK d (gI { g with front:=S.aw g.front,bp:=S.aw g.bp } t)) Z;change upd H1 p (.ins A.aK d (gI { g with front:=S.aw g.front,bp:=S.aw g.bp } t))=F at p2 f2 ⊢;let e1:=(C.el _ y.f).2;let e2:=(C.el _ y.r).2;let D:sv S g { g with front:=S.aw g.front,bp:=S.aw g.bp }:=⟨222,⟨y.fl,y.ll,y.s,C.lt y.f,C.lt y.r,by show wk _ _ _\S.aw (S.aw g.front);rw[e1];rwa[y.wf],by show wk _ (S.aw (S.aw g.bp)) _=_;rw[e2];rwa[y.wr]⟩,e1,e2,λe _=>⟨e,2⟩,λe _=>⟨e,2⟩⟩;erw[λ x l=>∃g1 u,x=#v[↑p,↑r,u]/\(∀b o,b≠p->H b\o->l b\o)/\dS A.aK l p d t g1/\sv S g g1/\(g1.first<g1.last->S.by g1.front g1.z1=none),5]
  ·erw[λm J l=>∃g1 u,m=g1.last - g1.first/\J=#v[↑p,↑r,u]/\(∀b o,b≠p->H b\o->l b\o)/\dS A.aK l p d t g1/\sv S g g1,⟨11,none,22,f2,p2,D⟩];rintro m J l ⟨g1,u,rfl,rfl,v,j,ad⟩;let M:=kp v;let ll:=ad.gi.ll;let fl:=ad.gi.fl;let lw:⇑g1.word<=1000:=by rw[ad.wo];rwa[G]
   erw[12,p,_,d,112,j.ins,aT T,T.eY,gU _ _,12,p,_,d,112,j.ins,aT T,T.iH,kg _ _,112212];rwa[bW (λq=>?_) (λq=>?_)]
   ·let q:(g1.first:Int)<(g1.last:Int):=ahn q;erw[_,λ_ _ z=>z];let hz:=Gg.qm (g:=g1) ∅;erw[12,r,a.dx,12,M.ins,cL _ _ _ ⋯,12,p,_,d,112,j.ins,aT T,T.gS,kb _ _,12,p,_,d,112,j.ins,aT T,T.jy,j9 _ _,12,p,_,d,112,j.ins,aT T,T.eY,gU _ _,t,11,.int g1.z1,22,bN.of j.wo,cD (bU hz),r,S,a,g1.front,g1.z1,2,M,[C.wf.w]▸ad.gi.f]
    cases I:S.by g1.front g1.z1 with
    |none=>rwa[12212,jI ⟨g1,12,v,j,ad,λ_=>I⟩]
    |some c=>
     rw[show (Option.map (λn:Nat=>V.int (n:Int)) (some c)).getD V.non=V.int (c:Int) from rfl];rwa[⟨12212,dY ?_⟩];erw[1212,p,_,d,12,j.ins,aT T,T.gS,(by show 7<1000;decide)];rw[BM];let B:=j.set (g':={ g1 with front:=c }) rfl;let L:=up (o2:=.ins A.aK d (gI { g1 with front:=c } t)) v;change upd l p (.ins A.aK d (gI { g1 with front:=c } t))=H3 at B L ⊢;erw[12,p,_,d,112,B.ins,aT T,T.eY,gU _ _,112212,p,_,d,12,B.ins,aT T,T.eY,(by show 7<1000;decide)];rw[show V.int ((({ g1 with front:=c }:Gg).first:Int)+ 1)=V.int ((g1.first+ 1:Nat):Int) from rfl,Lf];rwa[_,by show g1.last - (g1.first+ 1)<_;ext,1122,up L,B.set rfl,ad.fwd C ∅ I]
   ·rwa[g1,u,2,v,j,ad,λz=>absurd (ahh (show (g1.first:Int)<(g1.last:Int) by omega)) q]
  rintro x l ⟨g0,v0,rfl,f0,p0,D,n0⟩;erw[λ x l=>∃g1 u,x=#v[↑p,↑r,u]/\(∀b o,b≠p->H b\o->l b\o)/\dS A.aK l p d t g1/\sv S g g1/\(g1.first<g1.last->S.by g1.front g1.z1=none)/\(g1.first<g1.last->S.by g1.bp g1.z2=none),5]
  ·erw[λm J l=>∃g1 u,m=g1.last - g1.first/\J=#v[↑p,↑r,u]/\(∀b o,b≠p->H b\o->l b\o)/\dS A.aK l p d t g1/\sv S g g1/\(g1.first<g1.last->S.by g1.front g1.z1=none),⟨11,v0,22,f0,p0,D,n0⟩];rintro m J l ⟨g1,u,rfl,rfl,v,j,ad,N⟩;let M:=kp v;let ll:=ad.gi.ll;let fl:=ad.gi.fl;let lw:⇑g1.word<=1000:=by rw[ad.wo];rwa[G]
   erw[12,p,_,d,112,j.ins,aT T,T.eY,gU _ _,12,p,_,d,112,j.ins,aT T,T.iH,kg _ _,112212];rwa[bW (λq=>?_) (λq=>?_)]
   ·let q:(g1.first:Int)<(g1.last:Int):=ahn q;erw[_,λ_ _ z=>z];let hz:=Gg.at2 (g:=g1) ll;erw[12,r,a.dx,12,M.ins,cL _ _ _ ⋯,12,p,_,d,112,j.ins,aT T,T.hM,kc _ _,12,p,_,d,112,j.ins,aT T,T.jy,j9 _ _,12,p,_,d,112,j.ins,aT T,T.iH,kg _ _,t,11,.int (-g1.z2),22,bN.of j.wo,cD (bU hz),12,r,S,a,g1.bp,g1.z2,(by show [V.ref r,V.int (g1.bp:Int),V.int (- -g1.z2)]=_;rw[aiq]),M,[C.wf.w]▸ad.gi.r]
    cases I:S.by g1.bp g1.z2 with
    |none=>rwa[12212,jI ⟨g1,12,v,j,ad,N,λ_=>I⟩]
    |some c=>
     rw[show (Option.map (λn:Nat=>V.int (n:Int)) (some c)).getD V.non=V.int (c:Int) from rfl];rwa[⟨12212,dY ?_⟩];erw[1212,p,_,d,12,j.ins,aT T,T.hM,(by show 7<1000;decide)];rw[Eo];let B:=j.set (g':={ g1 with bp:=c }) rfl;let L:=up (o2:=.ins A.aK d (gI { g1 with bp:=c } t)) v;change upd l p (.ins A.aK d (gI { g1 with bp:=c } t))=H3 at B L ⊢;erw[12,p,_,d,112,B.ins,aT T,T.iH,kg _ _,112212,p,_,d,12,B.ins,aT T,T.iH,(by show 7<1000;decide)];rw[show V.int ((({ g1 with bp:=c }:Gg).last:Int) - 1)=V.int ((g1.last - 1:Nat):Int) by show V.int ((g1.last:Int) - 1)=_;congr 1;ext,Pj];rwa[_,by show (g1.last - 1) - g1.first<_;ext,1122,up L,B.set rfl,ad.bwd C ∅ I,λz=>N (by let z:g1.first<g1.last - 1:=z;omega)]
   ·rwa[g1,u,2,v,j,ad,N,λz=>absurd (ahh (show (g1.first:Int)<(g1.last:Int) by omega)) q]
  rintro x l ⟨g1,u,rfl,v,j,ad,N,n2⟩;rwa[k g1 l v j ⟨ad.wh,ad.wo,ad.st,ad.gi,ad.ef,ad.er,N,n2,ad.k1,ad.k2⟩]
def VL (ns:Zg)(j:Nat):gP (ao ns) none (some (j:Int))=ao (ns.take j):=by
 rw[Ae,HT.xi];show ao ((List.drop 0 ns).take (min j ⇑ns - 0))=_
 cbv
def Pk (ns:Zg)(j:Nat)(h:j<=⇑ns):gP (ao ns) (some (j:Int)) none=ao (ns.drop j):=by
 rw[Ae,HT.xi,ajz h];show ao ((ns.drop j).take (⇑ns - j))=_;rw[ajm ([ahG]▸agJ _)]
theorem pj {by_:Nat->Int->Zi}:∀{ws:Zg} {r:Nat},⇑(cq by_ r ws)<=⇑ws
 |[],_=>agJ _
 |z::ws,r=>by
  cases q:by_ r z with
  |none=>rw[yG q];rwa[ahd _]
  |some d=>rw[m7 q,aha,aha];rwa[Nat.succ_le_succ pj]
inductive Iz (CR CG:Zs) (vs:Zb) (H:Hp) (Q:VK) (E_:XK):Prop
 |mk (p dx wa r:Zs) (g:Gg) (S:RS) (a:RA) (R:Za2):vs=[↑p,↑r]->dS CG H p dx wa g->ay CR H r S a->Good S [] R->g.start<S.q->g.bp<S.q->g.last<⇑g.word->⇑g.word<=1000->(∀q H',aq H H'->bR H' 2 ↑q (lP g.which ((g.start::cq S.by g.start (g.word.take g.first))++(g.bp::cq S.by g.bp (g.word.drop (g.last+ 1)))) g.first)->Q ↑q H')->Iz CR CG vs H Q E_
theorem BP (T:Txt K mg A):T.r0.Ok mg P w base 3 (Iz A.az A.aK):=by
 rwa[T.r0.on mQ (λcz AA O s H vs Q E hr h=>?_)]
 ·let⟨p,m,wa,r,g,S,a,R,rfl,t,hR,I,hs,U,Xc,IA,k⟩:=h
  refine⟨_,(ai (bH 2 mQ.nd (pc T.walked (yS T) hr (ae (pv 1) (ae (aH (pv 0) rfl) (ae (pF Ac (aH (pv 0) rfl) xj (om (aH (pv 0) rfl))) aj)))))
   (ai (bH 3 mQ.nd (pc T.walked (yS T) hr (ae (pv 1) (ae (aH (pv 0) rfl) (ae (pF Ac (aH (pv 0) rfl) (om (aP cZ (aH (pv 0) rfl) ax)) xj) aj)))))
   (au (bx (cP (ae (fA (l:=[114,117,108,101]) rfl) (ae (aH (pv 0) rfl) (ae (fE qg rfl T.tm ajg (ae (aP zY (pv 2) (pv 3)) aj)) (ae (aH (pv 0) rfl) aj))))))))),?_⟩
  rwa[fS ?_];intro fX gH;let B:∀c z d,S.by c z=some d->d<S.q:=λc z d e=>(I.st c z d e).2.1
  rwa[⟨1212,p,_,m,112,t.ins,aT T,T.p8,uV _ _,12,p,_,m,112,t.ins,aT T,T.jy,j9 _ _,12,p,_,m,112,t.ins,aT T,T.eY,gU _ _,12,wa,12,t.wo,λt1 H1 s1 X=>?_⟩];rw[VL]at X;rwa[⟨r,S,a,g.start,t1,g.word.take g.first,2,hR.same s1,I.wf,hs,B,X,by rw[ahm];ext,λl1 H2 s2 h2=>?_⟩];let C:=s1.trans s2;let F:=t.same C;rwa[⟨1212,p,_,m,112,F.ins,aT T,T.hM,kc _ _,12,p,_,m,112,F.ins,aT T,T.jy,j9 _ _,12,p,_,m,112,F.ins,aT T,T.iH,kg _ _,112212,wa,12,F.wo,λt2 H3 s3 e3=>?_⟩];rw[show (g.last:Int)+ 1=((g.last+ 1:Nat):Int) by ext,Pk _ _ ∅]at e3;let D:=C.trans s3;rwa[⟨r,S,a,g.bp,t2,g.word.drop (g.last+ 1),2,hR.same D,I.wf,U,B,e3,by rw[ahG];ext,λl2 V s4 h4=>?_⟩];let y:=D.trans s4;let Y:=t.same y;let lx:=pj (by_:=S.by) (ws:=g.word.take g.first) (r:=g.start);let ly:=pj (by_:=S.by) (ws:=g.word.drop (g.last+ 1)) (r:=g.bp);rw[ahm]at lx;rw[ahG]at ly;rwa[⟨12,p,_,m,112,Y.ins,aT T,T.Bm,Le _ _,1212,l1,l2,1122,(s3.trans s4) _ _ h2,h4,5,λL n3=>?_⟩]
  ·rw[aI,aI,bF,bF,aha,aha];rwa[agT (show _<=100000 by omega) ⋯]
  rwa[⟨L,12,.inl ⟨aD.of ah,λG n4=>?_⟩⟩];rw[<-ints_app,<-gn]at n4 ⊢;let s5:=aq.upd (o:=.lst (ao (nI ((g.start::cq S.by g.start (g.word.take g.first))++(g.bp::cq S.by g.bp (g.word.drop (g.last+ 1))))))) n3;change (g.start::cq S.by g.start (g.word.take g.first))++(g.bp::cq S.by g.bp (g.word.drop (g.last+ 1)))=path at *;let N:=s5.trans (aq.upd (o:=.tup (ao (nI path))) n4);let e6:upd (upd V L (.lst (ao (nI path)))) G (.tup (ao (nI path))) G=_:=ah;change upd (upd V L (.lst (ao (nI path)))) G (.tup (ao (nI path)))=H6 at N e6 ⊢;rwa[⟨12,p,_,m,112,(N^Y.ins),aT T,T.eY,gU _ _,(Za4 4),λq nq=>?_⟩];let Z:=aq.upd (o:=.tup [.str (tx [114,117,108,101]),.int (g.which:Int),↑G,.int (g.first:Int)]) nq;rwa[k q _ (y.trans (N.trans Z)) (.t ah rfl λj v d b f=>?_)]
  match j,b,f with
  |0,b,f=>ext b;ext f;rwa[.s]
  |1,b,f=>ext b;ext f;rwa[.i]
  |2,b,f=>
   ext b;ext f;rwa[.t (Z^e6) (by rw[aI,bF,agH]) λi u x f1 M=>?_]
   let⟨z,rfl,n⟩:=cI f1;unfold nI at n;rw[agY]at n M
   cases q1:path[i]? with
   |none=>rw[q1]at n;ext n
   |some c=>
    rw[q1]at n M;ext n;ext M;rwa[.i]
  |3,b,f=>ext b;ext f;rwa[.i]
  |j+ 4,b,f=>simp at b
def same_none (s:aq H I){b:Zs}(h:I b=none):H b=none:=by
 cases e:H b with
 |none=>rfl
 |some o=>rw[s^e]at h;ext h
structure KA where
 dx:Zs
 aQ:Zs
 aG:Zs
 aA:Zs
 aW:Zs
noncomputable def pk (r:Zs)(c:KA)(a:Nat):List (Str×V):=[("rooms",↑r),("rules",↑c.aQ),("goings",↑c.aG),("agenda",↑c.aA),("waiting",↑c.aW),("heard",.int a)]
def fW (r:Zs)(c:KA)(a:Nat):(pk r c a).lookup ("rooms":Str)\↑r:=by kernel_rfl
def Lh (r:Zs)(c:KA)(a:Nat):(pk r c a).lookup ("rules":Str)\↑c.aQ:=by kernel_rfl
def kS (r:Zs)(c:KA)(a:Nat):(pk r c a).lookup ("goings":Str)\↑c.aG:=by kernel_rfl
def nJ (r:Zs)(c:KA)(a:Nat):(pk r c a).lookup ("agenda":Str)\↑c.aA:=by kernel_rfl
def lJ (r:Zs)(c:KA)(a:Nat):(pk r c a).lookup ("waiting":Str)\↑c.aW:=by kernel_rfl
def uX (r:Zs)(c:KA)(a:Nat):(pk r c a).lookup ("heard":Str)\(.int a):=by kernel_rfl
def fk {c:KA}(h:x∉(["rooms","rules","goings","agenda","waiting","heard"]:Zp)):(pk a c n).lookup x=none:=by
 simp only[agW,ahx,aiR,not_or]at h;let⟨f,d,i,e,g,b⟩:=h;unfold pk;simp only[List.lookup,agZ.mpr f,agZ.mpr d,agZ.mpr i,agZ.mpr e,agZ.mpr g,agZ.mpr b]
def Li (r:Zs)(c:KA)(a n:Nat):bK "heard" (.int n) (pk r c a)=pk r c n:=by kernel_rfl
structure qd (CG:Zs) (H:Hp) (gv:Zb) (gs:Zf) (O:Zs->Prop):Prop where
 l:⇑gv=⇑gs
 n:∀(i:Nat) (v:V),gv[i]?\v->gs[i]?\none->v=.non
 s:∀(i:Nat) (v:V) (g:Gg),gv[i]?\v->gs[i]?\some g->∃p dx wa,v=↑p/\dS CG H p dx wa g/\O p
 i:∀(i j:Nat) (p:Zs),gv[i]?\↑p->gv[j]?\↑p->i=j
structure cu (CG CC:Zs) (H:Hp) (x r:Zs) (c:KA) (gs:Zf) (ag:Zh) (W:bI) (hd:Nat) (fp:List (Zg×Nat)) (O:Zs->Prop):Prop where
 ins:H x\(.ins CC c.dx (pk r c hd))
 hG:∃gv,H c.aG\.lst gv/\qd CG H gv gs O
 hA:H c.aA\(.lst (ao (nI ag)))
 wt:oH H c.aW W O
 ne:c.aG≠c.aA
 ox:O x
 oG:O c.aG
 oA:O c.aA
 th:∀b,O b->∃o,H b\o/\(∀xs,o≠.tup xs)/\(∀kv,o≠.dT kv)/\(∀u v,o≠.cS u v)/\∀ps,o≠.fB ps
section
variable {CG CC:Zs}{H H':Hp}{x r:Zs}{c:KA}{gs:Zf}{ag:Zh}{W:bI}{hd:Nat}{fp:List (Zg×Nat)}{O:Zs->Prop}
def qd.keep (h:qd CG H L gs O)(f:∀b o,O b->H b\o->H' b\o)(ft:∀b a,H b\.tup a->H' b\.tup a):qd CG H' L gs O:=by
 rwa[⟨h.l,h.n,λi v g d k=>?_,h.i⟩];let⟨p,dx,j,e,q,o⟩:=h.s i v g d k;rwa[p,dx,j,e,⟨f _ _ o q.ins,ft^q.wo⟩,o]
def cu.keep (h:cu CG CC H x r c gs ag W hd fp O)(f:∀b o,O b->H b\o->H' b\o)(ft:∀b a,H b\.tup a->H' b\.tup a):cu CG CC H' x r c gs ag W hd fp O:=by
 let⟨i,g,g2⟩:=h.hG;rwa[⟨f _ _ h.ox h.ins,⟨i,f _ _ h.oG g,g2.keep f ft⟩,f _ _ h.oA h.hA,h.wt.keep f,h.ne,h.ox,h.oG,h.oA,λb d=>?_⟩];let⟨o,e,q⟩:=h.th b d;rwa[o,f _ _ d e,q]
def cu.same (h:cu CG CC H x r c gs ag W hd fp O)(s:aq H H'):cu CG CC H' x r c gs ag W hd fp O:=h.keep (λb o _ e=>s b o e) (λb o e=>s^e)
def cu.i5 (h:cu CG CC H x r c gs ag W hd fp O){b:Zs}{a:Zb}(e:H b\.tup a):¬O b:=λz=>by
 let⟨o,q,n,_⟩:=h.th b z
 cbv
def cu.IB (h:cu CG CC H x r c gs ag W hd fp O){b:Zs}{a:List (Zd×V)}(e:H b\.dT a):¬O b:=λz=>by
 let⟨o,q,_,n,_⟩:=h.th b z
 cbv
def cu.waits (h:cu CG CC H x r c gs ag W hd fp O){k:bI}{a:Zs->Prop}(f:∀b o,(∀j,o≠.dK j)->H b\o->H' b\o)(d:∀b,O b->a b)(w:oH H' c.aW k a)(th:∀b,a b->∃o,H' b\o/\(∀t,o≠.tup t)/\(∀j,o≠.dT j)/\(∀u v,o≠.cS u v)/\∀m,o≠.fB m):cu CG CC H' x r c gs ag k hd fp a:=by
 let⟨l,s,g2⟩:=h.hG;rwa[⟨f _ _ (by cbv) h.ins,⟨l,f _ _ (by cbv) s,g2.l,g2.n,λi v g y n=>?_,g2.i⟩,f _ _ (by cbv) h.hA,w,h.ne,d _ h.ox,d _ h.oG,d _ h.oA,th⟩];let⟨p,dx,z,e,q,o⟩:=g2.s i v g y n;rwa[p,dx,z,e,⟨f _ _ (by cbv) q.ins,f _ _ (by cbv) q.wo⟩,d _ o]
def cu.agenda (h:cu CG CC H x r c gs ag W hd fp O)(a:Zh):cu CG CC (upd H c.aA (.lst (ao (nI a)))) x r c gs a W hd fp O:=by
 let⟨f,l,g2⟩:=h.hG;let k:∀b o,b≠c.aA->H b\o->upd H c.aA (.lst (ao (nI a))) b\o:=λb o n e=>by rw[ak n];rwa[e]
 let kn:∀b o,(∀m,o≠.lst m)->H b\o->upd H c.aA (.lst (ao (nI a))) b\o:=λb o n e=>k b o (λz=>by rw[z,h.hA]at e;cbv) e
 rwa[⟨kn _ _ (by cbv) h.ins,⟨f,k _ _ h.ne l,g2.l,g2.n,λi v g s j=>?_,g2.i⟩,ah,5,h.ne,h.ox,h.oG,h.oA,λb d=>?_⟩]
 ·let⟨p,dx,t,e,q,o⟩:=g2.s i v g s j;rwa[p,dx,t,e,⟨kn _ _ (by cbv) q.ins,kn _ _ (by cbv) q.wo⟩,o]
 ·let⟨D,E,k1,k2⟩:=h.wt;rwa[D,E,k1.keep λb o d e=>by let⟨u,q⟩:=k1.there d;cbv,k2]
 ·cases e:b=c.aA
  ·rwa[_,[e]▸ah,(by cbv),(by cbv),(by cbv),by cbv]
  ·let⟨o,q,n⟩:=h.th b d;rwa[o,k _ _ e q,n]
end
def Bt (O:Zs->Prop)(H a:Hp):Prop:=∀b o,¬O b->H b\o->a b\o
def Bt.trans {O a:Zs->Prop}(h:Bt O H I)(c:Bt a I J)(f:∀b,a b->O b\/H b=none):Bt O H J:=λb o n e=>c b o (λz=>(f b z).elim n λq=>by cbv) (h b o n e)
def Bt.of {O:Zs->Prop}(s:aq H I):Bt O H I:=λb o _ e=>s b o e
inductive IC (CR CG CC:Zs) (vs:Zb) (H:Hp) (Q:VK) (E_:XK):Prop
 |mk (x r:Zs) (c:KA) (gs:Zf) (ag:Zh) (W:bI) (hd:Nat) (fp:List (Zg×Nat)) (O:Zs->Prop) (n m:Nat) (s:Int):vs=[↑x,.int n,.int m,.int s]->cu CG CC H x r c gs ag W hd fp O->m<100000->n<100000->(-1000<=s/\s<=1000)->(∀O' H',Bt O H H'->(∀b o,(∀kv,o≠.dK kv)->H b\o->H' b\o)->(∀b,O b->O' b)->(∀b,O' b->O b\/H b=none)->cu CG CC H' x r c gs ag (addW W m s n) hd fp O'->Q .non H')->IC CR CG CC vs H Q E_
structure jU (H:Hp) (O:Zs->Prop) (H1:Hp) (O1:Zs->Prop):Prop where
 f:∀b o,(∀kv,o≠.dK kv)->H b\o->H1 b\o
 bt:Bt O H H1
 le:∀b,O b->O1 b
 nw:∀b,O1 b->O b\/H b=none
 th:∀b,O1 b->∃o,H1 b\o/\(∀xs,o≠.tup xs)/\(∀kv,o≠.dT kv)/\(∀u v,o≠.cS u v)/\∀ps,o≠.fB ps
def jU.new {O a:Zs->Prop}(h:jU H O I a){p:Zs}{c:List (Key×V)}(d:I p=none):jU H O (upd I p (.dK c)) a:=by
 let s:=aq.upd (o:=.dK c) d;rwa[⟨λb o n e=>s^h.f b o n e,λb o n e=>s^h.bt b o n e,h.le,h.nw,λb f=>?_⟩];let⟨o,e,q⟩:=h.th b f;rwa[o,s^e,q]
def jU.put {O a:Zs->Prop}(h:jU H O I a){d:Zs}(hd:a d){f kv':List (Key×V)}(ed:I d\.dK f):jU H O (upd I d (.dK kv')) a:=by
 let k:∀b o,b≠d->I b\o->upd I d (.dK kv') b\o:=λb o n e=>by rw[ak n];rwa[e]
 rwa[⟨λb o n e=>k _ _ (λz=>by have:=h.f b o n e;cbv) (h.f b o n e),λb o n e=>k _ _ (λz=>?_) (h.bt b o n e),h.le,h.nw,λb c=>?_⟩]
 ·rcases h.nw d hd with q|q
  ·cbv
  cbv
 ·cases e:b=d
  ·rwa[⟨_,by rw[e];rwa[ah],(by cbv),(by cbv),(by cbv),by cbv⟩]
  ·let⟨o,q,m⟩:=h.th b c;rwa[o,k _ _ e q,m]
def jU.Xd {O a:Zs->Prop}(h:jU H O I a){p:Zs}(d:H p=none){o:HO}(l:I p\o)(g:∀i,o≠.tup i)(c:∀k,o≠.dT k)(j:∀u v,o≠.cS u v)(f:∀e,o≠.fB e):jU H O I (Ht a p):=by
 rwa[⟨h.f,h.bt,λb z=>.inl (h.le b z),λb z=>z.elim (h.nw b) λq=>.inr ([q]▸d),λb z=>?_⟩];rcases z with z|z
 ·rwa[h.th b z]
 ·rw[z];rwa[o,l,g,c,j,f]
def jU.no {O b:Zs->Prop}(h:jU H O I b){p:Zs}(a:I p=none):H p=none:=by
 cases e:H p with
 |none=>rfl
 |some o=>
  cases q:O p
  ·let⟨d,c,_⟩:=h.th p (h.le p q);cbv
  ·rw[h.bt p o q e]at a;ext a
def cu.mid {x:Zs}{d:KA}{gs:Zf}{W:bI}{hd:Nat}{f:List (Zg×Nat)}{O:Zs->Prop}(h:cu a b H x c d gs B W hd f O):jU H O H O:=⟨λ_ _ _ e=>e,λ_ _ _ e=>e,λ_ z=>z,λ_ z=>.inl z,h.th⟩
def nK (T:Txt K mg A):T.jR.Ok mg P w base 1 (IC A.az A.aK A.aF):=by
 rwa[T.jR.on jT (λU AA G s H vs Q E V h=>?_)]
 ·let⟨x,r,c,gs,ag,W,B,fp,O,n,m,s,rfl,h,hm,hn,Y,k⟩:=h;let F:=hV V
  erw[_,(ai (bP (bH 4 jT.nd (m6 (aH (pv 0) rfl) (pv 2) fQ ⟨2222⟩)))
   (ai (bP (bH 5 jT.nd (m6 (pv 4) (pv 3) fQ ⟨2222⟩)))
   (au (oq F (pv 5) (pv 1) mZ rfl))))]
  rwa[fS ?_];intro Z S;erw[λ f J=>∃d y,f=#v[↑x,.int (n:Int),.int (m:Int),.int s,↑d,none]/\jU H O J y/\fJ J c.aW W y m d,5]
  ·rwa[⟨12,x,_,c.dx,112,h.ins,aL T,T.jS,lJ^_,c.aW,2,h.wt.qi,12,λp b=>?_⟩];let⟨a,g,q,l,I⟩:=h.wt.room b (c:=(m:Int)) ∅;rwa[⟨a,Sum.inl (m:Int),g,2,q,λv j=>?_,λj=>?_⟩]
   ·let⟨d,rfl,w⟩:=l v j;rwa[d,O,2,h.mid.new b,w]
   ·let w:=I j;let M:O c.aW:=by let⟨D,E,_,z⟩:=h.wt;rwa[z.o _ (.inl rfl)]
    rwa[p,12,((h.mid.new b).put M g).Xd b ([ak (λz=>by rw[z]at b;let⟨o,e,_⟩:=h.th _ M;cbv)]▸ah) (by cbv) (by cbv) (by cbv) (by cbv),w]
  rintro f J ⟨d,y,rfl,u,C⟩;erw[λ f L=>∃e t,f=#v[↑x,.int (n:Int),.int (m:Int),.int s,↑d,↑e]/\jU H O L t/\pQ L c.aW W t m s e,5]
  ·rwa[⟨12,d,2,C.qi,12,λp b=>?_⟩];let⟨a,g,q,l,I⟩:=C.cell b Y;rwa[⟨a,Sum.inl s,g,2,q,λv j=>?_,λj=>?_⟩]
   ·let⟨e,rfl,w⟩:=l v j;rwa[e,y,2,u.new b,w]
   ·let w:=I j;let B:=C.own;rwa[p,12,((u.new b).put B g).Xd (u.no b) ([ak (λz=>by rw[z]at b;let⟨o,e,_⟩:=u.th _ B;cbv)]▸ah) (by cbv) (by cbv) (by cbv) (by cbv),w]
  rintro f L ⟨e,t,rfl,R,N⟩;let⟨a,g,q,l⟩:=N.put (n:=(n:Int)) ∅;erw[1212,e,12,pJ.k (k:=Sum.inl (n:Int)) g q];let i:=R.put (kv':=putK a (Sum.inl (n:Int)) (.bl true)) N.own g;rwa[k t _ i.bt i.f i.le i.nw (h.waits i.f i.le l i.th)]
inductive IE (CR CG CC:Zs) (vs:Zb) (H:Hp) (Q:VK) (E_:XK):Prop
 |mk (x r:Zs) (c:KA) (gs:Zf) (ag:Zh) (W:bI) (hd:Nat) (fp:List (Zg×Nat)) (O:Zs->Prop) (m:Nat) (s:Int):vs=[↑x,.int m,.int s]->cu CG CC H x r c gs ag W hd fp O->(∀ns:Zh,ns.Nodup->(∀n:Nat,n∈ns↔W m s n=true)->⇑ag+ ⇑ns<=1000000)->(∀ns H',Bt O H H'->ns.Nodup->(∀n:Nat,n∈ns↔W m s n=true)->cu CG CC H' x r c gs (ag++ns) (gx W m s) hd fp O->Q .non H')->IE CR CG CC vs H Q E_
def fN (T:Txt K mg A):T.eX.Ok mg P w base 1 (IE A.az A.aK A.aF):=by
 rwa[T.eX.on wx (λcz AA G s H vs Q E hr h=>?_)]
 ·let⟨x,r,c,gs,Z,W,hd,fp,O,m,s,rfl,h,hz,k⟩:=h;let D:=hV hr;erw[_,(au (aV (cH agQ PySem.F.slot_list_extend PySem.F.type_list_extend yn (aH (pv 0) rfl) (ae (fE (jM rfl) rfl T.iR ah4 (ae (uy (l0 D (aH (pv 0) rfl) (pv 1) fQ ⟨2222⟩) (pv 2) fQ ⟨2222⟩) aj)) aj))))]
  let rest:∀{i:Hp} {R:bI} {l:Zs} {ns:Zh},cu A.aK A.aF i x r c gs Z R hd fp O->Bt O H i->i l=none->ns.Nodup->(∀n:Nat,n∈ns↔W m s n=true)->R=gx W m s->xl (V.ref c.aA) [V.ref l] (upd i l (.lst (ao (nI ns)))) (λ_ H'=>Q .non H'):=λ{i R l ns} p b2 g S X eW=>by
   subst eW;let N:=aq.upd (o:=.lst (ao (nI ns))) g;erw[c.aA,l,1122,N^p.hA,ah,5]
   ·rw[aI,aI,bF,bF];rwa[agT (hz ns S X) ⋯]
   ·rw[<-ints_app,<-gn];rwa[k ns _ (λb o n e=>[ak (λz=>n ([z]▸h.oA))]▸N^b2 b o n e) S X ((p.same N).agenda (Z++ns))]
  rwa[⟨12,x,_,c.dx,112,h.ins,aL T,T.kP,nJ^_,.inl ⟨21,aD.of h.hA⟩,12,x,_,c.dx,112,h.ins,aL T,T.jS,lJ^_,c.aW,2,h.wt.qi,12,λB M=>?_⟩];let s1:=aq.upd (o:=.dK []) M;let F:upd H B (.dK []) B\(.dK []):=ah;change upd H B (.dK [])=C at s1 F ⊢;let I:=h.same s1;let⟨o,g1,g2⟩:=I.wt.get (c:=(m:Int));erw[o,g1];rcases g2 with ⟨rfl,no⟩|⟨d,rfl,w⟩
  ·rwa[⟨B,rfl,.inl ⟨_,.inl F⟩,_,rfl,λf j=>?_⟩];let a:=aq.upd (o:=.dK []) j;let u:upd C f (.dK []) f\(.dK []):=ah;change upd C f (.dK [])=i at a u ⊢;rwa[⟨[],Sum.inl s,a^F,2,(λv q=>by ext q),λ_=>⟨f,[],2,u,λl g=>?_⟩⟩];rwa[rest (ns:=[]) (I.same a) (.of (s1.trans a)) g ais (λn=>⟨(λz=>by ext z),λz=>by rw[no]at z;ext z⟩) (xC (no s)).symm]
  ·rwa[⟨d,2,w.qi,12,λf j=>?_⟩];let a:=aq.upd (o:=.dK []) j;let u:upd C f (.dK []) f\(.dK []):=ah;change upd C f (.dK [])=i at a u ⊢;let p:=I.same a;let⟨t,Y,U,e3⟩:=(w.same a).pop s;rwa[⟨t,Sum.inl s,Y,2,λv q=>?_,λq=>⟨f,[],2,u,λl g=>?_⟩⟩]
   ·let⟨e,L,ns,rfl,J,f1,f2,f3,f4,f5⟩:=e3 v q;rwa[⟨e,L,2,[ak J]▸f1,λl g=>?_⟩];let y:=(p.mid.put (kv':=fe t (Sum.inl s)) w.own Y);rw[f2];rwa[rest (p.waits y.f y.le f5 y.th) (Bt.trans (.of (s1.trans a)) y.bt λb z=>.inl z) g f3 f4 rfl]
   ·rwa[rest (ns:=[]) p (.of (s1.trans a)) g ais (λn=>⟨(λz=>by ext z),λz=>by rw[U q]at z;ext z⟩) (xC (U q)).symm]
def _root_.Lake.L2.CI.Td {bs:List (Nat×Zg×Nat)}{gs:Zf}{W:bI}{d:Nat->Int->Prop}{x:Zi}(h:CI S bs gs B W d x){m:Nat}{s:Int}{ns:Zh}(nd:ns.Nodup)(c:∀n:Nat,n∈ns↔W m s n=true):⇑ns+ vx S.q ⇑gs (gx W m s)<=vx S.q ⇑gs W:=by
 cases ns with
 |nil=>
  have:∀n,W m s n=false:=λn=>by
   cases q:W m s n with
   |false=>rfl
   |true=>
    let⟨_,b,_,e,_⟩:=h.en _ _ _ q
    cbv
  rw[xC this,aih,ajW];rwa[agJ _]
 |cons n r=>
  let⟨k,b,l,_,a,_,f,_⟩:=h.en _ _ _ ((c n).mp (agP ..));let a:m<S.q:=∅
  let i:=Oy (G:=⇑gs) (W:=W) a f
  let g:=Hu (P:=λn:Nat=>W m s n) (G:=⇑gs) nd λn a=>by
   let w:=(c n).mp a;let⟨_,b,_,e,_,j,_⟩:=h.en _ _ _ w;rwa[3,w]
  ext
def _root_.Lake.L2.CI.two {bs:List (Nat×Zg×Nat)}{gs:Zf}{W:bI}{a:Nat->Int->Prop}{x:Zi}(h:CI S bs gs B W a x):vx S.q ⇑gs W<=2* ⇑gs:=OB λn=>by
 let⟨p,q,e,_⟩:=h.sl n;rwa[p,q,e]
def _root_.Lake.L2.fJ.keys {k:Zs}{W:bI}{O:Zs->Prop}(h:fJ H k W O z d):∃(a:List (Key×V)) (zs:Zg),H d\.dK a/\a.map (λb=>kV b.1)=ao zs/\⇑zs<=2001/\∀s n,W z s n=true->s∈zs:=by
 let⟨D,E,l,p,hd⟩:=h;let⟨a,j,o,c,f⟩:=l.Kc hd
 let q:⇑a<=2001:=vw (n:=2001) (lo:=-1000) o c f λi v m=>by
  cases e:E z i with
  |none=>rw[e]at m;ext m
  |some x=>have:=p.e z i x e;ext
 let ex:∃zs:Zg,a.map (·.1)=zs.map Sum.inl:=by
  clear j o f q
  induction a with
  |nil=>rwa[[],2]
  |cons b r t=>
   let⟨zs,e⟩:=t λx g=>c x (ag4 _ g)
   let⟨i,u⟩:=c b (agP ..);rwa[i::zs,by cbv]
 let⟨zs,e⟩:=ex;rwa[⟨a,zs,j,55,λs n w=>?_⟩]
 ·rw[show (λb:Key×V=>kV b.1)=kV ∘ (·.1) from rfl,<-ahw,e,ahw];rfl
 ·have:=ahS List.length e;rw[agH,agH]at this;ext
 ·let⟨x,g⟩:=l.se _ _ _ w;have:Sum.inl s∈a.map (·.1):=DU (v:=↑x) (by rw[f,g];rfl)
  cbv
structure kT (CG CC:Zs) (S:RS) (bs:List (Nat×Zg×Nat)) (gs:Zf) (W0:bI) (Ex:Nat->Int->Prop) (B:Nat) (x r:Zs) (c:KA) (hd:Nat) (fp:List (Zg×Nat)) (O:Zs->Prop) (H:Hp) (ag:Zh) (W:bI):Prop where
 c:cu CG CC H x r c gs ag W hd fp O
 i:CI S bs gs ag W Ex none
 s:∀r s n,W r s n=true->W0 r s n=true
 b:⇑ag+ vx S.q ⇑gs W<=B
def kT.wake {bs:List (Nat×Zg×Nat)}{gs:Zf}{g:bI}{i:Nat->Int->Prop}{x:Zs}{e:KA}{hd:Nat}{f:List (Zg×Nat)}{O:Zs->Prop}{W:bI}(h:kT a b S bs gs g i n x c e hd f O H B W){m:Nat}{s:Int}{ns:Zh}(nd:ns.Nodup)(j:∀d:Nat,d∈ns↔W m s d=true)(q:cu a b I x c e gs (B++ns) (gx W m s) hd f O):kT a b S bs gs g i n x c e hd f O I (B++ns) (gx W m s):=
 ⟨q,h.i.wake j,λc s d w=>h.s _ _ _ (di.mp w).1,by have:=h.i.Td nd j;have:=h.b;rw[agF];ext⟩
def kT.fits {bs:List (Nat×Zg×Nat)}{gs:Zf}{f:bI}{g:Nat->Int->Prop}{x:Zs}{e:KA}{hd:Nat}{i:List (Zg×Nat)}{O:Zs->Prop}{W:bI}(h:kT a b S bs gs f g n x c e hd i O H B W)(k:n<=1000000){m:Nat}{s:Int}:∀ns:Zh,ns.Nodup->(∀d:Nat,d∈ns↔W m s d=true)->⇑B+ ⇑ns<=1000000:=λns nd j=>by have:=h.i.Td nd j;have:=h.b;ext
inductive Ep (CR CG CC:Zs) (vs:Zb) (H:Hp) (Q:VK) (E_:XK):Prop
 |mk (x r:Zs) (c:KA) (S:RS) (a:RA) (bs:List (Nat×Zg×Nat)) (gs:Zf) (ag:Zh) (W:bI) (Ex:Nat->Int->Prop) (B hd:Nat) (fp:List (Zg×Nat)) (O:Zs->Prop) (m:Nat):vs=[↑x,.int m]->kT CG CC S bs gs W Ex B x r c hd fp O H ag W->B<=1000000->ay CR H r S a->S.Wf->(∀b,a.own r b->¬O b)->m<S.q->S.aw m<S.q->(∀iM W' H',Bt O H H'->kT CG CC S bs gs W Ex B x r c hd fp O H' iM W'->(∀s n,W' m s n=false)->(∀s n,W' (S.aw m) s n=true->S.by (S.aw m) s=none)->Q .non H')->Ep CR CG CC vs H Q E_
def qK (T:Txt K mg A):T.je.Ok mg P w base 2 (Ep A.az A.aK A.aF):=by
 rwa[T.je.on fj (λcz AA outer s H vs Q E hr h=>?_)]
 ·let⟨x,r,c,S,a,bs,Y,ag,W,Ex,B,hd,Z,O,m,rfl,h,hB,hR,wf,dj,hm,he,k⟩:=h;let qG:=hV hr
  erw[_,(ai (cK ag9 rfl (cX (fE (jM rfl) rfl T.iR ah4 (ae (l0 qG (aH (pv 0) rfl) (pv 1) fQ ⟨2222⟩) aj))) (dz 2 fj.nd)
   (au (aV (pm (pv 0) (aL T) T.eX (fN T) hr (ae (pv 1) (ae (pv 2) aj))))))
   (ai (bH 3 fj.nd (pm (aH (pv 0) rfl) (aJ T) T.hJ (iI T) hr (ae (pv 1) aj)))
   (au (cK ag9 rfl (cX (fE (jM rfl) rfl T.iR ah4 (ae (l0 qG (aH (pv 0) rfl) (pv 3) fQ ⟨2222⟩) aj))) (dz 2 fj.nd)
    (au (bP (bJ (aZ oj (pm (aH (pv 0) rfl) (aJ T) T.iu (hO T) hr (ae (pv 3) (ae (pv 2) aj))) du (bh _))
     (au (aV (pm (pv 0) (aL T) T.eX (fN T) hr (ae (pv 3) (ae (pv 2) aj)))))
     bj)))))))]
  rwa[fS ?_];intro fX gH;let rk:∀{D:Hp},Bt O H D->ay A.az D r S a:=λ{D} b=>hR.keep (λb' o hb e=>b b' o (dj b' hb) e) (λb' xs e=>b b' _ (h.c.i5 e) e)
  let get:∀{N:Hp} {Xe:Zh} {W1:bI} (m1:Nat),kT A.aK A.aF S bs Y W Ex B x r c hd Z O N Xe W1->∀L,N L=none->∃(o:Zc) (d:Zs) (u:List (Key×V)) (G:Zg),eQ (upd N L (.dK [])) c.aW (.int (m1:Int)) o/\o.getD ↑L=↑d/\upd N L (.dK []) d\.dK u/\u.map (λkv=>kV kv.1)=ao G/\∀s n,W1 m1 s n=true->s∈G:=λ{N Xe W1} m1 h1 L F=>by
   let s1:=aq.upd (o:=.dK []) F;let⟨o,U,g2⟩:=(h1.c.same s1).wt.get (c:=(m1:Int));rcases g2 with ⟨rfl,no⟩|⟨d,rfl,w⟩
   ·rwa[⟨none,L,[],[],U,rfl,ah,rfl,λs n z=>by cbv⟩]
   ·let⟨u,G,e1,e2,_,e4⟩:=w.keys;rwa[_,d,u,G,U,2,e1,e2,e4]
  rwa[⟨12,x,_,c.dx,112,h.c.ins,aL T,T.jS,lJ^_,c.aW,2,h.c.wt.qi,12,λL F=>?_⟩];let⟨o,d,u,G,U,g2,g3,g4,Xf⟩:=get m h L F;rwa[⟨o,U,d,u,(by rw[g2]),g3,λl nl=>?_⟩];rw[g4];let s1:=(aq.upd (o:=.dK []) F).trans (aq.upd (o:=.lst (ao G)) nl);let hl:upd (upd H L (.dK [])) l (.lst (ao G)) l\(.lst (ao G)):=ah;replace nl:=same_none (aq.upd (o:=.dK []) F) nl;change upd (upd H L (.dK [])) l (.lst (ao G))=N at s1 hl ⊢;clear U g2 g3 g4;let Xg:¬O l:=λz=>by let⟨o,e,_⟩:=h.c.th l z;cbv
  let h1:kT A.aK A.aF S bs Y W Ex B x r c hd Z O N ag W:=⟨h.c.same s1,h.i,h.s,h.b⟩;erw[l,2,⟨_,aD.of hl⟩]
  refine eP (K:=K) (a:=l) (xs:=ao G) (λi M D=>∃t I v2,M=#v[↑x,.int (m:Int),v2,none]/\Bt O N D/\kT A.aK A.aF S bs Y W Ex B x r c hd Z O D t I/\∀(j:Nat) (s:Int),j<i->G[j]?\s->∀n,I m s n=false)
   ⟨ag,W,none,2,λ_ _ _ e=>e,h1,λj s C=>absurd C ∅⟩ (λi M D _ q0=>by let⟨_,_,_,_,b2,_⟩:=q0;rwa[aD.of (b2 _ _ Xg hl)]) ?_ ?_
  ·rintro i v M D hi ⟨t,I,v2,rfl,b2,g,C⟩;let⟨s,rfl,hs⟩:=cI hi;rwa[⟨12,x,c.dx,12,g.c.ins,fk ⋯,1212,x,r,c,Y,t,I,hd,Z,O,m,s,2,g.c,g.fits hB,λns H3 b3 nd hn h3=>?_⟩];rwa[⟨1112,b2.trans b3 λb z=>.inl z,g.wake nd hn h3,λj s' f e n=>?_⟩]
   cases q:gx I m s m s' n with
   |false=>rfl
   |true=>
    let⟨q1,q2⟩:=di.mp q
    cbv
  rintro M D ⟨t,I,v2,rfl,b2,g,C⟩;rw[aI]at C;let Te:Bt O H D:=Bt.trans (.of s1) b2 λb z=>.inl z
  let off:∀s n,I m s n=false:=λs n=>by
   cases q:I m s n with
   |false=>rfl
   |true=>
    let⟨j,f,e⟩:=aiz.mp (Xf s n (g.s _ _ _ q));rw[C j s f (by rw[agG f,e]) n]at q;ext q
  clear C Xf hl Xg h1;let R2:=rk Te;erw[12,x,_,c.dx,112,g.c.ins,aL T,T.eZ,fW^_,r,a.dx,12,R2.ins,cL _ _ _ ⋯,12,r,S,a,m,S.aw m,2,R2,pf ([wf.e]▸hm)];change S.aw m=e at he k ⊢;rwa[⟨12,x,_,c.dx,112,g.c.ins,aL T,T.jS,lJ^_,c.aW,2,g.c.wt.qi,12,λp2 wD=>?_⟩];let⟨o2,d2,Y8,y,U,g2,g3,g4,Y9⟩:=get e g p2 wD;rwa[⟨o2,U,d2,Y8,(by rw[g2]),g3,λl2 Em=>?_⟩];rw[g4];let s3:=(aq.upd (o:=.dK []) wD).trans (aq.upd (o:=.lst (ao y)) Em);let DV:upd (upd D p2 (.dK [])) l2 (.lst (ao y)) l2\(.lst (ao y)):=ah;replace Em:=same_none (aq.upd (o:=.dK []) wD) Em;change upd (upd D p2 (.dK [])) l2 (.lst (ao y))=H3 at s3 DV ⊢;clear U g2 g3 g4;let aac:¬O l2:=λz=>by let⟨o,e,_⟩:=g.c.th l2 z;cbv
  let h3:kT A.aK A.aF S bs Y W Ex B x r c hd Z O H3 t I:=⟨g.c.same s3,g.i,g.s,g.b⟩;erw[l2,2,⟨_,aD.of DV⟩]
  refine eP (K:=K) (a:=l2) (xs:=ao y) (λi M X=>∃J W4 v2,M=#v[↑x,.int (m:Int),v2,.int (e:Int)]/\Bt O H3 X/\kT A.aK A.aF S bs Y W Ex B x r c hd Z O X J W4/\(∀r s n,W4 r s n=true->I r s n=true)/\∀(j:Nat) (s:Int),j<i->y[j]?\s->∀n,W4 e s n=true->S.by e s=none)
   ⟨t,I,12,λ_ _ _ q=>q,h3,λ_ _ _ q=>q,λj s C=>absurd C ∅⟩ (λi M X _ q0=>by let⟨_,_,_,_,b4,_⟩:=q0;rwa[aD.of (b4 _ _ aac DV)]) ?_ ?_
  ·rintro i v M X hi ⟨J,W4,v4,rfl,b4,R,p,C⟩;let⟨s,rfl,hs⟩:=cI hi;let b04:Bt O H X:=Te.trans (Bt.trans (.of s3) b4 λb z=>.inl z) λb z=>.inl z
   let R4:=rk b04;rwa[⟨15,λ_ _ z=>z⟩];erw[12,x,_,c.dx,112,R.c.ins,aL T,T.eZ,fW^_,r,a.dx,12,R4.ins,cL _ _ _ ⋯,1212,r,S,a,e,s,2,R4,[wf.w]▸he]
   cases eb:S.by e s with
   |none=>
    erw[212];rwa[bW (λz=>absurd z ⋯) (λ_=>?_)];rwa[⟨1112,b4,R,p,λj s' f q n w=>?_⟩]
    cbv
   |some d=>
    rw[show (Option.map (λn:Nat=>V.int (n:Int)) (some d)).getD V.non=V.int (d:Int) from rfl];erw[212];rwa[bW (λ_=>?_) (λz=>absurd rfl z)];rwa[⟨12,x,c.dx,12,R.c.ins,fk ⋯,1212,x,r,c,Y,J,W4,hd,Z,O,e,s,2,R.c,R.fits hB,λns H5 b5 nd hn h5=>?_⟩];rwa[⟨1112,b4.trans b5 λb z=>.inl z,R.wake nd hn h5,λr s n w=>p _ _ _ (di.mp w).1,λj s' f q n w=>?_⟩];let⟨w1,w2⟩:=di.mp w
    cbv
  rintro M X ⟨J,W4,v4,rfl,b4,R,p,C⟩;rw[aI]at C;rwa[k J W4 X (Te.trans (Bt.trans (.of s3) b4 λb z=>.inl z) λb z=>.inl z) R (λs n=>?_) λs n w=>?_]
  ·cbv
  ·let⟨j,f,q⟩:=aiz.mp (Y9 s n (p _ _ _ w));rwa[C j s f (by rw[agG f,q]) n w]
def cu.VM {x:Zs}{j:KA}{gs:Zf}{W:bI}{hd:Nat}{r:List (Zg×Nat)}{O:Zs->Prop}(h:cu a b H x c j gs B W hd r O)(F:∀(n:Nat) (g:Gg) (p dx k:Zs),gs[n]?\some g->dS a H p dx k g->p≠x)(n:Nat):cu a b (upd H x (.ins b j.dx (pk c j n))) x c j gs B W n r O:=by
 let kn:∀f o,(∀C d fs,o≠.ins C d fs)->H f\o->upd H x (.ins b j.dx (pk c j n)) f\o:=λf o q e=>by rw[ak (λz=>by rw[z,h.ins]at e;cbv)];rwa[e]
 let⟨t,u,g2⟩:=h.hG;rwa[⟨ah,⟨t,kn _ _ (by cbv) u,g2.l,g2.n,λi v g y s=>?_,g2.i⟩,kn _ _ (by cbv) h.hA,5,h.ne,h.ox,h.oG,h.oA,λf l=>?_⟩]
 ·let⟨p,dx,k,e,q,o⟩:=g2.s i v g y s;rwa[p,dx,k,e,⟨[ak (F i g p dx k s q)]▸q.ins,kn _ _ (by cbv) q.wo⟩,o]
 ·let⟨D,E,k1,k2⟩:=h.wt;rwa[D,E,k1.keep λf o l e=>by let⟨G,q⟩:=k1.there l;rw[q]at e;ext e;rwa[kn _ _ (by cbv) q],k2]
 ·cases e:f=x
  ·rwa[_,[e]▸ah,(by cbv),(by cbv),(by cbv),by cbv]
  ·let⟨o,q,m⟩:=h.th f l;rwa[o,[ak e]▸q,m]
def BQ {x:Zs}{d:KA}{i:Zf}{W:bI}{f:List (Zg×Nat)}{O:Zs->Prop}(h:cu a b H x c d i B W n f O){p j k:Zs}{g:Gg}(q:dS a H p j k g):p≠x:=λz=>by
 have:=q.ins;rw[z,h.ins]at this;let e:=ahS (λo:Option HO=>match o with|some (.ins _ _ fs)=>⇑fs|_=>0) this;rwa[absurd (show 6=7 from e) ⋯]
def M9 (S:RS)(a:Nat):Nat->Int->Prop:=λr _=>∃m∈S.aY.drop a,r=m\/r=S.aw m
inductive IG (CR CG CC:Zs) (vs:Zb) (H:Hp) (Q:VK) (E_:XK):Prop
 |mk (x r:Zs) (c:KA) (S:RS) (a:RA) (R:Za2) (bs:List (Nat×Zg×Nat)) (gs:Zf) (ag:Zh) (W:bI) (B hd:Nat) (fp:List (Zg×Nat)) (O:Zs->Prop):vs=[↑x]->kT CG CC S bs gs W (M9 S hd) B x r c hd fp O H ag W->B<=1000000->hd<=⇑S.aY->ay CR H r S a->Good S [] R->(∀m∈S.aY,m<S.q)->(∀b,a.own r b->¬O b)->(∀iM W' H',Bt O H H'->kT CG CC S bs gs W fT B x r c ⇑S.aY fp O H' iM W'->Q .non H')->IG CR CG CC vs H Q E_
def wH (T:Txt K mg A):T.mM.Ok mg P w base 3 (IG A.az A.aK A.aF):=by
 rwa[T.mM.on wy (λcz AA J s H vs Q E M h=>?_)]
 ·let⟨x,r,c,S,a,R,bs,gs,ag,W,B,hd,Z,O,rfl,h,hB,X,hR,I,U,dj,k⟩:=h
  refine⟨_,(au (bP (eM ag9 (aZ m2 (aH (pv 0) rfl) (bz bf rfl T.cR ahl (ae (aH (aH (pv 0) rfl) rfl) aj)) (bh _))
   (ai (aV (pm (pv 0) (aL T) T.je (qK T) M (ae (bC bu (aH (aH (pv 0) rfl) rfl) (aH (pv 0) rfl) (λ_ _=>rfl)) aj)))
   (au (b9 (pv 0) (aP cZ (aH (pv 0) rfl) ax) rfl)))))),?_⟩
  let rk:∀{v:Hp},Bt O H v->ay A.az v r S a:=λ{v} b=>hR.keep (λF o hb e=>b F o (dj F hb) e) (λF xs e=>b F _ (h.c.i5 e) e)
  rwa[⟨λ fm H'=>Q .non H',5,λ_ _ q=>q⟩];erw[λm σ v=>∃d l G,m=⇑S.aY - d/\σ=#v[↑x]/\d<=⇑S.aY/\Bt O H v/\kT A.aK A.aF S bs gs W (M9 S d) B x r c d Z O v l G,⟨_,hd,ag,W,22,X,λ_ _ _ e=>e,h⟩];rintro m σ v ⟨d,l,G,rfl,rfl,DV,N,i⟩;let R2:=rk N;let u:=R2.ins;erw[12,x,_,c.dx,112,i.c.ins,aL T,T.mP,uX^_,12,x,_,c.dx,112,i.c.ins,aL T,T.eZ,fW^_,r,_,a.dx,112,u,aJ T,T.sj,sV^_,a.aN,12,.inl (aD.of R2.hN),112212];rwa[bW (λq=>?_) (λq=>?_)]
  ·let q:(d:Int)<(⇑(ao (nI S.aY)):Int):=ahn q;rw[aI,bF]at q;let f:d<⇑S.aY:=∅
   let D:S.aY[d]?\(S.aY[d]'f):=agG f
   change S.aY[d]'f=m at D;let y:=U m (agC D);erw[_,λ_ _ z=>z];erw[12,x,c.dx,12,i.c.ins,fk ⋯,12,x,_,c.dx,112,i.c.ins,aL T,T.eZ,fW^_,r,_,a.dx,112,u,aJ T,T.sj,sV^_,12,x,_,c.dx,112,i.c.ins,aL T,T.mP,uX^_,a.aN,11,.int (m:Int),22,aD.of R2.hN,cD (bU (gk D))];rwa[⟨x,r,c,S,a,bs,gs,l,G,M9 S d,B,d,Z,O,m,2,⟨i.c,i.i,λ_ _ _ z=>z,i.b⟩,hB,R2,I.wf,dj,y,I.lt y,λL W3 H3 b3 t w1 w2=>?_⟩];erw[12,x,_,c.dx,112,t.c.ins,aL T,T.mP,uX^_,112212,x,_,c.dx,12,t.c.ins,aL T,T.mP,(by show 6<1000;decide)];rw[show V.int ((d:Int)+ 1)=V.int ((d+ 1:Nat):Int) from rfl,Li];let c4:=t.c.VM (λn g p dx wa _ z=>BQ t.c z) (d+ 1);rwa[⟨⇑S.aY - (d+ 1),3,d+ 1,L,W3,22,f,5,c4,t.i.ex λr' s n w M ex=>?_,λr s n w=>i.s _ _ _ (t.s _ _ _ w),t.b⟩]
   ·rwa[(N.trans b3 λb z=>.inl z).trans (λb o n e=>by rw[ak (λz=>n ([z]▸t.c.ox))];rwa[e]:Bt O H3 _) λb z=>.inl z]
   ·let⟨Y,j,C⟩:=ex;rw[ajK f]at j;rcases agW.mp j with z|z
    ·let em:Y=m:=by rw[z];rw[agG f]at D;rwa[Za0 D]
     subst em;rcases C with C|C
     ·rw[C,w1]at w;ext w
     ·subst C;rwa[.inl ⟨(I.el _ y).2,w2 s n w⟩]
    ·rwa[.inr ⟨Y,z,C⟩]
  ·let q:¬(d:Int)<(⇑(ao (nI S.aY)):Int):=λz=>q (ahh z)
   rw[aI,bF]at q;let e:d=⇑S.aY:=∅
   subst e;rwa[k l G v N ⟨i.c,i.i.ex λr' s n w M ex=>?_,i.s,i.b⟩];let⟨Y,j,_⟩:=ex;rw[List.drop_length]at j;ext j
def yV {h:Ze}(g:Good S h R)(o:∀a z b,R a z b->z∈l)(r:S.q<=100000)(m:⇑l<=100000)(s:⇑S.rows<=1000000)(p:⇑S.aY<=1000000):wC S:=by
 rwa[⟨g.wf,λc i=>g.lt i,λc z d e=>(g.st c z d e).2.1,λc n t=>g.cb c n t,λc _=>⟨g.kn c,λq j=>(g.st c q.1 q.2 (jt (g.kn c) j)).2.1,λq j _=>?_⟩,⟨r,λf k=>?_,s,p,λf k=>?_⟩⟩]
 ·rw[g.sy c q.1 q.2 (jt (g.kn c) j)];rfl
 ·let⟨c,i⟩:=ahs k;have:S.way c=f:=by unfold RS.way;rw[agM,i];rfl
  rw[<-this];rwa[agT (g.Hh o c) m]
 ·let⟨c,i⟩:=ahs k;have:S.cj c=f:=by unfold RS.cj;rw[agM,i];rfl
  rw[<-this];rwa[agT (g.Rk c) ∅]
def BR (S:RS):S.stand<=S.q:=by
 unfold RS.stand;rwa[agT List.countP_le_length (by cbv)]
noncomputable def Tf (R:Za2)(m L B f M:Nat)(e:Zg)(d:RS)(c:Ze)(S:RS)(a:Ze):Prop:=Good S a R/\S.q=m/\S.L=L/\⇑S.rows+ S.stand<=B/\⇑S.aY+ S.stand<=f/\mu ⇑e S a<=M/\∀b,j6 S a b->j6 d c b
def Lj {M:Nat}{r:Ze}(p:∀a z b,R a z b->z∈l)(J:m<=100000)(s:⇑l<=100000)(N:i<=1000000)(L:j<=1000000)(I:M<=1000000)(S:RS)(pend:Ze)(w:Way)(h:Tf R m n i j M l T r S (pend++[w])):
 wC S/\w.1<S.q/\w.2.2<S.q/\⇑pend<=1000000/\Tf R m n i j M l T r (S.takeIn pend w).1 (S.takeIn pend w).2/\mu ⇑l (S.takeIn pend w).1 (S.takeIn pend w).2<mu ⇑l S (pend++[w]):=by
 let⟨g,D,v,E,H,o,t⟩:=h;let⟨F,G,u,B,q⟩:=g.take p;let hw:=g.pl w (agL _ agP);rwa[⟨yV g p ∅ s ∅ ∅,hw.1,hw.2,5,⟨F,by rw[u,D],by rw[B,v],553,λC d=>t C (.take d)⟩,G⟩]
 ·unfold mu at o;rw[agF]at o;ext
 ·rcases q with ⟨e,k,f⟩|⟨e,c,z,x,y,_,_,_,_,_,k,f,_⟩
  ·rw[e,k];rwa[E]
  ·rw[k,agF];have:⇑([hH c z (min x y) (max x y)]:List Dt)=1:=rfl;ext
 ·rcases q with ⟨e,k,f⟩|⟨e,c,z,x,y,_,_,_,_,_,k,f,_⟩
  ·rw[e,f];rwa[H]
  ·rw[f,agF];have:⇑([max x y]:Zh)=1:=rfl;ext
def hU:z∈bq (2* n)↔z≠0/\z.natAbs<=n:=by
 unfold bq;rw[ahu];constructor
 ·rintro ⟨i,a,rfl⟩;rwa[M12.sZ (ahj.mp a)]
 ·rintro ⟨d,c⟩;cases b:0<z
  ·erw[2* (z.toNat - 1),ahj.mpr ∅];unfold M12.st;rw[ag8 ∅];ext
  ·erw[2* (z.natAbs - 1)+ 1,ahj.mpr ∅];unfold M12.st;rw[ag3 ∅];ext
structure iN (CR:Zs) (H:Hp) (r:Zs) (S:RS) (a:RA) (R:Za2) (ks:Zg) (B:Nat):Prop where
 at_:ay CR H r S a
 g:Good S [] R
 w:fI S
 k:∀a z b,R a z b->z∈ks
 m:S.q<=2000
 l:⇑ks<=400
 rb:⇑S.rows+ S.stand<=B
 wb:⇑S.aY+ S.stand<=900000
def iN.keep {CR:Zs}(h:iN CR H a S O R l n)(k:∀b o,O.own a b->H b\o->I b\o)(d:∀b c,H b\.tup c->I b\.tup c):iN CR I a S O R l n:=⟨h.at_.keep k d,h.g,h.w,h.k,h.m,h.l,h.rb,h.wb⟩
def iN.same {CR:Zs}(h:iN CR H a S O R l n)(s:aq H I):iN CR I a S O R l n:=h.keep (λb o _ e=>s^e) (λb o e=>s^e)
def xX (h:ay a H b S O){c:Zs}{f:List (Zd×V)}(e:H c\.dT f):¬O.own b c:=λz=>by
 rcases z with z|z|z
 ·rw[z,h.ins]at e;ext e
 ·let⟨d,q⟩:=h.Mi z;cbv
 ·let⟨d,q⟩:=h.qi z;cbv
def Ln (w:Nat)(p:Zh)(k:Nat)(h:⇑p<=100000):ml (lP w p k):=by
 rwa[.t (by show 4<=100000;decide) λd a=>?_]
 simp only[agW,ahx,aiR]at a;rcases a with rfl|rfl|rfl|rfl
 ·rwa[.s]
 ·rwa[.i]
 ·rwa[.t (by rw[agH];rwa[h]) λd a=>?_]
  let⟨c,_,rfl⟩:=ahu.mp a;rwa[.i]
 ·rwa[.i]
inductive IH (CR CG CC:Zs) (vs:Zb) (H:Hp) (Q:VK) (E_:XK):Prop
 |mk (x r p dx wa:Zs) (c:KA) (S:RS) (a:RA) (R:Za2) (ks:Zg) (B:Nat) (ws:Za3) (nr:Nat) (bs:List (Nat×Zg×Nat)) (gs:Zf) (ag:Zh) (W:bI) (fp:List (Zg×Nat)) (O:Zs->Prop) (n:Nat) (g:Gg):vs=[↑x,↑p]->cu CG CC H x r c gs ag W ⇑S.aY fp O->iN CR H r S a R ks B->B<900000->(∀b,a.own r b->¬O b)->CI S bs gs ag W fT (some n)->gs[n]?\none->bs[n]?\(g.which,g.word,g.start)->dS CG H p dx wa g->¬O p->¬a.own r p->GI S g->g.first=g.last->S.aw g.start=g.start->S.aw g.front=g.front->S.aw g.bp=g.bp->ws[g.which]?\g.word->(g.which<nr\/g.start=0)->(∀z∈g.word,z∈ks/\-z∈ks)->⇑g.word<=1000->⇑ag+ 2* ⇑gs<=1000000->(∀S' a' R' iM W' H',(∀b o,¬O b->¬a.own r b->H b\o->H' b\o)->cu CG CC H' x r c gs iM W' ⇑S'.aY fp O->iN CR H' r S' a' R' ks (B+ 1)->(∀b,a'.own r b->a.own r b\/H b=none)->CI S' bs gs iM W' fT none->⇑iM<=⇑ag+ 2* ⇑gs->(∀a z b,R a z b->R' a z b)->S'.q=S.q->S'.L=S.L->Tr ws nr S S'->Q .non H')->IH CR CG CC vs H Q E_
def xY (T:Txt K mg A):T.nV.Ok mg P w base 6 (IH A.az A.aK A.aF):=by
 rwa[T.nV.on oX (λcz AA outer s H vs Q E U h=>?_)]
 ·let⟨x,r,p,t,wa,c,S,a,R,ks,B,ws,nr,bs,I,ag,W,fp,O,n,g,rfl,Z,f,hB,dj,ci,Xh,II,v,npO,npo,i,F,es,ef,er,Nb,hnr,hks,IA,L,k⟩:=h
  refine⟨_,(ai (bH 2 oX.nd (bC gj (aH (pv 1) rfl) (aH (pv 1) rfl) (λ_ _=>rfl)))
   (ai (bJ (aZ fb (pm (aH (pv 0) rfl) (aJ T) T.iu (hO T) U (ae (aH (pv 1) rfl) (ae (pv 2) aj))) (aH (pv 1) rfl) (bh _))
    (au w9)
    bj)
   (ai (aV (pm (aH (pv 0) rfl) (aJ T) T.r6 (BK T) U (ae (aH (pv 1) rfl) (ae (pv 2) (ae (aH (pv 1) rfl) (ae (pm (pv 1) (aT T) T.r0 (BP T) U (ae (aH (pv 0) rfl) aj)) aj))))))
   (ai (aV (pm (pv 0) (aL T) T.eX (fN T) U (ae (aH (pv 1) rfl) (ae (pv 2) aj))))
   (ai (aV (pm (pv 0) (aL T) T.eX (fN T) U (ae (aH (pv 1) rfl) (ae (e8 dE (pv 2)) aj))))
   (au (aV (vF (pv 0) (aL T) T.mM (wH T) U)))))))),?_⟩
  rwa[pL ?_];intro qF nH jA fX gH;let hz:=Gg.qm (g:=g) ([F]▸i.ll);let qm:iQ (ao g.word) (g.first:Int)\(.int g.z1):=cD (bU hz);let gd:=f.g;erw[12,p,_,t,112,v.ins,aT T,T.jy,j9 _ _,12,p,_,t,112,v.ins,aT T,T.eY,gU _ _,wa,11,.int g.z1,22,bN.of v.wo,qm];erw[12,x,_,c.dx,112,Z.ins,aL T,T.eZ,fW^_,r,a.dx,12,f.at_.ins,cL _ _ _ ⋯,12,p,_,t,112,v.ins,aT T,T.gS,kb _ _,12,r,S,a,g.front,g.z1,2,f.at_,[gd.wf.w]▸i.f,12,p,_,t,112,v.ins,aT T,T.hM,kc _ _]
  let fin:S.by g.front g.z1=some g.bp->Q .non H:=λj=>by
   rwa[k S a R ag W H (λ_ _ _ _ e=>e) Z ⟨f.at_,f.g,f.w,f.k,f.m,f.l,by have:=f.rb;ext,f.wb⟩ (λb z=>.inl z) (ci.done Xh λb eb=>?_) ∅ (λ_ _ _ z=>z) rfl rfl (.refl S)];rw[II]at eb;obtain rfl:=Za0 eb;rwa[.inr (i.whole F es ef er j)]
  cases j:S.by g.front g.z1=some g.bp
  ·rw[j];erw[212];rwa[bW (λ_=>fin j) (λz=>absurd (ahh rfl) z)]
  let N:Jw (((S.by g.front g.z1).map λn:Nat=>V.int (n:Int)).getD .non) (.int (g.bp:Int))=true/\decide ((((S.by g.front g.z1).map λn:Nat=>V.int (n:Int)).getD .non)=V.int (g.bp:Int))=false:=by
   cases q:S.by g.front g.z1 with
   |none=>rwa[2,ahD f!""]
   |some d=>rwa[2,ahD (λz=>j (by rw[q];have:=V.int.inj z;congr 1;omega))]
  erw[N.1,12];rw[N.2];rwa[dY ?_];clear fin N;rwa[⟨12,x,_,c.dx,112,Z.ins,aL T,T.eZ,fW^_,r,a.dx,12,f.at_.ins,cL _ _ _ ⋯,12,p,_,t,112,v.ins,aT T,T.gS,kb _ _,1212,p,_,t,112,v.ins,aT T,T.hM,kc _ _,12,p,t,12,v.ins,MZ ⋯,12,x,_,c.dx,112,Z.ins,aL T,T.eZ,fW^_,p,t,wa,r,g,S,a,R,2,v,f.at_,gd,i.s,i.r,i.ll,IA,λq H1 s1 dt=>?_⟩];let lx:=pj (by_:=S.by) (ws:=g.word.take g.first) (r:=g.start);let ly:=pj (by_:=S.by) (ws:=g.word.drop (g.last+ 1)) (r:=g.bp);rw[ahm]at lx;rw[ahG]at ly;let f1:=i.wf;let f2:=i.wr;rw[es,ef]at f1;rw[es,er,<-F]at f2;rw[<-F]at dt ly;let ra:AH ws nr S g.which g.word g.start g.first g.front g.bp g.z1:=⟨Nb,hnr,⟨i.s,es⟩,hz,f1,f2,⟨i.f,ef⟩,⟨i.r,er⟩,j⟩
  let C:∀a y b,fz R g.front g.z1 g.bp a y b->y∈ks:=by
   have:=hks g.z1 (agC hz);rintro a y b (z|⟨_,e,_⟩|⟨_,e,_⟩)
   ·rwa[f.k _ _ _ z]
   ·rw[e];rwa[this.1]
   ·rw[e];rwa[this.2]
  let stl:=BR S
  let MY:mu ⇑ks (pO S g.which g.word g.start g.first g.bp) [(g.front,g.z1,g.bp)]<=1000000:=by
   unfold mu;let h1:(pO S g.which g.word g.start g.first g.bp).stand=S.stand:=rfl;have:S.stand* (⇑ks+ 1)<=2000* 401:=ajM (by have:=f.m;omega) (by have:=f.l;omega);rw[h1];show S.stand* (⇑ks+ 1)+ 1<=_;ext
  let gl:=gd.lay g.z1 i.f i.r (pO S g.which g.word g.start g.first g.bp).rows;rwa[⟨r,q,S,a,g.front,g.bp,g.z1,_,Tf (fz R g.front g.z1 g.bp) S.q S.L (B+ 1) 900000 1000000 ks (pO S g.which g.word g.start g.first g.bp) [(g.front,g.z1,g.bp)],mu ⇑ks,2,f.at_.same s1,by have:=f.rb;ext,dt,Ln _ _ _ (by rw[agF,aha,aha];omega),⟨gl,225,f.wb,MY,λ_ z=>z⟩,Lj C (by have:=f.m;omega) (by have:=f.l;omega) ∅ ⋯ ⋯,λu a' H2 b2 h2 i2 o2=>?_⟩]
  ·show ⇑(S.rows++[_])+ S.stand<=_;rw[agF];have:=f.rb;show _+ 1+ _<=_;ext
  let⟨g2,em,eL,rb2,wb2,_,re⟩:=i2;let lay:=re u (.nil u);let⟨_,w2,_,_,l,el⟩:=lay.all gl C (⟨f.w.a,f.w.b,f.w.c⟩:fI (pO S g.which g.word g.start g.first g.bp));let el:u.aY=S.aY++l:=el;let D:∀b o,¬a.own r b->H b\o->H2 b\o:=λb o nb e=>b2 b o nb (s1^e)
  let Xi:∀b,a'.own r b->a.own r b\/H b=none:=λb z=>(o2 b z).imp id (same_none s1)
  let M:∀b,a'.own r b->¬O b:=λb z y=>by
   rcases Xi b z with q|q
   ·rwa[dj b q y]
   ·let⟨o,e,_⟩:=Z.th b y;cbv
  let X:cu A.aK A.aF H2 x r c I ag W ⇑S.aY fp O:=Z.keep (λb o j e=>D b o (λz=>dj b z j) e) (λb xs e=>D b _ (f.at_.sW e) e);let p2:dS A.aK H2 p t wa g:=⟨D _ _ npo v.ins,D _ _ (f.at_.sW v.wo) v.wo⟩;let lt:=Later.of gd g2 ja (ajR em.symm)
  let BU:=ci.lay Xh gd g2 em f.w w2 el i.f ef i.r er λb eb=>by
   rw[II]at eb;obtain rfl:=Za0 eb;show u.aw g.start≠g.start\/wk u.by g.start g.word=some g.start;cases Y:u.aw g.start=g.start
   ·right
    let h1:=lt.wk f1;let h3:=lt.wk f2;let hbb:=g2.vu.mpr ⟨g.front,g.bp,pK,22⟩;rw[Y]at h1 h3;have:g.word=g.word.take g.first++(g.z1::g.word.drop (g.first+ 1)):=by rw[<-drop_cons hz,ajA]
    rw[this,rq h1,jv hbb];rwa[h3]
   ·rwa[.inl Y]
  let IJ:kT A.aK A.aF u bs I W _ (⇑ag+ 2* ⇑I) x r c ⇑S.aY fp O H2 ag W:=⟨X,BU,λ_ _ _ z=>z,by have:=BU.two;ext⟩;rwa[⟨12,x,c.dx,12,X.ins,fk ⋯,12,p,_,t,112,p2.ins,aT T,T.gS,kb _ _,12,x,r,c,I,ag,W,⇑S.aY,fp,O,g.front,g.z1,2,X,IJ.fits L,λns H3 b3 nd hn c3=>?_⟩];let Xj:=IJ.wake nd hn c3;let p3:dS A.aK H3 p t wa g:=⟨b3 _ _ npO p2.ins,b3 _ _ (X.i5 p2.wo) p2.wo⟩;rwa[⟨12,x,c.dx,12,c3.ins,fk ⋯,12,p,_,t,112,p3.ins,aT T,T.hM,kc _ _,1212,x,r,c,I,11,⇑S.aY,fp,O,g.bp,-g.z1,2,c3,Xj.fits L,λns2 H4 b4 nd2 Xk c4=>?_⟩];let Xl:=Xj.wake nd2 Xk c4;let G:Bt O H2 H4:=b3.trans b4 λb z=>.inl z
  let R4:ay A.az H4 r u a':=h2.keep (λb o j e=>G b o (M b j) e) (λb xs e=>G b _ (X.i5 e) e)
  let i4:CI u bs I (ag++ns++ns2) (gx (gx W g.front g.z1) g.bp (-g.z1)) (M9 u ⇑S.aY) none:=Xl.i.ex λr' s n' w U ex=>by
   let⟨w1,n1⟩:=di.mp w;let⟨w2,n2⟩:=di.mp w1;rcases ex with ⟨Y,e2⟩|⟨Y,e2⟩|⟨m,hm,e⟩
   ·rwa[absurd ⟨by rw[Y],e2⟩ n2]
   ·rwa[absurd ⟨by rw[Y],e2⟩ n1]
   ·rwa[.inr ⟨m,by cbv,e⟩]
  rwa[⟨_,rfl,x,c.dx,_,rfl,c4.ins,fk (by decide),x,r,c,u,a',_,bs,I,_,_,_,⇑S.aY,fp,O,rfl,⟨c4,i4,λ_ _ _ z=>z,Xl.b⟩,L,by rw[el,agF];ext,R4,g2,w2.c,M,λTg W5 H5 b5 h5=>?_⟩];let J:Bt O H2 H5:=G.trans b5 λb z=>.inl z
  rwa[k u a' _ Tg W5 H5 (λb o n1 n2 e=>J b o n1 (D b o n2 e)) h5.c ⟨h2.keep (λb o j e=>J b o (M b j) e) (λb xs e=>J b _ (X.i5 e) e),g2,w2,C,[em]▸f.m,f.l,rb2,wb2⟩ Xi h5.i (by have:=h5.b;omega) ja em eL (.step (.refl S) ra lay)]
def VN {x:V}{A B:Prop}(h:x=q)(k:B):if (!decide (x=q))=true then A else B:=by cbv
section
variable {CG CC:Zs}{H H':Hp}{x r:Zs}{c:KA}{gs:Zf}{ag:Zh}{W:bI}{hd:Nat}{fp:List (Zg×Nat)}{O:Zs->Prop}{gv:Zb}{n:Nat}{p dx wa:Zs}{g g':Gg}
def cu.VP (h:cu CG CC H x r c gs ag W hd fp O)(hG:H c.aG\.lst gv)(j:qd CG H gv gs O)(I:gv[n]?\↑p)(N:O p)(q:dS CG H p dx wa g)(f:∀b o,b≠p->H b\o->H' b\o)(L:dS CG H' p dx wa g'):cu CG CC H' x r c (gs.set n (some g')) ag W hd fp O/\qd CG H' gv (gs.set n (some g')) O:=by
 let kn:∀b o,(∀C d fs,o≠.ins C d fs)->H b\o->H' b\o:=λb o w e=>f b o (λz=>by rw[z,q.ins]at e;cbv) e
 let a:qd CG H' gv (gs.set n (some g')) O:=by
  rwa[⟨[ahb]▸j.l,λi v y l=>?_,λi v u y l=>?_,j.i⟩]
  ·rcases fH l with ⟨_,z⟩|⟨_,z⟩
   ·ext z
   ·rwa[j.n i v y z]
  ·rcases fH l with ⟨z1,z⟩|⟨z1,z⟩
   ·cbv
   ·let⟨F,t,s,e,B,J⟩:=j.s i v u y z;let G:F≠p:=λz=>z1 (j.i i n p (by cbv) I)
    rwa[F,t,s,e,⟨f _ _ G B.ins,kn _ _ (by cbv) B.wo⟩,J]
 rwa[⟨⟨f _ _ (BQ h q).symm h.ins,⟨gv,kn _ _ (by cbv) hG,a⟩,kn _ _ (by cbv) h.hA,5,h.ne,h.ox,h.oG,h.oA,λb k=>?_⟩,a⟩]
 ·let⟨D,E,k1,k2⟩:=h.wt;rwa[D,E,k1.keep λb o k e=>by let⟨M,q⟩:=k1.there k;cbv,k2]
 ·cases e:b=p
  ·rwa[_,[e]▸L.ins,(by cbv),(by cbv),(by cbv),by cbv]
  ·let⟨o,q,m⟩:=h.th b k;rwa[o,f _ _ e q,m]
theorem cu.Er (h:cu CG CC H x r c gs ag W hd fp O)(hG:H c.aG\.lst gv)(f:qd CG H gv gs O)(M:gv[n]?\↑p)(q:dS CG H p dx wa g):cu CG CC (upd H c.aG (.lst (gv.set n .non))) x r c (gs.set n none) ag W hd fp (λb=>O b/\b≠p):=by
 let k:∀b o,b≠c.aG->H b\o->upd H c.aG (.lst (gv.set n .non)) b\o:=λb o n e=>by rw[ak n];rwa[e]
 let kn:∀b o,(∀s,o≠.lst s)->H b\o->upd H c.aG (.lst (gv.set n .non)) b\o:=λb o w e=>k b o (λz=>by cbv) e
 let I:∀{b s},H b\.lst s->b≠p:=λ{b s} e z=>by rw[z,q.ins]at e;ext e
 rwa[⟨kn _ _ (by cbv) h.ins,⟨_,ah,[ahb,ahb]▸f.l,λi v l d=>?_,λi v u l d=>?_,λi j R l d=>?_⟩,k _ _ h.ne.symm h.hA,5,h.ne,⟨h.ox,(BQ h q).symm⟩,⟨h.oG,I hG⟩,⟨h.oA,I h.hA⟩,λb a=>?_⟩]
 ·rcases fH l with ⟨z1,z⟩|⟨z1,z⟩
  ·rwa[z]
  ·rcases fH d with ⟨t,_⟩|⟨_,y⟩
   ·rwa[absurd t z1]
   ·rwa[f.n i v z y]
 ·rcases fH d with ⟨_,z⟩|⟨z1,z⟩
  ·ext z
  ·rcases fH l with ⟨t,_⟩|⟨_,y⟩
   ·rwa[absurd t z1]
   ·let⟨G,C,B,e,F,N⟩:=f.s i v u y z;let L:G≠p:=λw=>z1 (f.i i n p (by cbv) M)
    rwa[G,C,B,e,⟨kn _ _ (by cbv) F.ins,kn _ _ (by cbv) F.wo⟩,N,L]
 ·rcases fH l with ⟨_,z⟩|⟨_,z⟩
  ·ext z
  ·rcases fH d with ⟨_,y⟩|⟨_,y⟩
   ·ext y
   ·rwa[f.i i j R z y]
 ·let⟨D,E,k1,k2⟩:=h.wt;rwa[⟨D,E,k1.keep λb o a e=>by let⟨Q,q⟩:=k1.there a;cbv,λb a=>⟨k2.o b a,λz=>?_⟩,k2.d,k2.e,k2.w⟩];let⟨Q,J⟩:=k1.there a;rw[z,q.ins]at J;ext J
 ·cases e:b=c.aG
  ·rwa[_,[e]▸ah,(by cbv),(by cbv),(by cbv),by cbv]
  ·let⟨o,q,m⟩:=h.th b a.1;rwa[o,k _ _ e q,m]
end
structure BV (ws:Za3) (nr:Nat) (ks:Zg) (bs:List (Nat×Zg×Nat)):Prop where
 w:∀b∈bs,ws[b.1]?\b.2.1
 n:∀b∈bs,b.1<nr\/b.2.2=0
 l:∀b∈bs,⇑b.2.1<=1000
 k:∀b∈bs,∀z∈b.2.1,z∈ks/\-z∈ks
 c:⇑bs<100000
def live (a:Zf):Nat:=a.countP (·.isSome)
def BW {a:Zf}{g:Gg}(h:a[n]?\some g):(∀u:Gg,live (a.set n (some u))=live a)/\live (a.set n none)+ 1=live a:=by
 unfold live
 induction a generalizing n with
 |nil=>simp at h
 |cons y r c=>
  cases n with
  |zero=>
   have:y\g:=by simpa using h
   subst this;simp[List.countP_cons]
  |succ n=>
   let⟨b,d⟩:=c (n:=n) (by simpa using h);simp only[List.set_cons_succ,List.countP_cons];rwa[λu=>by rw[b u],3]
inductive IK (CR CG CC:Zs) (vs:Zb) (H:Hp) (Q:VK) (E_:XK):Prop
 |mk (x r:Zs) (c:KA) (S:RS) (a:RA) (R:Za2) (ks:Zg) (B:Nat) (ws:Za3) (nr:Nat) (bs:List (Nat×Zg×Nat)) (gs:Zf) (ag:Zh) (W:bI) (fp:List (Zg×Nat)) (O:Zs->Prop) (n:Nat):vs=[↑x,.int n]->cu CG CC H x r c gs ag W ⇑S.aY fp O->iN CR H r S a R ks B->B<900000->(∀b,a.own r b->¬O b)->CI S bs gs (ag++[n]) W fT none->BV ws nr ks bs->⇑ag+ 2* ⇑gs<=1000000->(∀S' a' R' iT iM W' O' B' H',(∀b o,¬O b->¬a.own r b->H b\o->H' b\o)->cu CG CC H' x r c iT iM W' ⇑S'.aY fp O'->iN CR H' r S' a' R' ks B'->(∀b,a'.own r b->a.own r b\/H b=none)->(∀b,O' b->O b\/H b=none)->(∀b,a'.own r b->¬O' b)->CI S' bs iT iM W' fT none->(∀a z b,R a z b->R' a z b)->S'.q=S.q->S'.L=S.L->Tr ws nr S S'->(live iT=live gs/\⇑iM=⇑ag/\B'=B)\/(live iT+ 1=live gs/\⇑iM<=⇑ag+ 2* ⇑gs/\B'<=B+ 1)->Q .non H')->IK CR CG CC vs H Q E_
theorem uY (T:Txt K mg A):T.kZ.Ok mg P w base 7 (IK A.az A.aK A.aF):=by
 rwa[T.kZ.on mR (λcz AA outer s H vs Q E hr h=>?_)]
 ·let⟨x,r,c,S,a,R,ks,B,ws,nr,bs,G,ag,W,fp,O,n,rfl,h,L,hB,dj,ci,m,Xm,k⟩:=h
  refine⟨_,(ai (bH 2 mR.nd (bC bu (aH (pv 0) rfl) (pv 1) (λ_ _=>rfl)))
   (ai (bJ (aZ vi (pv 2) du (bh _))
    (au w9)
    bj)
   (ai (bJ (aZ lB (pm (aH (pv 0) rfl) (aJ T) T.hJ (iI T) hr (ae (aH (pv 2) rfl) aj)) (aH (pv 2) rfl) (bh _))
    (ai (jE du (oh (aH (pv 0) rfl) (pv 1) set_list))
    (au w9))
    bj)
   (ai (aV (pm (pv 2) (aT T) T.kY (uW T) hr (ae (aH (pv 0) rfl) aj)))
   (au (bP (bJ (aZ m2 (aH (pv 2) rfl) (aH (pv 2) rfl) (bh _))
    (ai (aV (pm (pv 0) (aL T) T.jR (nK T) hr (ae (pv 1) (ae (aH (pv 2) rfl) (ae (bC gj (aH (pv 2) rfl) (aH (pv 2) rfl) (λ_ _=>rfl)) aj)))))
    (au (aV (pm (pv 0) (aL T) T.jR (nK T) hr (ae (pv 1) (ae (aH (pv 2) rfl) (ae (e8 dE (bC gj (aH (pv 2) rfl) (aH (pv 2) rfl) (λ_ _=>rfl))) aj)))))))
    (ai (jE du (oh (aH (pv 0) rfl) (pv 1) set_list))
    (au (aV (pm (pv 0) (aL T) T.nV (xY T) hr (ae (pv 2) aj)))))))))))),?_⟩
  rwa[uC ?_];intro nH jA fX gH;let J:n<⇑G:=ci.ab n (agL _ (agK.mpr rfl));let⟨F,hG,Z⟩:=h.hG;let hv:F[n]?\(F[n]'([Z.l]▸J)):=agG _
  change F[n]'(by cbv)=v at hv;let gd:=L.g;erw[12,x,_,c.dx,112,h.ins,aL T,T.jz,kS^_,12,c.aG,11,v,22,aD.of hG,cD hv];let f:G[n]?\(G[n]'J):=agG J
  change G[n]'J=og at f
  cases og with
  |none=>
   obtain rfl:=Z.n n v hv f;rwa[⟨12212,jI ?_⟩];rwa[k S a R G ag W O B H (λ_ _ _ _ e=>e) h L (λb z=>.inl z) (λb z=>.inl z) dj (ci.pop.done f λb eb=>ci.de n b f (by cbv) eb) (λ_ _ _ z=>z) rfl rfl (.refl S) (.inl ⟨222⟩)]
  |some g=>
   let⟨p,i,wa,rfl,U,op⟩:=Z.s n v g hv f;let⟨II,gi,_⟩:=ci.al n g f;let D:=agC II;let IA:⇑g.word<=1000:=m.l _ D;let V:¬a.own r p:=λz=>dj p z op
   rwa[⟨12212,dY ?_⟩];erw[12,x,_,c.dx,112,h.ins,aL T,T.eZ,fW^_,r,a.dx,12,L.at_.ins,cL _ _ _ ⋯,12,p,_,i,112,U.ins,aT T,T.p8,uV _ _,r,S,a,g.start,S.aw g.start,2,L.at_,pf ([gd.wf.e]▸gi.s),12,p,_,i,112,U.ins,aT T,T.p8,uV _ _,212];let Y:∀b,a.own r b->¬(O b/\b≠p):=λb z y=>dj b z y.1
   cases es:S.aw g.start=g.start
   ·rwa[VN (by rw[es]) ?_];rwa[⟨12,p,i,12,U.ins,MZ ⋯,12,x,_,c.dx,112,h.ins,aL T,T.eZ,fW^_,p,i,wa,r,g,S,a,R,2,U,L.at_,gd,gi,V,IA,λd j f1 l ad=>?_⟩];let R1:iN A.az j r S a R ks B:=L.keep (λb o hb e=>f1 b o (λz=>V (z ▸ hb)) e) (λb xs e=>f1 b _ (bY e U.ins (by cbv)) e);let⟨c1,gs1⟩:=h.VP hG Z hv op U f1 l;let Xn:j c.aG\(.lst F):=f1 _ _ (bY hG U.ins (by cbv)) hG;let t:=ad.gi;let Xc:=t.ll;let Nc:=t.fl;let aad:⇑d.word<=1000:=by rw[ad.wo];rwa[IA]
    let z1:=Gg.qm (g:=d) ∅;let z2:=Gg.at2 (g:=d) Xc;let afp:(G.set n (some d))[n]?\(some d):=ahA J
    let lv:=BW f;let lm:=L.m;rwa[⟨λ_ H'=>Q .non H',5,λ_ _ q=>q⟩];erw[12,p,_,i,112,l.ins,aT T,T.eY,gU _ _,12,p,_,i,112,l.ins,aT T,T.iH,kg _ _,112212];rwa[bW (λq=>?_) (λq=>?_)]
    ·let q:(d.first:Int)<(d.last:Int):=ahn q;let bw:∀z∈d.word,-1000<=z/\z<=1000:=λz hz=>ci.bd _ D z (by rw[<-ad.wo];rwa[hz])
     let b1:=bw _ (agC z1);let b2:=bw _ (agC z2);let hf:=t.f;let hrr:=t.r;let Xo:n<100000:=by have:=ci.len;have:=m.c;ext
     rwa[⟨12,x,c.dx,12,c1.ins,fk ⋯,1212,p,_,i,112,l.ins,aT T,T.gS,kb _ _,12,p,_,i,112,l.ins,aT T,T.jy,j9 _ _,12,p,_,i,112,l.ins,aT T,T.eY,gU _ _,wa,11,.int d.z1,22,bN.of l.wo,cD (bU z1),x,r,c,_,ag,W,⇑S.aY,fp,O,n,d.front,d.z1,2,c1,3,Xo,b1,λO2 H2 Xp f2 Nf BX u=>?_⟩];let M:dS A.aK H2 p i wa d:=⟨f2 _ _ (by cbv) l.ins,f2 _ _ (by cbv) l.wo⟩;rwa[⟨12,x,c.dx,12,u.ins,fk ⋯,1212,p,_,i,112,M.ins,aT T,T.hM,kc _ _,12,p,_,i,112,M.ins,aT T,T.jy,j9 _ _,12,p,_,i,112,M.ins,aT T,T.iH,kg _ _,wa,11,.int (-d.z2),22,bN.of M.wo,cD (bU z2),12,x,r,c,_,ag,_,⇑S.aY,fp,O2,n,d.bp,d.z2,(by cbv),u,3,Xo,3,λO3 H3 bt3 f3 Xq nw3 c3=>?_⟩]
     let aae:∀b,O3 b->O b\/j b=none:=λb z=>by
      rcases nw3 b z with y|y
      ·rwa[BX b y]
      ·cases w:O b
       ·rwa[.inl w]
       ·rwa[.inr ?_]
        cases e:j b with
        |none=>rfl
        |some o=>rw[Xp b o w e]at y;ext y
     let nw:∀b,O3 b->O b\/H b=none:=λb z=>by
      rcases aae b z with y|y
      ·rwa[.inl y]
      ·cases w:b=p
       ·cbv
       ·rwa[.inr ?_]
        cases e:H b with
        |none=>rfl
        |some o=>rw[f1 b o w e]at y;ext y
     let C:Bt O j H3:=Xp.trans bt3 BX
     let dj3:∀b,a.own r b->¬O3 b:=λb z y=>by
      rcases nw b y with w|w
      ·rwa[dj b z w]
      ·let⟨o,e⟩:=L.at_.there z;cbv
     rwa[k S a R _ ag _ O3 B H3 (λb o I _ e=>C b o I (f1 b o (λz=>I ([z]▸op)) e)) c3 (R1.keep (λb o hb e=>C b o (dj b hb) e) (λb xs e=>C b _ (c1.i5 e) e)) (λb z=>.inl z) nw dj3 (ci.pop.waits f ad ∅) (λ_ _ _ z=>z) rfl rfl (.refl S) (.inl ⟨lv.1 d,22⟩)]
    ·let q:¬(d.first:Int)<(d.last:Int):=λz=>q (ahh z)
     let efl:d.first=d.last:=∅
     erw[12,x,_,c.dx,112,c1.ins,aL T,T.jz,kS^_,12,c.aG,11,n,22,Xn,pe ([Z.l]▸J)];let u:=c1.Er Xn gs1 hv l;let kn:∀b o,(∀xs,o≠.lst xs)->j b\o->upd j c.aG (.lst (F.set n .non)) b\o:=λb o w e=>by rw[ak (λz=>by cbv)];rwa[e]
     let M:dS A.aK (upd j c.aG (.lst (F.set n .non))) p i wa d:=⟨kn _ _ (by cbv) l.ins,kn _ _ (by cbv) l.wo⟩;let X:¬a.own r c.aG:=λz=>dj _ z h.oG
     let R2:iN A.az (upd j c.aG (.lst (F.set n .non))) r S a R ks B:=R1.keep (λb o hb e=>[ak (λz=>X (by cbv))]▸e) (λb xs e=>kn _ _ (by cbv) e);let ess:(G.set n (some d)).set n none=G.set n none:=List.set_set ..;rw[ess]at u;let Ti:∀b o,¬O b->H b\o->upd j c.aG (.lst (F.set n .non)) b\o:=λb o I e=>by rw[ak (λz=>I ([z]▸h.oG))];cbv
     let N:∀b,upd j c.aG (.lst (F.set n .non)) b=none->H b=none:=λb z=>by
      cases e:H b with
      |none=>rfl
      |some o=>
       cases w:O b
       ·cases y:b=p
        ·rw[y,M.ins]at z;ext z
        ·let⟨o2,e2,_⟩:=u.th b ⟨w,y⟩;cbv
       ·rw[Ti b o w e]at z;ext z
     change upd j c.aG (.lst (F.set n .non))=H2 at u M R2 Ti N ⊢;rwa[⟨12,x,c.dx,12,u.ins,fk ⋯,12,x,r,p,i,wa,c,S,a,R,ks,B,ws,nr,bs,G.set n none,ag,W,fp,_,n,d,2,u,R2,hB,Y,ci.pop.kill,ahA J,by rw[II,ad.wh,ad.wo,ad.st],M,(λz=>z.2 rfl),V,t,efl,[ad.st]▸es,ad.ef,ad.er,[ad.wh,ad.wo]▸m.w _ D,[ad.wh,ad.st]▸m.n _ D,[ad.wo]▸m.k _ D,aad,[ahb]▸Xm,λS' a' R' iM W' H' f3 c3 R3 o3 Tj la rr em eL tr=>?_⟩];let o03:∀b,a'.own r b->a.own r b\/H b=none:=λb z=>(o3 b z).imp id (N b)
     rw[ahb]at la;rwa[k S' a' R' _ iM W' _ (B+ 1) H' (λb o I n2 e=>f3 b o (λz=>I z.1) n2 (Ti b o I e)) c3 R3 o03 (λb z=>.inl z.1) (λb z y=>?_) Tj rr em eL tr (.inr ⟨lv.2,la,agJ _⟩)];rcases o3 b z with w|w
     ·rwa[Y b w y]
     ·let⟨o2,e2,_⟩:=u.th b y;cbv
   ·rwa[bW (λ_=>?_) (λz=>absurd (by cbv) z)];erw[12,x,_,c.dx,112,h.ins,aL T,T.jz,kS^_,12,c.aG,11,n,22,hG,pe ([Z.l]▸J)];let u:=h.Er hG Z hv U;let X:¬a.own r c.aG:=λz=>dj _ z h.oG
    rwa[k S a R _ ag W _ B _ (λb o I _ e=>[ak (λz=>I ([z]▸h.oG))]▸e) u (L.keep (λb o hb e=>[ak (λz=>X (by cbv))]▸e) (λb xs e=>[ak (λz=>by cbv)]▸e)) (λb z=>.inl z) (λb z=>.inl z.1) Y (ci.pop.kill.done (ahA J) λb eb=>?_) (λ_ _ _ z=>z) rfl rfl (.refl S) (.inr ⟨(BW f).2,33⟩)]
    cbv
def _root_.Lake.L2.Tr.trans {ws:Za3}{c:RS}(h:Tr ws n S T)(k:Tr ws n T c):Tr ws n S c:=by
 induction k with
 |refl=>exact h
 |step _ a b d=>exact .step d a b
inductive BZ (CR CG CC:Zs) (vs:Zb) (H:Hp) (Q:VK) (E_:XK):Prop
 |mk (x r:Zs) (c:KA) (S:RS) (a:RA) (R:Za2) (ks:Zg) (B:Nat) (ws:Za3) (nr:Nat) (bs:List (Nat×Zg×Nat)) (gs:Zf) (ag:Zh) (W:bI) (fp:List (Zg×Nat)) (O:Zs->Prop):vs=[↑x]->cu CG CC H x r c gs ag W ⇑S.aY fp O->iN CR H r S a R ks B->B+ live gs<900000->(∀b,a.own r b->¬O b)->CI S bs gs ag W fT none->BV ws nr ks bs->live gs* (2* ⇑bs+ 1)+ ⇑ag+ 2* ⇑bs<=1000000->(∀S' a' R' iT W' O' B' H',(∀b o,¬O b->¬a.own r b->H b\o->H' b\o)->cu CG CC H' x r c iT [] W' ⇑S'.aY fp O'->iN CR H' r S' a' R' ks B'->(∀b,a'.own r b->a.own r b\/O b\/H b=none)->(∀b,O' b->O b\/a.own r b\/H b=none)->(∀b,a'.own r b->¬O' b)->CI S' bs iT [] W' fT none->(∀a z b,R a z b->R' a z b)->S'.q=S.q->S'.L=S.L->Tr ws nr S S'->B'+ live iT<=B+ live gs->Q .non H')->BZ CR CG CC vs H Q E_
def lu (T:Txt K mg A):T.iF.Ok mg P w base 8 (BZ A.az A.aK A.aF):=by
 rwa[T.iF.on tI (λcz AA outer s H vs Q E hr h=>?_)]
 ·let⟨x,r,c,S,a,R,ks,B,ws,nr,bs,gs,ag,W,fp,O,rfl,h,hR,hB,dj,ci,hbs,hm,k⟩:=h
  refine⟨_,(au (bP (eM ag9 (zP (aH (pv 0) rfl) (λ_=>rfl))
   (au (aV (pm (pv 0) (aL T) T.kZ (uY T) hr (ae (GH agQ PySem.F.slot_list_pop PySem.F.type_list_pop GJ (aH (pv 0) rfl)) aj))))))),?_⟩
  let hgl:=ci.len;rwa[⟨λ_ H'=>Q .non H',5,λ_ _ q=>q⟩];erw[λm σ g=>∃j a2 R2 f d U F D,m=live f* (2* ⇑bs+ 1)+ ⇑d/\σ=#v[↑x]/\(∀b o,¬O b->¬a.own r b->H b\o->g b\o)/\cu A.aK A.aF g x r c f d U ⇑j.aY fp F/\iN A.az g r j a2 R2 ks D/\(∀b,a2.own r b->a.own r b\/O b\/H b=none)/\(∀b,F b->O b\/a.own r b\/H b=none)/\(∀b,a2.own r b->¬F b)/\CI j bs f d U fT none/\(∀a z b,R a z b->R2 a z b)/\j.q=S.q/\j.L=S.L/\Tr ws nr S j/\D+ live f<=B+ live gs/\live f* (2* ⇑bs+ 1)+ ⇑d+ 2* ⇑bs<=1000000,⟨_,S,a,R,gs,ag,W,O,B,22,λ_ _ _ _ e=>e,h,hR,λb z=>.inl z,λb z=>.inl z,dj,ci,λ_ _ _ z=>z,22,.refl S,agJ _,hm⟩];rintro m σ g ⟨j,a2,R2,f,d,U,F,D,rfl,rfl,f2,i,r2,M,C,t,v,V,N,G,L,J,MX⟩;erw[12,x,_,c.dx,112,i.ins,aL T,T.kP,nJ^_,!(ao (nI d)).isEmpty,.inl ⟨_,aD.of i.hA,2⟩];cases l:d=[]
  ·subst l;rwa[dY ?_];rwa[k j a2 R2 f U F D g f2 i r2 M C t v V N G L J]
  ·let u:=aiB l;change d.getLast l=n at u;change d.dropLast=pre at u;subst u;rw[show (!(ao (nI (pre++[n]))).isEmpty)=true by unfold ao nI;simp];rwa[jI ?_];erw[_,λ_ _ z=>z];erw[12,x,c.dx,12,i.ins,fk ⋯,12,x,_,c.dx,112,i.ins,aL T,T.kP,nJ^_,.inl ⟨21,aD.of i.hA⟩,c.aA,_,.int (n:Int),22,i.hA,5]
   ·rw[aI,bF,agF];rwa[bU (gk (by show (pre++[n])[⇑pre+ 1 - 1]?\n;rw[Nat.add_sub_cancel,agR (agJ _),aiE];rfl))]
   let Ta:(ao (nI (pre++[n]))).dropLast=ao (nI pre):=by rw[gn,ints_app];rwa[List.dropLast_concat]
   rw[Ta];let c3:=i.agenda pre;let noA:¬a2.own r c.aA:=λz=>t _ z i.oA
   let Z:∀b o,b≠c.aA->g b\o->upd g c.aA (.lst (ao (nI pre))) b\o:=λb o Y e=>by rw[ak Y];rwa[e]
   let r3:iN A.az (upd g c.aA (.lst (ao (nI pre)))) r j a2 R2 ks D:=r2.keep (λb o hb e=>Z b o (λz=>noA (by cbv)) e) (λb xs e=>Z b _ (λz=>by rw[z,i.hA]at e;ext e) e)
   let I:∀b,upd g c.aA (.lst (ao (nI pre))) b=none->g b=none:=λb z=>by
    cases e:b=c.aA
    ·rw[e,ah]at z;ext z
    ·rw[ak e]at z;rwa[z]
   change upd g c.aA (.lst (ao (nI pre)))=H3 at c3 Z r3 I ⊢;let ln2:=v.len;rw[agF]at MX;have:⇑([n]:Zh)=1:=rfl
   let th2:∀b,g b=none->a.own r b\/O b\/H b=none:=λb z=>by
    cases w:a.own r b
    ·rwa[.inl w]
    ·cases w2:O b
     ·rwa[.inr (.inl w2)]
     ·rwa[.inr (.inr ?_)]
      cases e:H b with
      |none=>rfl
      |some o=>rw[f2 b o w2 w e]at z;ext z
   rwa[⟨x,r,c,j,a2,R2,ks,D,ws,nr,bs,f,pre,U,fp,F,n,2,c3,r3,3,t,v,hbs,3,λS4 a4 R4 p X W4 O4 B4 H4 f4 c4 r4 ow4 oo4 dj4 Es rr4 em4 eL4 tr4 ms=>?_⟩];let ow:∀b,a4.own r b->a.own r b\/O b\/H b=none:=λb z=>(ow4 b z).elim (M b) λw=>th2 b (I b w)
   let oo:∀b,O4 b->O b\/a.own r b\/H b=none:=λb z=>(oo4 b z).elim (C b) λw=>by
    cbv
   let y:B4+ live p<=B+ live gs/\live p* (2* ⇑bs+ 1)+ ⇑X<live f* (2* ⇑bs+ 1)+ ⇑(pre++[n]):=by
    rw[agF];rcases ms with ⟨e1,e2,e3⟩|⟨e1,e2,e3⟩
    ·rw[e1,e2,e3];rwa[J,3]
    ·rw[<-e1,aje];rwa[33]
   rwa[⟨_,y.2,S4,a4,R4,p,X,W4,O4,B4,22,λb o Y n2 e=>?_,c4,r4,ow,oo,dj4,Es,λa z b q=>rr4 _ _ _ (V _ _ _ q),em4.trans N,eL4.trans G,L.trans tr4,y.1,by have:=y.2;rw[agF]at this;ext⟩];rwa[f4 b o (λz=>?_) (λz=>?_) (Z b o (λz=>Y ?_) (f2 b o Y n2 e))]
   ·cbv
   ·cbv
   ·subst z;rcases C c.aA i.oA with w|w|w
    ·rwa[w]
    ·cbv
    cbv
theorem _root_.Lake.L2.CI.begin {bs:List (Nat×Zg×Nat)}{gs:Zf}{W:bI}{t:Nat->Int->Prop}(h:CI S bs gs B W t none){which m:Nat}{word:Zg}(D:word≠[])(l:m<S.q)(x:∀z∈word,-1000<=z/\z<=1000):CI S (bs++[(which,word,m)]) (gs++[some (yT which word m)]) (B++[⇑gs]) W t none:=by
 let E:=List.length_pos_iff.mpr D
 let old:∀{k:Nat} {y:Option Gg},(gs++[some (yT which word m)])[k]?\y->(k<⇑gs/\gs[k]?\y)\/(k=⇑gs/\y\yT which word m):=λ{k y} e=>by
  cases a:k<⇑gs
  ·rw[agN a]at e;rwa[.inl ⟨a,e⟩]
  ·rw[agR ∅]at e;have:=(agE.mp e).1;let f:k=⇑gs:=by simp at this;ext
   subst f;rw[aiE]at e;rwa[.inr ⟨2,(Za0 e).symm⟩]
 let c:∀{k:Nat},k<⇑gs->(bs++[(which,word,m)])[k]?=bs[k]?:=λ{k} a=>agN (by rw[<-h.len];rwa[a])
 rwa[⟨by rw[agF,agF,h.len];rfl,λk g e=>?_,λk b e G o=>?_,λk a=>?_,λr s k q=>?_,λk=>?_,λb n=>?_⟩]
 ·rcases old e with ⟨a,e⟩|⟨a,e⟩
  ·let⟨j,i,F⟩:=h.al k g e;rwa[[c a]▸j,i,F.imp (ag6 _) id]
  ·ext e;rwa[⟨5,⟨ahd _,by show ⇑word - 1<⇑word;ext,l,l,l,25⟩,.inl (agL _ (agK.mpr a))⟩]
   ·rw[agR ([a,h.len]▸agJ _),a,h.len,aiE];rfl
   ·show wk S.by _ (word.drop (⇑word - 1+ 1))=_;rw[show ⇑word - 1+ 1=⇑word by ext,List.drop_length];rfl
 ·rcases old e with ⟨a,e⟩|⟨a,e⟩
  ·rw[c a]at o;rwa[h.de k b e G o]
  ·ext e
 ·rw[agF];rcases agS.mp a with q|q
  ·have:=h.ab k q;show k<_+ 1;ext
  ·rw[agK.mp q];show _<_+ 1;ext
 ·let⟨v,d,H,C,I,J,u⟩:=h.en r s k q;rwa[v,d,H,C,I,by rw[agF];show d<_+ 1;ext,u]
 ·cases a:k<⇑gs
  ·let⟨p,q,j,i⟩:=h.sl k;rwa[⟨p,q,j,λg e=>i g ?_⟩];rw[agN a]at e;rwa[e]
  ·rwa[⟨((yT which word m).front,(yT which word m).z1),((yT which word m).bp,(yT which word m).z2),λr s w=>?_,λg e=>?_⟩]
   ·let⟨_,d,_,e,_,E,_⟩:=h.en r s k w;ext
   cbv
 ·rcases agS.mp n with q|q
  ·rwa[h.bd b q]
  ·rw[agK.mp q];rwa[x]
def cu.VQ {x:Zs}{l:KA}{gs:Zf}{W:bI}{hd:Nat}{Q:List (Zg×Nat)}{O:Zs->Prop}{dx X:Zs}{g:Gg}(h:cu a b H x c l gs B W hd Q O)(hG:H l.aG\.lst L)(r:qd a H L gs O)(np:H d=none)(s:aq H I)(q:dS a I d dx X g):cu a b (upd I l.aG (.lst (L++[↑d]))) x c l (gs++[some g]) B W hd Q (Ht O d):=by
 let k:∀f o,f≠l.aG->I f\o->upd I l.aG (.lst (L++[↑d])) f\o:=λf o n e=>by rw[ak n];rwa[e]
 let kn:∀f o,(∀Z,o≠.lst Z)->I f\o->upd I l.aG (.lst (L++[↑d])) f\o:=λf o w e=>k f o (λz=>by rw[z,s^hG]at e;cbv) e
 let fresh:∀(i:Nat),L[i]?≠some ↑d:=λi e=>by
  let t:i<⇑gs:=by rw[<-r.l];rwa[(agE.mp e).1]
  cases U:gs[i]? with
  |none=>cbv
  |some y=>
   cases y with
   |none=>cases r.n i _ e U
   |some u=>
    let⟨T,_,_,F,G,_⟩:=r.s i _ u e U;ext F;have:=G.ins;cbv
 let old:∀{i:Nat} {v:V},(L++[↑d])[i]?\v->(i<⇑L/\L[i]?\v)\/(i=⇑L/\v=↑d):=λ{i v} e=>by
  cases R:i<⇑L
  ·rw[agN R]at e;rwa[.inl ⟨R,e⟩]
  ·rw[agR ∅]at e;have:=(agE.mp e).1;let J:i=⇑L:=by simp at this;ext
   subst J;rw[aiE]at e;rwa[.inr ⟨2,(Za0 e).symm⟩]
 rwa[⟨kn _ _ (by cbv) (s^h.ins),⟨_,ah,by rw[agF,agF,r.l];rfl,λi v F p=>?_,λi v u F p=>?_,λi j p' F p=>?_⟩,k _ _ h.ne.symm (s^h.hA),5,h.ne,.inl h.ox,.inl h.oG,.inl h.oA,λf C=>?_⟩]
 ·rcases old F with ⟨t,e⟩|⟨t,e⟩
  ·rw[agN (by rw[<-r.l];rwa[t])]at p;rwa[r.n i v e p]
  ·rw[t,r.l,agR (agJ _),aiE]at p;cases Za0 p
 ·rcases old F with ⟨t,e⟩|⟨t,e⟩
  ·rw[agN (by rw[<-r.l];rwa[t])]at p;let⟨T,N,M,e3,G,Y⟩:=r.s i v u e p;rwa[T,N,M,e3,⟨kn _ _ (by cbv) (s^G.ins),kn _ _ (by cbv) (s^G.wo)⟩,.inl Y]
  ·rw[t,r.l,agR (agJ _),aiE]at p;cases Za0 p;rwa[d,dx,X,e,⟨kn _ _ (by cbv) q.ins,kn _ _ (by cbv) q.wo⟩,.inr rfl]
 ·rcases old F with ⟨t,e⟩|⟨t,e⟩
  ·rcases old p with ⟨hj,S⟩|⟨hj,S⟩
   ·rwa[r.i i j p' e S]
   cbv
  cbv
 ·let⟨D,E,k1,k2⟩:=h.wt;rwa[D,E,(k1.same s).keep λf o C e=>by let⟨kv,q⟩:=(k1.same s).there C;cbv,λf C=>.inl (k2.o f C),k2.d,k2.e,k2.w]
 ·rcases C with C|C
  ·cases e:f=l.aG
   ·rwa[⟨_,by rw[e];rwa[ah],(by cbv),(by cbv),(by cbv),by cbv⟩]
   ·let⟨o,q,m⟩:=h.th f C;rwa[o,k _ _ e (s^q),m]
  ·rw[C];rwa[_,kn _ _ (by cbv) q.ins,(by cbv),(by cbv),(by cbv),by cbv]
noncomputable def nz (b:Nat)(a:Zg)(m:Nat):List (Nat×Zg×Nat):=if a=[] then [] else [(b,a,m)]
inductive Eu (CR CG CC:Zs) (vs:Zb) (H:Hp) (Q:VK) (E_:XK):Prop
 |mk (x r wa:Zs) (c:KA) (S:RS) (bs:List (Nat×Zg×Nat)) (gs:Zf) (ag:Zh) (W:bI) (hd:Nat) (fp:List (Zg×Nat)) (O:Zs->Prop) (Ex:Nat->Int->Prop) (which m:Nat) (word:Zg):vs=[↑x,.int which,↑wa,.int m]->cu CG CC H x r c gs ag W hd fp O->CI S bs gs ag W Ex none->H wa\.tup (ao word)->⇑word<=1000->(∀z∈word,-1000<=z/\z<=1000)->m<S.q->⇑bs<100000->⇑ag<=⇑bs->(∀iT iM O' H',Bt O H H'->(∀b,O b->O' b)->(∀b,O' b->O b\/H b=none)->cu CG CC H' x r c iT iM W hd fp O'->CI S (bs++nz which word m) iT iM W Ex none->⇑iM<=⇑(bs++nz which word m)->Q .non H')->Eu CR CG CC vs H Q E_
def mV (T:Txt K mg A):T.iX.Ok mg P w base 3 (Eu A.az A.aK A.aF):=by
 rwa[T.iX.on uR (λcz AA I s H vs Q E hr h=>?_)]
 ·let⟨x,r,X,c,S,bs,i,g,W,hd,fp,O,Ex,d,m,a,rfl,h,ci,j,D,F,hm,Z,N,k⟩:=h
  refine⟨_,(au (bP (bJ (aZ zD (bz bf rfl T.cR ahl (ae (pv 2) aj)) ax (bh _))
   (ai (aV (cH agQ ag0 ag2 bO (aH (pv 0) rfl) (ae (bz bf rfl T.cR ahl (ae (aH (pv 0) rfl) aj)) aj)))
   (au (aV (cH agQ ag0 ag2 bO (aH (pv 0) rfl) (ae (xh (uQ T) (tM T) hr.Za5 rfl T.O9 T.gB.b .nil gy (ae (pv 1) (ae (pv 2) (ae (pv 3) aj)))) aj)))))
   bj))),?_⟩
  let hgl:=ci.len;rwa[⟨λ_ H'=>Q .non H',5,λ_ _ q=>q⟩];erw[12,X,12,.inr (bN.of j),112212];rwa[bW (λq=>?_) (λq=>?_)]
  ·let q:(0:Int)<(⇑(ao a):Int):=ahn q;rw[aI]at q;let f:a≠[]:=λz=>by cbv
   let⟨gv,hG,hs⟩:=h.hG;erw[12,x,_,c.dx,112,h.ins,aL T,T.kP,nJ^_,.inl ⟨21,aD.of h.hA⟩,12,x,_,c.dx,112,h.ins,aL T,T.jz,kS^_,c.aG,12,.inl (aD.of hG),c.aA,1122,h.hA,5]
   ·rw[aI,bF];rwa[agO (show ⇑g<=100000 by omega) ⋯]
   let ea:ao (nI g)++[V.int (⇑gv:Int)]=ao (nI (g++[⇑i])):=by rw[gn,ints_app,hs.l];rfl
   rw[ea];let B:=h.agenda (g++[⇑i]);let C:∀b o,b≠c.aA->H b\o->upd H c.aA (.lst (ao (nI (g++[⇑i])))) b\o:=λb o n e=>by rw[ak n];rwa[e]
   let Y:∀b,upd H c.aA (.lst (ao (nI (g++[⇑i])))) b=none->H b=none:=λb z=>by
    cases e:b=c.aA
    ·rw[e,ah]at z;ext z
    ·rw[ak e]at z;rwa[z]
   change upd H c.aA (.lst (ao (nI (g++[⇑i]))))=L at B C Y ⊢;let v:=C _ _ (bY j h.hA (by cbv)) j;let⟨gv1,l,t⟩:=B.hG;rwa[⟨12,x,_,c.dx,112,B.ins,aL T,T.jz,kS^_,.inl ⟨21,aD.of l⟩,121212,λp R y G J=>?_⟩];let U:aq L (upd (upd L R (.own p)) p (.ins A.aK R [])):=(aq.upd G).trans (aq.upd ([ak J.symm]▸y));rwa[⟨p,R,X,d,m,a,2,ah,U^v,3,D,λH3 f3 g3=>⟨25⟩⟩];let M:aq L H3:=λb o e=>f3 b o (U^e) (av e y)
   erw[c.aG,1122,M^l,([t.l]▸agO (show ⇑i<=100000 by omega) ⋯)];let u:nz d a m=[(d,a,m)]:=ag3 f;rwa[k _ _ (Ht O p) _ (λb o n e=>?_) (λb z=>.inl z) (λb z=>z.imp id λw=>[w]▸Y p y) (B.VQ l t y M g3) ([u]▸ci.begin f hm F) (by rw[u,agF,agF];show _+ 1<=_+ 1;omega)];rw[ak (λz=>n ([z]▸h.oG))];rwa[M^(C b o (λz=>n ([z]▸h.oA)) e)]
  ·let q:¬(0:Int)<(⇑(ao a):Int):=λz=>q (ahh z)
   rw[aI]at q;let f:a=[]:=List.length_eq_zero_iff.mp ∅;let u:nz d a m=[]:=ag8 f;rwa[k i g O H (λ_ _ _ e=>e) (λb z=>z) (λb z=>.inl z) h ([u,ahe]▸ci) ([u,ahe]▸N)]
def gJ (a:List (Zg×Nat))(m:Nat):List (Nat×Zg×Nat):=a.flatMap λp=>nz p.2 p.1 m
def Ng (w:Nat)(u:Zg)(m:Nat):⇑(nz w u m)<=1:=by
 unfold nz;split
 ·rwa[ahd _]
 ·rwa[agJ _]
theorem qe (m:Nat):∀a:List (Zg×Nat),⇑(gJ a m)<=⇑a
 |[]=>agJ _
 |p::l=>by
  have:=qe m l;have:=Ng p.2 p.1 m;unfold gJ at *;rw[List.flatMap_cons,agF,aha];ext
def IL {a:List (Zg×Nat)}{p:Zg×Nat}(h:a[i]?\p)(m:Nat):gJ (a.take (i+ 1)) m=gJ (a.take i) m++nz p.2 p.1 m:=by
 unfold gJ;rw[aiD,h,ajP];show _++(nz p.2 p.1 m++[])=_;rw[ahe]
def Tn {a:List (Zg×Nat)}{b:Zd×V}(h:(iL a)[i]?\b):∃p,a[i]?\p/\b=(p.1.map Sum.inl,.int p.2):=by
 unfold iL at h
 cbv
inductive IQ (CR CG CC:Zs) (vs:Zb) (H:Hp) (Q:VK) (E_:XK):Prop
 |mk (x r:Zs) (c:KA) (S:RS) (bs:List (Nat×Zg×Nat)) (gs:Zf) (ag:Zh) (W:bI) (hd:Nat) (fp:List (Zg×Nat)) (O:Zs->Prop) (Ex:Nat->Int->Prop) (m:Nat):vs=[↑x,.int m]->cu CG CC H x r c gs ag W hd fp O->H c.aQ\.dT (iL fp)->CI S bs gs ag W Ex none->(∀p∈fp,⇑p.1<=1000/\∀z∈p.1,-1000<=z/\z<=1000)->m<S.q->⇑bs+ ⇑fp<100000->⇑ag<=⇑bs->(∀iT iM O' H',Bt O H H'->(∀b,O b->O' b)->(∀b,O' b->O b\/H b=none)->cu CG CC H' x r c iT iM W hd fp O'->CI S (bs++gJ fp m) iT iM W Ex none->⇑iM<=⇑(bs++gJ fp m)->Q .non H')->IQ CR CG CC vs H Q E_
def iU (T:Txt K mg A):T.fh.Ok mg P w base 4 (IQ A.az A.aK A.aF):=by
 rwa[T.fh.on fV (λcz AA outer s H vs Q E hr h=>?_)]
 ·let⟨x,r,c,S,bs,gs,ag,W,hd,f,O,Ex,m,rfl,h,I,ci,hfp,hm,Ew,Ey,k⟩:=h
  refine⟨_,(au (DQ (cK ag9 rfl (Vn (aH (pv 0) rfl) rfl rfl) (kz rfl (cF (dz 2 fV.nd) (cF (dz 3 fV.nd) ji)))
   (au (aV (pm (pv 0) (aL T) T.iX (mV T) hr (ae (pv 3) (ae (pv 2) (ae (pv 1) aj))))))))),?_⟩
  let Z:¬O c.aQ:=h.IB I;let nxQ:x≠c.aQ:=bY h.ins I (by cbv);rwa[⟨c.aQ,_,I,trivial,12,x,_,c.dx,112,h.ins,aL T,T.Bn,Lh^_,c.aQ,iL f,2,I,λN=>?_⟩];let k0:∀b o,b≠c.aQ->H b\o->upd H c.aQ (.cS N (.dT (iL f))) b\o:=λb o n e=>by rw[ak n];rwa[e]
  let h0:cu A.aK A.aF (upd H c.aQ (.cS N (.dT (iL f)))) x r c gs ag W hd f O:=h.keep (λb o R e=>k0 b o (λz=>Z (by cbv)) e) (λb xs e=>k0 b _ (bY e I (by cbv)) e)
  refine Rn (d:=c.aQ) (o:=N) (kvs:=iL f) (λi X B=>∃g a v v2 v3,X=#v[↑x,.int (m:Int),v2,v3]/\B c.aQ\.cS N (.dT (iL f))/\(∀b o,b≠c.aQ->¬O b->H b\o->B b\o)/\(∀b,O b->v b)/\(∀b,v b->O b\/H b=none)/\cu A.aK A.aF B x r c g a W hd f v/\CI S (bs++gJ (f.take i) m) g a W Ex none/\⇑a<=⇑(bs++gJ (f.take i) m))
   ⟨gs,ag,O,none,none,2,ah,λb o n _ e=>k0 b o n e,λb z=>z,λb z=>.inl z,h0,by rw[List.take_zero];show CI S (bs++[]) _ _ _ _ _;rw[ahe];rwa[ci],by cbv⟩ (λi X B _ q0=>by let⟨_,_,_,_,_,_,q,_⟩:=q0;rwa[q]) ?_ ?_
  ·rintro i kv X B t kp hkv nt D ⟨g,a,v,v2,v3,rfl,U,V,C,j,c5,u,l⟩;let⟨p,hp,rfl⟩:=Tn hkv;let hi:=(agE.mp hp).1
   replace D:B kp\(.tup (ao p.1)):=by
    rw[D];show some (HO.tup (((p.1.map (Sum.inl:Int->Key)).map kV)))=_;rw[ahw];rfl
   let F:=aq.upd (o:=.tup [↑kp,.int (p.2:Int)]) nt;erw[t,12,bN.of ah,21121122];change upd B t (.tup [↑kp,.int (p.2:Int)])=H6 at F ⊢;let R:=hfp p (agC hp);let bl:=qe m (f.take i);rw[ahm]at bl;let c6:=c5.same F;rwa[⟨12,x,c.dx,12,c6.ins,fk ⋯,121212,x,r,kp,c,S,_,g,a,W,hd,f,v,Ex,p.2,m,p.1,2,c6,u,F^D,R.1,R.2,hm,by rw[agF];ext,l,λY ag7 O7 H7 M le7 nw7 c7 J L=>?_⟩];let G:¬v c.aQ:=λz=>(j _ z).elim Z λq=>by cbv
   rw[ahy,<-IL hp]at J L;rwa[⟨Y,ag7,O7,112,M _ _ G (F^U),λb o n1 n2 e=>M b o (λz=>(j b z).elim n2 λq=>by cbv) (F^V b o n1 n2 e),λb z=>le7 b (C b z),λb z=>?_,c7,J,L⟩];rcases nw7 b z with w|w
   ·rwa[j b w]
   ·cases y:O b
    ·rwa[.inl y]
    ·rwa[.inr ?_]
     cases e:H b with
     |none=>rfl
     |some o=>
      cases y2:b=c.aQ
      ·rw[y2,F^U]at w;ext w
      ·rw[F^V b o y2 y e]at w;ext w
  ·rintro X B ⟨g,a,v,v2,v3,rfl,U,V,C,j,c5,u,l⟩;rw[show ⇑(iL f)=⇑f by unfold iL;cbv,ail]at u l;let G:¬v c.aQ:=λz=>(j _ z).elim Z λq=>by cbv
   rwa[⟨N,U,k g a v _ (λb o n e=>?_) C j (c5.keep (λb o R e=>[ak (λz=>G (by cbv))]▸e) (λb xs e=>[ak (λz=>by cbv)]▸e)) u l⟩];cases z:b=c.aQ
   ·rw[z,ah,<-I,<-z];rwa[e]
   ·rw[ak z];rwa[V b o z n e]
noncomputable def Nh (r:Zs):List (Str×V):=[("rooms",↑r)]
noncomputable def Ni (r q:Zs):List (Str×V):=[("rooms",↑r),("rules",↑q)]
noncomputable def Nj (r q g:Zs):List (Str×V):=[("rooms",↑r),("rules",↑q),("goings",↑g)]
noncomputable def Nk (r q g e:Zs):List (Str×V):=[("rooms",↑r),("rules",↑q),("goings",↑g),("agenda",↑e)]
noncomputable def Nm (r q g e w:Zs):List (Str×V):=[("rooms",↑r),("rules",↑q),("goings",↑g),("agenda",↑e),("waiting",↑w)]
noncomputable def To (r q g e w:Zs)(n:Int):List (Str×V):=[("rooms",↑r),("rules",↑q),("goings",↑g),("agenda",↑e),("waiting",↑w),("heard",.int n)]
def cz2 (r q:Zs):bK "rules" ↑q (Nh r)=Ni r q:=dH (by kernel_rfl)
def cz3 (r q g:Zs):bK "goings" ↑g (Ni r q)=Nj r q g:=dH (by kernel_rfl)
def cz4 (r q g e:Zs):bK "agenda" ↑e (Nj r q g)=Nk r q g e:=dH (by kernel_rfl)
def cz5 (r q g e w:Zs):bK "waiting" ↑w (Nk r q g e)=Nm r q g e w:=dH (by kernel_rfl)
def cz6 (r q g e w:Zs)(n:Int):bK "heard" (.int n) (Nm r q g e w)=To r q g e w n:=dH (by kernel_rfl)
def kat_nil {k:Zs}(h:H k\.dK []):dP H k (λ_=>none) (λ_ _=>none) (λ_ _ _=>false):=⟨⟨[],h,by simp,(λa z=>by ext z),λ_=>rfl⟩,(λ_ _ z=>by ext z),(λ_ _ _ z=>by ext z),(λ_ _ _ z=>by ext z),(λ_ _ _ z=>by ext z),(λ_ _ z=>by ext z),(λ_ _ _ z=>by ext z),(λ_ _ _ z=>by ext z),(λ_ _ _ _ z=>by ext z),(λ_ _ _ _ _ z=>by ext z)⟩
def dh (S:RS):Zh:=(List.range S.q).filter λc=>decide (S.aU[c]?\c)
def dA (a:List (Zg×Nat))(st:Zh):List (Nat×Zg×Nat):=st.flatMap λm=>gJ a m
def fO (a:Za3)(b i:Nat):List (Nat×Zg×Nat):=(List.range i).flatMap λj=>nz (b+ j) (a.getD j []) 0
theorem lK (a:List (Zg×Nat)):∀st:Zh,⇑(dA a st)<=⇑st* ⇑a
 |[]=>ahd _
 |m::st=>by
  have:=lK a st;have:=qe m a;unfold dA at *;rw[List.flatMap_cons,agF,aha,aje];ext
theorem sx (a:Za3)(b:Nat):∀i,⇑(fO a b i)<=i
 |0=>agJ _
 |i+ 1=>by
  have:=sx a b i;have:=Ng (b+ i) (a.getD i []) 0;unfold fO at *;rw[ahR,ajP,agF];show _+ ⇑(nz _ _ 0++[])<=_;rw[ahe];ext
def sC:bI:=λ_ _ _=>false
def Tp:CI S [] [] [] sC fT none:=⟨2,(λn g e=>by simp at e),(λn b e=>by simp at e),(λn z=>by ext z),(λr s n z=>by ext z),λn=>⟨(0,0),(0,0),(λr s z=>by ext z),λg e=>by simp at e⟩,(λb z=>by ext z)⟩
inductive IU (CR CG CC:Zs) (vs:Zb) (H:Hp) (Q:VK) (E_:XK):Prop
 |mk (x dx r ru pa:Zs) (S:RS) (a:RA) (R:Za2) (rs ps:Za3):vs=[↑x,↑r,↑ru,↑pa]->H x\.ins CC dx []->ay CR H r S a->Good S [] R->0<S.q->S.q<=2000->¬a.own r x->b8 H ru rs->b8 H pa ps->⇑rs<=400->⇑ps<=400->(∀u∈rs++ps,⇑u<=1000/\∀z∈u,-1000<=z/\z<=1000)->(∀fp,xW rs fp->S.q* ⇑fp+ ⇑ps<50000)->(∀c gs ag fp O H',(∀b o,H b\o->b≠x->H' b\o)->cu CG CC H' x r c gs ag sC ⇑S.aY fp O->H' c.aQ\.dT (iL fp)->(∀b,O b->b=x\/H b=none)->CI S (dA fp (dh S)++fO ps ⇑rs ⇑ps) gs ag sC fT none->⇑ag<=⇑(dA fp (dh S)++fO ps ⇑rs ⇑ps)->xW rs fp->Q .non H')->IU CR CG CC vs H Q E_
def qL (T:Txt K mg A):T.eV.Ok mg P w base 5 (IU A.az A.aK A.aF):=by
 rwa[T.eV.on fi (λcz AA outer s H vs Q E hr h=>?_)]
 ·let⟨x,B,r,ru,pa,S,a,R,rs,ps,rfl,hx,hR,gd,hm0,hm,Ez,IV,IW,o6,oJ,Xr,B1,k⟩:=h
  refine⟨_,(ai (b9 (pv 0) (pv 1) rfl)
   (ai (b9 (pv 0) (pc T.mH (wG T) hr (ae (pv 2) aj)) rfl)
   (ai (b9 (pv 0) (bT aj) rfl)
   (ai (b9 (pv 0) (bT aj) rfl)
   (ai (b9 (pv 0) fQ rfl)
   (ai (b9 (pv 0) (bz bf rfl T.cR ahl (ae (aH (pv 1) rfl) aj)) rfl)
   (ai (cK ag9 rfl (cX (vF (pv 1) (aJ T) T.eG (gf T) hr)) (dz 4 fi.nd)
    (au (aV (pm (pv 0) (aL T) T.fh (iU T) hr (ae (pv 4) aj)))))
   (au (cK ag9 rfl (Hs rfl T.ku (pv 3) (bz bf rfl T.cR ahl (ae (pv 2) aj)) rfl rfl) (kz rfl (cF (dz 5 fi.nd) (cF (dz 6 fi.nd) ji)))
    (au (aV (pm (pv 0) (aL T) T.iX (mV T) hr (ae (pv 5) (ae (pv 6) (ae ax aj))))))))))))))),?_⟩
  rwa[Ay ?_];intro MG BE qF nH jA fX gH;let⟨Tq,Nn,EA⟩:=id IV;let⟨J,Np,Ts⟩:=id IW
  let st:∀{H0:Hp} {fs gs:List (Str×V)},H0 x\.ins A.aF B fs->(∀b o,H b\o->b≠x->H0 b\o)->upd H0 x (.ins A.aF B gs) x\.ins A.aF B gs/\(∀b o,H b\o->b≠x->upd H0 x (.ins A.aF B gs) b\o)/\(∀b o,b≠x->H0 b\o->upd H0 x (.ins A.aF B gs) b\o)/\∀b,upd H0 x (.ins A.aF B gs) b=none->H0 b=none:=λ_ h=>⟨ah,λb o e n=>[ak n]▸h b o e n,λb o n e=>[ak n]▸e,λb z=>by
   cases e:b=x
   ·rw[e,ah]at z;ext z
   ·rw[ak e]at z;rwa[z]⟩
  let o0:∀b o,H b\o->b≠x->H b\o:=λb o e _=>e
  let Tt:ru≠x:=bY Nn hx (by cbv);let Tv:pa≠x:=bY Np hx (by cbv);erw[1212,x,_,B,12,hx,aL T,T.eZ,(by show 0<1000;decide)];rw[show bK "rooms" ↑r []=Nh r from rfl];obtain⟨x1,o1,-,n1⟩:=st (gs:=Nh r) hx o0;change upd H x (.ins A.aF B (Nh r))=H1 at x1 o1 n1 ⊢;let Xs:b8 H1 ru rs:=⟨Tq,o1 _ _ Nn Tt,EA.1,λi q u e1 e2=>o1 _ _ (EA.2 i q u e1 e2) (bY (EA.2 i q u e1 e2) hx (by cbv))⟩;rwa[⟨12,ru,rs,2,Xs,3,λq d H2 s2 nq hq Tw=>?_⟩];let x2:=s2^x1;let o2:∀b o,H b\o->b≠x->H2 b\o:=λb o e n=>s2^o1 b o e n
  let n2:∀b,H2 b=none->H b=none:=λb z=>n1 b (same_none s2 z)
  erw[12,x,_,B,12,x2,aL T,T.Bn,(by show 1<1000;decide)];rw[cz2];let IX:q≠x:=bY hq x2 (by cbv);let⟨x3,o3,k3,n3⟩:=st (gs:=Ni r q) x2 o2;change upd H2 x (.ins A.aF B (Ni r q))=X at x3 o3 k3 n3 ⊢;let q3:=k3 _ _ IX hq;rwa[⟨ahd _,λg ng=>?_⟩];let M:=aq.upd (o:=.lst []) ng;let g4:upd X g (.lst []) g\(.lst []):=ah;let n4:∀b,upd X g (.lst []) b=none->H b=none:=λb z=>n2 b (n3 b (same_none M z))
  let ng0:=n2 g (n3 g ng);change upd X g (.lst [])=H4 at M g4 n4 ⊢;erw[12,x,_,B,12,M^x3,aL T,T.jz,(by show 2<1000;decide)];rw[cz3];let⟨x5,o5,k5,n5⟩:=st (gs:=Nj r q g) (M^x3) (λb o e n=>M^o3 b o e n);change upd H4 x (.ins A.aF B (Nj r q g))=H5 at x5 o5 k5 n5 ⊢;let IY:g≠x:=bY g4 (M^x3) (by cbv);let q5:=k5 _ _ IX (M^q3);let g5:=k5 _ _ IY g4;rwa[⟨ahd _,λe ne=>?_⟩];let s6:=aq.upd (o:=.lst []) ne;let e6:upd H5 e (.lst []) e\(.lst []):=ah;let n6:∀b,upd H5 e (.lst []) b=none->H b=none:=λb z=>n4 b (n5 b (same_none s6 z))
  let IZ:=n4 e (n5 e ne);let Xt:g≠e:=av g5 ne;change upd H5 e (.lst [])=H6 at s6 e6 n6 ⊢;erw[12,x,_,B,12,s6^x5,aL T,T.kP,(by show 3<1000;decide)];rw[cz4];let⟨x7,o7,k7,n7⟩:=st (gs:=Nk r q g e) (s6^x5) (λb o e n=>s6^o5 b o e n);change upd H6 x (.ins A.aF B (Nk r q g e))=H7 at x7 o7 k7 n7 ⊢;let vC:e≠x:=bY e6 (s6^x5) (by cbv);let q7:=k7 _ _ IX (s6^q5);let g7:=k7 _ _ IY (s6^g5);let e7:=k7 _ _ vC e6;rwa[λw nw=>?_]
  let Y:=aq.upd (o:=.dK []) nw;let w8:upd H7 w (.dK []) w\(.dK []):=ah;let n8:∀b,upd H7 w (.dK []) b=none->H b=none:=λb z=>n6 b (n7 b (same_none Y z))
  let nw0:=n6 w (n7 w nw);change upd H7 w (.dK [])=H8 at Y w8 n8 ⊢;erw[12,x,_,B,12,Y^x7,aL T,T.jS,(by show 4<1000;decide)];rw[cz5];let⟨x9,o9,k9,n9⟩:=st (gs:=Nm r q g e w) (Y^x7) (λb o e n=>Y^o7 b o e n);change upd H8 x (.ins A.aF B (Nm r q g e w))=H9 at x9 o9 k9 n9 ⊢;let Tx:w≠x:=bY w8 (Y^x7) (by cbv);let R9:ay A.az H9 r S a:=hR.keep (λb o hb e=>o9 b o e (λz=>Ez (by cbv))) (λb xs e=>o9 b _ e (bY e hx (by cbv)));erw[12,r,_,a.dx,112,R9.ins,aJ T,T.sj,sV^_,a.aN,12,.inl (aD.of R9.hN),12,x,_,B,12,x9,aL T,T.mP,(by show 5<1000;decide)];rw[aI,bF,cz6];let⟨xa,oa,ka,na⟩:=st (gs:=To r q g e w ⇑S.aY) x9 o9;change upd H9 x (.ins A.aF B (To r q g e w ⇑S.aY))=Ha at xa oa ka na ⊢;let up:∀b o,b≠x->H8 b\o->Ha b\o:=λb o n z=>ka b o n (k9 b o n z)
  let cA:cu A.aK A.aF Ha x r ⟨B,q,g,e,w⟩ [] [] sC ⇑S.aY d (λb=>b=x\/b=g\/b=e\/b=w):=by
   rwa[⟨xa,⟨[],up _ _ IY (Y^g7),2,(λi v z=>by simp at z),(λi v u z=>by simp at z),(λi j p z=>by simp at z)⟩,up _ _ vC (Y^e7),⟨11,kat_nil (up _ _ Tx w8),⟨λb hb=>?_,(λ_ _ z=>by ext z),(λ_ _ _ z=>by ext z),(λ_ _ _ z=>by ext z)⟩⟩,Xt,.inl rfl,.inr (.inl rfl),.inr (.inr (.inl rfl)),λb hb=>?_⟩]
   ·rcases hb with z|⟨_,z⟩|⟨_,_,z⟩
    ·rwa[.inr (.inr (.inr z))]
    ·ext z
    ·ext z
   ·rcases hb with z|z|z|z
    ·rw[z];rwa[_,xa,(by cbv),(by cbv),(by cbv),by cbv]
    ·rw[z];rwa[_,up _ _ IY (Y^g7),(by cbv),(by cbv),(by cbv),by cbv]
    ·rw[z];rwa[_,up _ _ vC (Y^e7),(by cbv),(by cbv),(by cbv),by cbv]
    ·rw[z];rwa[_,up _ _ Tx w8,(by cbv),(by cbv),(by cbv),by cbv]
  let qa:=up _ _ IX (Y^q7)
  let Oa:∀b,(b=x\/b=g\/b=e\/b=w)->b=x\/H b=none:=λb z=>by
   cbv
  let Ra:ay A.az Ha r S a:=hR.keep (λb o hb e=>oa b o e (λz=>Ez (by cbv))) (λb xs e=>oa b _ e (bY e hx (by cbv)));let nA:∀b,Ha b=none->H b=none:=λb z=>n8 b (n9 b (na b z))
  obtain⟨O,eO⟩:∃O:Zs->Prop,O=λb=>b=x\/b=g\/b=e\/b=w:=⟨12⟩
  rw[<-eO]at cA;replace Oa:∀b,O b->b=x\/H b=none:=by rw[eO];rwa[Oa]
  clear eO;generalize ec:(⟨B,q,g,e,w⟩:KA)=c at cA;let qa:Ha c.aQ\(.dT (iL d)):=by rw[<-ec];rwa[qa]
  clear g7 e7 w8 x9 o9 k9 n9 Y n8 x7 o7 k7 n7 s6 n6 e6 x5 o5 k5 n5 M g4 n4 x3 o3 k3 n3 x1 o1 n1 x2 o2 n2 up ka q7 q5 q3 g5 xa na R9 nw0 IZ ng0 nw ne ng Xt vC IY Tx hq nq s2 IX Xs;let hfb:∀p∈d,⇑p.1<=1000/\∀z∈p.1,-1000<=z/\z<=1000:=λp hp=>Xr _ (ag6 _ (agC (Tw.a p hp)))
  let B1:=B1 d Tw;rwa[⟨12,r,a.dx,12,Ra.ins,cL _ _ _ ⋯,r,S,a,2,Ra,gd.wf,3,λl nl=>?_⟩];let sl:⇑(dh S)<=S.q:=agT (ait _ _) (by cbv);let stm:∀m∈dh S,m<S.q:=λm hm=>ahj.mp (aie.mp hm).1
  let Xu:⇑(dh S)* ⇑d<=S.q* ⇑d:=aik _ sl;let sb:=aq.upd (o:=.lst (ao (nI (dh S)))) nl;let hl:upd Ha l (.lst (ao (nI (dh S)))) l\(.lst (ao (nI (dh S)))):=ah;show ∃a_1,_;rw[show (List.range S.q).filter (λc=>decide (S.aU[c]?\c))=dh S from rfl];let nl0:=nA l nl;let nlO:¬O l:=λz=>by let⟨o,e,_⟩:=cA.th l z;cbv
  change upd Ha l (.lst (ao (nI (dh S))))=Hb at sb hl ⊢;let cB:=cA.same sb;erw[l,2,⟨_,aD.of hl⟩]
  refine eP (K:=K) (a:=l) (xs:=ao (nI (dh S))) (λi σ H2=>∃U F O2 v4,σ=#v[↑x,↑r,↑ru,↑pa,v4,none,none]/\(∀b o,¬O b->Hb b\o->H2 b\o)/\(∀b,O b->O2 b)/\(∀b,O2 b->O b\/Hb b=none)/\cu A.aK A.aF H2 x r c U F sC ⇑S.aY d O2/\CI S (dA d ((dh S).take i)) U F sC fT none/\⇑F<=⇑(dA d ((dh S).take i)))
   ⟨[],[],O,none,2,λ_ _ _ e=>e,λb z=>z,λb z=>.inl z,cB,Tp,agJ _⟩ (λi σ H2 _ q0=>by let⟨_,_,_,_,_,f,_⟩:=q0;rwa[aD.of (f _ _ nlO hl)]) ?_ ?_
  ·rintro i v σ H2 hi ⟨U,F,O2,v4,rfl,f2,Nf,BX,c2,BU,I0⟩;let⟨z,rfl,hz⟩:=cI hi
   obtain⟨m,Tz,rfl⟩:∃m,(dh S)[i]?\m/\z=(m:Int):=by
    unfold nI at hz
    cbv
   let L:=(agE.mp Tz).1;let nQ:¬O c.aQ:=cA.IB qa;let q2:=f2 _ _ nQ (sb^qa);let ll:=lK d ((dh S).take i);rw[ahm,ajz ∅]at ll;let li:(i+ 1)* ⇑d<=⇑(dh S)* ⇑d:=aik _ L;rw[aje]at li;rwa[⟨12,x,c.dx,12,c2.ins,fk ⋯,12,x,r,c,S,_,U,F,sC,⇑S.aY,d,O2,fT,m,2,c2,q2,BU,hfb,stm m (agC Tz),3,I0,λD C O3 X b3 Xq N c3 G I=>?_⟩]
   let es:dA d ((dh S).take (i+ 1))=dA d ((dh S).take i)++gJ d m:=by
    unfold dA;rw[aiD,Tz,ajP];show _++(gJ d m++[])=_;rw[ahe]
   rw[<-es]at G I;rwa[⟨D,C,O3,12,λb o n e=>b3 b o (λz=>(BX b z).elim n λy=>by cbv) (f2 b o n e),λb z=>Xq b (Nf b z),λb z=>?_,c3,G,I⟩];rcases N b z with y|y
   ·rwa[BX b y]
   ·cases y2:O b
    ·rwa[.inl y2]
    ·rwa[.inr ?_]
     cases e:Hb b with
     |none=>rfl
     |some o=>rw[f2 b o y2 e]at y;ext y
  rintro σ H2 ⟨U,F,O2,v4,rfl,f2,Nf,BX,c2,BU,I0⟩;rw[aI,bF,ail]at BU I0;let ll:=lK d (dh S);let TB:Hb pa\(.lst (J.map V.ref)):=sb^oa _ _ Np Tv;let Z:∀{b o},H b\o->b≠x->¬O b:=λ{b o} e n z=>(Oa b z).elim n λy=>by cbv
  let aaf:=f2 _ _ (Z Np Tv) TB;let aag:=f2 _ _ (Z Nn Tt) (sb^oa _ _ Nn Tt);let lr:⇑(Tq.map V.ref)=⇑rs:=by rw[agH,EA.1]
  erw[1212,ru,12,.inl (aD.of aag),pa,(⇑(Tq.map V.ref):Int),2233,⟨_,aD.of aaf⟩];rw[lr]
  refine Fs (K:=K) (a:=pa) (xs:=J.map V.ref) (λi σ X=>∃D C O3 v5 v6,σ=#v[↑x,↑r,↑ru,↑pa,v4,v5,v6]/\(∀b o,¬O b->Hb b\o->X b\o)/\(∀b,O3 b->O b\/Hb b=none)/\cu A.aK A.aF X x r c D C sC ⇑S.aY d O3/\CI S (dA d (dh S)++fO ps ⇑rs i) D C sC fT none/\⇑C<=⇑(dA d (dh S)++fO ps ⇑rs i))
   ⟨U,F,O2,none,none,2,f2,BX,c2,by show CI S (_++[]) _ _ _ _ _;rw[ahe];rwa[BU],by show _<=⇑(_++[]);rw[ahe];rwa[I0]⟩ (λi σ X _ q0=>by let⟨_,_,_,_,_,_,f,_⟩:=q0;rwa[aD.of (f _ _ (Z Np Tv) TB)]) ?_ ?_
  ·rintro i v σ X t hi nt ⟨D,C,O3,v5,v6,rfl,f3,N,c3,G,I⟩
   let L:i<⇑J:=by
    have:=(agE.mp hi).1;rw[agH]at this;rwa[this]
   let TC:i<⇑ps:=by rw[<-Ts.1];rwa[L]
   let g1:J[i]?\(J[i]'L):=agG L
   let g2:ps[i]?\(ps[i]'TC):=agG TC
   rw[agY,g1]at hi;obtain rfl:V.ref (J[i]'L)=v:=Za0 hi;change J[i]'L=wa at g1;change ps[i]'TC=u at g2;let sD:=Ts.2 i wa u g1 g2;let Xv:wa≠x:=bY sD hx (by cbv);let aah:=f3 _ _ (Z sD Xv) (sb^oa _ _ sD Xv);let M:=aq.upd (o:=.tup [.int ((⇑rs:Int)+ (i:Int)),↑wa]) nt;erw[t,12,bN.of ah,21121122];change upd X t (.tup [.int ((⇑rs:Int)+ (i:Int)),↑wa])=H4 at M ⊢;let c4:=c3.same M;let pl:=sx ps ⇑rs i;let Xw:=Xr u (agL _ (agC g2));rwa[⟨12,x,c.dx,12,c4.ins,fk ⋯,1212,x,r,wa,c,S,_,D,C,sC,⇑S.aY,d,O3,fT,⇑rs+ i,(0),u,2,c4,G,M^aah,Xw.1,Xw.2,hm0,by rw[agF];ext,I,λgs5 Tg O5 H5 b5 le5 nw5 c5 I7 Xx=>?_⟩]
   let ep:fO ps ⇑rs (i+ 1)=fO ps ⇑rs i++nz (⇑rs+ i) u 0:=by
    unfold fO;rw[ahR,ajP];show _++(nz (⇑rs+ i) (ps.getD i []) 0++[])=_;rw[ahe,agM,g2];rfl
   rw[ahy,<-ep]at I7 Xx;rwa[⟨gs5,Tg,O5,112,λb o n e=>b5 b o (λz=>(N b z).elim n λy=>by cbv) (M^f3 b o n e),λb z=>?_,c5,I7,Xx⟩];rcases nw5 b z with y|y
   ·rwa[N b y]
   ·cases y2:O b
    ·rwa[.inl y2]
    ·rwa[.inr ?_]
     cases e:Hb b with
     |none=>rfl
     |some o=>rw[M^f3 b o y2 e]at y;ext y
  ·rintro σ X ⟨D,C,O3,v5,v6,rfl,f3,N,c3,G,I⟩;rw[agH,Ts.1]at G I;rwa[k c D C d O3 X (λb o e n=>f3 b o (Z e n) (sb^oa b o e n)) c3 (f3 _ _ (cA.IB qa) (sb^qa)) (λb z=>?_) G I Tw];rcases N b z with y|y
   ·rwa[Oa b y]
   ·rwa[.inr (nA b (same_none sb y))]
def B6 {rs:Za3}{b:List (Zg×Nat)}(h:xW rs b):⇑b<=⇑rs:=by
 let c:(b.map (·.2)).Nodup:=by
  have:=h.n;unfold List.Nodup at this ⊢;rw[ah1]at this ⊢
  exact this.imp_of_mem λ{p q} a d n e=>n (by
   let i:=h.a p a;let g:=h.a q d
   cbv)
 have:=lF ⇑rs _ c λn f=>by
  let⟨p,a,rfl⟩:=ahu.mp f;rwa[(agE.mp (h.a p a)).1]
 rw[agH]at this;rwa[this]
def wI {b:Nat×Zg×Nat}{w:Nat}(h:b∈nz w l m):b=(w,l,m)/\l≠[]:=by
 unfold nz at h
 cbv
def Gf {w:Nat}(h:l≠[]):(w,l,m)∈nz w l m:=by
 unfold nz;cbv
def Pl {c:List (Zg×Nat)}{st:Zh}{a:Za3}{b:Nat×Zg×Nat}(h:b∈dA c st++fO a n ⇑a):(∃p∈c,b.1=p.2/\b.2.1=p.1/\b.2.2∈st)\/∃j u,a[j]?\u/\b=(n+ j,u,0):=by
 rcases agS.mp h with q|q
 ·let⟨m,e,q⟩:=aim.mp q;let⟨p,d,q⟩:=aim.mp q;let⟨rfl,_⟩:=wI q;rwa[.inl ⟨p,d,22,e⟩]
 ·let⟨j,f,q⟩:=aim.mp q;let⟨rfl,_⟩:=wI q
  cbv
def ends {bs:List (Nat×Zg×Nat)}{d:Zf}{W:bI}(ci:CI S bs d [] W fT none)(x:Good S [] R){b:Nat×Zg×Nat}(p:b∈bs)(a:S.aw b.2.2=b.2.2):Mj S b.2.2 b.2.1:=by
 let⟨n,f⟩:=ahs p;let B:n<⇑d:=by rw[ci.len];rwa[(agE.mp f).1]
 cases q:d[n]? with
 |none=>cbv
 |some y=>
  cases y with
  |none=>
   rcases ci.de n b q (by cbv) f with z|z
   ·rwa[absurd a z]
   ·rwa[.inl z]
  |some g=>
   let⟨e,c,z⟩:=ci.al n g q;rw[f]at e;obtain rfl:=Za0 e;rcases z with z|z|⟨lt,l,v⟩
   ·ext z
   ·ext z
   ·let⟨o,_,k,_,_,_,_,f1⟩:=ci.en _ _ _ l;let⟨s,_,j,_,_,_,_,f2⟩:=ci.en _ _ _ v;let k:o=g.front:=∅
    let j:s=g.bp:=∅
    subst k j;rcases f1 with ⟨t,u⟩|f1
    ·rcases f2 with ⟨m,r⟩|f2
     ·let i:=c.wf;let h:=c.wr;let a:S.aw g.start=g.start:=a;rw[a,t]at i;rw[a,m]at h;rwa[.inr ⟨g.first,g.last,g.front,g.bp,g.z1,-g.z2,lt,Gg.qm (by have:=c.ll;omega),Gg.at2 c.ll,i,u,h,[aiq]▸r⟩]
     ·rwa[f2.elim]
    ·rwa[f1.elim]
inductive Pn (CR CG CC:Zs) (vs:Zb) (H:Hp) (Q:VK) (E_:XK):Prop
 |mk (r ru pa:Zs) (S:RS) (a:RA) (R:Za2) (ks:Zg) (B:Nat) (rs ps:Za3):vs=[↑r,↑ru,↑pa]->iN CR H r S a R ks B->0<S.q->B<800000->b8 H ru rs->b8 H pa ps->⇑rs<=400->⇑ps<=400->S.q* ⇑rs+ ⇑ps<=700->(∀u∈rs++ps,⇑u<=1000/\∀z∈u,(-1000<=z/\z<=1000)/\z∈ks/\-z∈ks)->(∀S' a' R' B' H',(∀b o,¬a.own r b->H b\o->H' b\o)->iN CR H' r S' a' R' ks B'->(∀b,a'.own r b->a.own r b\/H b=none)->(∀a z b,R a z b->R' a z b)->S'.q=S.q->S'.L=S.L->Tr (rs++ps) ⇑rs S S'->AI rs ps S'->B'<=B+ 700->Q .non H')->Pn CR CG CC vs H Q E_
noncomputable def fq (z:Int):Int:=if z > 0 then 2* z - 2 else -2* z - 1
def I8 (k:Nat):fq (M12.st k)=k:=by
 unfold fq M12.st;cases h:k % 2=0
 ·rw[ag8 h,ag8 ∅];ext
 ·rw[ag3 h,ag3 ∅];ext
def Pp:Sp:=λa H Q _=>∃z:Int,a=[.int z]/\Q (.int (fq z)) H
noncomputable def pz (l:Zg):V:=(l.head?.map V.int).getD .non
inductive TF (C:Zs) (vs:Zb) (H:Hp) (Q:VK) (E_:XK):Prop
 |mk (r:Zs) (S:RS) (a:RA) (c:Nat):vs=[↑r,.int c]->ay C H r S a->c<⇑S.gaps->Q (pz (S.gap c)) H->TF C vs H Q E_
def C9 (T:Txt K mg A):T.mI.Ok P w base 1 Pp:=by
 rwa[T.mI.on C4 (λb f a s H d Q E e h=>?_) (len:=by rintro _ _ _ _ ⟨z,rfl,_⟩;rfl)]
 ·let⟨z,rfl,k⟩:=h
  refine⟨_,(ai (bJ (aZ zD (pv 0) ax (bh _))
   (au (bx (aP jF (aP lU ax (pv 0)) ax)))
   bj)
   (au (bx (aP jF (aP lU (e8 dE ax) (pv 0)) ax)))),?_⟩
  rwa[jb ?_];intro c;erw[12112212];unfold fq at k;rwa[bW (λh=>?_) (λh=>?_)]
  ·rw[ag8 (ahn h)]at k;rwa[121122,.inl ⟨44⟩,1122,k]
  ·rw[ag3 (λq=>h (ahh q))]at k;rwa[12121122,.inl ⟨44⟩,1122,k]
def iw (T:Txt K mg A):T.fK.Ok mg P w base 1 (TF A.az):=by
 rwa[T.fK.on kQ (λy I m s H G Q E J h=>?_)]
 ·let⟨r,S,a,c,rfl,h,F,k⟩:=h
  erw[_,(ai (DQ (cK ag9 rfl (Vl (bC bu (aH (pv 0) rfl) (pv 1) (λ_ _=>rfl))) (dz 2 kQ.nd)
   (au (bx (pv 2)))))
   (au (bx du)))]
  rwa[jb ?_];intro v;let x:=wB F;let⟨p,B,l⟩:=h.rG.at x;erw[p,.dK (gK (S.gap c)),l,True.intro];rwa[⟨12,r,_,a.dx,112,h.ins,aJ T,T.si,sU^_,12,a.aG,11122,aD.of h.hG,dF B,p,gK (S.gap c),2,l,λo=>?_⟩]
  let back:upd (upd H p (.cS o (.dK (gK (S.gap c))))) p (.dK (gK (S.gap c)))=H:=by
   rw[NM]
   funext b
   cases t:b=p
   ·rw[t,ah,l]
   ·rw[ak t]
  rwa[Rm (d:=p) (o:=o) (kvs:=gK (S.gap c)) (λi g j=>g=#v[↑r,.int c,none]/\j=upd H p (.cS o (.dK (gK (S.gap c))))/\i=0) ⟨222⟩ (λi g j _ q=>[q.2.1]▸ah) ?_ ?_]
  ·rintro i C g j f ⟨rfl,rfl,rfl⟩
   let e:∃z,(S.gap c).head?\z/\kV C.1=.int z:=by
    unfold gK at f;rw[agY]at f
    cases q:(S.gap c)[0]? with
    |none=>rw[q]at f;ext f
    |some z=>
     rw[q]at f;erw[z,[List.head?_eq_getElem?]▸q];rw[<-Za0 f];rfl
   let⟨z,D,n⟩:=e;rw[n];erw[12,o,ah];rw[back];have:pz (S.gap c)=.int z:=by unfold pz;rw[D];rfl
   rw[<-this];rwa[k]
  ·rintro g j ⟨rfl,rfl,e⟩;erw[o,ah];rw[back];have:S.gap c=[]:=ah7 (by unfold gK at e;cbv);let n:pz (S.gap c)=.non:=by rw[this];rfl
   show Q V.non H;rw[<-n];rwa[k]
noncomputable def dU:Pos:=⟨(167),(29),(167),(57)⟩
def iz:Str:=(PyProof.Rows.envOfC "ByLetters.gap" (aB jO) 0 0 .none).qual++"<lambda>"
def Kp (c:Zs)(H a:Hp):Prop:=∀b u,b≠c->H b\u->a b\u
def Kp.trans (c:Kp a H I)(b:Kp a I J):Kp a H J:=λx u n e=>b x u n (c x u n e)
def Kp.same (b:aq H I):Kp a H I:=λx u _ e=>b x u e
def _root_.Lake.L2.dc.same {pos:Pos}(h:dc a pos x H)(s:aq H I):dc a pos x I:=h.keep λb u e _=>s b u e
def gW (S:RS)(L c:Nat)(z:Int):Prop:=c<S.q/\S.aU[c]?\c/\z∈bq (2* L)/\S.by c z=none
def rk (w c:Nat)(z:Int):Zg:=if w=0 then [(c:Int),fq z] else if w=1 then [fq z,(c:Int)] else [-(c:Int),fq z]
def kx (w:Nat)(S:RS)(L c:Nat)(z:Int):Prop:=gW S L c z/\∀a b,gW S L a b->HT.lexLt (rk w a b) (rk w c z)=false
structure GL (S:RS) (L:Nat):Prop where
 wf:S.Wf
 m:S.q<=100000
 l2:L<=200
 gp:∀c,c<S.q->S.aU[c]?\c->S.gap c=(bq (2* L)).filter λz=>(S.by c z).isNone
inductive jV (C Pt D:Zs) (w:Nat) (vs:Zb) (H:Hp) (Q:VK) (E_:XK):Prop
 |mk (o dx r:Zs) (S:RS) (a:RA) (L:Nat):vs=[↑o,↑r]->H o\.ins D dx []->ay C H r S a->GL S L->dc Pt dU iz H->((∀c z,¬gW S L c z)->∀H',Kp Pt H H'->dc Pt dU iz H'->Q .non H')->(∀(c:Nat) (z:Int),kx w S L c z->∀t H',Kp Pt H H'->dc Pt dU iz H'->H' t\.tup [.int (c:Int),.int z]->Q ↑t H')->jV C Pt D w vs H Q E_
def ck (S:RS):Zh:=(List.range S.q).filter λc=>decide (S.aU[c]?\c)
def gX:n∈ck S↔n<S.q/\S.aU[n]?\n:=by
 unfold ck;rw[aie,ahj];simp
def xZ (S:RS):(ck S).Pairwise (·< ·):=List.Pairwise.filter _ aiK
def VR (n:Nat):(bq n).Pairwise λa b=>fq a<fq b:=by
 unfold bq;rw[ah1];rwa[List.Pairwise.imp (λh=>?_) (aiK (n:=n))];rw[I8,I8];ext
def Gh (pw:l.Pairwise λa b=>fq a<fq b){z:Int}(h:l.head?\z):z∈l/\∀y∈l,fq z<=fq y:=by
 cases l with
 |nil=>ext h
 |cons x l=>
  let e:x=z:=Za0 h;subst e;rwa[⟨agP,λy c=>?_⟩];rcases agW.mp c with rfl|c
  ·rwa[Int.le_refl _]
  ·rwa[Int.le_of_lt ((List.pairwise_cons.mp pw).1 y c)]
def GL.head (g:GL S n)(hc:m<S.q)(h:S.aU[m]?\m):(∀z,(S.gap m).head?\z->gW S n m z/\∀y,gW S n m y->fq z<=fq y)/\((S.gap m).head?=none->∀y,¬gW S n m y):=by
 let e:=g.gp m hc h
 let mem:∀y,gW S n m y↔y∈S.gap m:=λy=>by
  rw[e,aie];constructor
  ·rintro ⟨_,_,d,c⟩;rwa[d,by rw[c];rfl]
  ·rintro ⟨d,c⟩;rwa[hc,h,d,by simpa using c]
 let pw:(S.gap m).Pairwise λa b=>fq a<fq b:=by rw[e];rwa[(VR _).filter _]
 rwa[⟨λz hz=>?_,λi y f=>?_⟩]
 ·let⟨d,c⟩:=Gh pw hz;rwa[(mem z).mpr d,λy f=>c y ((mem y).mp f)]
 cbv
def ej (S:RS)(cs:Zh):Option (Nat×Int):=cs.findSome? λc=>(S.gap c).head?.map λz=>(c,z)
def Dc (h:ej S B=none):∀c∈B,(S.gap c).head?=none:=λc a=>by
 unfold ej at h;rw[List.findSome?_eq_none_iff]at h;have:=h c a
 cases q:(S.gap c).head? with
 |none=>rfl
 |some z=>cbv
theorem uf {S:RS}:∀{cs:Zh} {c:Nat} {z:Int},ej S cs\(c,z)->∃i:Nat,cs[i]?\c/\(S.gap c).head?\z/\∀j b:Nat,j<i->cs[j]?\b->(S.gap b).head?=none
 |[],_,_,h=>by ext h
 |x::cs,c,z,h=>by
  unfold ej at h;rw[List.findSome?_cons]at h
  cases q:(S.gap x).head? with
  |some y=>
   rw[q]at h;let h:(x,y)=(c,z):=Za0 h;injection h with d a
   subst d a;rwa[(0),2,q,λj b e=>absurd e (Nat.not_lt_zero _)]
  |none=>
   rw[q]at h;let⟨i,d,a,g⟩:=uf (cs:=cs) h;rwa[⟨i+ 1,d,a,λj b e f=>?_⟩]
   cases j with
   |zero=>rw[<-Za0 f];rwa[q]
   |succ j=>exact g j b ∅ f
inductive EB (C:Zs) (vs:Zb) (H:Hp) (Q:VK) (E_:XK):Prop
 |mk (r l:Zs) (S:RS) (a:RA) (cs:Zh):vs=[↑r,↑l]->ay C H r S a->H l\.lst (ao (nI cs))->(∀c∈cs,c<⇑S.gaps)->(ej S cs=none->Q .non H)->(∀(c:Nat) (z:Int),ej S cs\(c,z)->∀t,H t=none->Q ↑t (upd H t (.tup [.int (c:Int),.int z])))->EB C vs H Q E_
def Dd {cs:Zh}(d:cs[i]?\n)(a:ej S (cs.take i)=none):(∀z,(S.gap n).head?\z->ej S cs\(n,z))/\((S.gap n).head?=none->ej S (cs.take (i+ 1))=none):=by
 let e:cs.take (i+ 1)=cs.take i++[n]:=by rw[List.take_add_one,d];rfl
 constructor
 ·intro z b;let c:cs=cs.take (i+ 1)++cs.drop (i+ 1):=(ajA _ _).symm;unfold ej at a ⊢;rw[c,e,ahy,List.findSome?_append,a,Option.none_or,aiO,List.findSome?_cons,b];rfl
 ·intro b;unfold ej at a ⊢
  cbv
def ug (T:Txt K mg A):T.mh.Ok P w base 2 (EB A.az):=by
 rwa[T.mh.on nY (λD M m s H L Q E F h=>?_)]
 ·let⟨r,l,S,a,cs,rfl,h,n,J,u,p⟩:=h
  erw[_,(ai (cK ag9 rfl (cX (pv 1)) (dz 2 nY.nd)
   (ai (bH 3 nY.nd (pm (pv 0) (aJ T) T.fK (iw T) F (ae (pv 2) aj)))
   (au (bJ (aZ oj (pv 3) du (bh _))
    (au (bx (cP (ae (pv 2) (ae (pv 3) aj)))))
    bj))))
   (au (bx du)))]
  rwa[jb ?_];intro o;erw[12,l,2,⟨_,aD.of n⟩];rwa[eP (K:=K) (a:=l) (xs:=ao (nI cs)) (λi f j=>∃v k,f=#v[↑r,↑l,v,k]/\j=H/\ej S (cs.take i)=none) ⟨none,none,222⟩ (λi f j _ ζ=>by let⟨_,_,_,e,_⟩:=ζ;rwa[[e]▸aD.of n]) ?_ ?_]
  ·rintro i x f j G ⟨v,k,rfl,rfl,g⟩;let⟨z,rfl,C⟩:=cI G
   obtain⟨c,b,rfl⟩:∃c:Nat,cs[i]?\c/\z=(c:Int):=by
    unfold nI at C
    cbv
   let⟨B,I⟩:=Dd b g;erw[12,r,a.dx,12,h.ins,212,r,S,a,c,2,h,J c (agC b)];erw[12212]
   cases d:(S.gap c).head? with
   |none=>
    let e:pz (S.gap c)=.non:=by unfold pz;rw[d];rfl
    rw[e];rwa[some (.int c),some .non,22,I d]
   |some y=>
    let e:pz (S.gap c)=.int y:=by unfold pz;rw[d];rfl
    rw[e];rwa[1212,by show 2<=sizeLine;decide,λt q=>p c y (B y d) t q]
  ·rintro f j ⟨v,k,rfl,rfl,g⟩;rw[aI,bF,ail]at g;rwa[u g]
def B7 {a a' b b':Int}(h:a<a'\/a'=a/\b<=b'):HT.lexLt [a',b'] [a,b]=false:=by
 rw[HT.vl,HT.vl,HT.y7]
 cbv
def FI {c:Type}{R:c->c->Prop}{l:List c}(pw:l.Pairwise R){i j:Nat}{a b:c}(d:i<j)(f:l[i]?\a)(h:l[j]?\b):R a b:=by
 let⟨g,rfl⟩:=agE.mp f;let⟨e,rfl⟩:=agE.mp h;rwa[List.pairwise_iff_getElem.mp pw i j g e d]
def B9 (g:GL S n)(b:∀c,c∈ck S->c∈B)(h:ej S B=none):∀c z,¬gW S n c z:=λc z a=>(g.head a.1 a.2.1).2 (Dc h c (b c (gX.mpr ⟨a.1,a.2.1⟩))) z a
def uh {w:Nat}{cs:Zh}(R:Nat->Nat->Prop)(g:GL S n)(k:∀m,m∈cs↔m∈ck S)(pw:cs.Pairwise R)(r:∀a b,R a b->∀y,HT.lexLt (rk w b y) (rk w a z)=false)(u:∀y,fq z<=fq y->HT.lexLt (rk w m y) (rk w m z)=false)(h:ej S cs\(m,z)):kx w S n m z:=by
 let⟨i,f,p,s⟩:=uf h;let o:=gX.mp ((k m).mp (agC f));let⟨t,v⟩:=(g.head o.1 o.2).1 z p;rwa[⟨t,λd e c=>?_⟩];let⟨j,l⟩:=ahs ((k d).mpr (gX.mpr ⟨c.1,c.2.1⟩));rcases Nat.lt_trichotomy i j with q|q|q
 ·rwa[r m d (FI pw q f l) e]
 ·cbv
 ·rwa[absurd c ((g.head c.1 c.2.1).2 (s j d q l) e)]
def TK (g:GL S n)(h:ej S (ck S)\(m,z)):kx 0 S n m z:=
 uh (·< ·) g (λ_=>Iff.rfl) (xZ S) (λa b d y=>B7 (.inl (by omega))) (λy c=>B7 (.inr ⟨rfl,c⟩)) h
def TL (g:GL S n)(h:ej S (ck S).reverse\(m,z)):kx 2 S n m z:=
 uh (λa b=>b<a) g (λm=>akk) (List.pairwise_reverse.mpr (xZ S)) (λa b d y=>B7 (.inl (by omega))) (λy c=>B7 (.inr ⟨rfl,c⟩)) h
def sE (T:Txt K mg A):T.jx.Ok mg P w base 3 (jV A.az A.eD A.cQ 0):=by
 rwa[T.jx.on By (λv D f s H C Q E k h=>?_)]
 ·let⟨o,G,r,S,a,L,rfl,F,h,g,j,p,n⟩:=h;erw[_,(au (bx (pc T.mh (ug T) k (ae (pv 1) (ae (vF (pv 1) (aJ T) T.eG (gf T) k) aj)))))];rwa[⟨1212,r,a.dx,12,h.ins,2,r,S,a,2,h,g.wf,g.m,λl x=>?_⟩];let d:aq H (upd H l (.lst (ao (nI (ck S))))):=aq.upd x;rwa[⟨r,l,S,a,ck S,2,h.same d,ah,λc B=>[g.wf.g]▸(gX.mp B).1,λy=>p (B9 g (λ_ h=>h) y) _ (.same d) (j.same d),λc z q t m=>?_⟩];let i:=aq.upd (o:=.tup [.int (c:Int),.int z]) m;rwa[n c z (TK g q) t _ (.same λb u e=>i b u (d b u e)) ((j.same d).same i) ah]
def qH (T:Txt K mg A):T.iG.Ok mg P w base 3 (jV A.az A.eD A.cC 2):=by
 rwa[T.iG.on zu (λC M i s H J Q E m h=>?_)]
 ·let⟨o,O,r,S,a,L,rfl,N,h,g,k,x,v⟩:=h;erw[_,(au (bx (pc T.mh (ug T) m (ae (pv 1) (ae (Fz rfl rfl T.iR rfl T.F0 (ae (vF (pv 1) (aJ T) T.eG (gf T) m) aj) rfl rfl) aj)))))];rwa[⟨1212,r,a.dx,12,h.ins,2,r,S,a,2,h,g.wf,g.m,λl D=>?_⟩];let F:aq H (upd H l (.lst (ao (nI (ck S))))):=aq.upd D;rwa[⟨l,12,aD.of ah,λn f=>?_⟩];let y:=aq.upd (o:=.lst (ao (nI (ck S))).reverse) f;let d:aq H (upd (upd H l (.lst (ao (nI (ck S))))) n (.lst (ao (nI (ck S))).reverse)):=λb u e=>y b u (F b u e)
  let p:(ao (nI (ck S))).reverse=ao (nI (ck S).reverse):=by unfold ao nI;rw[List.map_reverse,List.map_reverse]
  rwa[⟨r,n,S,a,(ck S).reverse,2,h.same d,by rw[<-p];rwa[ah],λc I=>[g.wf.g]▸(gX.mp (akk.mp I)).1,λG=>x (B9 g (λ_ h=>akk.mpr h) G) _ (.same d) (k.same d),λc z B t q=>?_⟩];let j:=aq.upd (o:=.tup [.int (c:Int),.int z]) q;rwa[v c z (TL g B) t _ (.same λb u e=>j b u (d b u e)) ((k.same d).same j) ah]
def jX (S:RS)(cs:Zh):List (Nat×Int):=cs.filterMap λc=>(S.gap c).head?.map λz=>(c,z)
def x6:(n,z)∈jX S B↔n∈B/\(S.gap n).head?\z:=by
 unfold jX;rw[ajY];constructor
 ·rintro ⟨b,a,e⟩
  cases q:(S.gap b).head? with
  |none=>rw[q]at e;ext e
  |some y=>
   cbv
 cbv
def TN {cs:Zh}(h:cs.Pairwise (·< ·)):(jX S cs).Pairwise λp q=>p.1<q.1:=by
 unfold jX;rwa[List.pairwise_filterMap.mpr (h.imp λ{a b} e p c q d=>?_)]
 cases f:(S.gap a).head? with
 |none=>rw[f]at c;ext c
 |some y=>
  cases g:(S.gap b).head? with
  |none=>rw[g]at d;ext d
  |some x=>
   rw[f]at c;rw[g]at d;rw[<-Za0 c,<-Za0 d];rwa[e]
def Lp {cs:Zh}(a:cs[i]?\n):jX S (cs.take (i+ 1))=jX S (cs.take i)++((S.gap n).head?.map λz=>(n,z)).toList:=by
 unfold jX;rw[show cs.take (i+ 1)=cs.take i++[n] by rw[List.take_add_one,a];rfl,List.filterMap_append,List.filterMap_cons,List.filterMap_nil];cases (S.gap n).head? <;> rfl
def TQ (g:GL S n)(h:(jX S (ck S))[i]?\(m,z))(r:∀j d c,(jX S (ck S))[j]?\(d,c)->fq z<=fq c/\(j<i->fq z<fq c)):kx 1 S n m z:=by
 let⟨s,p⟩:=x6.mp (agC h);let o:=gX.mp s;rwa[⟨((g.head o.1 o.2).1 z p).1,λd c f=>?_⟩];let hd:=g.head f.1 f.2.1
 cases q:(S.gap d).head? with
 |none=>exact absurd f (hd.2 q c)
 |some y=>
  let B:=(hd.1 y q).2 c f;let⟨j,l⟩:=ahs (x6.mpr ⟨gX.mpr ⟨f.1,f.2.1⟩,q⟩);let⟨u,t⟩:=r j d y l;rwa[B7 (a:=fq z) (b:=(m:Int)) (a':=fq c) (b':=(d:Int)) ?_];cases e:fq z<fq c
  ·rwa[.inl e]
  ·rwa[.inr ⟨35⟩];rcases Nat.lt_trichotomy i j with k|k|k
   ·have:m<d:=FI (TN (xZ S)) k h l;ext
   ·cbv
   ·have:=t k;ext
def TR (g:GL S n)(h:jX S (ck S)=[]):∀c z,¬gW S n c z:=λc z a=>by
 let hd:=g.head a.1 a.2.1
 cases q:(S.gap c).head? with
 |none=>exact hd.2 q z a
 |some y=>
  have:=x6.mpr ⟨gX.mpr ⟨a.1,a.2.1⟩,q⟩
  cbv
def mW (T:Txt K mg A)(Ew:j7 mg base):dk P w K mg base (c9 P w) 6 A.nk A.jQ ["self","rooms"] (jV A.az A.eD A.bL 1):=by
 rwa[T.gZ.F.okT T.lam.code mS (λvs H Q E h=>?_) (λAA outer s H vs Q E hr h=>?_)]
 ·let⟨o,dx,r,S,a,L,rfl,_⟩:=h;rfl
 ·let⟨o,dx,r,S,a,L,rfl,ho,h,g,hT,kn,ks⟩:=h
  erw[_,(ai (qp (iy:=2) mS.nd rfl (Or.inl rfl) (fns:=["rooms"]) (ixs:=[1]) (cl:=_) rfl (cX (vF (pv 1) (aJ T) T.eG (gf T) hr)) (lD rfl rfl ⋯ rfl ⋯ rfl ⋯ ⋯ rfl rfl rfl rfl) (λC s H ex=>(aZ oj (pm (pv 1) (aJ T) T.fK (iw T) hr (ae (pv 0) aj)) du (bh _))) (λC s H ex=>(cP (ae (pv 0) (ae (pm (pv 1) (aJ T) T.fK (iw T) hr (ae (pv 0) aj)) aj)))))
   (au (bx (OJ (x:="gap") (k:=2) rfl rfl T.MB (pv 2) rfl T.lam.hd rfl rfl Ew hr.Za5 (by ac_rfl) (λ_ _ _ _=>rfl) (λ_ _ _ _ _ _ EA=>xg (C9 T) (EA.mono ⋯) rfl T.mI.m T.mI.F.kp T.mI.b .nil gy (ae (bC (N8 (K:=K) rfl) (pv 0) ax (λ_ _=>rfl)) aj)) rfl rfl))))]
  rwa[jb ?_];intro gH;rwa[⟨12,r,a.dx,12,h.ins,2,r,S,a,2,h,g.wf,g.m,λl hl=>?_⟩];let s1:aq H (upd H l (.lst (ao (nI (ck S))))):=aq.upd hl;let J:upd H l (.lst (ao (nI (ck S)))) l\(.lst (ao (nI (ck S)))):=ah;rw[show ((List.range S.q).filter λc=>decide (S.aU[c]?\c))=ck S from rfl];change upd H l (.lst (ao (nI (ck S))))=H1 at s1 J;let h1:=h.same s1;let R:=hT.same s1;let Xy:⇑(ck S)<=S.q:=agT (ait _ _) (by cbv);let hgm:=g.m;let el:⇑(ao (nI (ck S)))=⇑(ck S):=by rw[aI,bF]
  erw[l,2,⟨_,aD.of J⟩];erw[λi m ys Z=>m=⇑(ck S) - i/\i<=⇑(ck S)/\aq H1 Z/\∃d:Zn,ys=d.map V.ref/\⇑d<=i/\Each (λt (p:Nat×Int)=>Z t\.tup [.int (p.1:Int),.int p.2]) d (jX S ((ck S).take i)),⟨⇑(ck S),by simp,ahd _,λ_ _ e=>e,[],2,agJ _,2,λi p x e=>by simp at e⟩];rintro i m ys Z ⟨rfl,hi,G,d,rfl,Xz,B⟩;let N:=G^J;let h2:=h1.same G;cases U:i<⇑(ck S)
  ·rwa[.inr ⟨kH (aD.of N) i ∅,[agH]▸agO (agT Xz (show i<=100000 by omega)) ⋯,λx H3 TV=>?_⟩];let⟨rfl,hx⟩:=jl (aD.of N) i x H3 ∅ TV;let⟨z,rfl,hz⟩:=cI hx
   obtain⟨c,X,rfl⟩:∃c:Nat,(ck S)[i]?\c/\z=(c:Int):=by
    unfold nI at hz
    cbv
   let kJ:c<⇑S.gaps:=by rw[g.wf.g];rwa[(gX.mp (agC X)).1]
   let et:=Lp (S:=S) X;erw[12,r,a.dx,12,h2.ins,212,r,S,a,c,2,h2,kJ,212]
   cases hg:(S.gap c).head? with
   |none=>
    let e:pz (S.gap c)=.non:=by unfold pz;rw[hg];rfl
    rw[e];erw[⇑(ck S) - (i+ 1),32,U,G,d,23];rw[et,hg];simpa using B
   |some y=>
    let e:pz (S.gap c)=.int y:=by unfold pz;rw[hg];rfl
    rw[e];rwa[⟨1212,r,a.dx,12,h2.ins,212,r,S,a,c,2,h2,kJ,by show 2<=sizeLine;decide,λt hnt=>?_⟩];let v:=aq.upd (o:=.tup [.int (c:Int),pz (S.gap c)]) hnt;erw[⇑(ck S) - (i+ 1),32,U,λb u q=>v b u (G b u q),d++[t],by cbv,by rw[agF,ahP];ext];rw[et,hg];rwa[(B.imp λp x _ _ q=>v^q).snoc ?_];show upd H3 t _ t=_;rw[ah,e]
  ·let e:i=⇑(ck S):=∅
   subst e;rw[ail]at B;rwa[.inl ⟨by rw[<-el];rwa[ig (aD.of N)],[agH]▸agT Xz (agT (show ⇑(ck S)<=100000 by omega) ⋯),λD hD=>?_⟩];let v:=aq.upd (o:=.lst (d.map V.ref)) hD;let XA:upd Z D (.lst (d.map V.ref)) D\(.lst (d.map V.ref)):=ah;change upd Z D (.lst (d.map V.ref))=H3 at v XA;let Y:aq H H3:=λb u q=>v b u (G b u (s1 b u q))
   rwa[⟨12,D,d.map V.ref,λj=>fq ((jX S (ck S)).getD j (0,0)).2,2,aD.of XA,(R.same G).same v,λH4 XB k4=>⟨λj y M=>?_,λe=>?_,λj y M hb=>?_⟩⟩]
   ·let I:j<⇑(jX S (ck S)):=by rw[<-B.1,<-agH (f:=V.ref)];rwa[(agE.mp M).1]
    let⟨t,O,q⟩:=B.at (agG I);rw[agY,O]at M;let e:=Za0 M;subst e
    let q4:H4 t=_:=k4 t _ (λz=>by
     let q3:=v^q;rcases (R.same G).same v with w|⟨_,_,_,_,w,_⟩
     ·rw[z,w]at q3;ext q3
     cbv) (v^q)
    rwa[⟨12,t,11122,bN.of q4,21252⟩]
    cbv
   ·have:d=[]:=List.map_eq_nil_iff.mp e;let e2:jX S (ck S)=[]:=ah7 (by rw[<-B.1,this];rfl);rwa[kn (TR g e2) H4 (λb u n q=>k4 b u n (Y b u q)) XB]
   ·let I:j<⇑(jX S (ck S)):=by rw[<-B.1,<-agH (f:=V.ref)];rwa[(agE.mp M).1]
    let F:=agG I;change (jX S (ck S))[j]=p at F;let⟨t,O,q⟩:=B.at F;rw[agY,O]at M;let e:=Za0 M;subst e;let q3:=v^q
    let q4:H4 t=_:=k4 t _ (λz=>by
     rcases (R.same G).same v with w|⟨_,_,_,_,w,_⟩
     ·cbv
     cbv) q3
    let kv:∀{n:Nat} {x:Nat×Int},(jX S (ck S))[n]?\x->fq ((jX S (ck S)).getD n (0,0)).2=fq x.2:=λ{n x} hx=>by cbv
    rwa[ks p.1 p.2 (TQ g F λn c' z' hn=>?_) t H4 (λb u n q=>k4 b u n (Y b u q)) XB q4];have:=hb n ([agH,B.1]▸(agE.mp hn).1);dsimp only at this;rw[kv F,kv hn]at this;rwa[this]
noncomputable def TX:Zh:=[114,111,111,109,115]
noncomputable def LC:Zh:=[108,101,116,116,101,114,115]
noncomputable def TY:Zh:=[110,101,119,101,115,116]
def New (C:Zs)(H:Hp)(Q:VK):Prop:=∀x d,H x=none->H d=none->d≠x->Q ↑x (upd (upd H d (.own x)) x (.ins C d []))
def I9 (e c d a:Zs):Sp:=λb H Q E=>∃t:Zh,b=[.str (tx t)]/\(t=TX\/t=LC\/t=TY)/\(t=TX->New c H Q)/\(t=LC->New d H Q)/\(t=TY->New a H Q)
def jC {b:Zh}:(V.str (tx B)=V.str (tx b))↔B=b:=⟨λh=>QJ (V.str.inj h),λh=>by rw[h]⟩
def De (T:Txt K mg A):dk P w K mg base (c9 P w) 1 A.vS A.vT ["name"] (I9 A.ny A.cQ A.bL A.cC):=by
 rwa[T.pX.F.Sf C5 (λf H Q E h=>?_) (λj p a s H f Q E r h=>?_)]
 ·let⟨t,rfl,_⟩:=h;rfl
 ·let⟨t,rfl,m,g,b,n⟩:=h
  erw[_,(ai (bJ (aZ fb (pv 0) (fA (l:=[114,111,111,109,115]) rfl) (bh _))
   (au (bx (uF T.KZ T.K1 T.K0 rfl T.O6)))
   bj)
   (ai (bJ (aZ fb (pv 0) (fA (l:=[108,101,116,116,101,114,115]) rfl) (bh _))
    (au (bx (uF T.Bs T.Bv T.Bu rfl T.C3)))
    bj)
   (ai (bJ (aZ fb (pv 0) (fA (l:=[110,101,119,101,115,116]) rfl) (bh _))
    (au (bx (uF T.Ia T.Ic T.Ib rfl T.Ky)))
    bj)
   (au Js))))]
  rwa[gR ?_];intro k o d;erw[12212];rwa[bW (λh=>?_) (λe=>?_)]
  ·rwa[g (jC.mp (ahn h))]
  erw[12212];rwa[bW (λh=>?_) (λi=>?_)]
  ·rwa[b (jC.mp (ahn h))]
  erw[12212];rwa[bW (λh=>?_) (λc=>?_)]
  ·rwa[n (jC.mp (ahn h))]
  rwa[m.elim (λz=>e (ahh (jC.mpr z))) λq=>q.elim (λz=>i (ahh (jC.mpr z))) λz=>c (ahh (jC.mpr z))]
def qf (h:ay a H b S O){d:Zs}{o:HO}(i:H d\o)(k:∀p q f,o≠.ins p q f)(j:∀c,o≠.lst c)(l:∀c,o≠.dK c):¬O.own b d:=λg=>by
 rcases g with q|q|q
 ·have:=h.ins;cbv
 ·let⟨c,e⟩:=h.Mi q;cbv
 ·let⟨c,e⟩:=h.qi q;cbv
def Pq (h:ay a H b S O){p:Zs}{d:Zb}(c:H p\.tup d):¬O.own b p:=qf h c (by cbv) (by cbv) (by cbv)
def Pu {C:Zs}{x:Zs}(nx:H x=none)(c:H a=none)(d:a≠x)(k:∀b o,upd (upd H a (.own x)) x (.ins C a []) b\o->b≠x->I b\o)(g:∀b,O.own x b->b=x\/upd (upd H a (.own x)) x (.ins C a []) b=none):aq H I/\∀b,O.own x b->H b=none:=by
 let f:aq H (upd (upd H a (.own x)) x (.ins C a [])):=(aq.upd c).trans (aq.upd ([ak d.symm]▸nx));rwa[λb o e=>k b o (f^e) (av e nx),λb z=>(g b z).elim (λe=>[e]▸nx) (same_none f)]
def Nq (p:Zs)(H a:Hp):Prop:=∀q o,q≠p->H q\o->a q\o
def Nq.upd {o:HO}:Nq a H (upd H a o):=λq u n e=>[ak n]▸e
def _root_.Lake.L2.eh.but {rs:Zn}{rows:Za3}{w:Zs}(h:eh H rs rows)(b:Nq w H I)(c:w∉rs):eh I rs rows:=⟨h.1,λi r ns a d=>b _ _ (λz=>c (by rw[<-z];rwa[agC a])) (h.2 i r ns a d)⟩
def Lq {rows:Za3}(h:eh H F rows){r:Zs}(c:r∈F):∃d,H r\(.lst (ao d)):=by
 let⟨i,b,e⟩:=aiz.mp c;let a:i<⇑rows:=by rw[<-h.1];rwa[b]
 rwa[_,h.2 i r _ (by rw[agG b,e]) (agG a)]
def _root_.Lake.L2.eh.snoc {rs:Zn}{rows:Za3}{ns:Zg}(h:eh H rs rows)(f:H a\.lst (ao ns)):eh H (rs++[a]) (rows++[ns]):=by
 rwa[⟨by rw[agF,agF,h.1];rfl,λi q e c b=>?_⟩];cases d:i<⇑rs
 ·rw[agN d]at c;rw[agN (by rw[<-h.1];rwa[d])]at b;rwa[h.2 i q e c b]
 ·rw[agR ∅]at c;rw[agR (by rw[<-h.1];omega)]at b;rw[agK.mp (agC c),agK.mp (agC b)];rwa[f]
def bA (S:RS)(k c:Nat):Nat:=(S.by c (M12.st k)).getD 0
inductive wJ (C:Zs) (vs:Zb) (H:Hp) (Q:VK) (E_:XK):Prop
 |mk (r:Zs) (S:RS) (a:RA) (Z:Nat->Prop):vs=[↑r]->ay C H r S a->1<=S.L->S.L<=40->S.q<=300->⇑S.ways=S.q->Z 0->(∀c,Z c->c<S.q/\∀k,k<2* S.L->∃d,S.by c (M12.st k)=some d/\Z d)->(∀l N H',aq H H'->H l=none->TabAt H' l (M24.eU (bA S) (2* S.L) (M24.aX (bA S) (2* S.L) 0 N))->⇑(M24.aX (bA S) (2* S.L) 0 N)=N->Q ↑l H')->wJ C vs H Q E_
def uZ (a:List (Key×V))(found:Zh):Prop:=⇑a<=⇑found/\∀c:Nat,bB a (Sum.inl (c:Int))=if c∈found then some (V.int (M24.ix found c:Int)) else none
def uZ.one:uZ [(Sum.inl 0,.int 0)] [0]:=⟨agJ _,λc=>by
 cases h:c=0
 ·subst h;rfl
 ·rw[ag3 (λq=>h (agK.mp q))];show bB (putK [] (Sum.inl 0) (.int 0)) (Sum.inl (c:Int))=none;rw[j3,ag3 (λq=>by injection q with q;omega)];rfl⟩
def uZ.put {c:List (Key×V)}{found:Zh}(h:uZ c found)(nd:found.Nodup)(hc:n∉found):uZ (putK c (Sum.inl (n:Int)) (.int (⇑found:Int))) (found++[n]):=by
 let g:(found++[n]).Nodup:=by
  rw[ahz];rwa[nd,by simp,λa i b j=>by cbv]
 rwa[⟨5,λf=>?_⟩]
 ·have:=fP c (Sum.inl (n:Int)) (.int (⇑found:Int));have:=h.1;rw[agF,ahP];ext
 rw[j3];cases e:f=n
 ·subst e;rw[ag8 rfl,ag8 (agL _ agP),M24.HN hc]
 ·rw[ag3 (λq=>e (by injection q with q;omega)),h.2];cases d:f∈found
  ·rw[ag8 d,ag8 (ag6 _ d),M24.vK g d]
  cbv
structure NS (H0 H:Hp) (lf d lr:Zs) (ts:Zn) (kvs:List (Key×V)) (found:Zh) (Tb:Za3):Prop where
 same:aq H0 H
 f1:H lf\(.lst (ao (nI found)))
 d1:H d\(.dK kvs)
 nm:uZ kvs found
 r1:H lr\(.lst (ts.map V.ref))
 r2:eh H ts Tb
 un:(lf::lr::ts).Nodup
 new:∀x∈lf::lr::ts,H0 x=none
 dn:H0 d=none
section
variable {H0 H H':Hp}{lf d lr:Zs}{ts:Zn}{kvs:List (Key×V)}{found:Zh}{Tb:Za3}
def NS.more (h:NS H0 H lf d lr ts kvs found Tb)(s:aq H H'):NS H0 H' lf d lr ts kvs found Tb:=
 ⟨h.same.trans s,s^h.f1,s^h.d1,h.nm,s^h.r1,h.r2.same s,h.un,h.new,h.dn⟩
def NS.ne (h:NS H0 H lf d lr ts kvs found Tb):lf≠lr/\lf∉ts/\lr∉ts/\ts.Nodup:=by
 let a:=ahk.mp h.un
 cbv
def NS.add (h:NS H0 H lf d lr ts kvs found Tb)(nd:found.Nodup){c:Nat}(hc:c∉found):NS H0 (upd (upd H d (.dK (putK kvs (Sum.inl (c:Int)) (.int (⇑found:Int))))) lf (.lst (ao (nI found)++[.int (c:Int)]))) lf d lr ts (putK kvs (Sum.inl (c:Int)) (.int (⇑found:Int))) (found++[c]) Tb:=by
 let⟨j,k,n,m⟩:=h.ne;let dl:∀b g,H b\.lst g->b≠d:=λb g e=>bY e h.d1 (by cbv)
 rwa[⟨λb o e=>?_,55,h.nm.put nd hc,5,⟨h.r2.1,λi q ns f l=>?_⟩,h.un,h.new,h.dn⟩]
 ·rw[ak (av e (h.new lf agP)),ak (av e h.dn)];rwa[h.same^e]
 ·rw[ah,gn,ints_app];rfl
 ·rw[ak (ahZ (dl lf _ h.f1)),ah]
 ·rw[ak (ahZ j),ak (dl lr _ h.r1)];rwa[h.r1]
 ·let a:=h.r2.2 i q ns f l;rw[ak (λe=>k (by rw[<-e];rwa[agC f])),ak (dl q _ a)];rwa[a]
def NS.row (h:NS H0 H lf d lr ts kvs found Tb){q:Zs}{row:Zg}(f:H q\.lst (ao row))(p:H0 q=none)(c:q∉lf::lr::ts):NS H0 (upd H lr (.lst ((ts++[q]).map V.ref))) lf d lr (ts++[q]) kvs found (Tb++[row]):=by
 let⟨g,k,m,i⟩:=h.ne;simp only[agW,not_or]at c;let⟨j,l,n⟩:=c;rwa[⟨λb o e=>?_,55,h.nm,ah,55,λx a=>?_,h.dn⟩]
 ·rw[ak (av e (h.new lr (ag4 _ agP)))];rwa[h.same^e]
 ·rw[ak g];rwa[h.f1]
 ·rw[ak (bY h.d1 h.r1 (by cbv))];rwa[h.d1]
 ·rwa[eh.but (w:=lr) (h.r2.snoc f) Nq.upd ?_]
  cbv
 ·cbv
 ·rw[<-aiO,<-aiO]at a;rcases agS.mp a with a|a
  ·rwa[h.new x a]
  cbv
end
def Df (T:Txt K mg A):T.numbered.Ok P w base 2 (wJ A.az):=by
 rwa[T.numbered.on fU (λcz AA outer s H vs Q E hr h=>?_)]
 ·let⟨r,S,a,Z,rfl,hR,mU,nF,hm,hw,hZ0,hZ,k⟩:=h;let qG:=hV hr
  erw[_,(ai (bH 1 fU.nd (pc T.pW (uc T) hr (ae (aH (pv 0) rfl) aj)))
   (ai (bH 2 fU.nd (bT (ae ax aj)))
   (ai (bH 3 fU.nd (DE (Aj ax ax DC) rfl rfl (by simp) ⋯))
   (ai (bH 4 fU.nd (bT aj))
   (ai (bP (eM ag9 (aZ m2 (bz bf rfl T.cR ahl (ae (pv 4) aj)) (bz bf rfl T.cR ahl (ae (pv 2) aj)) (bh _))
    (ai (kj (iy:=5) fU.nd rfl (Or.inl rfl) (fns:=["rows","rooms","found"]) (ixs:=[4,0,2]) (cl:=_) rfl (cX (pv 1)) (Fx rfl rfl rfl rfl ⋯ rfl ⋯ rfl ⋯ ⋯ rfl rfl rfl rfl rfl rfl rfl rfl rfl rfl) (λC s H ex=>(pm (pv 2) (aJ T) T.iu (hO T) hr (ae (bC (Ao (K:=K) rfl) (pv 3) (bz (za (K:=K) rfl) rfl T.cR ahl (ae (pv 1) aj)) (λ_ _=>rfl)) (ae (pv 0) aj)))))
    (ai (cK ag9 rfl (cX (pv 5)) (dz 6 fU.nd)
     (au (bP (bJ (Gp (yr qG (pv 6) (pv 3)))
      (ai (oq qG (pv 3) (pv 6) (bz bf rfl T.cR ahl (ae (pv 2) aj)) rfl)
      (au (aV (cH agQ ag0 ag2 bO (pv 2) (ae (pv 6) aj)))))
      bj))))
    (au (aV (cH agQ ag0 ag2 bO (pv 4) (ae (jc (fns:=["numbers"]) (ixs:=[3]) (cl:=_) rfl (cX (pv 5)) (lD rfl rfl ⋯ rfl ⋯ rfl ⋯ ⋯ rfl rfl rfl rfl) (λC s H ex=>(sP qG (pv 1) (pv 0) (λ_ _=>rfl)))) aj))))))))
   (au (bx (pv 4))))))))]
  rwa[pL ?_];intro qF nH jA fX gH;rwa[⟨12,r,_,a.dx,112,hR.ins,aJ T,T.sg,vr^_,S.L,2,mU,3,λsl H1 s1 XC=>?_⟩];rwa[⟨by show 1<=sizeLine;decide,λp Ca=>?_⟩];let s2:=aq.upd (o:=.lst [.int 0]) Ca;let Cb:upd H1 p (.lst [.int 0]) p\(.lst (ao (nI [0]))):=ah;change upd H1 p (.lst [.int 0])=H2 at s2 Cb ⊢;intro d hd;erw[ah,[(Sum.inl 0,.int 0)],2,by show 1<=15;decide];generalize AV:upd (upd H2 d (.dK [])) d _=H3;let XE:H3 d\(.dK [(Sum.inl 0,.int 0)]):=by rw[<-AV,ah];rfl
  let s3:aq H2 H3:=λb o e=>by rw[<-AV,ak (av e hd),ak (av e hd)];rwa[e]
  clear AV;rwa[⟨ahd _,λl T1=>?_⟩];let s4:=aq.upd (o:=.lst []) T1;let T2:upd H3 l (.lst []) l\(.lst (([]:Zn).map V.ref)):=ah;change upd H3 l (.lst [])=H4 at s4 T2 ⊢
  let B4:NS H1 H4 p d l [] [(Sum.inl 0,.int 0)] (M24.aX (bA S) (2* S.L) 0 0) (M24.j8 (bA S) (2* S.L) 0 0):=by
   let nlr:H2 l=none:=s3.free T1;let e:p≠l:=λz=>by cbv
   rwa[⟨(s2.trans s3).trans s4,(s3.trans s4) _ _ Cb,s4^XE,uZ.one,T2,⟨2,λi r ns h1=>by simp at h1⟩,by simp[e],λx hx=>?_,s2.free hd⟩];simp only[agW,ahx,aiR]at hx;rcases hx with e|e
   ·rw[e];rwa[Ca]
   ·rw[e];rwa[s2.free nlr]
  clear s2 s3 s4 Cb XE T2 Ca hd T1
  let kJ:∀y i,Z y->i<2* S.L->Z (bA S i y):=λy i hy B=>by
   let⟨d,e1,e2⟩:=(hZ y hy).2 i B;unfold bA;rw[e1];rwa[e2]
  let oZ:∀n,∀z∈M24.aX (bA S) (2* S.L) 0 n,Z z:=M24.lQ hZ0 kJ;let Y:∀n,⇑(M24.aX (bA S) (2* S.L) 0 n)<=300:=λn=>agT (M11.eF S.q _ (M24.gA _ _ _ n) λz R=>(hZ z (oZ n z R)).1) hm
  erw[λ fm H'=>∃(N:Nat) (G:Zn) (f:List (Key×V)) (v5 M:Zc),fm=#v[↑r,↑sl,↑p,↑d,↑l,v5,M]/\NS H1 H' p d l G f (M24.aX (bA S) (2* S.L) 0 N) (M24.j8 (bA S) (2* S.L) 0 N)/\⇑(M24.aX (bA S) (2* S.L) 0 N)=N,5]
  ·erw[λm σ H'=>∃(n:Nat) (G:Zn) (f:List (Key×V)) (v5 M:Zc),m=300 - n/\σ=#v[↑r,↑sl,↑p,↑d,↑l,v5,M]/\NS H1 H' p d l G f (M24.aX (bA S) (2* S.L) 0 n) (M24.j8 (bA S) (2* S.L) 0 n)/\n<=⇑(M24.aX (bA S) (2* S.L) 0 n),⟨_,(0),[],_,none,none,22,B4,ahd _⟩];rintro m σ H5 ⟨n,G,f,v5,M,rfl,rfl,O,hn⟩;let hop:=Y n
   let X:⇑G=n:=by
    rw[O.r2.1];unfold M24.j8;rw[agH,ahm];ext
   erw[12,l,12,.inl (aD.of O.r1),12,p,12,.inl (aD.of O.f1),112212];rwa[bW (λh=>?_) (λh=>?_)]
   ·let ou:n<⇑(M24.aX (bA S) (2* S.L) 0 n):=by
     let h':(⇑(G.map V.ref):Int)<(⇑(ao (nI (M24.aX (bA S) (2* S.L) 0 n))):Int):=ahn h;rw[aI,bF,agH,X]at h';ext
    clear h;let F:=agG ou;change (M24.aX (bA S) (2* S.L) 0 n)[n]=c at F;let T3:=oZ n c (agC F);let T4:=(hZ c T3).1;erw[_,λ fm H' h=>h];let R5:ay A.az H5 r S a:=hR.same (s1.trans O.same);let D:=O.same^XC;erw[12,sl,2,⟨_,aD.of D⟩];rwa[kF (ao ((List.range (2* S.L)).map M12.st)) (λv=>match v with|.int z=>.int (((S.by c z).getD 0:Nat):Int)|v=>v) (kH (aD.of D)) (jl (aD.of D)) (ig (aD.of D)) ([aI,agH,ahp]▸agT (show 2* S.L<=1000 by omega) ⋯) (λi v hv Rr J=>?_) (λlo T5=>?_)]
    ·let⟨z,rfl,R⟩:=cI hv
     let B:i<2* S.L:=by
      have:=(agE.mp R).1;rw[agH,ahp]at this;rwa[this]
     let ez:M12.st i=z:=Za0 ((su B).symm.trans R);let⟨dd,e1,e2⟩:=(hZ c T3).2 i B;rw[ez]at e1;erw[12,r,a.dx,12,R5.ins,cL _ _ _ ⋯,1212,l,12,.inl (aD.of O.r1),p,11122,aD.of O.f1,([agH,X]▸cD (bU (gk F))),12,r,S,a,c,z,2,R5,[hw]▸T4]
     cbv
    let eo:(ao ((List.range (2* S.L)).map M12.st)).map (λv=>match v with|.int z=>V.int (((S.by c z).getD 0:Nat):Int)|v=>v)=ao (nI ((List.range (2* S.L)).map λi=>bA S i c)):=by
     unfold ao nI;rw[ahw,ahw,ahw,ahw];rfl
    rw[eo];clear eo;let s6:=aq.upd (o:=.lst (ao (nI ((List.range (2* S.L)).map λi=>bA S i c)))) T5;let T6:upd H5 lo (.lst (ao (nI ((List.range (2* S.L)).map λi=>bA S i c)))) lo\(.lst (ao (nI ((List.range (2* S.L)).map λi=>bA S i c)))):=ah;change upd H5 lo (.lst (ao (nI ((List.range (2* S.L)).map λi=>bA S i c))))=H6 at s6 T6 ⊢;let n1:lo≠p:=λz=>by rw[z,O.f1]at T5;ext T5
    let RM:∀i,i<2* S.L->((List.range (2* S.L)).map λi=>bA S i c)[i]?\(bA S i c):=λi B=>by rw[agY,aip B];rfl
    erw[12,lo,2,⟨_,aD.of T6⟩];rwa[eP (K:=K) (a:=lo) (xs:=ao (nI ((List.range (2* S.L)).map λi=>bA S i c))) (λi σ U=>∃(f:List (Key×V)) (M:Zc),σ=#v[↑r,↑sl,↑p,↑d,↑l,↑lo,M]/\NS H1 U p d l G f (M24.da (bA S) c (M24.aX (bA S) (2* S.L) 0 n) i) (M24.j8 (bA S) (2* S.L) 0 n)/\U lo\.lst (ao (nI ((List.range (2* S.L)).map λi=>bA S i c)))) ⟨f,M,2,O.more s6,T6⟩ (λi σ U _ ζ=>by let⟨_,_,_,_,h⟩:=ζ;rwa[aD.of h]) ?_ ?_]
    ·rintro i y σ U B ⟨f,M,rfl,g,u⟩
     let T7:i<2* S.L:=by
      have:=(agE.mp B).1;rw[aI,bF,agH,ahp]at this;rwa[this]
     rw[bU (gk (RM i T7))]at B;let ey:=Za0 B;subst ey
     let Ey:⇑(M24.da (bA S) c (M24.aX (bA S) (2* S.L) 0 n) i)<=300:=agT (M11.eF S.q _ (M24.oK (M24.gA _ _ _ n) i) λz R=>by
      rcases M24.jd.mp R with q|⟨j,hj,rfl⟩
      ·rwa[(hZ z (oZ n z q)).1]
      ·rwa[(hZ _ (kJ c j T3 (by omega))).1]) hm
     let XF:(M24.da (bA S) c (M24.aX (bA S) (2* S.L) 0 n) i).Nodup:=M24.oK (M24.gA _ _ _ n) i;let T8:=M24.iq (bA S) c (M24.aX (bA S) (2* S.L) 0 n) i;change M24.da (bA S) c (M24.aX (bA S) (2* S.L) 0 n) i=come at T8 g Ey XF;rw[T8];clear T8;change bA S i c=o;rwa[⟨15,λ_ _ h=>h⟩];erw[1212,d,12,eQ.k (k:=Sum.inl (o:Int)) g.d1,12];rw[g.nm.2 o];cases L:o∈come
     ·rw[ag8 L];rwa[dY ⟨f,125,u⟩];unfold M24.add;rw[ag8 L];rwa[g]
     ·rw[ag3 L];rwa[jI ?_];let B8:=g.add XF L;let aai:(⇑(ao (nI come)):Int)=(⇑come:Int):=by rw[aI,bF]
      erw[12,p,12,.inl (aD.of g.f1),1212,d,12,pJ.k (k:=Sum.inl (o:Int)) g.d1 (agO (show ⇑f<=300 by have:=g.nm.1;omega) ⋯)];let XG:upd U d (.dK (putK f (Sum.inl (o:Int)) (.int (⇑(ao (nI come)):Int)))) p\(.lst (ao (nI come))):=by rw[ak (bY g.f1 g.d1 (by cbv))];rwa[g.f1]
      erw[12,.inl ⟨21,aD.of XG⟩,12,p,1122,XG,5]
      ·rw[aI,bF];rwa[agO Ey ⋯]
      rw[aai];erw[putK f (Sum.inl (o:Int)) (.int (⇑come:Int)),125]
      ·unfold M24.add;rw[ag3 L];rwa[B8]
      ·rw[ak n1,ak (bY u g.d1 (by cbv))];rwa[u]
    ·rintro σ U ⟨f,M,rfl,g,u⟩;rw[aI,bF,agH,ahp,<-M24.eT F]at g;let afg:=Y (n+ 1);let⟨t,ht⟩:=M24.uI (bA S) (2* S.L) 0 n;let Iw:n+ 1<=⇑(M24.aX (bA S) (2* S.L) 0 (n+ 1)):=by rw[ht,agF];ext
     let hin:∀i,i<2* S.L->bA S i c∈M24.aX (bA S) (2* S.L) 0 (n+ 1):=λi B=>by rw[M24.eT F];rwa[M24.jd.mpr (.inr ⟨i,B,2⟩)]
     erw[12,.inl ⟨21,aD.of g.r1⟩,12,lo,2,⟨_,aD.of u⟩];rwa[kF (ao (nI ((List.range (2* S.L)).map λi=>bA S i c))) (λv=>match v with|.int z=>.int ((M24.ix (M24.aX (bA S) (2* S.L) 0 (n+ 1)) z.toNat:Nat):Int)|v=>v) (kH (aD.of u)) (jl (aD.of u)) (ig (aD.of u)) ([aI,bF,agH,ahp]▸agT (show 2* S.L<=1000 by omega) ⋯) (λi v hv Rr J=>?_) (λlq I=>?_)]
     ·let⟨z,rfl,R⟩:=cI hv
      let B:i<2* S.L:=by
       have:=(agE.mp R).1;rw[bF,agH,ahp]at this;rwa[this]
      let ez:((bA S i c:Nat):Int)=z:=Za0 ((gk (RM i B)).symm.trans R);subst ez;let J:Rr (.int ((M24.ix (M24.aX (bA S) (2* S.L) 0 (n+ 1)) (((bA S i c:Nat):Int)).toNat:Nat):Int)) U:=J;rw[ahg]at J;rwa[⟨1212,d,125,J⟩];have:=eQ.k (k:=Sum.inl ((bA S i c:Nat):Int)) g.d1;rw[g.nm.2,ag8 (hin i B)]at this;rwa[this]
     let eo:(ao (nI ((List.range (2* S.L)).map λi=>bA S i c))).map (λv=>match v with|.int z=>V.int ((M24.ix (M24.aX (bA S) (2* S.L) 0 (n+ 1)) z.toNat:Nat):Int)|v=>v)=ao ((List.range (2* S.L)).map λi=>((M24.ix (M24.aX (bA S) (2* S.L) 0 (n+ 1)) (bA S i c):Nat):Int)):=by
      unfold ao nI;rw[ahw,ahw,ahw,ahw];rfl
     rw[eo];clear eo;let s8:=aq.upd (o:=.lst (ao ((List.range (2* S.L)).map λi=>((M24.ix (M24.aX (bA S) (2* S.L) 0 (n+ 1)) (bA S i c):Nat):Int)))) I;let XH:upd U lq (.lst (ao ((List.range (2* S.L)).map λi=>((M24.ix (M24.aX (bA S) (2* S.L) 0 (n+ 1)) (bA S i c):Nat):Int)))) lq\(.lst (ao ((List.range (2* S.L)).map λi=>((M24.ix (M24.aX (bA S) (2* S.L) 0 (n+ 1)) (bA S i c):Nat):Int)))):=ah;change upd U lq (.lst (ao ((List.range (2* S.L)).map λi=>((M24.ix (M24.aX (bA S) (2* S.L) 0 (n+ 1)) (bA S i c):Nat):Int))))=H8 at s8 XH ⊢
     let nq:lq∉p::l::G:=by
      simp only[agW,not_or];rwa[⟨λz=>?_,λz=>?_,λz=>?_⟩]
      ·rw[z,g.f1]at I;ext I
      ·rw[z,g.r1]at I;ext I
      ·let⟨ns,e⟩:=Lq g.r2 z
       cbv
     let B8:=(g.more s8).row XH (g.same.free I) nq;rw[<-M24.yN F]at B8;erw[l,1122,s8^g.r1,5]
     ·rw[agH,X];rwa[agO (show n<=300 by omega) ⋯]
     rw[ahi]at B8;rwa[300 - (n+ 1),3,n+ 1,G++[lq],f,1122,B8,Iw]
   ·erw[n,G,f,112,O];let h':¬(⇑(G.map V.ref):Int)<(⇑(ao (nI (M24.aX (bA S) (2* S.L) 0 n))):Int):=λq=>h (ahh q)
    rw[aI,bF,agH,X]at h';ext
  rintro fm H' ⟨N,G,f,v5,M,rfl,B',hN⟩;rwa[⟨12,k l N H' (s1.trans B'.same) (s1.free (B'.new l (ag4 _ agP))) ⟨G,B'.r1,5⟩ hN⟩];rw[<-M24.A2 hN];rwa[B'.r2]
inductive Ja (K:Za1) (vs:Zb) (H:Hp) (Q:VK) (E_:XK):Prop
 |mk (a:Zs) (ns:Zg) (k:Nat):vs=[↑a,.int k]->aD K H a (ao ns)->k<=1000->(∀z,Q (.int z) H)->Ja K vs H Q E_
def bG (T:Txt K mg A):T.bM.Ok P w base 1 (Ja K):=by
 rwa[T.bM.on wq (λi l c s H j Q E m h=>?_)]
 ·let⟨a,b,n,rfl,d,o,k⟩:=h
  refine⟨_,(ai (bJ (aZ m2 (pv 1) (bz bf rfl T.cR ahl (ae (pv 0) aj)) (bh _))
   (au (bx (bC bu (pv 0) (pv 1) (λ_ _=>rfl))))
   bj)
   (au (bx ax))),?_⟩
  rwa[jb ?_];intro f;erw[1212,a,12,.inl d,112212];rwa[bW (λh=>?_) (λh=>?_)]
  ·let g:(n:Int)<(⇑(ao b):Int):=ahn h;rw[aI]at g;let e:b[n]?=some b[n]:=agG ∅
   rwa[1212,a,11122,d,cD (bU e),k _]
  ·rwa[k _]
structure CS (CR CG CC:Zs) (H:Hp) (x r:Zs) (q:KA) (S:RS) (a:RA) (R:Za2) (ks:Zg) (B:Nat) (rs ps:Za3) (fp:List (Zg×Nat)) (bs:List (Nat×Zg×Nat)) (gs:Zf) (ag:Zh) (W:bI) (O:Zs->Prop):Prop where
 c:cu CG CC H x r q gs ag W ⇑S.aY fp O
 q:H q.aQ\(.dT (iL fp))
 rm:iN CR H r S a R ks B
 dj:∀b,a.own r b->¬O b
 ci:CI S bs gs ag W fT none
 bo:BV (rs++ps) ⇑rs ks bs
 pl:xW rs fp
 br:∀b∈bs,b.2.2<S.q
 ra:∀w∈rs,w≠[]->∀c,c<S.q->S.aw c=c->∃n,(n,w,c)∈bs
 pa:∀w∈ps,w≠[]->∃n,(n,w,0)∈bs
 ln:⇑bs<=S.q* ⇑fp+ ⇑ps
 wb:∀u∈rs++ps,⇑u<=1000/\∀z∈u,(-1000<=z/\z<=1000)/\z∈ks/\-z∈ks
def CS.T9 {CR:Zs}{x:Zs}{q:KA}{rs o:Za3}{p:List (Zg×Nat)}{bs:List (Nat×Zg×Nat)}{gs:Zf}{W:bI}{d:Zs->Prop}(h:CS CR a b H x c q S O R l n rs o p bs gs [] W d)(r:0<S.q):AI rs o S:=by
 rwa[⟨λw j g hc m=>?_,λw j=>?_⟩]
 ·cases i:w=[]
  ·rw[i];rwa[.inl rfl]
  ·let⟨e,k⟩:=h.ra w j i g hc m;rwa[ends (b:=(e,w,g)) h.ci h.rm.g k m]
 ·cases i:w=[]
  ·rw[i];rwa[.inl rfl]
  ·let⟨e,k⟩:=h.pa w j i;rwa[ends (b:=(e,w,0)) h.ci h.rm.g k (by have:=(h.rm.g.el 0 r).1;rwa[Nat.le_zero.mp this])]
inductive EC (CR CG CC:Zs) (vs:Zb) (H:Hp) (Q:VK) (E_:XK):Prop
 |mk (x r:Zs) (q:KA) (S:RS) (a:RA) (R:Za2) (B:Nat) (rs ps:Za3) (fp:List (Zg×Nat)) (bs:List (Nat×Zg×Nat)) (gs:Zf) (W:bI) (O:Zs->Prop) (c:Nat) (z:Int):vs=[↑x,.int c,.int z]->CS CR CG CC H x r q S a R (bq (2* S.L)) B rs ps fp bs gs [] W O->1<=S.L->S.L<=200->c<S.q->S.aw c=c->S.by c z=none->z∈bq (2* S.L)-> -z∈bq (2* S.L)->S.q<1000->(S.q+ 1)* ⇑fp+ ⇑ps<=700->B<800000->⇑S.aY+ S.stand<=800000->(∀S' a' R' bs' iT W' O' B' H',(∀b o,¬O b->¬a.own r b->H b\o->H' b\o)->CS CR CG CC H' x r q S' a' R' (bq (2* S.L)) B' rs ps fp bs' iT [] W' O'->(∀b,a'.own r b\/O' b->a.own r b\/O b\/H b=none)->Tr (rs++ps) ⇑rs (S.make c z (bq (2* S.L))) S'->S'.q=S.q+ 1->S'.L=S.L->B'<=B+ 702->Q .non H')->EC CR CG CC vs H Q E_
def wL (T:Txt K mg A):T.mK.Ok mg P w base 9 (EC A.az A.aK A.aF):=by
 rwa[T.mK.on wu (λcz AA outer s H vs Q E hr h=>?_)]
 ·let⟨x,r,q,S,a,R,B,rs,ps,i,bs,gs,W,O,c,z,rfl,h,mU,nF,hc,ec,d,hz,D,hm,B1,hB,hwn,k⟩:=h
  refine⟨_,(ai (aV (pm (pv 0) (aL T) T.fh (iU T) hr (ae (pm (aH (pv 0) rfl) (aJ T) T.p7 (zx T) hr (ae (pv 1) (ae (pv 2) aj))) aj)))
   (ai (aV (pm (pv 0) (aL T) T.eX (fN T) hr (ae (pv 1) (ae (pv 2) aj))))
   (au (aV (vF (pv 0) (aL T) T.iF (lu T) hr))))),?_⟩
  rwa[fS ?_];intro fX gH;let l:=h.rm.g;let rb:=h.rm.rb;let ok:=yV l h.rm.k ∅ (by have:=h.rm.l;omega) ∅ ∅;rwa[⟨12,x,q.dx,12,h.c.ins,fk ⋯,12,x,_,q.dx,112,h.c.ins,aL T,T.eZ,fW^_,r,a.dx,12,h.rm.at_.ins,cL _ _ _ ⋯,1212,r,S,a,c,z,2,h.rm.at_,l.wf,mU,nF,hc,33,ok.sm.w,λa1 H1 V qm X=>?_⟩];let oth:∀b,O b->∃o,H b\o:=λb y=>by let⟨o,e,_⟩:=h.c.th b y;rwa[o,e]
  let tno:∀b Z,H b\.tup Z->H1 b\(.tup Z):=λb Z e=>V b _ (λy=>Pq h.rm.at_ e y) e
  let c1:=h.c.keep (λb o y e=>V b o (λw=>h.dj b w y) e) tno;let q1:H1 q.aQ=_:=V _ _ (xX h.rm.at_ h.q) h.q;let ci1:=h.ci.make l hc ec d h.br (bq (2* S.L))
  let Y:∀b,a1.own r b->¬O b:=λb y w=>by
   rcases X b y with v|v
   ·rwa[h.dj b v w]
   cbv
  let Nc:⇑bs+ ⇑i<=700:=by have:=h.ln;rw[aje,Nat.one_mul]at B1;ext
  rwa[⟨x,r,q,S.make c z (bq (2* S.L)),bs,gs,[],W,⇑S.aY,i,O,_,S.q,2,c1,q1,ci1,λp hp=>?_,ah6 _,3,ahd _,λf j L H2 u Nf G c2 J I0=>?_⟩]
  ·have:=h.wb p.1 (ag6 _ (agC (h.pl.a p hp)));rwa[this.1,λy hy=>(this.2 y hy).1]
  let bl:=qe S.q i;let l2:⇑(bs++gJ i S.q)<=700:=by rw[agF];ext
  let XI:BV (rs++ps) ⇑rs (bq (2* S.L)) (bs++gJ i S.q):=by
   let nw:∀b∈gJ i S.q,(rs++ps)[b.1]?\b.2.1/\b.1<⇑rs:=λb d=>by
    let⟨p,hp,d⟩:=aim.mp d;let⟨rfl,_⟩:=wI d;let h1:=h.pl.a p hp
    cbv
   rwa[⟨λb d=>?_,λb d=>?_,λb d=>?_,λb d=>?_,3⟩]
   ·rwa[(agS.mp d).elim (h.bo.w b) λy=>(nw b y).1]
   ·rwa[(agS.mp d).elim (h.bo.n b) λy=>.inl (nw b y).2]
   ·rwa[(agS.mp d).elim (h.bo.l b) λy=>(h.wb _ (agC (nw b y).1)).1]
   ·rwa[(agS.mp d).elim (h.bo.k b) λy z' D=>((h.wb _ (agC (nw b y).1)).2 z' D).2]
  let g2:⇑f<=700:=by rw[J.len];rwa[l2]
  let IJ:kT A.aK A.aF (S.make c z (bq (2* S.L))) (bs++gJ i S.q) f W (λr s=>r=c/\s=z) (⇑j+ 2* ⇑f) x r q ⇑S.aY i L H2 j W:=⟨c2,J,λ_ _ _ z=>z,by have:=J.two;ext⟩;rwa[⟨12,x,q.dx,12,c2.ins,fk ⋯,1212,x,r,q,f,j,W,⇑S.aY,i,L,c,z,2,c2,IJ.fits ∅,λns H3 t nd3 Ua c3=>?_⟩];let N:=IJ.wake nd3 Ua c3;let Tj:CI (S.make c z (bq (2* S.L))) (bs++gJ i S.q) f (j++ns) (gx W c z) fT none:=N.i.ex λr' s' n' w' _ e=>absurd ⟨ahS Nat.cast e.1,e.2⟩ (di.mp w').2
  let XJ:∀b,a1.own r b->¬L b:=λb y w=>by
   rcases G b w with v|v
   ·rwa[Y b y v]
   ·let⟨o,e⟩:=qm.there y;cbv
  let XM:iN A.az H1 r (S.make c z (bq (2* S.L))) a1 (fz R c z S.q) (bq (2* S.L)) (B+ 2):=by
   let es:=FH (c:=c) (z:=z) (g:=bq (2* S.L)) l.wf;let M:(S.make c z (bq (2* S.L))).aY=S.aY:=rfl;rwa[⟨qm,l.make hc ec d _,rE h.rm.w l.wf _ _ _,λa y b e=>?_,by show S.q+ 1<=_;ext,h.rm.l,5,by rw[M];ext⟩]
   ·rcases e with e|⟨_,e,_⟩|⟨_,e,_⟩
    ·rwa[h.rm.k _ _ _ e]
    ·rw[e];rwa[hz]
    ·rw[e];rwa[D]
   ·show ⇑(S.rows++[_])+ _<=_;rw[agF,es];show ⇑S.rows+ 1+ _<=_;ext
  let rm3:=(XM.keep (λb o y e=>u b o (Y b y) e) (λb Z e=>u b _ (c1.i5 e) e)).keep (λb o y e=>t b o (XJ b y) e) (λb Z e=>t b _ (c2.i5 e) e);let lv:live f<=700:=agT List.countP_le_length g2;let hmul:live f* (2* ⇑(bs++gJ i S.q)+ 1)<=700* 1401:=ajM lv ∅;let Xm:⇑(j++ns)<=2100:=by have:=N.b;ext
  rwa[⟨12,x,q.dx,12,c3.ins,fk ⋯,x,r,q,S.make c z (bq (2* S.L)),a1,fz R c z S.q,bq (2* S.L),B+ 2,rs++ps,⇑rs,bs++gJ i S.q,f,j++ns,gx W c z,i,L,2,c3,rm3,3,XJ,Tj,XI,3,λS' a' R' iT W' O' B' H' f' c' r' ow oo dj' ci' rr em eL tr AO=>?_⟩];let I:S'.q=S.q+ 1:=em
  let out:∀{b o},¬O b->¬a.own r b->H b\o->H' b\o:=λ{b o} C F e=>by
   let U:=V b o F e;let e2:=u b o C U;let n3:¬L b:=λy=>(G b y).elim C λv=>by cbv
   rwa[f' b o n3 (λy=>(X b y).elim F λv=>by cbv) (t b o n3 e2)]
  let non:∀b,a1.own r b\/L b\/H3 b=none->a.own r b\/O b\/H b=none:=λb y=>by
   cases F:a.own r b
   ·rwa[.inl F]
   cases C:O b
   ·rwa[.inr (.inl C)]
   rwa[.inr (.inr ?_)]
   cases e:H b with
   |none=>rfl
   |some o=>
    exfalso
    let U:=V b o F e;let n3:¬L b:=λy=>(G b y).elim C λv=>by cbv
    rcases y with y|y|y
    ·cbv
    ·rwa[n3 y]
    ·rw[t b o n3 (u b o C U)]at y;ext y
  let lt:=Later.of l (l.make hc ec d (bq (2* S.L))) ja (aiT _);let lt2:=Later.of XM.g r'.g rr (ajR em.symm);let el1:∀b,b<S.q->(S.make c z (bq (2* S.L))).aw b=S.aw b:=λb ou=>(fG l.wf c z (bq (2* S.L)) b).trans (ag3 ∅)
  rwa[k S' a' R' (bs++gJ i S.q) iT W' O' B' H' (λb o C F e=>out C F e) ⟨c',out (h.c.IB h.q) (xX h.rm.at_ h.q) h.q,r',dj',ci',XI,h.pl,λb d=>?_,λw M m b d eb=>?_,λw M m=>?_,5,h.wb⟩ (λb y=>?_) tr I (eL.trans rfl) ∅]
  ·rw[I];rcases agS.mp d with y|y
   ·have:=h.br b y;ext
   ·let⟨p,_,d⟩:=aim.mp y;let⟨rfl,_⟩:=wI d;rwa[ah6 _]
  ·cases e:b<S.q
   ·let U:=lt2.el b (by show b<S.q+ 1;omega);rw[el1 b e,eb]at U;let l1:=(l.el b e).1;let l2:=(r'.g.el (S.aw b) ∅).1;let⟨n,hn⟩:=h.ra w M m b e ∅
    cbv
   ·let e:b=S.q:=∅
    subst e;let⟨n,hn⟩:=h.pl.b w M;rwa[n,agL _ (aim.mpr ⟨(w,n),hn,Gf m⟩)]
  ·let⟨n,hn⟩:=h.pa w M m
   cbv
  ·have:=h.ln;rw[agF,I,aje,Nat.one_mul];ext
  cbv
def Nr (T:Txt K mg A):AY K A.bD:=⟨T.F7,T.F8,T.F9,T.Ga,T.Gb,T.Ge⟩
noncomputable def Jb (n:Nat)(l:Zs):List (Str×V):=[("made",.int n),("rows",↑l)]
inductive Nt (C:Zs) (vs:Zb) (H:Hp) (Q:VK) (E_:XK):Prop
 |mk (x l:Zs) (n:Nat) (xs:Zb):vs=[↑x,.int n,↑l]->H x\XO x C none true->n<100000->H l\.lst xs->⇑xs<=1000000->(∀d l2 H',H d=none->H l2=none->d≠x->(∀b o,b≠x->H b\o->H' b\o)->H' x\XO x C (some d) true->H' d\XD d (Jb n l2)->H' l2\.lst xs->l2≠x->Q .non H')->Nt C vs H Q E_
def qM (T:Txt K mg A):T.dJ.Ok mg P w base 1 (Nt A.bD):=by
 rwa[T.dJ.on qJ (λN X D s H U Q E Y h=>?_)]
 ·let⟨x,l,n,v,rfl,y,Z,I,L,k⟩:=h
  refine⟨_,(ai (aV (Ku (Ea T.wm T.dJ.m.at_) ⟨T.YX,T.YY,T.YZ⟩ rfl T.C2 (ae (pv 0) (ae (GZ (DH (N6 (pv 1)) (DH (fA (l:=[32,114,111,111,109,115,32,119,101,114,101,32,109,97,100,101,44,32,97,110,100,32,116,104,101,114,101,32,97,114,101,32,103,97,112,115,32,108,101,102,116]) rfl) QZ)) rfl) aj)) (by decide) rfl rfl rfl))
   (ai (DY (pv 0) (pv 1) rfl)
   (au (DY (pv 0) (fE (zU) rfl T.iR ah4 (ae (pv 2) aj)) rfl)))),?_⟩
  rwa[fS ?_];intro R M;let S:=JN (n:=(n:Int)) ∅ ∅;erw[1212,(n:Int),2312,by show 0+ _<=1000000;ext,1255,x,none,12,y]
  ·rw[ajs];let e:∀m:Nat,m<=100->⇑(Ad (n:Int))+ m<=1000000:=λm O=>∅
   rwa[e _ ⋯]
  ·rw[ajs,agF];let e:∀m:Nat,m<=100->⇑(Ad (n:Int))+ m<=1000000:=λm O=>∅
   rwa[e _ ⋯]
  rwa[⟨1212,x,A.bD,none,true,2,y,Nr T,T.Pa,λd p=>?_⟩];let a:d≠x:=(av y p).symm;let c:upd (upd H d (XD d [("made",V.int n)])) x (XO x A.bD (some d) true) x\(XO x A.bD (some d) true):=ah;let i:upd (upd H d (XD d [("made",V.int n)])) x (XO x A.bD (some d) true) d\(XD d [("made",V.int n)]):=by rw[ak a,ah]
  let C:∀b o,b≠x->H b\o->upd (upd H d (XD d [("made",V.int n)])) x (XO x A.bD (some d) true) b\o:=λb o B e=>by rw[ak B,ak (av e p)];rwa[e]
  let B:∀b,upd (upd H d (XD d [("made",V.int n)])) x (XO x A.bD (some d) true) b=none->H b=none:=λb e=>by
   cases q:b=x
   ·cbv
   ·rw[ak q]at e;cases J:b=d
    ·rw[J];rwa[p]
    ·rw[ak J]at e;rwa[e]
  change upd (upd H d (XD d [("made",V.int n)])) x (XO x A.bD (some d) true)=G at c i C B ⊢;let F:l≠x:=bY I y f!"";rwa[⟨12,l,v,2,.inl (aD.of (C _ _ F I)),λg f=>?_⟩];let t:=aq.upd (o:=.lst v) f;let r:upd G g (.lst v) g\(.lst v):=ah;let j:g≠x:=(av c f).symm;let u:g≠d:=(av i f).symm;change upd G g (.lst v)=H2 at t r ⊢;erw[12,x,A.bD,some d,true,2,t^c,Nr T,T.Pb,_,a,t^i,by show 1<1000;decide];rw[show bK "rows" (V.ref g) [("made",V.int n)]=Jb n g from dH (by kernel_rfl)];rwa[k d g _ p (B _ f) a (λb o q e=>?_) ?_ ah ?_ j]
  ·rw[ak (av e p)];rwa[t^C b o q e]
  ·rw[ak a.symm];rwa[t^c]
  ·rw[ak u];rwa[r]
inductive Fl (rs ps:Za3) (L w lim:Nat):RS->Prop
 |start {S:RS}:Tr (rs++ps) ⇑rs (RS.new L (bq (2* L))) S->AI rs ps S->Fl rs ps L w lim S
 |next {S S':RS} {c:Nat} {z:Int}:Fl rs ps L w lim S->S.q<lim->kx w S L c z->Tr (rs++ps) ⇑rs (S.make c z (bq (2* L))) S'->AI rs ps S'->Fl rs ps L w lim S'
def Nu (L:Nat)(u:Zg):Prop:=⇑u<=1000/\∀z∈u,z≠0/\z.natAbs<=L
def sF (d:n<=200){u:Zg}(h:Nu n u):⇑u<=1000/\∀z∈u,(-1000<=z/\z<=1000)/\z∈bq (2* n)/\-z∈bq (2* n):=by
 rwa[⟨h.1,λz c=>?_⟩];let⟨b,a⟩:=h.2 z c;rwa[3,hU.mpr ⟨b,a⟩,hU.mpr ⟨33⟩]
def sG (h:S.aU[n]?\n):S.aw n=n:=by unfold RS.aw;rw[agM,h];rfl
def Fl.ys {rs a:Za3}{w:Nat}(h:Fl rs a n w m S)(b:∀u∈rs++a,∀z∈u,z∈bq (2* n)/\-z∈bq (2* n)):∃R,YS S n (bq (2* n)) R:=by
 induction h with
 |start t _=>
  let⟨R,y,_⟩:=YS.new.tr t b;rwa[R,y]
 |next _ _ l t _ i=>
  let⟨R,y⟩:=i;let⟨f,d,c,e⟩:=l.1;let⟨k,o⟩:=hU.mp c;let⟨j,g,_⟩:=(y.make f (sG d) e c (hU.mpr ⟨33⟩)).tr t b;rwa[j,g]
def _root_.Lake.L2.YS.gl (y:YS S n (bq (2* n)) R)(a:S.q<=100000)(d:n<=200):GL S n:=⟨y.g.wf,a,d,λc hc b=>y.gi.fin y.g (Ig _) hc (sG b)⟩
def Kp.at {pos:Pos}(k:Kp a H I)(t:dc a pos x H){b:Zs}{u:HO}(e:H b\u)(n:∀c,u≠.fB c):I b\u:=k b u (λz=>by
 rcases t with w|⟨_,_,_,_,w,_⟩
 ·cbv
 cbv) e
def Nv (S:RS)(L w:Nat)(H:Hp)(v:V):Prop:=(v=.non/\∀c z,¬gW S L c z)\/∃(c:Nat) (z:Int) (t:Zs),v=↑t/\kx w S L c z/\H t\(.tup [.int (c:Int),.int z])
def wM (b c a:Zs)(H:Hp)(o:Zs)(w:Nat):Prop:=∃d,(w=0/\H o\.ins b d [])\/(w=1/\H o\.ins c d [])\/(w=2/\H o\.ins a d [])
def wM.keep {w:Nat}(h:wM a b c H d w)(k:∀C e,H d\.ins C e []->I d\.ins C e []):wM a b c I d w:=by
 obtain⟨e,h|h|h⟩:=h
 ·rwa[e,.inl ⟨h.1,k^h.2⟩]
 ·rwa[e,.inr (.inl ⟨h.1,k^h.2⟩)]
 ·rwa[e,.inr (.inr ⟨h.1,k^h.2⟩)]
def Cd {e r:Zs}{w:Nat}{Q:VK}{E:XK}(p:H d\.ins c e [])(h:ay a H r S O)(g:GL S n)(o:dc b dU iz H)(k:∀v i,Kp b H i->dc b dU iz i->Nv S n w i v->Q v i):jV a b c w [↑d,↑r] H Q E:=
 ⟨d,e,r,S,O,n,2,p,h,g,o,λs i j l=>k _ i j l (.inl ⟨2,s⟩),λf z q t i j l m=>k _ i j l (.inr ⟨f,z,t,2,q,m⟩)⟩
def Pw {w:Nat}{Q:VK}{E:XK}(f:D[5]?\some ↑a)(i:D[6]?\some ↑b)(l:wM A.cQ A.bL A.cC H a w)(h:ay A.az H b S O)(g:GL S n)(j:dc A.eD dU iz H)(k:∀v c,Kp A.eD H c->dc A.eD dU iz c->Nv S n w c v->Q v c):
 AQ (kh A.cQ "gap" (jV A.az A.eD A.cQ 0) [] E (i7 5) (jH (i7 6) jZ)) (AQ (kh A.bL "gap" (jV A.az A.eD A.bL 1) [] E (i7 5) (jH (i7 6) jZ)) (kh A.cC "gap" (jV A.az A.eD A.cC 2) [] E (i7 5) (jH (i7 6) jZ))) D H Q:=by
 obtain⟨d,⟨rfl,e⟩|⟨rfl,e⟩|⟨rfl,e⟩⟩:=l
 ·rwa[.inl ⟨_,f,a,d,12,e,21,i,Cd e h g j k⟩]
 ·rwa[.inr (.inl ⟨_,f,a,d,12,e,21,i,Cd e h g j k⟩)]
 ·rwa[.inr (.inr ⟨_,f,a,d,12,e,21,i,Cd e h g j k⟩)]
def lL (w:Nat):Zh:=if w=0 then TX else if w=1 then LC else TY
def lM (H:Hp)(l:Zs)(S:RS):Prop:=∃a:Zn,H l\.lst (a.map V.ref)/\Each (λp d=>bR H 4 ↑p d) a S.rows/\⇑S.rows<=1000000
inductive Jc (Pt cN cT:Zs) (vs:Zb) (H:Hp) (Q:VK) (E:XK):Prop
 |mk (ru pa:Zs) (L lim w:Nat) (rs ps:Za3):vs=[.int L,↑ru,↑pa,.int lim,.str (tx (lL w))]->w<3->1<=L->L<=40->1<=lim->lim<=300->b8 H ru rs->b8 H pa ps->(∀u∈rs++ps,Nu L u)->lim* ⇑rs+ ⇑ps<=700->⇑rs<=400->⇑ps<=400->dc Pt dU iz H->(∀t tb pp S N H',Kp Pt H H'->dc Pt dU iz H'->Fl rs ps L w lim S->(∀c z,¬gW S L c z)->H' t\.tup [↑tb,↑pp]->TabAt H' tb (M24.eU (bA S) (2* S.L) (M24.aX (bA S) (2* S.L) 0 N))->⇑(M24.aX (bA S) (2* S.L) 0 N)=N->lM H' pp S->Q ↑t H')->(∀d pp S H',Kp Pt H H'->dc Pt dU iz H'->Fl rs ps L w lim S->S.q=lim->(∃c z,kx w S L c z)->H' d\XD d (Jb S.q pp)->lM H' pp S->E ↑cT (some d) H')->Jc Pt cN cT vs H Q E
section
variable {CR CG CC:Zs}{H H':Hp}{x r:Zs}{q:KA}{S:RS}{a:RA}{R:Za2}{ks:Zg}{B:Nat}{rs ps:Za3}{fp:List (Zg×Nat)}{bs:List (Nat×Zg×Nat)}{gs:Zf}{ag:Zh}{W:bI}{O:Zs->Prop}
def CS.keep (h:CS CR CG CC H x r q S a R ks B rs ps fp bs gs ag W O)(f:∀b o,H b\o->(∀ps,o≠.fB ps)->H' b\o):CS CR CG CC H' x r q S a R ks B rs ps fp bs gs ag W O:=
 ⟨h.c.keep (λb o c e=>f b o e (by let⟨i,g,n⟩:=h.c.th b c;cbv)) (λb d e=>f b _ e (by cbv)),f _ _ h.q (by cbv),h.rm.keep (λb o c e=>f b o e (by
  intro ps z;rw[z]at e;rwa[qf h.rm.at_ e (by cbv) (by cbv) (by cbv) c])) (λb d e=>f b _ e (by cbv)),h.dj,h.ci,h.bo,h.pl,h.br,h.ra,h.pa,h.ln,h.wb⟩
def CS.tab (h:CS CR CG CC H x r q S a R ks B rs ps fp bs gs ag W O){d:Zs}{pos:Pos}{c:Str}(t:dc d pos c H)(f:∀b o,¬O b->¬a.own r b->H b\o->H' b\o):dc d pos c H':=by
 rwa[t.keep λb u e k=>f b u (λz=>?_) (λz=>?_) e]
 ·let⟨o,g,n⟩:=h.c.th b z
  cbv
 ·rcases k with ⟨ps,rfl⟩|⟨o,v,rfl⟩
  ·rwa[qf h.rm.at_ e (by cbv) (by cbv) (by cbv) z]
  ·rwa[qf h.rm.at_ e (by cbv) (by cbv) (by cbv) z]
end
structure wN (A:qC) (H0 H:Hp) (x r:Zs) (L lim w:Nat) (rs ps:Za3) (S:RS):Prop where
 k:Kp A.eD H0 H
 t:dc A.eD dU iz H
 cs:∃q a R B fp bs gs W O,CS A.az A.aK A.aF H x r q S a R (bq (2* L)) B rs ps fp bs gs [] W O/\(∀b,a.own r b\/O b->H0 b=none)/\B<=702* S.q
 f:Fl rs ps L w lim S
 m:S.q<=lim
 l:S.L=L
def wN.kp {H0:Hp}{x:Zs}{w:Nat}{rs f:Za3}(h:wN A H0 H x a n m w rs f S)(k:Kp A.eD H I)(t:dc A.eD dU iz I):wN A H0 I x a n m w rs f S:=by
 let⟨q,c,R,B,g,bs,gs,W,O,cs,i,j⟩:=h.cs;rwa[h.k.trans k,t,⟨q,c,R,B,g,bs,gs,W,O,cs.keep λb o e d=>k.at h.t e d,i,j⟩,h.f,h.m,h.l]
theorem ED (T:Txt K mg A)(Y:j7 mg base):dk P w K mg base (c9 P w) 11 A.HR A.HS ["letters","rules","part","limit","order"] (Jc A.eD A.ny A.bD):=by
 rwa[T.fill.Sf lS (λvs H Q E h=>?_) (λcz AA outer s H vs Q E M h=>?_)]
 ·let⟨ru,pa,L,i,I,rs,f,rfl,_⟩:=h;rfl
 ·let⟨ru,pa,L,i,I,rs,f,rfl,Xb,mU,nF,yU,DV,IV,IW,aM,B1,o6,oJ,hT,kq,ke⟩:=h
  erw[_,(ai (bH 5 lS.nd (xg (De T) (M.mono ⋯) rfl T.pX.m T.pX.F.kp T.pX.b .nil Vt (ae (pv 4) aj)))
   (ai (bH 6 lS.nd (xh (uP T) (tL T) (M.mono ⋯) rfl T.O8 T.gC.b .nil gy (ae (pv 0) aj)))
   (ai (bH 7 lS.nd (xh (p9 T) (qL T) (M.mono ⋯) rfl T.HV T.eV.b .nil gy (ae (pv 6) (ae (pv 1) (ae (pv 2) aj)))))
   (ai (aV (vF (pv 7) (aL T) T.iF (lu T) M))
   (ai (bH 8 lS.nd (vz (j0 (pv 5) (Bw T) T.jx.m (sE T) (M.mono ⋯) T.jx.b .nil gy (ae (pv 6) aj)) (vz (j0 (pv 5) (sk T) T.gZ.m (mW T Y) (M.mono ⋯) T.gZ.b .nil gy (ae (pv 6) aj)) (j0 (pv 5) (yQ T) T.iG.m (qH T) (M.mono ⋯) T.iG.b .nil gy (ae (pv 6) aj)))))
   (ai (bP (eM PassesOwn.leaving (aZ oj (pv 8) du (bh _))
    (ai (bJ (aZ UU (aH (pv 6) rfl) (pv 3) (bh _))
     (au (HG (E:=E) (qM T) (M.mono ⋯) T.dJ.b rfl rfl T.yP (Ea T.wm T.dJ.m.at_) T.dJ.m.fn T.F6 (ae (aH (pv 6) rfl) (ae (vF (pv 6) (aJ T) T.kr (o8 T) M) aj)) lvD rfl (by decide) (by decide) rfl rfl))
     bj)
    (ai (aV (pm (pv 7) (aL T) T.mK (wL T) M (ae (bC gj (pv 8) ax (λ_ _=>rfl)) (ae (bC gj (pv 8) ax (λ_ _=>rfl)) aj))))
    (au (bH 8 lS.nd (vz (j0 (pv 5) (Bw T) T.jx.m (sE T) (M.mono ⋯) T.jx.b .nil gy (ae (pv 6) aj)) (vz (j0 (pv 5) (sk T) T.gZ.m (mW T Y) (M.mono ⋯) T.gZ.b .nil gy (ae (pv 6) aj)) (j0 (pv 5) (yQ T) T.iG.m (qH T) (M.mono ⋯) T.iG.b .nil gy (ae (pv 6) aj))))))))))
   (au (bx (cP (ae (pc T.numbered (Df T) M (ae (pv 6) aj)) (ae (vF (pv 6) (aJ T) T.kr (o8 T) M) aj)))))))))))]
  rwa[pM ?_];intro BE qF nH jA fX gH;let yW:∀u∈rs++f,∀z∈u,z∈bq (2* L)/\-z∈bq (2* L):=λu hu z hz=>((sF ∅ (aM u hu)).2 z hz).2
  suffices main:∀o J,aq H J->wM A.cQ A.bL A.cC J o I->gH { nx:=λ_ H'=>Q .non H',rt:=Q } #v[.int L,↑ru,↑pa,.int i,.str (tx (lL I)),↑o,none,none,none] J by
   let sm:∀{C x d:Zs},H x=none->H d=none->d≠x->aq H (upd (upd H d (.own x)) x (.ins C d [])):=λ{C x d} nx nd G=>(aq.upd nd).trans (aq.upd ([ak G.symm]▸nx))
   rwa[⟨12,lL I,25,λe x d nx nd G=>main x _ (sm nx nd G) ⟨d,.inl ⟨5,ah⟩⟩,λe x d nx nd G=>main x _ (sm nx nd G) ⟨d,.inr (.inl ⟨5,ah⟩)⟩,λe x d nx nd G=>main x _ (sm nx nd G) ⟨d,.inr (.inr ⟨5,ah⟩)⟩⟩]
   all_goals rcases (show I=0\/I=1\/I=2 by omega) with rfl|rfl|rfl
   all_goals first|rfl|decide|rwa[absurd e (by decide)]
  intro o J s1 ho;let XQ:=hT.same s1;replace IV:=IV.same s1;replace IW:=IW.same s1;rwa[⟨12,λr dx nx Z G=>⟨r,dx,L,2,ah,mU,3,λra H2 k2 h2 Ub=>⟨25⟩⟩⟩];let⟨s2,aaj⟩:=Pu (C:=A.az) nx Z G k2 Ub;clear k2 Ub nx Z G;rwa[⟨121212,λx dx nx Z G=>?_⟩];let s0:aq H2 (upd (upd H2 dx (.own x)) x (.ins A.aF dx [])):=(aq.upd Z).trans (aq.upd ([ak G.symm]▸nx));let Nw:upd (upd H2 dx (.own x)) x (.ins A.aF dx []) x\(.ins A.aF dx []):=ah;let Ez:¬ra.own r x:=λz=>by let⟨o,e⟩:=h2.there z;cbv
  let n0:∀b,upd (upd H2 dx (.own x)) x (.ins A.aF dx []) b=none->H2 b=none:=λb z=>same_none s0 z
  change upd (upd H2 dx (.own x)) x (.ins A.aF dx [])=H3 at s0 Nw n0 ⊢;let gd:=uB L (bq (2* L))
  let fit:∀D,xW rs D->1* ⇑D+ ⇑f<=700:=λD h=>by
   have:=aik ⇑rs yU;have:=B6 h;ext
  let sl:0+ (RS.new L (bq (2* L))).stand<=1:=by rw[ajW];rwa[BR (RS.new L (bq (2* L)))]
  let y0:=YS.new (L:=L) (ks:=bq (2* L));let wO:iN A.az H2 r (RS.new L (bq (2* L))) ra (λ_ _ _=>False) (bq (2* L)) 1:=⟨h2,gd,y0.w,y0.k,by show 1<=2000;decide,by rw[tq];ext,sl,agT sl ⋯⟩;rwa[⟨x,dx,r,ru,pa,RS.new L (bq (2* L)),ra,λ_ _ _=>False,rs,f,2,Nw,h2.same s0,gd,Nat.one_pos,by show 1<=2000;decide,Ez,(IV.same s2).same s0,(IW.same s2).same s0,o6,oJ,λu hu=>⟨(sF ∅ (aM u hu)).1,λz hz=>((sF ∅ (aM u hu)).2 z hz).1⟩,λD h=>by have:=fit D h;show 1* ⇑D+ ⇑f<50000;ext,λq gs ag D O H4 f4 c4 q4 o4 Es XS hp=>⟨25⟩⟩];let hf:=fit D hp;let sd:⇑(dh (RS.new L (bq (2* L))))<=1:=agT (ait _ _) ([ahp]▸agJ _);let Xu:⇑(dh (RS.new L (bq (2* L))))* ⇑D<=1* ⇑D:=aik _ sd;let l1:=lK D (dh (RS.new L (bq (2* L))));let l2:=sx f ⇑rs ⇑f;let Y:⇑(dA D (dh (RS.new L (bq (2* L))))++fO f ⇑rs ⇑f)<=1* ⇑D+ ⇑f:=by rw[agF];ext
  let XT:live gs<=⇑(dA D (dh (RS.new L (bq (2* L))))++fO f ⇑rs ⇑f):=by rw[<-Es.len];rwa[List.countP_le_length]
  let r4:iN A.az H4 r (RS.new L (bq (2* L))) ra (λ_ _ _=>False) (bq (2* L)) 1:=(wO.same s0).keep (λb o X e=>f4 b o e (λz=>Ez (by rw[<-z];rwa[X]))) (λb xs e=>f4 b _ e (bY e Nw (by cbv)))
  let dj:∀b,ra.own r b->¬O b:=λb z y=>by
   let⟨o,e⟩:=(h2.same s0).there z
   cbv
  let bin:∀b∈dA D (dh (RS.new L (bq (2* L))))++fO f ⇑rs ⇑f,((rs++f)[b.1]?\b.2.1/\(b.1<⇑rs\/b.2.2=0))/\b.2.2<1:=λb X=>by
   rcases Pl X with ⟨p,RX,e1,e2,e3⟩|⟨j,u,hj,rfl⟩
   ·let h1:=hp.a p RX;let h2:=(agE.mp h1).1;rw[e1,e2,agN h2];rwa[⟨h1,.inl h2⟩,ahj.mp (aie.mp e3).1]
   ·rwa[⟨by show (rs++f)[⇑rs+ j]?=_;rw[agR ∅,Nat.add_sub_cancel_left];rwa[hj],.inr rfl⟩,Nat.one_pos]
  let U:BV (rs++f) ⇑rs (bq (2* L)) (dA D (dh (RS.new L (bq (2* L))))++fO f ⇑rs ⇑f):=
   ⟨λb X=>(bin b X).1.1,λb X=>(bin b X).1.2,λb X=>(aM _ (agC (bin b X).1.1)).1,λb X z hz=>yW _ (agC (bin b X).1.1) z hz,3⟩
  let Uc:∀w∈rs,w≠[]->∃n,(n,w,0)∈dA D (dh (RS.new L (bq (2* L))))++fO f ⇑rs ⇑f:=λw hw tV=>by
   let⟨n,hn⟩:=hp.b w hw;let hcs:0∈dh (RS.new L (bq (2* L))):=aie.mpr ⟨ahj.mpr Nat.one_pos,ahh rfl⟩;rwa[n,ag6 _ (aim.mpr ⟨(0),hcs,aim.mpr ⟨(w,n),hn,Gf tV⟩⟩)]
  let Ud:∀w∈f,w≠[]->∃n,(n,w,0)∈dA D (dh (RS.new L (bq (2* L))))++fO f ⇑rs ⇑f:=λw hw tV=>by
   let⟨j,hj⟩:=ahs hw;rwa[⟨⇑rs+ j,agL _ (aim.mpr ⟨j,ahj.mpr (agE.mp hj).1,5⟩)⟩];rw[agM,hj];rwa[Gf tV]
  change dA D (dh (RS.new L (bq (2* L))))++fO f ⇑rs ⇑f=bs at Es XS Y XT bin U Uc Ud;let hmul:live gs* (2* ⇑bs+ 1)<=700* 1401:=ajM ∅ ∅;clear l1 l2 Xu sd;rwa[⟨12,x,q.dx,12,c4.ins,fk ⋯,x,r,q,RS.new L (bq (2* L)),ra,λ_ _ _=>False,bq (2* L),(1),rs++f,⇑rs,bs,gs,ag,sC,D,O,2,c4,r4,3,dj,Es,U,3,λS' a' R' iT W' O' B' H5 f5 c5 r5 ow oo XU I7 rr em eL tr hb5=>?_⟩];let Nx:S'.q=1:=em
  let HB:∀b o,J b\o->H5 b\o:=λb o e=>by
   let e2:=s2^e
   let nO:¬O b:=λy=>by
    cbv
   rwa[f5 b o nO (λy=>by cbv) (f4 b o (s0^e2) (av e2 nx))]
  let U5:∀b,a'.own r b\/O' b->J b=none:=λb y=>by
   let nn:ra.own r b\/O b\/H4 b=none->J b=none:=λy=>by
    rcases y with y|y|y
    ·rwa[aaj b y]
    ·cases e:J b with
     |none=>rfl
     |some u=>
      let e2:=s2^e
      cbv
    ·cases e:J b with
     |none=>rfl
     |some u=>
      let e2:=s2^e;rw[f4 b u (s0^e2) (av e2 nx)]at y;ext y
   cbv
  let Ue:CS A.az A.aK A.aF H5 x r q S' a' R' (bq (2* L)) B' rs f D bs iT [] W' O':=by
   rwa[⟨c5,f5 _ _ (c4.IB q4) (xX r4.at_ q4) q4,r5,XU,I7,U,hp,λb X=>[Nx]▸(bin b X).2,λw hw tV c hc _=>?_,Ud,[Nx]▸Y,λu hu=>sF ∅ (aM u hu)⟩];have:c=0:=∅
   subst this;rwa[Uc w hw tV]
  let XW:wN A J H5 x r L i I rs f S':=⟨λb u _ e=>HB b u e,XQ.same HB,⟨q,a',R',B',D,bs,iT,W',O',Ue,U5,by rw[Nx];ext⟩,.start tr (Ue.T9 ∅),3,eL.trans rfl⟩;clear Ue U5 HB hmul Ud Uc U bin dj r4 XT Y hf wO y0 sl c5 r5 ow oo XU I7 rr f5 hb5 Nx em eL tr c4 q4 o4 Es XS hp f4 Nw Ez n0 s0 gd fit
  let look:∀{H5:Hp} {S:RS} {σ:St} {Qv:VK},wN A J H5 x r L i I rs f S->σ[5]?\some ↑o->σ[6]?\some ↑r->(∀v H6,wN A J H6 x r L i I rs f S->Nv S L I H6 v->Qv v H6)->(AQ (kh A.cQ "gap" (jV A.az A.eD A.cQ 0) [] (λ_ _ _=>False) (i7 5) (jH (i7 6) jZ)) (AQ (kh A.bL "gap" (jV A.az A.eD A.bL 1) [] (λ_ _ _=>False) (i7 5) (jH (i7 6) jZ)) (kh A.cC "gap" (jV A.az A.eD A.cC 2) [] (λ_ _ _=>False) (i7 5) (jH (i7 6) jZ)))) σ H5 Qv:=λ{H5 S σ Qv} F e5 e6 kk=>by
   let⟨Ry,y⟩:=F.f.ys yW;let⟨q,a,R,B,D,bs,gs,W,O,cs,_⟩:=F.cs;rwa[Pw e5 e6 (ho.keep λC d e=>F.k.at XQ e (by cbv)) cs.rm.at_ (y.gl (by have:=F.m;omega) ∅) F.t λv H6 k6 t6 an=>kk v H6 (F.kp k6 t6) an]
  rwa[look XW rfl rfl λv H6 XX an=>?_]
  clear XW;erw[λ fm H'=>∃S,fm=#v[.int L,↑ru,↑pa,.int i,.str (tx (lL I)),↑o,↑r,↑x,some .non]/\wN A J H' x r L i I rs f S/\∀c z,¬gW S L c z,5]
  ·erw[λm σ H'=>∃S v,m=i+ 1 - S.q/\σ=#v[.int L,↑ru,↑pa,.int i,.str (tx (lL I)),↑o,↑r,↑x,some v]/\wN A J H' x r L i I rs f S/\Nv S L I H' v,⟨_,S',v,22,XX,an⟩];clear XX an;rintro m σ H7 ⟨S,v,rfl,rfl,F,an⟩;erw[12212];rcases an with ⟨rfl,hn⟩|⟨c,z,t,rfl,hl,ht⟩
   ·rwa[ki rfl ⟨S,rfl,F,hn⟩]
   rwa[bW (λ_=>?_) (λh=>absurd rfl h)];erw[_,λ fm H' h=>h];let⟨Ry,y⟩:=F.f.ys yW;let⟨q,a,R,B,D,bs,gs,W,O,cs,n0,hB⟩:=F.cs;let hm:=F.m;let eL:=F.l;let rb:=cs.rm.rb;let wr:=y.wr;let hBm:B<=702* 300:=agT hB (Nat.mul_le_mul_left _ ∅);erw[12,r,_,a.dx,112,cs.rm.at_.ins,aJ T,T.oW,sS^_,12112212];rwa[bW (λh=>?_) (λh=>?_)]
   ·let h:(i:Int)<=(S.q:Int):=ahn h;rwa[⟨12,r,_,a.dx,112,cs.rm.at_.ins,aJ T,T.oW,sS^_,12,r,a.dx,12,cs.rm.at_.ins,cL _ _ _ ⋯,r,S,a,2,cs.rm.at_,3,λp d hd e=>(y.d d hd).low e,λl qs H8 s8 nl hl8 A0=>?_⟩];intro xx XY;let s9:=aq.upd (o:=XO xx A.bD none true) XY;let eln:⇑(qs.map V.ref)<=1000000:=by rw[agH,A0.1];ext
    rwa[⟨xx,l,S.q,qs.map V.ref,2,ah,3,s9^hl8,eln,λd l2 H9 nd Em Z f9 hx9 hd9 Ny nlx=>⟨2,some d,hx9,5⟩⟩]
    let Ug:aq H8 (del H9 xx):=λb u e=>by
     let nb:=av e XY;rw[rD nb];rwa[f9 b u nb (s9^e)]
    rwa[ke d l2 S _ (λb u nb e=>Ug^(s8^(F.k b u nb (s1^e)))) ((F.t.same s8).same Ug) F.f ∅ ⟨c,z,hl⟩ ([rD Z]▸hd9) ⟨qs,[rD nlx]▸Ny,A0.imp (λp d _ _ e=>e.same Ug),3⟩]
   let h:S.q<i:=Nat.lt_of_not_le λw=>h (ahh ∅)
   let⟨g1,g2,g3,g4⟩:=hl.1;let⟨z1,z2⟩:=hU.mp g3;let Nc:⇑D<=⇑rs:=B6 cs.pl;let MY:(S.q+ 1)* ⇑D<=i* ⇑rs:=ajM h Nc;rw[<-eL]at cs;rwa[⟨12,x,q.dx,12,cs.c.ins,fk ⋯,12,t,11122,bN.of ht,212,t,11122,bN.of ht,2,x,r,q,S,a,R,B,rs,f,D,bs,gs,W,O,c,z,2,cs,33,g1,sG g2,g4,[eL]▸g3,hU.mpr ⟨33⟩,3333,λS2 a2 R2 bs2 gs2 W2 O2 B2 H8 f8 Uh ow8 XZ em8 el8 hb8=>?_⟩]
   let fl8:wN A J H8 x r L i I rs f S2:=by
    rw[eL]at Uh XZ;rwa[⟨λb u nb e=>f8 b u (λw=>by cbv) (λw=>by cbv) (F.k b u nb e),cs.tab F.t f8,⟨q,a2,R2,B2,D,bs2,gs2,W2,O2,Uh,λb w=>?_,by rw[em8];ext⟩,.next F.f h hl XZ (Uh.T9 ∅),3,el8.trans eL⟩];rcases ow8 b w with v|v|v
    ·rwa[n0 b (.inl v)]
    ·rwa[n0 b (.inr v)]
    ·cases e:J b with
     |none=>rfl
     |some u=>
      let nP:b≠A.eD:=λw=>by
       rcases F.t with p|⟨_,_,_,_,p,_⟩
       ·cbv
       cbv
      rw[F.k b u nP e]at v;ext v
   rwa[look fl8 rfl rfl λv H9 fl9 an=>⟨i+ 1 - S2.q,3,S2,v,22,fl9,an⟩]
  rintro σ H7 ⟨S,rfl,F,hn⟩;let⟨Ry,y⟩:=F.f.ys yW;let⟨q,a,R,B,D,bs,gs,W,O,cs,n0,hB⟩:=F.cs;let hm:=F.m;let eL:=F.l;let rb:=cs.rm.rb;let g:=y.g;let hBm:B<=702* 300:=agT hB (Nat.mul_le_mul_left _ ∅);rwa[⟨12,r,S,a,λc=>c<S.q/\S.aw c=c,2,cs.rm.at_,333,g.wf.w,⟨y.m,by have:=(g.el 0 y.m).1;ext⟩,λc hc=>⟨hc.1,λk hk=>?_⟩,λtb N H8 s8 nt h8 hN=>?_⟩]
  ·cases e:S.by c (M12.st k) with
   |some d=>
    let⟨_,d2,_,d4⟩:=g.st _ _ _ e;rwa[d,2,d2,d4]
   |none=>
    rw[eL]at hk;rwa[absurd ⟨hc.1,5,agC (su hk),e⟩ (hn c _)];rw[pf ([g.wf.e]▸hc.1),hc.2]
  rwa[⟨12,r,a.dx,12,(cs.rm.at_.same s8).ins,cL _ _ _ ⋯,r,S,a,2,cs.rm.at_.same s8,3,λp d hd e=>(y.d d hd).low e,λpp qs H9 s9 np hp9 A0=>?_⟩];rwa[⟨by show 2<=sizeLine;decide,λt nt=>?_⟩];let sA:=aq.upd (o:=.tup [↑tb,↑pp]) nt;rwa[kq t tb pp S N _ (λb u nb e=>sA^(s9^(s8^(F.k b u nb (s1^e))))) (((F.t.same s8).same s9).same sA) F.f hn ah ((h8.same s9).same sA) hN ⟨qs,sA^hp9,A0.imp (λp d _ _ e=>e.same sA),3⟩]
theorem words_of {H:Hp}{P:Zg->Prop}:∀{ps:Zn},(∀(i:Nat) (p:Zs),ps[i]?\p->∃w,H p\.tup (ao w)/\P w)->∃a,bX H ps a/\∀w∈a,P w
 |[],_=>⟨[],⟨2,(λi p w e=>by simp at e)⟩,(λw f=>by ext f)⟩
 |p::ps,h=>by
  let⟨a,d,j⟩:=words_of (ps:=ps) λi q e=>h (i+ 1) q (by simpa using e)
  let⟨w,g,l⟩:=h 0 p rfl;rwa[⟨w::a,⟨by rw[aha,aha,d.1],λi q u b c=>?_⟩,λu k=>?_⟩]
  ·cases i with
   |zero=>ext b;ext c;rwa[g]
   |succ i=>exact d.2 i q u (by simpa using b) (by simpa using c)
  cbv
def Ui:Sp:=λa H Q _=>∃(z:Int) (L:Nat),a=[.int z,.int L]/\1<=L/\L<=200/\∀s:Int,s≠0->s.natAbs<=L->Q (.int s) H
def Ce (T:Txt K mg A):T.rY.Ok P w base 1 Ui:=by
 rwa[T.rY.on Bx (λd j a s H g Q E l h=>?_) (len:=by rintro _ _ _ _ ⟨z,L,rfl,_⟩;rfl)]
 ·let⟨z,L,rfl,c,f,k⟩:=h
  erw[_,(ai (bJ (aZ fb (aP bV (pv 0) ax) ax (bh _))
   (au (bx (e8 dE (aP cZ ax (aP bV (aP dG (pv 0) ax) (pv 1))))))
   bj)
   (au (bx (aP cZ ax (aP bV (aP dG (pv 0) ax) (pv 1))))))]
  rwa[jb ?_];intro b;let e:∀y:Int,0<=y % (L:Int)/\y % (L:Int)<L:=λy=>⟨aif _ ∅,ah3 _ ∅⟩
  let i:=e (z / 2);rwa[⟨121122,(by show (0:Int)<2;decide),212,bW (λh=>?_) (λh=>?_)⟩]
  ·refine⟨121122,⟨44⟩,121122,(by show (0:Int)<(L:Int);omega),112212,k _ ?_ ?_⟩ <;> ext
  ·refine⟨121122,⟨44⟩,12112231122,k _ ?_ ?_⟩ <;> ext
noncomputable def sH (n:Nat):Zb:=(List.range n).map λi:Nat=>V.int (i:Int)
def mX (n:Nat):⇑(sH n)=n:=by unfold sH;cbv
def EE (h:i<n):(sH n)[i]?\(V.int (i:Int)):=by
 unfold sH;rw[agY,aip h];rfl
def Px {x:V}(h:(sH n)[i]?\x):i<n/\x=V.int (i:Int):=by
 let a:i<n:=by
  have:=(agE.mp h).1;rw[mX]at this;rwa[this]
 rw[EE a]at h;rwa[a,(Za0 h).symm]
def wQ {Q:VK}(g:Nat->Int)(h:n<=1000)(j:∀i:Nat,i<n->∀R:VK,R (.int (g i)) H->r (some (.int (i:Int))::D) H R)(c:∀a,H a=none->Q ↑a (upd H a (.lst (ao ((List.range n).map g))))):qR r D Q (tR 0 n) H:=by
 rwa[kF (sH n) (λv=>match v with|.int z=>.int (g z.toNat)|v=>v) (λi b=>by rw[mX]at b;rwa[b]) (λi x l b y=>?_) ([mX]▸agJ _) ([mX]▸agT h ⋯) (λi x f R k=>?_) (λa d=>?_)]
 ·rw[mX]at b;let⟨o,m⟩:=y;erw[3];rw[EE b]
  cbv
 ·let⟨b,rfl⟩:=Px f;rwa[j i b R ?_];have:R (V.int (g ((i:Int)).toNat)) H:=k;rw[ahg]at this;rwa[this]
 ·let e:((sH n).map λv=>match v with|.int z=>V.int (g z.toNat)|v=>v)=ao ((List.range n).map g):=by
   unfold sH ao;rw[ahw,ahw];rfl
  rw[e];rwa[c a d]
def u6 {a:Za3}(h:bX H F a){w:Zs}{c:Zb}{o:HO}(b:H w\.lst c):bX (upd H w o) F a:=h.keep λp d e=>by
 rw[ak (bY e b (by cbv))];rwa[e]
noncomputable def sf (rows:Za3)(x:Nat)(s:Int):Nat:=if 0<s then ((rows.getD (s.natAbs - 1) []).getD x 0).toNat else (rows.getD (s.natAbs - 1) []).findIdx (λz=>z==(x:Int))
inductive x8 (vs:Zb) (H:Hp) (Q:VK) (E_:XK):Prop
 |mk (a wa:Zs) (rows:Za3) (p x:Nat) (w:Zg):vs=[↑a,.int x,↑wa]->TabAt H a rows->(∀r∈rows,M11.Pm p r)->x<p->p<=1000->H wa\.tup (ao w)->M11.bE ⇑rows w->⇑rows<=1000->Q (.int ((w.foldl (sf rows) x:Nat):Int)) H->x8 vs H Q E_
theorem EF:∀{r:Zg} {i:Nat} {x:Int},r.Nodup->r[i]?\x->r.findIdx (λz=>z==x)=i
 |[],i,x,_,h=>by simp at h
 |a::r,0,x,_,h=>by
  cbv
 |a::r,i+ 1,x,c,h=>by
  let b:a≠x:=λz=>(ahk.mp c).1 ([z]▸agC (l:=r) (i:=i) h)
  rw[List.findIdx_cons,show (a==x)=false from agZ.mpr b,EF (ahk.mp c).2 h];rfl
def Ci {rows:Za3}{x:Nat}(h:0<z)(b:rows[z.natAbs - 1]?\l)(a:l[x]?\(n:Int)):sf rows x z=n:=by
 unfold sf;rw[ag8 h,agM,agM,b,Option.getD_some,a,Option.getD_some];rfl
def Cj {rows:Za3}{x:Nat}(h:¬ 0<z)(b:rows[z.natAbs - 1]?\l)(c:l.Nodup)(a:l[n]?\(x:Int)):sf rows x z=n:=by
 unfold sf;rw[ag3 h,agM,b,Option.getD_some];rwa[EF c a]
def i3 (T:Txt K mg A):T.iE.Ok P w base 1 x8:=by
 rwa[T.iE.on iY (λZ AA J s H vs Q E hr h=>?_)]
 ·let⟨a,R,rows,p,x,w,rfl,N,M,hx,hp,o,G,o6,k⟩:=h
  erw[_,(ai (cK ag9 rfl (zN (pv 2)) (dz 3 iY.nd)
   (au (bP (bJ (aZ zD (pv 3) ax (bh _))
    (au (bH 1 iY.nd (bC bu (bC bu (pv 0) (aP jF (pv 3) ax) (λ_ _=>rfl)) (pv 1) (λ_ _=>rfl))))
    (au (bH 1 iY.nd (cH agQ PySem.F.slot_list_index PySem.F.type_list_index zb (bC bu (pv 0) (aP jF (e8 dE (pv 3)) ax) (λ_ _=>rfl)) (ae (pv 1) aj))))))))
   (au (bx (pv 1))))]
  rwa[jb ?_];intro Y;let⟨rs,m,g⟩:=id N;erw[12,R,2,⟨_,bN.of o⟩];rwa[Dm (K:=K) (a:=R) (xs:=ao w) (λn u B=>∃v:Zc,u=#v[↑a,.int (((w.take n).foldl (sf rows) x:Nat):Int),↑R,v]/\B=H/\(w.take n).foldl (sf rows) x<p) ⟨none,22,hx⟩ (λn u B _ ζ=>by let⟨_,_,e,_⟩:=ζ;rwa[[e]▸bN.of o]) ?_ ?_]
  ·rintro n y u B hn ⟨v,rfl,rfl,b⟩;let⟨z,rfl,U⟩:=cI hn;let hs:=G z (agC U)
   let d:(w.take (n+ 1)).foldl (sf rows) x=sf rows ((w.take n).foldl (sf rows) x) z:=by
    rw[aiD,U,aiH];rfl
   rw[d];change (w.take n).foldl (sf rows) x=pt at b ⊢;let X:z.natAbs - 1<⇑rows:=∅
   let l:rows[z.natAbs - 1]?=some rows[z.natAbs - 1]:=agG X
   let L:z.natAbs - 1<⇑rs:=by rw[g.1];rwa[X]
   let t:rs[z.natAbs - 1]?=some rs[z.natAbs - 1]:=agG L
   change rows[z.natAbs - 1]=row at l;change rs[z.natAbs - 1]=f at t;let c:=g.2 _ _ _ t l;let C:=M row (agC l);rwa[⟨15,λ_ _ h=>h⟩];erw[12112212];rwa[bW (λh=>?_) (λh=>?_)]
   ·let I:(0:Int)<z:=ahn h;let⟨j,D,r⟩:=C.at b
    let O:iQ (rs.map V.ref) (z - 1)\↑f:=by
     rw[show z - 1=((z.natAbs - 1:Nat):Int) by ext];rwa[dF t]
    erw[12121122,a,11,↑f,22,aD.of m,O,12,f,11122,aD.of c,cD (bU D)];rw[Ci I l D];rwa[122,r]
   ·let I:¬(0:Int)<z:=λq=>h (ahh q)
    let⟨j,D,r⟩:=C.Sv b
    let O:iQ (rs.map V.ref) (-z - 1)\↑f:=by
     rw[show -z - 1=((z.natAbs - 1:Nat):Int) by ext];rwa[dF t]
    rwa[⟨1212121122,a,11,↑f,22,aD.of m,O,.inl ⟨21,aD.of c⟩,12,f,row,(pt:Int),22,c,agC D,λi S _=>?_⟩];rw[Cj I l C.nd S]
    let F:i<p:=by
     have:=(agE.mp S).1;rw[C.len]at this;rwa[this]
    rwa[122,F]
  ·rintro u B ⟨v,rfl,rfl,b⟩;rw[aI,ail];rwa[12,k]
def tu {rows:Za3}{x:Nat}(d:∀r∈rows,M11.Pm n r)(e:x<n)(i:z≠0)(f:z.natAbs<=⇑rows):sf rows x z<n/\sf rows (sf rows x z) (-z)=x:=by
 let g:rows[z.natAbs - 1]?\(rows[z.natAbs - 1]'∅):=agG ∅
 change rows[z.natAbs - 1]'∅=r at g;let c:=d r (agC g);cases h:0<z
 ·let⟨j,a,b⟩:=c.at e;rw[Ci h g a];rwa[b,Cj ∅ ([Int.natAbs_neg]▸g) c.nd a]
 ·let⟨j,a,b⟩:=c.Sv e;rw[Cj h g c.nd a];rwa[b,Ci ∅ ([Int.natAbs_neg]▸g) a]
def wU {w:Zg}(h:M11.bE n (z::w)):(z≠0/\z.natAbs<=n)/\M11.bE n w:=⟨h z (agP ..),λx a=>h x (ag4 _ a)⟩
theorem Gi {rows:Za3}{p:Nat}(a:∀r∈rows,M11.Pm p r):∀{w:Zg} {x:Nat},M11.bE ⇑rows w->x<p->w.foldl (sf rows) x<p
 |[],x,_,c=>c
 |s::w,x,e,c=>by
  let⟨d,b⟩:=wU e;rwa[Gi a (w:=w) b (tu a c d.1 d.2).1]
theorem Ck {rows:Za3}{p:Nat}(a:∀r∈rows,M11.Pm p r):∀{w:Zg} {x y:Nat},M11.bE ⇑rows w->x<p->y<p->w.foldl (sf rows) x=w.foldl (sf rows) y->x=y
 |[],x,y,_,_,_,e=>e
 |s::w,x,y,d,g,f,e=>by
  let⟨b,c⟩:=wU d;let a1:=tu a g b.1 b.2;let a2:=tu a f b.1 b.2;have:=Ck a (w:=w) c a1.1 a2.1 e;rw[<-a1.2,<-a2.2,this]
def Uj:M11.Pm n (eK 0 n):=by
 rwa[⟨oz 0 n,5,λz d=>?_⟩]
 ·unfold eK;rwa[List.Pairwise.map _ (λa b (c:a≠b) (z:(0:Int)+ (a:Int)=0+ (b:Int))=>c ∅) ajh]
 ·unfold eK at d;let⟨i,e,rfl⟩:=ahu.mp d;have:=ahj.mp e;ext
def Uk {f:Nat->Nat}{xs:Zh}(h:∀x∈xs,x<n)(a:∀x,x<n->M17.it f 60 x=x):xs.map (M17.it f 60)=xs.map (M17.it f 0):=ahJ λx b=>a x (h x b)
noncomputable def gL (xs:Zh):Zg:=xs.map λx:Nat=>(x:Int)
def Py (xs:Zh):⇑(gL xs)=⇑xs:=by unfold gL;cbv
theorem EG:∀{a ys:Zh},gL a=gL ys->a=ys
 |[],[],_=>rfl
 |[],_::_,h=>by ext h
 |_::_,[],h=>by ext h
 |x::a,y::ys,h=>by
  let b:(x:Int)::gL a=(y:Int)::gL ys:=h;injection b with d c
  rw[show x=y by ext,EG c]
def Jd (h:(gL B)[i]?\z):∃x,B[i]?\x/\z=(x:Int):=by
 unfold gL at h
 cbv
noncomputable def zI (f:Nat->Nat):V->V
 |.int z=>.int ((f z.toNat:Nat):Int)
 |v=>v
def yX (f:Nat->Nat)(xs:Zh):(ao (gL xs)).map (zI f)=ao (gL (xs.map f)):=by
 unfold ao gL;rw[ahw,ahw,ahw,ahw];rwa[ahJ λx _=>?_]
 show V.int ((f ((x:Int)).toNat:Nat):Int)=V.int ((f x:Nat):Int);rw[ahg]
def yZ {rs:Zn}{rows:Za3}(h:eh H rs rows)(f:H a\.lst (ao l)):eh H (rs++[a]) (rows++[l]):=by
 rwa[⟨by rw[agF,agF,h.1];rfl,λi q e c b=>?_⟩];cases d:i<⇑rs
 ·rw[agN d]at c;rw[agN (by rw[<-h.1];rwa[d])]at b;rwa[h.2 i q e c b]
 ·rw[agR ∅]at c;rw[agR (by rw[<-h.1];omega)]at b;rw[agK.mp (agC c),agK.mp (agC b)];rwa[f]
inductive EH (vs:Zb) (H:Hp) (Q:VK) (E_:XK):Prop
 |mk (z:Int) (m:Nat) (b:Bool):vs=[.int z,.int m,.bl b]->1<=m->m<=100->0<=z->(∀l r H',aq H H'->H' l\.lst (ao r)->M11.Pm m r->Q ↑l H')->EH vs H Q E_
def Cm (d:n<m)(f:i<m)(h:(z+ (n:Int)) % (m:Int)=(z+ (i:Int)) % (m:Int)):n=i:=by
 let e:=Int.emod_emod_of_dvd (z+ (n:Int)) (Int.dvd_refl (m:Int));let b:(m:Int)∣(z+ (n:Int)) - (z+ (i:Int)):=Int.dvd_of_emod_eq_zero (by rw[Int.sub_emod,h,Int.sub_self];rfl);let⟨q,c⟩:=b
 let a:q=0:=by
  rwa[aiX λg=>?_]
  have:(m:Int)<=((m:Int)* q).natAbs:=by
   rw[Int.natAbs_mul];have:1<=q.natAbs:=∅
   have:=Nat.mul_le_mul_left m this;rw[Nat.mul_one]at this;show (m:Int)<=((m* q.natAbs:Nat):Int);ext
  ext
 rw[a,Int.mul_zero]at c;ext
def Nz {g:Nat->Int}(b:∀i,i<m->0<=g i/\g i<(m:Int))(d:∀i j,i<m->j<m->g i=g j->i=j):M11.Pm m ((List.range m).map g):=by
 rwa[⟨by cbv,5,λz c=>?_⟩]
 ·rwa[ah1.mpr (aiw ?_ ajh)]
  cbv
 ·let⟨i,a,rfl⟩:=ahu.mp c;rwa[b i (ahj.mp a)]
def Pz (h:l.Perm (eK 0 m)):M11.Pm m l:=by
 let a:M11.Pm m (eK 0 m):=Uj;rwa[by rw[h.length_eq,a.len],h.nodup_iff.mpr a.nd,λz b=>a.rg z (h.mem_iff.mp b)]
theorem erase_cons:∀{s:Zg} {k:Nat} {x:Int},s[k]?\x->(x::s.eraseIdx k).Perm s
 |[],k,x,h=>by simp at h
 |a::s,0,x,h=>by
  cbv
 |a::s,k+ 1,x,h=>(List.Perm.swap a x (s.eraseIdx k)).trans ((erase_cons (s:=s) h).cons a)
def Gj {s:Zg}{k:Nat}{x:Int}(h:s[k]?\x):((l++[x])++s.eraseIdx k).Perm (l++s):=by
 rw[ahy];rwa[List.Perm.append_left l (erase_cons h)]
def VS {k:Nat}(h:k<n):seqIndex? (k:Int) n\k:=(xk (pe h)).1
theorem wV:∀(ns:Zg) (k:Nat),(ao ns).eraseIdx k=ao (ns.eraseIdx k)
 |[],_=>rfl
 |a::ns,0=>rfl
 |a::ns,k+ 1=>by
  show V.int a::(ao ns).eraseIdx k=V.int a::ao (ns.eraseIdx k);rw[wV ns k]
def wW (T:Txt K mg A):T.mJ.Ok P w base 1 EH:=by
 rwa[T.mJ.on fM (λcz AA outer s H vs Q E hr h=>?_)]
 ·let⟨z,m,b,rfl,X1,MX,hz,k⟩:=h;let hu:=Nat.lt_of_succ_lt (hV hr)
  erw[_,(ai (bH 3 fM.nd (aP bV (aP dG (pv 0) ax) (pv 1)))
   (ai (bP (bJ (PW.pt (vf (ic (pv 2)) (sJ (aZ fb (aP bV (pv 0) ax) ax (bh _)))))
    (au (bx (jc (fns:=["_law_many","_law_by"]) (ixs:=[1,3]) (cl:=_) rfl (jj rfl T.eI (ae (pv 1) aj)) (jK rfl rfl rfl ⋯ rfl ⋯ rfl ⋯ ⋯ rfl rfl rfl rfl rfl rfl rfl) (λC s H ex=>(aP bV (aP jF (pv 2) (pv 0)) (pv 1))))))
    bj))
   (ai (bJ (ic (pv 2))
    (au (bx (jc (fns:=["_law_many","_law_by"]) (ixs:=[1,3]) (cl:=_) rfl (jj rfl T.eI (ae (pv 1) aj)) (jK rfl rfl rfl ⋯ rfl ⋯ rfl ⋯ ⋯ rfl rfl rfl rfl rfl rfl rfl) (λC s H ex=>(aP bV (aP cZ (pv 2) (pv 0)) (pv 1))))))
    bj)
   (ai (bH 4 fM.nd (qh rfl rfl T.iR rfl T.eI (ae (pv 1) aj)))
   (ai (bH 5 fM.nd (bT aj))
   (ai (bP (eM ag9 (aZ (DL hu) (pv 4) (bT aj) (bh _))
    (ai (aV (cH agQ ag0 ag2 bO (pv 5) (ae (cH agQ PySem.F.slot_list_pop PySem.F.type_list_pop JG (pv 4) (ae (aP bV (pv 0) (bz bf rfl T.cR ahl (ae (pv 4) aj))) aj)) aj)))
    (au (bH 0 fM.nd (aP dG (pv 0) (aP cZ (bz bf rfl T.cR ahl (ae (pv 4) aj)) ax)))))))
   (au (bx (pv 5)))))))))]
  rwa[pM ?_];intro BE qF nH jA fX gH;let b1:=aif (z / 2) (show (m:Int)≠0 by omega);let b2:=ah3 (z / 2) (show (0:Int)<(m:Int) by omega);erw[121122,⟨44⟩,1211223];obtain⟨y,hy⟩:∃y,z / 2 % (m:Int)=y:=⟨12⟩;rw[hy]at b1 b2;simp only[hy];erw[λ p q=>p=#v[.int z,.int m,.bl b,.int y,none,none]/\q=H,5]
  ·erw[1212];rwa[bW (λ_=>?_) (λ_=>dY ⟨22⟩)];erw[121122,(by show (0:Int)<2;decide),212];rwa[bW (λ_=>?_) (λ_=>⟨22⟩)];erw[12,(m:Int),233];rw[ahg];rwa[wQ (λi=>(y - (i:Int)) % (m:Int)) ∅ (λi F R hR=>?_) (λD hD=>?_)]
   ·rwa[12121122121122,(by show (0:Int)<(m:Int);omega),hR]
   ·rwa[k D _ _ (aq.upd hD) ah (Nz (λi F=>⟨aif _ ∅,ah3 _ ∅⟩) λi j F hj e=>?_)]
    let e2:((y - (m:Int)+ 1)+ (((m - 1 - i:Nat)):Int)) % (m:Int)=((y - (m:Int)+ 1)+ (((m - 1 - j:Nat)):Int)) % (m:Int):=by
     rw[show (y - (m:Int)+ 1)+ (((m - 1 - i:Nat)):Int)=y - (i:Int) by ext,show (y - (m:Int)+ 1)+ (((m - 1 - j:Nat)):Int)=y - (j:Int) by ext];rwa[e]
    have:=Cm ∅ ∅ e2;ext
  rintro p q ⟨rfl,rfl⟩;erw[1212];rwa[bW (λ_=>?_) (λ_=>?_)]
  ·erw[12,(m:Int),233];rw[ahg];rwa[wQ (λi=>(y+ (i:Int)) % (m:Int)) ∅ (λi F R hR=>?_) (λD hD=>?_)]
   ·rwa[121211221211223,hR]
   ·rwa[k D _ _ (aq.upd hD) ah (Nz (λi F=>⟨aif _ ∅,ah3 _ ∅⟩) λi j F hj e=>Cm F hj e)]
  rwa[⟨12,m,23,λd X=>?_⟩];let s1:aq q (upd q d (.lst (ao (eK 0 m)))):=aq.upd X;let h1:upd q d (.lst (ao (eK 0 m))) d\(.lst (ao (eK 0 m))):=ah;change upd q d (.lst (ao (eK 0 m)))=Z at s1 h1 ⊢;rwa[⟨ahd _,λlt N=>?_⟩];let s2:aq Z (upd Z lt (.lst [])):=aq.upd N;let h2:upd Z lt (.lst []) lt\(.lst (ao [])):=ah;let J:d≠lt:=λe=>by cbv
  let Ul:q lt=none:=s1.free N;change upd Z lt (.lst [])=H2 at s2 h2 ⊢;erw[λ p l=>∃(g:Zg) (v0:Zc),p=#v[v0,.int m,.bl b,.int y,↑d,↑lt]/\aq q l/\l lt\.lst (ao g)/\g.Perm (eK 0 m),5]
  ·erw[λn σ l=>∃(g a:Zg) (x:Int),n=⇑a/\σ=#v[.int x,.int m,.bl b,.int y,↑d,↑lt]/\aq q l/\l lt\.lst (ao g)/\l d\.lst (ao a)/\(g++a).Perm (eK 0 m),⟨_,[],eK 0 m,z,22,s1.trans s2,h2,s2^h1,List.Perm.refl _⟩];rintro n σ l ⟨g,a,x,rfl,rfl,s3,u,hs3,G⟩;let hlen:=G.length_eq;rw[agF,oz]at hlen;rwa[⟨12,ahd _,λI he0=>?_⟩];let U:aq l (upd l I (.lst [])):=aq.upd he0;let h4:upd l I (.lst []) I\(.lst (ao [])):=ah;change upd l I (.lst [])=Y at U h4 ⊢;let B:=U^u;let r:=U^hs3;erw[d,I,a,[],22,r,h4,12];cases t:a=[]
   ·rwa[ki t ?_];rw[t,ahe]at G;rwa[g,12,s3.trans U,B,G]
   ·let S:0<⇑a:=List.length_pos_iff.mpr t;rwa[bW (λ_=>?_) (λh=>?_)]
    ·erw[_,λ p q h=>h];let⟨f,hkk,v⟩:=j2 x (n:=⇑a) S;let hx:a[f]?=some a[f]:=agG v
     change a[f]=c at hx;let ekk:x % (⇑(ao a):Int)=(f:Int):=by rw[aI];rwa[hkk]
     erw[12,.inl ⟨21,aD.of B⟩,12,.inl ⟨21,aD.of r⟩,1212,d,12,.inl (aD.of r),1122,(by show (0:Int)<(⇑(ao a):Int);rw[aI];omega)];simp only[ekk];erw[d,_,(f:Int),f,.int c,22,r,33,VS ([aI]▸v),bU hx];rw[wV];let L:upd Y d (.lst (ao (a.eraseIdx f))) lt\(.lst (ao g)):=by rw[ak (ahZ J)];rwa[B]
     let O:upd Y d (.lst (ao (a.eraseIdx f))) d\(.lst (ao (a.eraseIdx f))):=ah;let nls:q d=none:=X;let s5:aq q (upd Y d (.lst (ao (a.eraseIdx f)))):=λb o e=>by rw[ak (av e nls)];rwa[U^s3^e]
     change upd Y d (.lst (ao (a.eraseIdx f)))=H5 at L O s5 ⊢;erw[lt,1122,L,5]
     ·rw[aI];rwa[agO (show ⇑g<=100 by omega) ⋯]
     let DP:⇑(a.eraseIdx f)=⇑a - 1:=List.length_eraseIdx_of_lt v;let M:upd H5 lt (.lst (ao g++[.int c])) d\(.lst (ao (a.eraseIdx f))):=by rw[ak J];rwa[O]
     erw[1212,d,12,.inl (aD.of M),11221122,⟨by show (0:Int)<(⇑(ao (a.eraseIdx f)):Int)+ 1;ext,by show (⇑(ao (a.eraseIdx f)):Int)+ 1<1073741824;rw[aI];ext⟩];rwa[⟨⇑(a.eraseIdx f),3,g++[c],a.eraseIdx f,122,λb o e=>?_,by rw[ah,ints_app];rfl,M,(Gj hx).trans G⟩];rw[ak (av e Ul)];rwa[s5^e]
    cbv
  rintro p l ⟨g,v0,rfl,s3,u,G⟩;rwa[12,k lt g l s3 u (Pz G)]
def Je {lt:Zs}{rs:Zn}(h:H a\.lst (ao l))(c:l≠[])(b:H lt\.lst (rs.map V.ref)):a≠lt:=λe=>by
 rw[e,b]at h;injection h with h
 injection h with h
 cases l with
 |nil=>exact c rfl
 |cons z l=>
  cases rs with
  |nil=>ext h
  |cons q rs=>ext h
def PB (p:Nat):eK 0 p=gL (List.range p):=by
 unfold eK gL
 cbv
inductive Cp (vs:Zb) (H:Hp) (Q:VK) (E_:XK):Prop
 |mk (ta pa wa:Zs) (rows:Za3) (p:Nat) (xs:Zh) (w:Zg):vs=[↑ta,↑pa,↑wa]->TabAt H ta rows->(∀r∈rows,M11.Pm p r)->p<=6->H pa\.lst (ao (gL xs))->(∀x∈xs,x<p)->⇑xs<=6->H wa\.tup (ao w)->M11.bE ⇑rows w->⇑rows<=40->(∀(n:Nat) H',1<=n->n<=60->(∀x∈xs,M17.it (λx=>w.foldl (sf rows) x) n x=x)->(∀c,1<=c->c<n->¬ ∀x∈xs,M17.it (λx=>w.foldl (sf rows) x) c x=x)->aq H H'->Q (.int (n:Int)) H')->Cp vs H Q E_
def pA (T:Txt K mg A):T.ko.Ok P w base 2 Cp:=by
 rwa[T.ko.on gF (λcz AA outer s H vs Q E hr h=>?_)]
 ·let⟨S,O,U,rows,p,xs,w,rfl,NB,B,wX,L,G,Y,sD,v,o6,k⟩:=h;let hu:=Nat.lt_of_succ_lt (hV hr)
  erw[_,(ai (bH 3 gF.nd ax)
   (ai (kj (iy:=4) gF.nd rfl (Or.inl rfl) (fns:=["_law_word","_law_turns"]) (ixs:=[2,0]) (cl:=_) rfl (cX (pv 1)) (jK rfl rfl rfl ⋯ rfl ⋯ rfl ⋯ ⋯ rfl rfl rfl rfl rfl rfl rfl) (λC s H ex=>(pc T.iE (i3 T) hr (ae (pv 2) (ae (pv 0) (ae (pv 1) aj))))))
   (ai (bP (eM ag9 (aZ (DL hu) (pv 4) (pv 1) (bh _))
    (ai (kj (iy:=4) gF.nd rfl (Or.inl rfl) (fns:=["_law_word","_law_turns"]) (ixs:=[2,0]) (cl:=_) rfl (cX (pv 4)) (jK rfl rfl rfl ⋯ rfl ⋯ rfl ⋯ ⋯ rfl rfl rfl rfl rfl rfl rfl) (λC s H ex=>(pc T.iE (i3 T) hr (ae (pv 2) (ae (pv 0) (ae (pv 1) aj))))))
    (au (bH 3 gF.nd (aP cZ (pv 3) ax))))))
   (au (bx (pv 3))))))]
  rwa[gR ?_];intro jA fX gH;obtain⟨f,hf⟩:∃f:Nat->Nat,f=λx=>w.foldl (sf rows) x:=⟨12⟩
  rw[<-hf]at k;let u:∀x,w.foldl (sf rows) x=f x:=λx=>by rw[hf]
  let M:∀x,x<p->f x<p:=λx a=>by rw[<-u];rwa[Gi B v a]
  let Cb:∀x y,x<p->y<p->f x=f y->x=y:=λx y a I e=>by rw[<-u,<-u]at e;rwa[Ck B v a I e]
  let X:=Uk G (M17.VC wX M Cb);let hit:=λ(n:Nat) (x:Nat) (a:x<p)=>M17.tf M n x a
  let e0:xs.map (M17.it f 0)=xs:=(ahJ λx _=>rfl).trans (List.map_id xs);let step:∀c,(xs.map (M17.it f c)).map f=xs.map (M17.it f (c+ 1)):=λc=>by rw[ahw];rwa[ahJ λx _=>rfl]
  let lt:∀c,∀x∈xs.map (M17.it f c),x<p:=λc x a=>by
   let⟨y,I,rfl⟩:=ahu.mp a;rwa[hit c y (G y I)]
  let body:∀{j:Hp} {R:VK} {i c:Nat} {x:V},aq H j->(ao (gL (xs.map (M17.it f c))))[i]?\x->R (zI f x) j->x8 [↑S,x,↑U] j R E0:=λ{j R i c x} s2 a N=>by
   let⟨z,rfl,hz⟩:=cI a;let⟨y,I,rfl⟩:=Jd hz;let hyp:=lt c y (agC I);erw[S,U,rows,p,y,w,2,NB.same s2,B,hyp,3,s2^sD,v,3];let o:R (V.int ((f ((y:Nat):Int).toNat:Nat):Int)) j:=N;rw[ahg]at o;rw[u];rwa[o]
  let ln:∀c,⇑(ao (gL (xs.map (M17.it f c))))<=sizeLine:=λc=>by rw[aI,Py,agH];rwa[agT Y ⋯]
  let g:H O\(.lst (ao (gL (xs.map (M17.it f 0))))):=by rw[e0];rwa[L]
  erw[12,O,2,⟨_,aD.of g⟩];rwa[kF (ao (gL (xs.map (M17.it f 0)))) (zI f) (kH (aD.of g)) (jl (aD.of g)) (ig (aD.of g)) (ln 0) (λi x a R N=>⟨121212,body (aq.refl H) a N⟩) (λb Xy=>?_)];rw[yX,step];let s1:aq H (upd H b (.lst (ao (gL (xs.map (M17.it f 1)))))):=aq.upd Xy;let o:upd H b (.lst (ao (gL (xs.map (M17.it f 1))))) b\(.lst (ao (gL (xs.map (M17.it f 1))))):=ah;change upd H b (.lst (ao (gL (xs.map (M17.it f 1)))))=H1 at s1 o ⊢;erw[λ J j=>∃(b:Zs) (c:Nat),J=#v[↑S,↑O,↑U,.int (c:Int),↑b]/\aq H j/\1<=c/\c<=60/\xs.map (M17.it f c)=xs/\(∀d,1<=d->d<c->xs.map (M17.it f d)≠xs),5]
  ·erw[λm σ j=>∃(b:Zs) (c:Nat),m=60 - c/\σ=#v[↑S,↑O,↑U,.int (c:Int),↑b]/\aq H j/\j b\.lst (ao (gL (xs.map (M17.it f c))))/\1<=c/\c<=60/\(∀d,1<=d->d<c->xs.map (M17.it f d)≠xs),⟨_,b,(1),22,s1,o,agJ _,3,λd o r=>∅⟩];rintro m σ j ⟨b,c,rfl,rfl,s2,r,F,D,t⟩;erw[1212,b,O,1122,r,s2^L,12];cases e:gL (xs.map (M17.it f c))=gL xs
   ·rwa[ki e ⟨b,c,2,s2,F,D,EG e,t⟩]
   ·rwa[bW (λ_=>?_) (λh=>absurd (by rw[ahD e];rfl) h)]
    let X2:c<60:=by
     rcases aiS c 60 with q|q
     ·rwa[q]
     ·rwa[absurd (by rw[show c=60 by ext,X,e0]) e]
    rwa[⟨_,λ_ _ h=>h,?_⟩];erw[12,b,2,⟨_,aD.of r⟩];rwa[kF (ao (gL (xs.map (M17.it f c)))) (zI f) (kH (aD.of r)) (jl (aD.of r)) (ig (aD.of r)) (ln c) (λi x a R N=>⟨121212,body s2 a N⟩) (λs3 Z=>?_)];rw[yX,step];rwa[⟨121122,60 - (c+ 1),3,s3,c+ 1,25,s2.trans (aq.upd Z),ah,33,λd o r=>?_⟩]
    ·rw[show ((c+ 1:Nat):Int)=(c:Int)+ 1 by ext];rfl
    ·cases q:d=c
     ·cbv
     ·rwa[t d o ∅]
  rintro J j ⟨b,c,rfl,s2,F,D,hxc,t⟩;rwa[⟨12,k c j F D (λx a=>?_) (λd o r z=>t d o r ((ahJ λx a=>z x a).trans (List.map_id xs))) s2⟩];let⟨i,hi,rfl⟩:=aiz.mp a;let h9:=ahS (λl=>l[i]?) hxc;simp only[agY,agG hi]at h9;rwa[Za0 h9]
def Jf {Q:VK}(lo:Int)(y:n<=1000)(t:∀(i:Nat) (c:Hp) (R:VK),i<n->(∀q,c q=none->R ↑q (upd c q (.tup (ao [lo+ (i:Int)]))))->r (some (.int (lo+ (i:Int)))::D) c R)
 (k:∀b c d,aq H c->c b=none->bX c d ((List.range n).map λi:Nat=>[lo+ (i:Int)])->Q ↑b (upd c b (.lst (d.map V.ref)))):qR r D Q (tR lo n) H:=by
 erw[λi m ys c=>m=n - i/\i<=n/\∃d:Zn,ys=d.map V.ref/\aq H c/\bX c d ((List.range i).map λi:Nat=>[lo+ (i:Int)]),⟨n,by simp,ahd _,[],2,λ_ _ e=>e,⟨2,λi a u p=>by simp at p⟩⟩];rintro i m ys c ⟨rfl,v,d,rfl,s2,g⟩;let h:⇑d=i:=by have:=g.1;rw[agH,ahp]at this;rwa[this]
 cases f:i<n
 ·rwa[.inr ⟨f,[agH,h]▸agO (show i<=1000 by omega) ⋯,λx o s=>?_⟩];let⟨rfl,rfl⟩:=s;rwa[t i o _ f λq j=>?_]
  erw[n - (i+ 1),32,f,d++[q],by cbv,s2.trans (aq.upd j)];rw[ahR,ahi];rwa[(g.same (aq.upd j)).snoc ah]
 ·let e:i=n:=∅
  subst e;rwa[.inl ⟨agJ _,[agH,h]▸agT (show i<=1000 by omega) ⋯,λb l=>k b c d s2 l g⟩]
def u9 {f:Zn}{d e:Za3}(h:bX H F d)(c:bX H f e):bX H (F++f) (d++e):=by
 rwa[⟨by rw[agF,agF,h.1,c.1],λi p w b a=>?_⟩];cases g:i<⇑F
 ·rw[agN g]at b;rw[agN (by rw[<-h.1];rwa[g])]at a;rwa[h.2 i p w b a]
 ·rw[agR ∅]at b;rw[agR (by rw[<-h.1];omega),<-h.1]at a;rwa[c.2 _ p w b a]
def Cq (w:Zg)(n:Nat):(List.replicate n (ao w)).flatten=ao ((List.replicate n w).flatten):=by
 induction n with
 |zero=>rfl
 |succ n a=>rw[aiI,ai2,a,aiI,ai2,ints_app]
def Cr {w:Zg}(h:z∈(List.replicate n w).flatten):z∈w:=by
 let⟨u,a,b⟩:=List.mem_flatten.mp h
 cbv
def y6 (w:Zg)(n:Nat):(List.replicate n w).flatten.length=⇑w* n:=by
 induction n with
 |zero=>rfl
 |succ n a=>rw[aiI,ai2,agF,a,Nat.mul_succ];ext
theorem Ct {a:Type}(g:Nat->a->Nat)(w:List a):∀(n x:Nat),((List.replicate n w).flatten).foldl g x=M17.it (λx=>w.foldl g x) n x
 |0,x=>rfl
 |n+ 1,x=>by
  let e:=M17.vI (λx=>w.foldl g x) 1 n x;rw[show n+ 1=1+ n by ext,e,show 1+ n=n+ 1 by ext,aiI,ai2,aiH,Ct g w n];rfl
def Cu (rows:Za3)(p:Nat)(u:Zg):Prop:=M11.bE ⇑rows u/\⇑u<=60/\∀x,x<p->u.foldl (sf rows) x=x
inductive EI (vs:Zb) (H:Hp) (Q:VK) (E_:XK):Prop
 |mk (ta:Zs) (rows:Za3) (p:Nat) (z wO:Int):vs=[↑ta,.int ⇑rows,.int z,.int wO]->wO<=60->TabAt H ta rows->1<=⇑rows->⇑rows<=3->(∀r∈rows,M11.Pm p r)->p<=6->(∀l R H',aq H H'->b8 H' l R->(∀u∈R,Cu rows p u)->⇑R<=21->H l=none->Q ↑l H')->EI vs H Q E_
def zy (T:Txt K mg A):T.pZ.Ok P w base 3 EI:=by
 rwa[T.pZ.on cW (λcz AA outer s H vs Q E hr h=>?_)]
 ·let⟨ta,rows,p,z0,wO,rfl,afq,NB,mU,X3,wY,wX,k⟩:=h
  refine⟨_,(ai (kj (iy:=4) cW.nd rfl (Or.inl rfl) (fns:=[]) (ixs:=[]) (cl:=[]) rfl (kA rfl T.eI (ae ax (ae (aP cZ (pv 1) ax) aj))) (lC (by decide) (by decide) rfl (by decide) rfl) (λC s H ex=>(cP (ae (pv 0) aj))))
   (ai (cK ag9 rfl (kA rfl T.eI (ae ax (ae (aP cZ (pv 1) ax) aj))) (dz 5 cW.nd)
    (au (cK ag9 rfl (kA rfl T.eI (ae ax (ae (pv 5) aj))) (dz 6 cW.nd)
     (au (bH 4 cW.nd (aP zY (pv 4) (bT (ae (cP (ae (pv 6) (ae (pv 5) aj))) (ae (cP (ae (pv 6) (ae (e8 dE (pv 5)) aj))) (ae (cP (ae (pv 6) (ae (pv 5) (ae (e8 dE (pv 6)) (ae (e8 dE (pv 5)) aj))))) aj))))))))))
   (ai (bH 7 cW.nd (bT aj))
   (ai (cK ag9 rfl (cX (pv 4)) (dz 8 cW.nd)
    (ai (bH 9 cW.nd (pc T.ko (pA T) hr (ae (pv 0) (ae (qh rfl rfl T.iR rfl T.eI (ae (bz bf rfl T.cR ahl (ae (bC bu (pv 0) ax (λ_ _=>rfl)) aj)) aj)) (ae (pv 8) aj)))))
    (ai (bP (bJ (PW.pt (vf (aZ zD (aP bV (pv 2) ax) ax (bh _)) (sJ (aZ UT (aP lU (bz bf rfl T.cR ahl (ae (pv 8) aj)) (pv 9)) (pv 3) (bh _)))))
     (ai (aV (cH agQ ag0 ag2 bO (pv 7) (ae (aP Dz (pv 8) (pv 9)) aj)))
     (au (bH 3 cW.nd (aP jF (pv 3) (aP lU (bz bf rfl T.cR ahl (ae (pv 8) aj)) (pv 9))))))
     bj))
    (au (bH 2 cW.nd (aP dG (pv 2) ax))))))
   (au (bx (pv 7))))))),?_⟩
  rwa[uC ?_];intro nH jA fX gH;let⟨Um,aak,m⟩:=id NB;let U:0<⇑rows:=∅
  let c0:rows[0]?=some rows[0]:=agG U
  let Y:=wY _ (agC c0);change rows[0]=aal at c0 Y;let d0:Um[0]?\(Um[0]'(by rw[m.1];omega)):=agG (by rw[m.1];omega)
  change Um[0]'([m.1]▸U)=Uo at d0;let aam:=m.2 0 Uo aal d0 c0;erw[121122,(1),(⇑rows:Int)+ 1,2,⟨3333⟩];rwa[Jf 1 (n:=((⇑rows:Int)+ 1 - 1).toNat) ∅ (λi H2 R hi hR=>⟨12,by show 1<=sizeLine;decide,λq hq=>hR q hq⟩) (λd H1 c s1 hlw A0=>?_)];let Uq:aq H1 (upd H1 d (.lst (c.map V.ref))):=aq.upd hlw;let h2:upd H1 d (.lst (c.map V.ref)) d\(.lst (c.map V.ref)):=ah;change upd H1 d (.lst (c.map V.ref))=H2 at Uq h2 ⊢;let X:=A0.same Uq
  let X4:∀u∈(List.range ((⇑rows:Int)+ 1 - 1).toNat).map (λi:Nat=>[(1:Int)+ (i:Int)]),M11.bE ⇑rows u/\⇑u<=4:=λu g=>by
   let⟨i,hi,rfl⟩:=ahu.mp g;have:=ahj.mp hi;rwa[λs l=>[agK.mp l]▸⟨33⟩,by show 1<=4;decide]
  let WO:⇑((List.range ((⇑rows:Int)+ 1 - 1).toNat).map (λi:Nat=>[(1:Int)+ (i:Int)]))<=3:=by rw[agH,ahp];ext
  change (List.range ((⇑rows:Int)+ 1 - 1).toNat).map (λi:Nat=>[(1:Int)+ (i:Int)])=W0 at X X4 WO;let s02:=s1.trans Uq;erw[121122,(2),(⇑rows:Int)+ 1,2,⟨3333⟩];rwa[jk (lo:=2) (n:=((⇑rows:Int)+ 1 - 2).toNat) (λi v D=>∃(d:Zs) (c:Zn) (f:Za3) (v5 I:Zc),v=#v[↑ta,.int (⇑rows:Int),.int z0,.int wO,↑d,v5,I,none,none,none]/\aq H D/\D d\.lst (c.map V.ref)/\bX D c f/\(∀u∈f,M11.bE ⇑rows u/\⇑u<=4)/\⇑f<=3+ 9* i) ⟨d,c,W0,none,none,2,s02,h2,X,X4,3⟩ ?_ ?_]
  ·rintro i v D hi ⟨d,c,f,v5,I,rfl,s3,h3,t3,Ur,hl3⟩;erw[12,(1),2+ (i:Int),2,⟨3333⟩];rwa[jk (lo:=1) (n:=(2+ (i:Int) - 1).toNat) (λn v S=>∃(d:Zs) (c:Zn) (f:Za3) (I:Zc),v=#v[↑ta,.int (⇑rows:Int),.int z0,.int wO,↑d,.int (2+ (i:Int)),I,none,none,none]/\aq H S/\S d\.lst (c.map V.ref)/\bX S c f/\(∀u∈f,M11.bE ⇑rows u/\⇑u<=4)/\⇑f<=3+ 9* i+ 3* n) ⟨d,c,f,I,2,s3,h3,t3,Ur,3⟩ ?_ ?_]
   ·rintro n v S hn ⟨d,c,f,I,rfl,s4,h4,t4,Us,hl4⟩;rwa[⟨121212,by show 2<=sizeLine;decide,λO Iu=>?_⟩];let s5:=aq.upd (o:=.tup [.int (1+ (n:Int)),.int (2+ (i:Int))]) Iu;let a5:upd S O (.tup [.int (1+ (n:Int)),.int (2+ (i:Int))]) O\(.tup (ao [1+ (n:Int),2+ (i:Int)])):=ah;change upd S O (.tup [.int (1+ (n:Int)),.int (2+ (i:Int))])=j at s5 a5 ⊢;rwa[⟨121212,by show 2<=sizeLine;decide,λN BI=>?_⟩];let s6:=aq.upd (o:=.tup [.int (1+ (n:Int)),.int (-(2+ (i:Int)))]) BI;let a6:upd j N (.tup [.int (1+ (n:Int)),.int (-(2+ (i:Int)))]) N\(.tup (ao [1+ (n:Int),-(2+ (i:Int))])):=ah;change upd j N (.tup [.int (1+ (n:Int)),.int (-(2+ (i:Int)))])=H6 at s6 a6 ⊢;rwa[⟨121212121212,by show 4<=sizeLine;decide,λL hq3=>?_⟩];let s7:=aq.upd (o:=.tup [.int (1+ (n:Int)),.int (2+ (i:Int)),.int (-(1+ (n:Int))),.int (-(2+ (i:Int)))]) hq3;let a7:upd H6 L (.tup [.int (1+ (n:Int)),.int (2+ (i:Int)),.int (-(1+ (n:Int))),.int (-(2+ (i:Int)))]) L\(.tup (ao [1+ (n:Int),2+ (i:Int),-(1+ (n:Int)),-(2+ (i:Int))])):=ah;change upd H6 L (.tup [.int (1+ (n:Int)),.int (2+ (i:Int)),.int (-(1+ (n:Int))),.int (-(2+ (i:Int)))])=H7 at s7 a7 ⊢;rwa[⟨by show 3<=sizeLine;decide,λql BJ=>?_⟩];let s8:=aq.upd (o:=.lst [↑O,↑N,↑L]) BJ;let a8:upd H7 ql (.lst [↑O,↑N,↑L]) ql\(.lst ([O,N,L].map V.ref)):=ah;change upd H7 ql (.lst [↑O,↑N,↑L])=H8 at s8 a8 ⊢;let Ut:=((s5.trans s6).trans s7).trans s8
    let t8:bX H8 [O,N,L] [[1+ (n:Int),2+ (i:Int)],[1+ (n:Int),-(2+ (i:Int))],[1+ (n:Int),2+ (i:Int),-(1+ (n:Int)),-(2+ (i:Int))]]:=by
     let b0:bX H8 [] []:=⟨2,λi p w h1=>by simp at h1⟩;rwa[((b0.snoc (s8^s7^s6^a5)).snoc (s8^s7^a6)).snoc (s8^a7)]
    let oJ:⇑c=⇑f:=t4.1;rwa[⟨d,ql,1122,Ut^h4,a8,5,λl9 Ny=>?_⟩]
    ·rw[agH,agH];rwa[agT (show ⇑c+ 3<=1000 by omega) ⋯]
    erw[l9,c++[O,N,L],112,(s4.trans Ut).trans (aq.upd Ny),by rw[ah,ahi],(u9 (t4.same Ut) t8).same (aq.upd Ny),λu g=>?_]
    ·rcases agS.mp g with g|g
     ·rwa[Us u g]
     ·let ok:∀s:Int,s=1+ (n:Int)\/s=2+ (i:Int)\/s= -(1+ (n:Int))\/s= -(2+ (i:Int))->s≠0/\s.natAbs<=⇑rows:=λs l=>by
       rcases l with rfl|rfl|rfl|rfl
       ·rwa[⟨by ext,by ext⟩]
       ·rwa[⟨by ext,by ext⟩]
       ·rwa[⟨by ext,by ext⟩]
       ·rwa[⟨by ext,by ext⟩]
      simp only[agW,ahx,aiR]at g;rcases g with rfl|rfl|rfl
      ·rwa[⟨λs l=>ok s ?_,by show 2<=4;decide⟩];simp only[agW,ahx,aiR]at l;rcases l with h|h
       ·rwa[.inl h]
       ·rwa[.inr (.inl h)]
      ·rwa[⟨λs l=>ok s ?_,by show 2<=4;decide⟩];simp only[agW,ahx,aiR]at l;rcases l with h|h
       ·rwa[.inl h]
       ·rwa[.inr (.inr (.inr h))]
      ·rwa[⟨λs l=>ok s ?_,by show 4<=4;decide⟩];simp only[agW,ahx,aiR]at l;rwa[l]
    ·rw[agF];simp only[aha,aih];ext
   ·rintro v S ⟨d,c,f,I,rfl,s4,h4,t4,Us,hl4⟩;rwa[d,c,f,112,s4,h4,t4,Us,3]
  rintro v D ⟨d,c,f,v5,I,rfl,s3,h3,t3,Ur,hl3⟩;rwa[⟨ahd _,λF Ca=>?_⟩];let Uu:aq D (upd D F (.lst [])):=aq.upd Ca;let h4:upd D F (.lst []) F\(.lst (([]:Zn).map V.ref)):=ah;change upd D F (.lst [])=S at Uu h4 ⊢;erw[12,d,2,⟨_,aD.of (Uu^h3)⟩];rwa[eP (K:=K) (a:=d) (xs:=c.map V.ref) (λn v j=>∃(fs:Zn) (R:Za3) (zm z:Int) (v8 v9:Zc),v=#v[↑ta,.int (⇑rows:Int),.int zm,.int z,↑d,v5,I,↑F,v8,v9]/\aq D j/\j F\.lst (fs.map V.ref)/\bX j fs R/\(∀u∈R,Cu rows p u)/\⇑R<=n/\z<=60) ⟨[],[],z0,wO,none,none,2,Uu,h4,⟨2,λi p w h1=>by simp at h1⟩,(λu g=>by ext g),ahd _,3⟩ (λn v j _ ζ=>by let⟨_,_,_,_,_,_,_,s,_⟩:=ζ;rwa[aD.of (s^h3)]) ?_ ?_]
  ·rintro n y v j hn ⟨fs,R,zm,z,v8,v9,rfl,s5,h5,t5,G,NC,Jg⟩;rw[agY]at hn
   let Iw:n<⇑c:=by
    cases e:c[n]? with
    |none=>rw[e]at hn;ext hn
    |some r=>cbv
   let g1:c[n]?=some c[n]:=agG Iw
   rw[g1]at hn;let ey:V.ref c[n]=y:=Za0 hn;subst ey;change c[n]=wa at g1;let oJ:⇑c=⇑f:=t3.1;let g2:f[n]?\(f[n]'∅):=agG ∅
   change f[n]'∅=w at g2;let sD:=t3.2 n wa w g1 g2;let⟨Nb,WY⟩:=Ur w (agC g2);let Uv:=s3.trans s5;let VW:=Uv^aak;rwa[⟨1212,ta,11,↑Uo,22,aD.of VW,dF (i:=0) d0,Uo,12,.inl (aD.of (Uv^aam)),p,by rw[aI,Y.1],3,λlp hlp=>?_⟩];let J:aq j (upd j lp (.lst (ao (eK 0 p)))):=aq.upd hlp;let h6:upd j lp (.lst (ao (eK 0 p))) lp\(.lst (ao (eK 0 p))):=ah;change upd j lp (.lst (ao (eK 0 p)))=H6 at J h6 ⊢;rw[PB]at h6;rwa[⟨12,ta,lp,wa,rows,p,List.range p,w,2,NB.same (Uv.trans J),wY,wX,h6,λx hx=>ahj.mp hx,[ahp]▸wX,J^s5^sD,Nb,3,λon H7 ho1 Ub Uw _ s67=>?_⟩];let M:=J.trans s67;let t:=M^s5^sD;let h7:=M^h5;let t7:=t5.same M;let Z:=s5.trans M;erw[λ fm H'=>∃(fs:Zn) (R:Za3) (z:Int),fm=#v[↑ta,.int (⇑rows:Int),.int zm,.int z,↑d,v5,I,↑F,↑wa,.int (on:Int)]/\aq D H'/\H' F\.lst (fs.map V.ref)/\bX H' fs R/\(∀u∈R,Cu rows p u)/\⇑R<=n+ 1/\z<=60,5]
   ·rwa[⟨121122,(by show (0:Int)<3;decide),112212,bW (λ_=>?_) (λ_=>dY ⟨fs,R,z,2,Z,h7,t7,G,3,Jg⟩)⟩];rwa[⟨12,wa,12,.inr (bN.of t),121122,.inr ⟨33⟩,12112212,bW (λh=>?_) (λ_=>⟨fs,R,z,2,Z,h7,t7,G,3,Jg⟩)⟩];let hle:(⇑(ao w):Int)* (on:Int)<=z:=ahn h;rw[aI]at hle
    let hmul:⇑w* on<=60:=by
     have:((⇑w* on:Nat):Int)=(⇑w:Int)* (on:Int):=Int.natCast_mul ..;ext
    rwa[⟨12,.inl ⟨21,aD.of h7⟩,1212,wa,1122,t,335,λq8 H8 B h8=>?_⟩]
    ·rw[aI,ahg];rwa[agT hmul ⋯]
    rw[ahg,Cq]at h8;let Ux:=B^h7;let Nc:⇑fs=⇑R:=t5.1;erw[F,1122,Ux,5]
    ·rw[agH];rwa[agO (show ⇑fs<=1000 by omega) ⋯]
    let aan:upd H8 F (.lst (fs.map V.ref++[V.ref q8])) wa\(.tup (ao w)):=by
     rw[ak (bY (B^t) Ux (by cbv))];rwa[B^t]
    erw[1212,wa,12,.inr (bN.of aan),121122,.inr ⟨33⟩,1122];erw[fs++[q8],R++[(List.replicate on w).flatten],12,λb o e=>[ak (av e Ca)]▸B^Z^e,by rw[ah,ahi];rfl,u6 ((t7.same B).snoc h8) Ux,λu g=>?_,by rw[agF];simp only[aha,aih];ext]
    ·rcases agS.mp g with g|g
     ·rwa[G u g]
     ·rw[agK.mp g];rwa[λs l=>Nb s (Cr l),by rw[y6];ext,λx hx=>[Ct]▸Uw x (ahj.mpr hx)]
    cbv
   rintro fm H8 ⟨fs,R,z,rfl,s8,h8,t8,hR8,aao,aap⟩;rwa[121122,⟨44⟩,fs,R,_,z,112,s8,h8,t8,hR8,aao,aap]
  ·rintro v j ⟨fs,R,zm,z,v8,v9,rfl,s5,h5,t5,G,NC,Jg⟩;let oJ:⇑c=⇑f:=t3.1;rw[agH]at NC;rwa[12,k F R j (s3.trans s5) ⟨fs,h5,t5⟩ G ∅ (same_none s3 Ca)]
def Jh (rows:Za3)(x:Nat)(u:Zg):Prop:=M11.bE ⇑rows u/\⇑u<=1000/\u.foldl (sf rows) x=x
inductive Ji (K:Za1) (vs:Zb) (H:Hp) (Q:VK) (E_:XK):Prop
 |mk (a ta:Zs) (ns:Zg) (rows:Za3) (p x:Nat):vs=[↑a,↑ta,.int ⇑rows,.int x]->aD K H a (ao ns)->⇑ns<=63->TabAt H ta rows->1<=⇑rows->⇑rows<=3->(∀r∈rows,M11.Pm p r)->p<=6->x<p->(∀l P H',aq H H'->b8 H' l P->(∀u∈P,Jh rows x u)->⇑P<=3->Q ↑l H')->Ji K vs H Q E_
structure lz (H H':Hp) (l:Zs) (L n m:Nat) (Ws:Za3):Prop where
 s:aq H H'
 f:H l=none
 h:b8 H' l Ws
 w:∀u∈Ws,M11.bE L u/\⇑u<=m
 c:⇑Ws<=n
def lz.same {b:Za3}(h:lz H I a n m i b)(s:aq I J):lz H J a n m i b:=⟨h.s.trans s,h.f,h.h.same s,h.w,h.c⟩
def lz.le {n' m':Nat}{b:Za3}(h:lz H I a n m i b)(e:m<=n')(d:i<=m'):lz H I a n n' m' b:=⟨h.s,h.f,h.h,λu c=>⟨(h.w u c).1,agT (h.w u c).2 d⟩,agT h.c e⟩
def lz.add {q:Zs}{f:Za3}{u:Zg}(h:lz H I a n m i f)(j:I q\.tup (ao u))(l:M11.bE n u/\⇑u<=i):∃c:Zn,I a\.lst (c.map V.ref)/\⇑c<=m/\lz H (upd I a (.lst (c.map V.ref++[↑q]))) a n (m+ 1) i (f++[u]):=by
 let⟨c,g,d⟩:=h.h;rwa[⟨c,g,[d.1]▸h.c,λb o e=>[ak (av e h.f)]▸h.s^e,h.f,⟨c++[q],by rw[ah,ahi];rfl,u6 (d.snoc j) g⟩,λv k=>?_,by rw[agF];have:=h.c;show _+ 1<=_;ext⟩];rcases agS.mp k with y|y
 ·rwa[h.w v y]
 ·rw[agK.mp y];rwa[l]
def lz.ins {K:Za1}{b:Za3}(h:lz H I a n m i b):LY K "list" ↑a I:=by
 let⟨d,c,_⟩:=h.h;rwa[.inl ⟨21,aD.of c⟩]
def Cv (T:Txt K mg A):T.rZ.Ok P w base 3 (Ji K):=by
 rwa[T.rZ.on gG (λcz AA outer s H vs Q E M h=>?_)]
 ·let⟨a,Y,ns,rows,p,x,rfl,ha,X5,hT,mU,X3,N,wX,J,k⟩:=h;let O:=Nat.lt_of_succ_lt (hV M)
  erw[_,(ai (bH 4 gG.nd (aP bV (pc T.bM (bG T) M (ae (pv 0) (ae ax aj))) ax))
   (ai (bH 5 gG.nd (bT aj))
   (ai (bP (bJ (PW.pt (UI (aZ fb (pv 4) ax (bh _)) (P1 (aZ fb (pv 4) ax (bh _)))))
    (au (aV (cH agQ ag0 ag2 bO (pv 5) (ae (cP (ae (aP cZ ax (aP bV (aP dG (pc T.bM (bG T) M (ae (pv 0) (ae ax aj))) ax) (pv 2))) aj)) aj))))
    bj))
   (ai (bP (bJ (aZ fb (pv 4) ax (bh _))
    (au (aV (cH agQ ag0 ag2 bO (pv 5) (ae (cP (ae (bC gj (bC bu (pv 5) ax (λ_ _=>rfl)) ax (λ_ _=>rfl)) (ae (aP jF (e8 dE ax) (aP bV (aP dG (pc T.bM (bG T) M (ae (pv 0) (ae ax aj))) ax) (pv 2))) aj))) aj))))
    bj))
   (ai (bP (bJ (aZ fb (pv 4) ax (bh _))
    (ai (bH 6 gG.nd (cP aj))
    (ai (cK ag9 rfl (cX (pF Dx (pv 0) (om ax) (om ax))) (dz 7 gG.nd)
     (au (bH 6 gG.nd (aP JM (pv 6) (cP (ae (pc T.rY (Ce T) M (ae (aP bV (aP lU (pv 7) ax) ax) (ae (pv 2) aj))) aj))))))
    (au (bP (bJ (aZ (N1 O) (pv 6) (cP aj) (bh _))
     (au (aV (cH agQ ag0 ag2 bO (pv 5) (ae (pv 6) aj))))
     bj)))))
    bj))
   (au (bx (jc (fns:=["_law_turns","_law_first"]) (ixs:=[1,3]) (cl:=_) rfl (cX (pv 5)) (jK rfl rfl rfl ⋯ rfl ⋯ rfl ⋯ ⋯ rfl rfl rfl rfl rfl rfl rfl) (λC s H ex=>(aP Dz (pv 0) (pc T.ko (pA T) M (ae (pv 1) (ae (bT (ae (pv 2) aj)) (ae (pv 0) aj))))))))))))))]
  rwa[pL ?_];intro qF nH jA fX gH;rwa[⟨12,a,ns,(6),2,ha,4,λz=>⟨1122,(by show (0:Int)<4;decide),5⟩⟩];obtain⟨y,m⟩:∃y,z % 4=y:=⟨12⟩;rw[show V.int (z % 4)=V.int y from ahS V.int m];clear m;rwa[⟨ahd _,λl nl=>?_⟩];let w0:lz H (upd H l (.lst [])) l ⇑rows 0 1 []:=⟨aq.upd nl,nl,⟨[],ah,2,λi p w h=>by simp at h⟩,(λu O=>by ext O),agJ _⟩;change upd H l (.lst [])=H1 at w0 ⊢;let md:∀z:Int,0<=z % (⇑rows:Int)/\z % (⇑rows:Int)<⇑rows:=λz=>⟨aif _ ∅,ah3 _ ∅⟩
  erw[λ d r=>∃g,d=#v[↑a,↑Y,.int ⇑rows,.int x,.int y,↑l,none,none]/\lz H r l ⇑rows 1 2 g/\(y=2->∃s,g=[[s]]),5]
  ·erw[12212];rwa[bW (λL=>jI ?_) (λL=>⟨12212,bW (λh2=>?_) (λh2=>⟨[],2,w0.le ⋯ ⋯,λe=>absurd (by rw[e];rfl) h2⟩)⟩)]
   all_goals
    rwa[⟨12,w0.ins,12,a,ns,(6),2,w0.s.seq ha,4,λz1=>⟨1122,⟨44⟩,12112231122,(Za4 1),λq hq=>?_⟩⟩];let sq:=aq.upd (o:=.tup [.int (1+ z1 / 24 % (⇑rows:Int))]) hq;have:=md (z1 / 24);let⟨f,j,g2,g3⟩:=(w0.same sq).add (q:=q) (u:=[1+ z1 / 24 % (⇑rows:Int)]) ah ⟨λs B=>[agK.mp B]▸⟨33⟩,agJ _⟩;rwa[l,1122,j,[agH]▸agO (show ⇑f<=100 by omega) ⋯,12,g3.le ⋯ ⋯,λ_=>⟨12⟩]
  rintro d R ⟨g,rfl,U,m⟩;erw[λ d r=>∃g,d=#v[↑a,↑Y,.int ⇑rows,.int x,.int y,↑l,none,none]/\lz H r l ⇑rows 2 2 g,5]
  ·erw[12212];rwa[bW (λL=>?_) (λL=>⟨g,2,U.le ⋯ ⋯⟩)];let h1':V.int y=V.int 2:=ahn L;let⟨s0,rfl⟩:=m (by injection h1');let⟨f,j,g2⟩:=id U.h
   obtain⟨Z,rfl⟩:∃Z,f=[Z]:=by
    have:=g2.1
    match f,this with
    |[Z],_=>cbv
   let g3:R Z\(.tup (ao [s0])):=g2.2 0 Z _ rfl rfl;let hs0:=(U.w _ (agK.mpr rfl)).1 s0 (agK.mpr rfl);rwa[⟨12,U.ins,12,l,11122,aD.of j,2,Z,11122,bN.of g3,21212,a,ns,(7),2,U.s.seq ha,4,λz1=>⟨1122,⟨44⟩,121122,(by show (0:Int)<(⇑rows:Int);omega),1122,(Za4 2),λq hq=>?_⟩⟩];let sq:=aq.upd (o:=.tup [.int s0,.int (-1 - z1 / 192 % (⇑rows:Int))]) hq;have:=md (z1 / 192)
   let⟨f,j,g2,g3⟩:=(U.same sq).add (q:=q) (u:=[s0,-1 - z1 / 192 % (⇑rows:Int)]) ah ⟨λs B=>by
    rcases agW.mp B with rfl|B
    ·rwa[hs0]
    ·rw[agK.mp B];rwa[33],agJ _⟩
   rwa[l,1122,j,[agH]▸agO (show ⇑f<=100 by omega) ⋯,12,g3]
  rintro d H3 ⟨Ws3,rfl,w3⟩;clear U m w0 g;erw[λ d r=>∃g v6 I,d=#v[↑a,↑Y,.int ⇑rows,.int x,.int y,↑l,v6,I]/\lz H r l ⇑rows 3 63 g,5]
  ·erw[12212];rwa[bW (λL=>?_) (λL=>⟨Ws3,112,w3.le ⋯ ⋯⟩)];rwa[⟨ahd _,λt nt=>?_⟩];let st:=aq.upd (o:=.tup []) nt;let qt:upd H3 t (.tup []) t\(.tup (ao [])):=ah;change upd H3 t (.tup [])=H4 at st qt ⊢;rwa[⟨121212,a,12,(w3.s.trans st).seq ha,λb nb=>?_⟩]
   obtain⟨ms,em,hm⟩:∃ms:Zg,gP (ao ns) (some 8) (some 63)=ao ms/\⇑ms<=63:=by
    erw[(ns.drop (HT.b6 ⇑(ao ns) 0 (some 8))).take (HT.b6 ⇑(ao ns) ⇑(ao ns) (some 63) - HT.b6 ⇑(ao ns) 0 (some 8)),by unfold gP ao;rw[List.map_take,List.map_drop]];rw[ahm,ahG];ext
   rw[em];let sb:=aq.upd (o:=.lst (ao ms)) nb;let qb:upd H4 b (.lst (ao ms)) b\(.lst (ao ms)):=ah;change upd H4 b (.lst (ao ms))=X at sb qb ⊢;erw[b,2,⟨_,aD.of qb⟩];rwa[eP (K:=K) (a:=b) (xs:=ao ms) (λi σ r=>∃(t:Zs) (u:Zg) (I:Zc),σ=#v[↑a,↑Y,.int ⇑rows,.int x,.int y,↑l,↑t,I]/\aq X r/\r t\.tup (ao u)/\⇑u=i/\M11.bE ⇑rows u) ⟨t,[],none,2,aq.refl _,sb^qt,2,(λs B=>by ext B)⟩ (λi σ r _ ζ=>by let⟨_,_,_,_,s,_⟩:=ζ;rwa[aD.of (s^qb)]) ?_ ?_]
   ·rintro i v σ H6 F ⟨t,u,I,rfl,s6,q6,hl,O⟩;let⟨z1,rfl,hz⟩:=cI F;let T7:=(agE.mp hz).1;rwa[⟨12121122,.inr ⟨44⟩,1122,(by show (0:Int)<2147483647;decide),121,⇑rows,2,mU,3,λs L h2=>⟨(Za4 1),λu' nu=>?_⟩⟩];rwa[⟨t,u',1122,aq.upd nu _ _ q6,ah,5,λp' H7 s7 e7=>?_⟩]
    ·rw[aI];rwa[agT (show ⇑u+ 1<=100 by omega) ⋯]
    rwa[⟨p',u++[s],12,s6.trans ((aq.upd nu).trans s7),[ints_app]▸e7,by rw[agF,hl];rfl,λx J=>?_⟩];rcases agS.mp J with q|q
    ·rwa[O x q]
    ·rw[agK.mp q];rwa[L,h2]
   rintro σ H6 ⟨t,u,I,rfl,s6,q6,hl,O⟩;rw[aI]at hl;let w6:=w3.same ((st.trans sb).trans s6);rwa[⟨λ d r=>∃g v6 I,d=#v[↑a,↑Y,.int ⇑rows,.int x,.int y,↑l,v6,I]/\lz H r l ⇑rows 3 63 g,5,λ_ _ z=>z⟩];rwa[⟨12,ahd _,λe0 IZ=>?_⟩];let se:=aq.upd (o:=.tup []) IZ;let w7:=(w6.same se).le (n':=2) (m':=63) ⋯ ⋯;erw[t,e0,u,[],22,bN.of (se^q6),bN.of ah,12];rwa[bW (λ_=>?_) (λ_=>⟨1112,w7.le ⋯ ⋯⟩)];let⟨f,j,g2,g3⟩:=w7.add (q:=t) (u:=u) (se^q6) ⟨O,3⟩;rwa[12,w7.ins,12,l,1122,j,[agH]▸agO (show ⇑f<=100 by omega) ⋯,1112,g3]
  rintro d H4 ⟨g,v6,I,rfl,w4⟩;let⟨f,j,g2⟩:=id w4.h;let BJ:⇑f<=3:=by rw[g2.1];rwa[w4.c]
  erw[12,l,2,⟨_,aD.of j⟩];rwa[m4 ⇑f (λi=>(f.map V.ref).getD i .non) (λR v i=>∃p,v=↑p/\∃w,R p\.tup (ao w)/\Jh rows x w) (λH1 R v i s ζ=>by let⟨p,e,w,q,o⟩:=ζ;rwa[⟨p,e,w,s^q,o⟩]) (agT BJ ⋯) (λi R s2 F=>kH (aD.of (s2^j)) i ([agH]▸F)) (λi v R H3 s2 F y=>?_) (λR s2=>?_) (λi X Rr F s5 kk=>?_) (λD X ys s5 hD TV M=>?_)]
  ·let⟨e1,e2⟩:=jl (aD.of (s2^j)) i v H3 ([agH]▸F) y;rwa[e1,by rw[agM,e2];rfl]
  ·have:=ig (K:=K) (aD.of (K:=K) (s2^j));rw[agH]at this;rwa[this]
  ·let e1:f[i]?=some f[i]:=agG F
   let e2:g[i]?\(g[i]'(by rw[<-g2.1];rwa[F])):=agG (by rw[<-g2.1];rwa[F])
   change f[i]=wa at e1;change g[i]'(by cbv)=u at e2;let sD:=g2.2 i wa u e1 e2;let⟨G,qG⟩:=w4.w u (agC e2);rw[show (f.map V.ref).getD i .non=V.ref wa by rw[agM,agY,e1];rfl];rwa[⟨121212,(Za4 1),λl1 n1=>?_⟩];let s1:=aq.upd (o:=.lst [.int (x:Int)]) n1;let q1:upd X l1 (.lst [.int (x:Int)]) l1\(.lst (ao (gL [x]))):=ah;change upd X l1 (.lst [.int (x:Int)])=H6 at s1 q1 ⊢;let S:=s5.trans s1;rwa[⟨12,Y,l1,wa,rows,p,[x],u,2,(hT.same w4.s).same S,N,wX,q1,λy m=>[agK.mp m]▸J,by show 1<=6;decide,S^sD,G,3,λn H7 hn1 Xk Ua hn4 s7=>?_⟩];let hf1:∀x,x<p->u.foldl (sf rows) x<p:=λx J=>Gi N G J
   let Cb:∀x y,x<p->y<p->u.foldl (sf rows) x=u.foldl (sf rows) y->x=y:=λx y J m e=>Ck N G J m e
   let⟨c,mj,Ml,X2⟩:=M17.ring hf1 Cb J
   let hn6:n<=6:=by
    rcases aiS c n with q|q
    ·rwa[absurd (λy m=>by rw[agK.mp m];rwa[X2]) (hn4 c mj q)]
    ·ext
   let hmul:⇑u* n<=1000:=agT (ajM qG hn6) (by decide);rwa[⟨wa,1122,s7^S^sD,335,λq8 H8 s8 h8=>?_⟩]
   ·rw[aI,ahg];rwa[agT hmul ⋯]
   rw[ahg,Cq]at h8;rwa[kk _ _ ((s1.trans s7).trans s8) ⟨q8,21,h8,λs B=>G s (Cr B),by rw[y6];ext,[Ct]▸Ua x (agK.mpr rfl)⟩]
  let⟨pP,rfl,hqs⟩:=sX (P:=λ_ p=>∃w,X p\.tup (ao w)/\Jh rows x w) ys 0 (λi v hv=>M i v hv);let⟨ps,tP,oP⟩:=words_of λi p e=>hqs i p e
  rwa[k D ps _ ((w4.s.trans s5).trans (aq.upd hD)) ⟨pP,ah,tP.same (aq.upd hD)⟩ oP (by rw[<-tP.1];rw[agH]at TV;omega)]
inductive Cw (Pt cT:Zs) (vs:Zb) (H:Hp) (Q:VK) (E_:XK):Prop
 |mk (ru pa:Zs) (L lim w:Nat) (ot:Zh) (rs ps:Za3):vs=[.int L,↑ru,↑pa,.int lim,.str (tx ot)]->(ot=lL w\/ot=[]/\w=0)->w<3->1<=L->L<=40->1<=lim->lim<=300->b8 H ru rs->b8 H pa ps->(∀u∈rs++ps,Nu L u)->lim* ⇑rs+ ⇑ps<=700->⇑rs<=400->⇑ps<=400->dc Pt dU iz H->(∀q t tb pp S N H',Kp Pt H H'->dc Pt dU iz H'->Fl rs ps L w lim S->(∀c z,¬gW S L c z)->H' q\.tup [↑t,.non]->H' t\.tup [↑tb,↑pp]->TabAt H' tb (M24.eU (bA S) (2* S.L) (M24.aX (bA S) (2* S.L) 0 N))->⇑(M24.aX (bA S) (2* S.L) 0 N)=N->lM H' pp S->Q ↑q H')->(∀q x d pp S H',Kp Pt H H'->dc Pt dU iz H'->Fl rs ps L w lim S->S.q=lim->(∃c z,kx w S L c z)->H' q\.tup [.non,↑x]->H' x\XO x cT (some d) false->H' d\XD d (Jb S.q pp)->lM H' pp S->Q ↑q H')->Cw Pt cT vs H Q E_
def lM.same (h:lM H a S)(s:aq H I):lM I a S:=by
 let⟨b,f,c,g⟩:=h;rwa[b,s^f,c.imp (λp d _ _ e=>e.same s),g]
def ya (T:Txt K mg A)(u:j7 mg base):T.nT.Ok P w base 12 (Cw A.eD A.bD):=by
 rwa[T.nT.on dM (λcz AA outer s H vs Q E hr h=>?_)]
 ·let⟨ru,pa,L,f,n,ot,rs,ps,rfl,D,y,F,nF,yU,C,Y,Z,X,r,M,v,hT,kq,ke⟩:=h;let⟨tkd,hbd⟩:=T.fill.bd
  erw[_,(ai (bH 5 dM.nd du)
   (ai (bH 6 dM.nd du)
   (ai (bP (OW rfl rfl (Si (aZ fb (pv 4) (fA (l:=[]) rfl) (bh _)) (D0 (i:=5) dM.nd rfl (Or.inl rfl) (A1 (dvs:=[V.str (tx [114,111,111,109,115])]) (ED T u) hr.Za5 rfl T.fill.m T.fill.kp hbd (.cons ⟨12⟩ .nil) (ae (pv 0) (ae (pv 1) (ae (pv 2) (ae (pv 3) aj)))))) (D0 (i:=5) dM.nd rfl (Or.inl rfl) (A1 (ED T u) hr.Za5 rfl T.fill.m T.fill.kp T.fill.b .nil (ae (pv 0) (ae (pv 1) (ae (pv 2) (ae (pv 3) (ae (pv 4) aj))))))))
    (Sj (i:=7) dM.nd rfl rfl rfl T.yP (λ_=>(au (bH 6 dM.nd (pv 7))))
    Sl (by decide))))
   (au (bx (cP (ae (pv 5) (ae (pv 6) aj))))))))]
  rwa[gR ?_];intro jA fX gH;erw[λ U g=>Kp A.eD H g/\dc A.eD dU iz g/\∃B O,U=#v[.int L,↑ru,↑pa,.int f,.str (tx ot),some B,some O,none]/\((∃t p b S N,B=↑t/\O=.non/\Fl rs ps L n f S/\(∀c z,¬gW S L c z)/\g t\.tup [↑p,↑b]/\TabAt g p (M24.eU (bA S) (2* S.L) (M24.aX (bA S) (2* S.L) 0 N))/\⇑(M24.aX (bA S) (2* S.L) 0 N)=N/\lM g b S)\/∃x d b S,B=.non/\O=↑x/\Fl rs ps L n f S/\S.q=f/\(∃c z,kx n S L c z)/\g x\XO x A.bD (some d) false/\g d\XD d (Jb S.q b)/\lM g b S),5]
  ·erw[12212];rwa[bW (λh=>?_) (λh=>?_)]
   ·let e:ot=[]:=jC.mp (ahn h)
    let ew:n=0:=by
     rcases D with q|q
     ·rw[e]at q;rcases (show n=0\/n=1\/n=2 by omega) with rfl|rfl|rfl
      ·rfl
      ·rwa[absurd q (by decide)]
      ·rwa[absurd q (by decide)]
     ·rwa[q.2]
    subst ew;rwa[⟨12121212,ru,pa,L,f,(0),rs,ps,2,y,F,nF,yU,C,Y,Z,X,r,M,v,hT,λt p b S N g m t1 j J k a2 G I=>?_,λd b S g m t1 j R l1 k a2=>?_⟩]
    ·rwa[m,t1,↑t,.non,2,.inl ⟨t,p,b,S,N,22,j,J,k,a2,G,I⟩]
    ·rwa[⟨12,true,T.Wr,jI λx nx=>⟨125⟩⟩];let a:=aq.upd (o:=XO x A.bD (some d) false) nx;rwa[m.trans (.same a),t1.same a,.non,↑x,2,.inr ⟨x,d,b,S,22,j,R,l1,ah,a^k,a2.same a⟩]
   ·let e:ot=lL n:=D.elim id λq=>absurd (ahh (jC.mpr q.1)) h
    subst e;rwa[⟨1212121212,ru,pa,L,f,n,rs,ps,2,y,F,nF,yU,C,Y,Z,X,r,M,v,hT,λt p b S N g m t1 j J k a2 G I=>?_,λd b S g m t1 j R l1 k a2=>?_⟩]
    ·rwa[m,t1,↑t,.non,2,.inl ⟨t,p,b,S,N,22,j,J,k,a2,G,I⟩]
    ·rwa[⟨12,true,T.Wr,jI λx nx=>⟨125⟩⟩];let a:=aq.upd (o:=XO x A.bD (some d) false) nx;rwa[m.trans (.same a),t1.same a,.non,↑x,2,.inr ⟨x,d,b,S,22,j,R,l1,ah,a^k,a2.same a⟩]
  rintro U H1 ⟨m,t1,B,O,rfl,cs⟩;rwa[⟨1212,by show 2<=sizeLine;decide,λq nq=>?_⟩];let a:=aq.upd (o:=.tup [B,O]) nq;rcases cs with ⟨t,p,b,S,N,rfl,rfl,j,J,k,a2,G,I⟩|⟨x,d,b,S,rfl,rfl,j,R,l1,a0,k,a2⟩
  ·rwa[kq q t p b S N _ (m.trans (.same a)) (t1.same a) j J ah (a^k) (a2.same a) G (I.same a)]
  ·rwa[ke q x d b S _ (m.trans (.same a)) (t1.same a) j R l1 ah (a^a0) (a^k) (a2.same a)]
def PD (K:Za1):Sp:=λf H Q _=>∃(a:Zs) (ns:Zg),f=[↑a]/\aD K H a (ao ns)/\⇑ns<=63/\∀(l e c d:Zs) (rows:Za3) (p x:Nat) (R P:Za3) b,aq H b->b l\.tup [.int ⇑rows,↑e,↑c,↑d,.int x]->TabAt b e rows->1<=⇑rows->⇑rows<=3->(∀r∈rows,M11.Pm p r)->p<=6->x<p->b8 b c R->(∀u∈R,Cu rows p u)->⇑R<=23->b8 b d P->(∀u∈P,Jh rows x u)->⇑P<=3->Q ↑l b
def Uy (b:Bool):∃a:Int,iQ [V.int 36,V.int 60] (if b=true then 1 else 0)\.int a/\a<=60:=by
 ext b
 ·rwa[(36),24]
 ·rwa[(60),24]
def j2 (z:Int){n:Nat}(h:0<n):∃x:Nat,z % (n:Int)=(x:Int)/\x<n:=by
 let a:=aif z (show (n:Int)≠0 by omega);let b:=ah3 z (show (0:Int)<(n:Int) by omega);rwa[(z % (n:Int)).toNat,33]
theorem PF:∀j:Nat,j<4->∃L:Nat,([V.int 2,V.int 1,V.int 2,V.int 3])[j]?\V.int (L:Int)/\1<=L/\L<=3
 |0,_=>⟨(2),244⟩
 |1,_=>⟨(1),244⟩
 |2,_=>⟨(2),244⟩
 |3,_=>⟨(3),244⟩
theorem va {ws:Za3}(h:bX H F ws)(k n:Nat):bX H ((F.drop k).take n) ((ws.drop k).take n):=by
 rwa[⟨by rw[ahm,ahm,ahG,ahG,h.1],λi p w a c=>?_⟩];rw[List.getElem?_take]at a c;split at a
 ·rename_i b;rw[ag8 b,List.getElem?_drop]at c;rw[List.getElem?_drop]at a;rwa[h.2 _ p w a c]
 ·ext a
theorem Jj {R:Za3}(f:H a\.lst (F.map V.ref))(c:bX H F R)(e:H b\.tup (ao []))(i:Nat)(g:i<=⇑F):b8 (upd H a (.lst ((F.map V.ref).take i++[↑b]++(F.map V.ref).drop i))) a (R.take i++[[]]++R.drop i):=by
 let t1:bX H (F.take i) (R.take i):=by have:=va c 0 i;rwa [List.drop_zero,List.drop_zero]at this
 let d:bX H (F.drop i) (R.drop i):=by
  have:=va c i (⇑F - i)
  rwa [ajm ([ahG]▸agJ _),ajm ([ahG,c.1]▸agJ _)]at this
 rwa[⟨F.take i++[b]++F.drop i,by rw[ah,ahi,ahi,List.map_take,List.map_drop];rfl,u6 (u9 (t1.snoc e) d) f⟩]
def zz (T:Txt K mg A):T.p1.Ok P w base 4 (PD K):=by
 rwa[T.p1.on cw (λcz AA outer s H vs Q E t h=>?_) (len:=by rintro _ _ _ _ ⟨a,p,rfl,_⟩;rfl)]
 ·let⟨a,p,rfl,v,hlen,k⟩:=h
  erw[_,(ai (bH 1 cw.nd (sL fb (aP bV (pc T.bM (bG T) t (ae (pv 0) (ae ax aj))) ax) ax (bh _)))
   (ai (bH 2 cw.nd (aP cZ ax (aP bV (aP dG (pc T.bM (bG T) t (ae (pv 0) (ae ax aj))) ax) ax)))
   (ai (bP (bJ (ic (pv 1))
    (au (bH 2 cw.nd (aP cZ ax (aP bV (aP dG (pc T.bM (bG T) t (ae (pv 0) (ae ax aj))) ax) ax))))
    bj))
   (ai (bH 3 cw.nd (bC bu (bT (ae ax (ae ax (ae ax (ae ax aj g6) g6) g6) g6)) (aP bV (pc T.bM (bG T) t (ae (pv 0) (ae ax aj))) ax) (λ_ _=>rfl)))
   (ai (bH 4 cw.nd (bT aj))
   (ai (cK ag9 rfl (jj rfl T.eI (ae (pv 3) aj)) (dz 5 cw.nd)
    (au (aV (cH agQ ag0 ag2 bO (pv 4) (ae (pc T.mJ (wW T) t (ae (aP bV (pc T.bM (bG T) t (ae (pv 0) (ae (aP cZ ax (pv 5)) aj))) ax) (ae (pv 2) (ae (pv 1) aj)))) aj)))))
   (ai (bH 6 cw.nd (aP bV (pc T.bM (bG T) t (ae (pv 0) (ae ax aj))) ax))
   (ai (bP (bJ (ic (pv 1))
    (au (bH 6 cw.nd ax))
    bj))
   (ai (bH 7 cw.nd (aP bV (aP dG (pc T.bM (bG T) t (ae (pv 0) (ae ax aj))) ax) (pv 2)))
   (ai (bH 8 cw.nd (pc T.pZ (zy T) t (ae (pv 4) (ae (pv 3) (ae (pv 6) (ae (bC bu (bT (ae ax (ae ax aj))) (fE G3 rfl T.VH PyProof.Rows.boot_int (ae (sL fb (aP bV (pc T.bM (bG T) t (ae (pv 0) (ae ax aj))) ax) ax (bh _)) aj)) (λ_ _=>rfl)) aj))))))
   (ai (bP (bJ (aZ fb (aP bV (pc T.bM (bG T) t (ae (pv 0) (ae ax aj))) ax) ax (bh _))
    (au (aV (cH agQ PySem.F.slot_list_insert PySem.F.type_list_insert xu (pv 8) (ae (aP bV (aP dG (pc T.bM (bG T) t (ae (pv 0) (ae ax aj))) ax) (aP cZ (bz bf rfl T.cR ahl (ae (pv 8) aj)) ax)) (ae (cP aj) aj)))))
    bj))
   (ai (bP (bJ (PW.pt (vf (aZ fb (aP bV (pc T.bM (bG T) t (ae (pv 0) (ae ax aj))) ax) ax (bh _)) (sJ (aZ lB (aP bV (pc T.bM (bG T) t (ae (pv 0) (ae ax aj))) ax) ax (bh _)))))
    (au (bH 8 cw.nd (aP zY (pv 8) (pF Dx (pv 8) xj (om ax)))))
    bj))
   (au (bx (cP (ae (pv 3) (ae (pv 4) (ae (pv 8) (ae (pc T.rZ (Cv T) t (ae (pv 0) (ae (pv 4) (ae (pv 3) (ae (pv 7) aj))))) (ae (pv 7) aj))))))))))))))))))))]
  rwa[Hi ?_];intro aaq aar aas u_9 WL MG BE qF nH jA fX gH;rwa[⟨12,a,p,(0),2,v,3,λz0=>?_⟩];erw[1122,(by show (0:Int)<2;decide),2];rwa[⟨12,a,p,(0),2,v,3,λz1=>?_⟩];erw[1122,⟨44⟩,1122,(by show (0:Int)<4;decide),1122];let a1:=aif (z1 / 2) (show (4:Int)≠0 by decide);let a2:=ah3 (z1 / 2) (show (0:Int)<4 by decide);erw[λ c g=>∃(m:Nat) (pl:Bool),c=#v[↑a,.bl pl,.int m,none,none,none,none,none,none]/\g=H/\1<=m/\m<=6,5]
  ·erw[1212];rwa[bW (λ_=>?_) (λ_=>?_)]
   ·rwa[⟨12,a,p,(0),2,v,3,λz2=>?_⟩];erw[1122,⟨44⟩,1122,(by show (0:Int)<6;decide),1122];let c1:=aif (z2 / 2) (show (6:Int)≠0 by decide);let c2:=ah3 (z2 / 2) (show (0:Int)<6 by decide);rwa[⟨(1+ z2 / 2 % 6).toNat,decide (V.int (z0 % 2)=V.int 0),5233⟩];rw[show (((1+ z2 / 2 % 6).toNat:Nat):Int)=1+ z2 / 2 % 6 by ext];rfl
   ·rwa[⟨(2+ z1 / 2 % 4).toNat,decide (V.int (z0 % 2)=V.int 0),5233⟩];rw[show (((2+ z1 / 2 % 4).toNat:Nat):Int)=2+ z1 / 2 % 4 by ext];rfl
  rintro c g ⟨m,pl,rfl,rfl,X1,U⟩;rwa[⟨by show 4<=sizeLine;decide,λq hq=>?_⟩];let sq:aq g (upd g q (.lst [V.int 2,V.int 1,V.int 2,V.int 3])):=aq.upd hq;let X6:upd g q (.lst [V.int 2,V.int 1,V.int 2,V.int 3]) q\(.lst [V.int 2,V.int 1,V.int 2,V.int 3]):=ah;change upd g q (.lst [V.int 2,V.int 1,V.int 2,V.int 3])=H1 at sq X6 ⊢;rwa[⟨12,a,p,(1),2,sq.seq v,3,λz2=>?_⟩];let⟨j,hj,Jk⟩:=j2 z2 (n:=4) ⋯;let⟨L,hL,S,X⟩:=PF j Jk;erw[1122,(by show (0:Int)<4;decide),q,11,.int (L:Int),22,aD.of X6,(by show iQ _ (z2 % 4)=_;rw[show z2 % 4=(j:Int) from hj];rwa[cD hL])];rwa[⟨ahd _,λlt ou=>?_⟩];let s2:aq H1 (upd H1 lt (.lst [])):=aq.upd ou;let h2:upd H1 lt (.lst []) lt\(.lst (([]:Zn).map V.ref)):=ah;let Ul:g lt=none:=sq.free ou;change upd H1 lt (.lst [])=H2 at s2 h2 ⊢;erw[12,(L:Int),233];rwa[jk (lo:=0) (n:=((L:Int)).toNat) (λi σ J=>∃(rs:Zn) (rows:Za3) (v5:Zc),σ=#v[↑a,.bl pl,.int m,.int L,↑lt,v5,none,none,none]/\aq g J/\J lt\.lst (rs.map V.ref)/\eh J rs rows/\⇑rows=i/\(∀r∈rows,M11.Pm m r)) ⟨[],[],none,2,sq.trans s2,h2,⟨2,λi r p h1=>by cbv⟩,2,by simp⟩ ?_ ?_]
  ·rintro i σ J hi ⟨rs,rows,v5,rfl,s3,h3,C,F,D⟩;let T7:i<L:=∅
   rwa[⟨12,.inl ⟨21,aD.of h3⟩,12121122,a,p,2+ i,5,s3.seq v,3,λz3=>?_⟩]
   ·cbv
   let c1:=aif z3 (show (720:Int)≠0 by decide);rwa[⟨1122,(by show (0:Int)<720;decide),1212,z3 % 720,m,pl,2,X1,3,c1,λr row H4 I h4 hP=>?_⟩];let Y:=I^h3;let tV:r≠lt:=Je h4 (λz=>by have:=hP.len;rw[z]at this;simp at this;omega) Y;erw[lt,1122,Y,5]
   ·rw[agH,C.1,F];rwa[agO (show i<=3 by omega) ⋯]
   rwa[⟨rs++[r],rows++[row],12,λb o e=>[ak (av e Ul)]▸I^s3^e,by rw[ah,ahi];rfl,⟨(yZ (C.same I) h4).1,λi' q' ms e1 e2=>?_⟩,by rw[agF,F];rfl,λr' hr'=>?_⟩]
   ·let X7:=(yZ (C.same I) h4).2 i' q' ms e1 e2
    let hnm:ms≠[]:=λz=>by
     let hmm:ms∈rows++[row]:=agC e2
     let hPm:M11.Pm m ms:=by
      rcases agS.mp hmm with y|y
      ·rwa[D ms y]
      ·cbv
     have:=hPm.len;rw[z]at this;simp at this;ext
    rw[ak (Je X7 hnm Y)];rwa[X7]
   cbv
  rintro σ J ⟨rs,rows,v5,rfl,s3,h3,C,F,D⟩;rw[ahg]at F;subst F;let hT:TabAt J lt rows:=⟨rs,h3,C⟩;rwa[⟨12,a,p,(5),2,s3.seq v,3,λz5=>⟨1122,(by show (0:Int)<531441;decide),5⟩⟩];erw[λ c g=>∃mk:Int,c=#v[↑a,.bl pl,.int m,.int ⇑rows,↑lt,v5,.int mk,none,none]/\g=J,5]
  ·erw[1212];rwa[bW (λ_=>⟨122⟩) (λ_=>⟨122⟩)]
  rintro c H3' ⟨mk,rfl,e3⟩;replace e3:=e3.symm;subst e3;rwa[⟨12,a,p,(6),2,s3.seq v,3,λz6=>?_⟩];let⟨x,hx,X8⟩:=j2 (z6 / 4) (n:=m) ∅;erw[1122,⟨44⟩,121122,(by show (0:Int)<(m:Int);omega)];rw[show V.int ((z6 / 4) % (m:Int))=V.int (x:Int) from ahS V.int hx];rwa[⟨121212,by show 2<=sizeLine;decide,λq2 N=>⟨12,a,p,(7),2,(s3.trans (aq.upd N)).seq v,3,λz9=>⟨1122,(by show (0:Int)<8;decide),2125⟩⟩⟩];let⟨rm,Uz,Jg⟩:=Uy (decide (V.int (z9 % 8)=V.int 6));rwa[⟨q2,11122,aD.of ah,Uz,lt,rows,m,mk,rm,2,Jg,hT.same (aq.upd N),S,X,D,U,λB R H4 I O f G Z=>?_⟩];replace Z:J B=none:=(aq.upd N).free Z;replace I:=(aq.upd N).trans I;erw[λ c g=>∃R,c=#v[↑a,.bl pl,.int m,.int ⇑rows,↑lt,v5,.int mk,.int x,↑B]/\aq J g/\b8 g B R/\(∀u∈R,Cu rows m u)/\⇑R<=22,5]
  ·rwa[⟨12,a,p,(5),2,(s3.trans I).seq v,3,λz7=>⟨1122,(by show (0:Int)<4;decide),212,bW (λ_=>?_) (λ_=>⟨R,2,I,O,f,3⟩)⟩⟩];let⟨d,g1,g2⟩:=O;let BJ:⇑d<=21:=by rw[g2.1];rwa[G]
   rwa[⟨12,.inl ⟨21,aD.of g1⟩,12,a,p,(6),2,(s3.trans I).seq v,3,λz8=>⟨1122,⟨44⟩,12,B,12,.inl (aD.of g1),11221122,(by show (0:Int)<(⇑(d.map V.ref):Int)+ 1;omega),ahd _,λe0 IZ=>?_⟩⟩];let⟨i,hi,V5⟩:=j2 (z8 / 24) (n:=⇑d+ 1) ∅;let se:=aq.upd (o:=.tup []) IZ;erw[B,_,i,↑e0,25,se^g1,[agH]▸agO (show ⇑d<=100 by omega) ⋯,by rw[agH];ext,3]
   ·cbv
   rwa[⟨R.take i++[[]]++R.drop i,2,λb o e=>[ak (av e Z)]▸se^I^e,Jj (se^g1) (g2.same se) ah i ∅,λu M=>?_,by rw[agF,agF,ahm,ahG];show _+ 1+ _<=_;ext⟩];rcases agS.mp M with M|M
   ·rcases agS.mp M with M|M
    ·rwa[f u (List.mem_of_mem_take M)]
    ·rw[agK.mp M];rwa[(λs hs=>by ext hs),by show 0<=60;decide,λx _=>rfl]
   ·rwa[f u (List.mem_of_mem_drop M)]
  rintro c H5 ⟨R,rfl,s5,O,f,G⟩;erw[λ c g=>∃B R,c=#v[↑a,.bl pl,.int m,.int ⇑rows,↑lt,v5,.int mk,.int x,↑B]/\aq J g/\b8 g B R/\(∀u∈R,Cu rows m u)/\⇑R<=23,5]
  ·rwa[⟨12,a,p,(5),2,(s3.trans s5).seq v,3,λz7=>⟨1122,(by show (0:Int)<4;decide),212,bW (λ_=>?_) (λ_=>dY ⟨B,R,2,s5,O,f,3⟩)⟩⟩];rwa[⟨12,a,p,(7),2,(s3.trans s5).seq v,3,λz7=>⟨1122,(by show (0:Int)<8;decide),212,bW (λ_=>?_) (λ_=>⟨B,R,2,s5,O,f,3⟩)⟩⟩];let⟨d,g1,g2⟩:=O;rwa[⟨121212,B,12,aD.of g1,λb nb=>?_⟩];let sb:=aq.upd (o:=.lst (gP (d.map V.ref) none (some 1))) nb
   obtain⟨i,n,e,hn⟩:∃i n:Nat,gP (d.map V.ref) none (some 1)=((d.drop i).take n).map V.ref/\n<=1:=by
    erw[11,by unfold gP;rw[List.map_take,List.map_drop]];have:=HT.xi ⇑(d.map V.ref) ⇑(d.map V.ref) 1;rw[show ((1:Nat):Int)=1 from rfl]at this;rw[this];ext
   let eb:upd H5 b (.lst (gP (d.map V.ref) none (some 1))) b\(.lst (((d.drop i).take n).map V.ref)):=by rw[ah,e]
   change upd H5 b (.lst (gP (d.map V.ref) none (some 1)))=H6 at sb eb ⊢;let g3:=g2.same sb;let BJ:⇑d<=22:=by rw[g2.1];rwa[G]
   rwa[⟨B,b,1122,sb^g1,eb,5,λl9 n9=>?_⟩]
   ·rw[agH,agH,ahm];rwa[agT (show ⇑d+ min n _<=100 by omega) ⋯]
   let s9:=aq.upd (o:=.lst (d.map V.ref++((d.drop i).take n).map V.ref)) n9;rwa[⟨l9,R++(R.drop i).take n,2,(s5.trans sb).trans s9,⟨d++(d.drop i).take n,by rw[ah,ahi],(u9 g3 (va g3 i n)).same s9⟩,λu M=>?_,by rw[agF,ahm];ext⟩]
   cbv
  rintro c H6 ⟨lr',R,rfl,s6,O,f,G⟩;rwa[⟨12121212121212,a,lt,p,rows,m,x,2,(s3.trans s6).seq v,hlen,hT.same s6,S,X,D,U,X8,λpa P H7 s7 hP aat X9=>?_⟩];rwa[⟨12,by show 5<=sizeLine;decide,λl nl=>?_⟩];rwa[k l lt lr' pa rows m x R P _ (((s3.trans s6).trans s7).trans (aq.upd nl)) ah ((hT.same (s6.trans s7)).same (aq.upd nl)) S X D U X8 ((O.same s7).same (aq.upd nl)) f G (hP.same (aq.upd nl)) aat X9]
def gw (g:Nat->Nat->Nat)(w:Zg)(p:Nat):Nat:=w.foldl (λp s=>g (M11.pl s) p) p
def Jl (g:Nat->Nat->Nat)(w u:Zg)(i:Nat):gw g (w++u) i=gw g u (gw g w i):=aiH ..
structure Mv (rs ps:Za3) (L:Nat) (D:Nat->Prop) (g:Nat->Nat->Nat) (x:Nat):Prop where
 o:D x
 d:∀p k,D p->k<2* L->D (g k p)
 b:∀p k,D p->k<2* L->g (M11.flip k) (g k p)=p
 r:∀w∈rs,∀p,D p->gw g w p=p
 p:∀w∈ps,gw g w x=x
def zJ (h:z≠0):M12.st (M11.pl z)=z:=by
 unfold M11.pl M12.st;split
 ·rw[ag8 ∅];ext
 ·rw[ag3 ∅];ext
def jD {v:Zg}(b:M11.bE n l)(a:M11.bE n v):M11.bE n (l++v):=λs c=>(agS.mp c).elim (b s) (a s)
section
variable {rs ps:Za3}{L o lim x:Nat}{S:RS}{D:Nat->Prop}{g:Nat->Nat->Nat}
def tD (h:z∈bq (2* L)):M11.pl z<2* L/\M11.pl (-z)=M11.flip (M11.pl z)/\-z∈bq (2* L):=by
 let⟨a,b⟩:=hU.mp h;rwa[M11.kl ⟨a,b⟩,M11.Ee a,hU.mpr ⟨33⟩]
theorem Mv.inj (m:Mv rs ps L D g x):∀(w:Zg) {p q:Nat},(∀z∈w,z∈bq (2* L))->D p->D q->gw g w p=gw g w q->p=q
 |[],_,_,_,_,_,e=>e
 |z::w,p,q,h,a,b,e=>by
  let hz:=(tD (h z agP)).1;have:=m.inj w (λy c=>h y (ag4 _ c)) (m.d p _ a hz) (m.d q _ b hz) e;rw[<-m.b p _ a hz,this,m.b q _ b hz]
theorem Mv.uw (m:Mv rs ps L D g x):∀{w:Zg} {p q:Nat},UW (λp z q=>D p/\z∈bq (2* L)/\q=g (M11.pl z) p) p w q->q=gw g w p/\(D p->D q)/\(D q->D p)
 |[],p,q,h=>by rw[show p=q from h];rwa[2,id,id]
 |z::w,p,q,⟨r,⟨c,d,f⟩,e⟩=>by
  let⟨a,b,_⟩:=m.uw e;rw[f]at a b;rwa[a,λ_=>b (m.d p _ c (tD d).1),λ_=>c]
theorem Mv.md (m:Mv rs ps L D g x)(H:∀u∈rs++ps,∀z∈u,z∈bq (2* L)/\-z∈bq (2* L))(i:Nat->Nat)(M:Nat)(B:i 0=x)(E:∀c,c<M->D (i c)):V8 (rs++ps) ⇑rs M i λp z q=>D p/\z∈bq (2* L)/\q=g (M11.pl z) p:=by
 rwa[⟨λp z q ⟨f,k,l⟩=>?_,λp z q Q ζ ξ=>by let⟨_,_,h⟩:=ζ;let⟨_,_,F⟩:=ξ;rwa[h.trans F.symm],λwhich word start n c d z f k l s G J=>?_⟩]
 ·let⟨a,b,c⟩:=tD k;rw[l];rwa[m.d p _ f a,c,by rw[b,m.b p _ f a]]
 let ps:=E start l
 let e:gw g word (i start)=i start:=by
  cases j:which<⇑rs
  ·rw[agN j]at f;rwa[m.r word (agC f) _ ps]
  ·rw[agR ∅]at f;rw[k.resolve_left j,B];rwa[m.p word (agC f)]
 let t:=H _ (agC f);let⟨N,O,_⟩:=m.uw G;let⟨v,_,C⟩:=m.uw J;let hz:=(t z (agC s)).1;let r:=O ps;rwa[⟨r,hz,m.inj (word.drop (n+ 1)) (λy I=>(t y (List.mem_of_mem_drop I)).1) (C ps) (m.d _ _ r (tD hz).1) ?_⟩];let q:gw g (word.take n++(z::word.drop (n+ 1))) (i start)=i start:=by rw[<-drop_cons s,ajA];rwa[e]
 rw[Jl,<-N]at q;rwa[v.symm.trans q.symm]
def Fl.mv (m:Mv rs ps L D g x)(l:∀u∈rs++ps,∀z∈u,z∈bq (2* L)/\-z∈bq (2* L))(h:Fl rs ps L o lim S):∃ f:Nat->Nat,f 0=x/\∀c z d,S.by c z=some d->D (f c)/\z∈bq (2* L)/\f d=g (M11.pl z) (f c):=by
 suffices ∃(f:Nat->Nat) (R:Za2),f 0=x/\(∀c,c<S.q->D (f c))/\0<S.q/\Good S [] R/\fI S/\(∀a z b,R a z b->z∈bq (2* L))/\∀a z b,R a z b->D (f a)/\z∈bq (2* L)/\f b=g (M11.pl z) (f a) by
  let⟨f,R,v,B,_,j,_,_,u⟩:=this;rwa[f,v,λc z d q=>Hr (U:=λp z q=>D p/\z∈bq (2* L)/\q=g (M11.pl z) p) j (m.md l f _ v B).fn u q]
 induction h with
 |start t _=>
  let⟨R,g,w,e,_,_,k,u⟩:=t.sound (R:=λ_ _ _=>False) (m.md l (λ_=>x) 1 rfl λ_ _=>m.o) l (uB L _) YS.new.w (agJ _) (λ_ _ _ q=>q.elim) λ_ _ _ q=>q.elim
  let e:_=1:=e;rwa[λ_=>x,R,2,λ_ _=>m.o,3,g,w,k,u]
 | @next i S1 c z _ _ gp t _ Z=>
   let⟨f,R,v,B,Y,j,w,k,u⟩:=Z;let⟨C,J,E,T⟩:=gp.1;let⟨z1,z2,X⟩:=tD E;let F:=B c C;let dq:=m.d _ _ F z1;let e:∀a,a<i.q->(if a=i.q then g (M11.pl z) (f c) else f a)=f a:=λa H=>ag3 ∅
   let s:∀a,a<i.q+ 1->D (if a=i.q then g (M11.pl z) (f c) else f a):=λa H=>by
    split
    ·rwa[dq]
    ·rwa[B a ∅]
   let n:(if 0=i.q then g (M11.pl z) (f c) else f 0)=x:=by rw[e 0 Y];rwa[v]
   let md:=m.md l (λa=>if a=i.q then g (M11.pl z) (f c) else f a) (i.q+ 1) n s;let M:D (f c)/\z∈bq (2* L)/\g (M11.pl z) (f c)=g (M11.pl z) (f c):=⟨F,E,2⟩
   let⟨V,N,I,G,_,_,O,Q⟩:=t.sound (R:=fz R c z i.q) md l (j.make C (sG J) T _) (rE w j.wf _ _ _) (agJ _) (λa y b r=>by
    rcases r with r|⟨_,e,_⟩|⟨_,e,_⟩
    ·rwa[k _ _ _ r]
    ·rw[e];rwa[E]
    ·rw[e];rwa[X]) λa y b r=>by
    rcases r with r|⟨rfl,rfl,rfl⟩|⟨rfl,rfl,rfl⟩
    ·let⟨l1,l2,_⟩:=j.rl _ _ _ r;simp only[e a l1,e b l2];rwa[u _ _ _ r]
    ·simp only[e _ C,akc];rwa[F,E,True.intro]
    ·simp only[e _ C,akc];rwa[md.sy _ _ _ M]
   let G:S1.q=i.q+ 1:=G;rwa[_,V,n,λa H=>s a ∅,3,N,I,O,Q]
end
def Fl.cl {rs a:Za3}(h:Fl rs a n m i S):AI rs a S:=by cases h <;> ext
def Fl.mL {rs d:Za3}(h:Fl rs d n m i S)(b:∀u∈rs++d,∀z∈u,z∈bq (2* n)/\-z∈bq (2* n))(q:1<=i):S.q<=i/\S.L=n:=by
 rwa[⟨5,by let⟨R,y⟩:=h.ys b;rwa[y.l]⟩]
 cases h with
 |start t _=>
  let⟨_,_,a,_⟩:=YS.new.tr t b;let a:S.q=1:=a;ext
 | @next g _ c z f p l t _=>
   let⟨R,y⟩:=f.ys b;let⟨o,j,e,k⟩:=l.1;let⟨_,_,a,_⟩:=(y.make o (sG j) k e (tD e).2.2).tr t b;let a:S.q=g.q+ 1:=a;ext
structure FT (rs ps:Za3) (L N:Nat) (T:Za3):Prop where
 t:M11.Tab L T
 f:M12.Fc (2* L) T.flatten ⇑T
 n:⇑T=N
 r:∀w∈rs,∀i,i<N->M11.walk T w i=i
 c:∀i,i<N->∃u,M11.bE L u/\M11.walk T u 0=i
 u:∀D g x,Mv rs ps L D g x->∃ φ:Nat->Nat,φ 0=x/\∀i,i<N->D (φ i)/\∀k,k<2* L->φ (M11.nx T k i)=g k (φ i)
def Fl.ft {rs L:Za3}(h:Fl rs L n m i S)(M:∀u∈rs++L,∀z∈u,z∈bq (2* n)/\-z∈bq (2* n))(hn:∀c z,¬gW S n c z)(N:S.q<=300)(V:1<=n)(nF:n<=40)(hN:⇑(M24.aX (bA S) (2* n) 0 j)=j):
 j<=S.q/\FT rs L n j (M24.eU (bA S) (2* n) (M24.aX (bA S) (2* n) 0 j)):=by
 let⟨R,y⟩:=h.ys M;let g:=y.g
 let st:∀c k,c<S.q/\S.aw c=c->k<2* n->∃d,S.by c (M12.st k)=some d/\bA S k c=d/\d<S.q/\S.aw d=d:=λc k hc C=>by
  cases e:S.by c (M12.st k) with
  |some d=>
   let⟨_,d2,_,d4⟩:=g.st _ _ _ e;rwa[d,2,by unfold bA;rw[e];rfl,d2,d4]
  |none=>exact absurd ⟨hc.1,by rw[pf ([g.wf.e]▸hc.1),hc.2],agC (su C),e⟩ (hn c _)
 let d0:0<S.q/\S.aw 0=0:=⟨y.m,by have:=(g.el 0 y.m).1;ext⟩
 let fw:∀(u:Zg) {c:Nat},M11.bE n u->c<S.q/\S.aw c=c->∃d,wk S.by c u=some d/\d<S.q/\S.aw d=d:=λu=>by
  induction u with
  |nil=>exact λ_ hc=>⟨12,hc⟩
  |cons s u Z=>
   intro c E hc;let o:=E s agP;let⟨d,B,_,hd⟩:=st c _ hc (M11.kl o);rw[zJ o.1]at B;rw[jv B];rwa[Z (λt J=>E t (ag4 _ J)) hd]
 let all:=M24.lQ (f:=bA S) (k:=2* n) (x0:=0) (P:=λc=>(c<S.q/\S.aw c=c)/\∃u,M11.bE n u/\wk S.by 0 u=some c) ⟨d0,[],λ_ z=>(by ext z),2⟩ (λc k ζ C=>by
  let⟨hc,u,o,Q⟩:=ζ
  let⟨d,B,e,h3⟩:=st c k hc C;rw[e];rwa[h3,u++[M12.st k],jD o (λs E=>[agK.mp E]▸M12.sZ C),[rq Q]▸Hl B]) j
 let T:j<=S.q:=by rw[<-hN];rwa[M11.eF S.q _ (M24.gA _ _ _ j) λc hc=>(all c hc).1.1]
 let U:(M24.aX (bA S) (2* n) 0 j)[0]?\0:=by
  let⟨t,J⟩:=M24.xE (bA S) (2* n) 0 0 j;rw[ajW]at J;rw[J];rfl
 let Y:1<=j:=by have:=(agE.mp U).1;ext
 let at_:∀v,v<j->∃c,(M24.aX (bA S) (2* n) 0 j)[v]?\c/\(c<S.q/\S.aw c=c)/\∃u,M11.bE n u/\wk S.by 0 u=some c:=λv H=>⟨_,agG ∅,all _ (List.getElem_mem _)⟩
 let tb:=M55.Sz hN (λc hc l hj=>by
  let⟨d,B,G,Q⟩:=st c l (all c hc).1 hj;let q:=g.sy _ _ _ B;rw[G];unfold bA;rw[show M12.st (M11.flip l)= -M12.st l by unfold M11.flip M12.st;split <;> split <;> ext,q];rfl) V nF Y ∅
 let wt:∀{u:Zg} {v c d:Nat},M11.bE n u->(M24.aX (bA S) (2* n) 0 j)[v]?\c->wk S.by c u=some d->(M24.aX (bA S) (2* n) 0 j)[M11.walk (M24.eU (bA S) (2* n) (M24.aX (bA S) (2* n) 0 j)) u v]?\d:=λ{u}=>by
  induction u with
  |nil=>exact λ_ hc e=>by rw[<-Za0 e];rwa[hc]
  |cons s u Z=>
   intro v c d E hc e;let⟨f,B,G⟩:=oF e;let o:=E s agP;let q:=M55.pT hN (M11.kl o) hc;rw[show bA S (M11.pl s) c=f by unfold bA;rw[zJ o.1,B];rfl]at q;rwa[Z (λt J=>E t (ag4 _ J)) q G]
 let inj:∀{v l c:Nat},(M24.aX (bA S) (2* n) 0 j)[v]?\c->(M24.aX (bA S) (2* n) 0 j)[l]?\c->v=l:=λ{v l c} a b=>(akf (agE.mp a).1 (M24.gA _ _ _ j)).mp (a.trans b.symm)
 let I:∀w∈rs++L,M11.bE n w:=λw h z hz=>hU.mp (M w h z hz).1
 let rd:∀{w:Zg} {c:Nat},w∈rs++L->c<S.q/\S.aw c=c->Mj S c w->wk S.by c w=some c:=λ{w c} N hc h=>by
  rcases h with h|⟨v,l,f,r,y,z',_,H,_,w1,n1,_⟩
  ·rwa[h]
  ·let⟨d,e,hd⟩:=fw (w.take v) (λs E=>I w N s (List.mem_of_mem_take E)) hc;rw[w1]at e;rw[<-Za0 e]at hd;let hy:=I w N y (agC H);let⟨_,G,_⟩:=st f _ hd (M11.kl hy);rw[zJ hy.1,n1]at G;ext G
 rwa[⟨T,tb,M55.fc hN,by unfold M24.eU;rw[agH,hN],λw M v H=>?_,λv H=>?_,λD g x p=>?_⟩]
 ·let⟨c,hc,O,_⟩:=at_ v H;let N:=ag6 L M;rwa[inj (wt (I w N) hc (rd N O (h.cl.r w M c O.1 O.2))) hc]
 ·let⟨c,hc,_,u,o,Q⟩:=at_ v H;rwa[u,o,inj (wt o U Q) hc]
 ·let⟨F,p0,ph⟩:=h.mv p M;let X:∀{v c:Nat},(M24.aX (bA S) (2* n) 0 j)[v]?\c->(M24.aX (bA S) (2* n) 0 j).getD v 0=c:=λ{v c} h=>by rw[agM,h];rfl
  rwa[⟨λv=>F ((M24.aX (bA S) (2* n) 0 j).getD v 0),(ahS F (X U)).trans p0,λv H=>?_⟩];let⟨c,hc,O,_⟩:=at_ v H
  let main:∀k,k<2* n->D (F c)/\F ((M24.aX (bA S) (2* n) 0 j).getD (M11.nx (M24.eU (bA S) (2* n) (M24.aX (bA S) (2* n) 0 j)) k v) 0)=g k (F c):=λk C=>by
   let⟨d,B,G,_⟩:=st c k O C;let⟨a,_,b⟩:=ph _ _ _ B;rw[M12.vH]at b;rw[X (M55.pT hN C hc),G];rwa[a,b]
  show D (F _)/\∀k,k<2* n->F _=g k (F _);rw[X hc];rwa[(main 0 ∅).1,λk C=>(main k C).2]
def Jm (u:Zg):M11.back (M11.back u)=u:=by unfold M11.back;rw[<-List.map_reverse,List.reverse_reverse,ahw];rwa[(ahJ λz _=>aiq z).trans (List.map_id' u)]
section
variable {rs ps:Za3}{L N:Nat}{T:Za3}
def FT.bk (f:FT rs ps L N T){u:Zg}(d:M11.bE L u){i:Nat}(b:i<N):M11.walk T (M11.back u) (M11.walk T u i)=i/\M11.walk T u (M11.walk T (M11.back u) i)=i:=by
 rw[<-f.n]at b;let c:=M11.rF f.t d b;let a:=M11.rF f.t (M11.lH d) b;rw[M11.ip]at c a;rw[Jm]at a;rwa[c,a]
def FT.lt (f:FT rs ps L N T){u:Zg}(b:M11.bE L u){i:Nat}(a:i<N):M11.walk T u i<N:=by
 rw[<-f.n]at a ⊢;rwa[M11.sY f.t b a]
def FT.pos (f:FT rs ps L N T):0<N:=by have:=f.t.pos;rw[f.n]at this;rwa[this]
def FT.mv (f:FT rs ps L N T){x:Nat}(d:x<N):Mv rs [] L (λi=>i<N) (M11.nx T) x:=by
 rwa[⟨d,λp k a b=>?_,λp k a b=>f.t.back p k ([f.n]▸a) b,λw c p a=>f.r w c p a,λ_ z=>by ext z⟩];have:=f.t.lt p k ([f.n]▸a) b;rw[f.n]at this;ext
theorem cover {c:Nat}:∀{C l:Zh},C.Nodup->(∀x∈l,x∈C)->(∀y∈C,l.count y=c)->c* ⇑C=⇑l
 |[],[],_,_,_=>rfl
 |[],x::l,_,h,_=>absurd (h x agP) (by simp)
 |y::C,l,f,h,e=>by
  let⟨i,g⟩:=ahk.mp f
  let a:=cover (c:=c) (C:=C) (l:=l.filter (λx=>!(x==y))) g (λx j=>by
   cbv) λz k=>by
   rw[List.count_filter (by cbv)]
   cbv
  let b:=List.length_eq_countP_add_countP (λx=>x==y) (l:=l);let d:=e y agP;rw[List.count]at d;rw[<-ajq]at a;rw[aha,Nat.mul_add,a,b,d,Nat.mul_one,Nat.add_comm]
  congr 2
  funext x
  cases x==y <;> rfl
def Jn {N:Nat}{f a:Nat->Nat}{s0:Nat}(c:((List.range N).map a).Perm (List.range N))(h:∀r,r<N->(f (a r)=n↔f r=s0)):((List.range N).map f).count n=((List.range N).map f).count s0:=by
 let b:=(c.map f).count_eq n;rw[ahw]at b;rw[<-b,List.count,List.count,List.countP_map,List.countP_map]
 exact akg λr d=>by
  cbv
def Ls {N:Nat}{f:Nat->Nat}(h:∀j,j<N->∃i,i<N/\f i=j){i j:Nat}(m:i<N)(l:j<N)(e:f i=f j):i=j:=by
 obtain⟨g,k⟩:∃g:Nat->Nat,∀j,j<N->g j<N/\f (g j)=j:=⟨λj=>Classical.epsilon λi=>i<N/\f i=j,λj l=>akb (p:=λi=>i<N/\f i=j) (h j l)⟩
 let o:((List.range N).map g).Nodup:=by
  rw[ajI,ah1];rwa[aiw (λ{a b} d r h e=>?_) (aiK (n:=N))];have:=(k a (ahj.mp d)).2;rw[e,(k b (ahj.mp r)).2]at this;ext
 let on:∀i,i<N->∃a,a<N/\g a=i:=λi m=>by
  apply aiX;intro no
  have:=M11.eF N (i::(List.range N).map g) (ahk.mpr ⟨λq=>by
   let⟨a,d,e⟩:=ahu.mp q
   rwa[no ⟨a,ahj.mp d,e⟩],o⟩) λc s=>by
   rcases agW.mp s with rfl|q
   ·rwa[m]
   ·let⟨a,d,rfl⟩:=ahu.mp q;rwa[(k a (ahj.mp d)).1]
  cbv
 cbv
def FT.pm (f:FT rs ps L N T){v:Zg}(b:M11.bE L v):((List.range N).map (M11.walk T v)).Perm (List.range N):=by
 rwa[(List.perm_ext_iff_of_nodup ?_ ajh).mpr λz=>?_]
 ·rw[ajI,ah1];rwa[aiw (λ{i j} c d h e=>?_) (aiK (n:=N))];let a:=(f.bk b (ahj.mp c)).1;rw[e,(f.bk b (ahj.mp d)).1]at a;ext
 ·rw[ahu,ahj];constructor
  ·rintro ⟨i,c,rfl⟩;rwa[f.lt b (ahj.mp c)]
  ·rwa[λhz=>⟨_,ahj.mpr (f.lt (M11.lH b) hz),(f.bk b hz).2⟩]
def FT.go (f:FT rs ps L N T){g:Nat->Nat->Nat}{a:Nat->Nat}(h:∀i,i<N->∀k,k<2* L->a (M11.nx T k i)=g k (a i)):∀(u:Zg) (i:Nat),M11.bE L u->i<N->a (M11.walk T u i)=gw g u (a i):=λu=>by
 induction u with
 |nil=>exact λi _ _=>rfl
 |cons s u e=>
  intro i b d;let j:M11.bE L [s]:=λt c=>b t (by cbv)
  show a (M11.walk T u (M11.nx T (M11.pl s) i))=gw g u (g (M11.pl s) (a i));rw[e (M11.nx T (M11.pl s) i) (λt c=>b t (ag4 _ c)) (f.lt j d),h i d _ (M11.kl (b s agP))]
def FT.over (f:FT rs ps L N T){D:Nat->Prop}{g:Nat->Nat->Nat}{x:Nat}(m:Mv rs ps L D g x):∃ a:Nat->Nat,a 0=x/\(∀i,i<N->D (a i)/\∀k,k<2* L->a (M11.nx T k i)=g k (a i))/\∀C:Zh,C.Nodup->x∈C->(∀y∈C,∃v,M11.bE L v/\y=gw g v x)->(∀y∈C,∀k,k<2* L->g k y∈C)->(∀y∈C,((List.range N).map a).count y=((List.range N).map a).count x)/\((List.range N).map a).count x* ⇑C=N:=by
 let⟨a,e,h⟩:=f.u D g x m;let go:=f.go λi d=>(h i d).2
 rwa[⟨a,e,h,λC nd B E hc=>?_⟩]
 let j:∀y∈C,((List.range N).map a).count y=((List.range N).map a).count x:=λy c=>by
  let⟨v,b,rfl⟩:=E y c;rwa[Jn (f.pm b) λr n=>?_]
  rw[go v r b n];rwa[m.inj v (λz hz=>hU.mpr (b z hz)) (h r n).1 m.o,λq=>by rw[q]]
 erw[j];have:=cover nd (l:=(List.range N).map a) (λy c=>?_) j
 ·rwa [agH,ahp]at this
 ·let⟨i,d,rfl⟩:=ahu.mp c;let⟨u,b,rfl⟩:=f.c i (ahj.mp d);rw[go u 0 b f.pos,e]
  let cl:∀(u:Zg) (y:Nat),M11.bE L u->y∈C->gw g u y∈C:=λu=>by
   induction u with
   |nil=>exact λ_ _ h=>h
   |cons s u F=>exact λy o c=>F _ (λt p=>o t (ag4 _ p)) (hc y c _ (M11.kl (o s agP)))
  rwa[cl u x b B]
def Lk (T:Za3)(L r:Nat):Prop:=∀u v,M11.bE L u->M11.bE L v->M11.walk T u 0=M11.walk T v 0->M11.walk T u r=M11.walk T v r
def FT.all (f:FT rs [] L N T){r:Nat}(c:r<N):Lk T L r:=λu v d b e=>by
 let⟨k,g,h⟩:=f.u _ _ _ (f.mv c);let go:=f.go λi j=>(h i j).2
 let a:=go u 0 d f.pos;rw[e,go v 0 b f.pos,g]at a;rwa[a.symm]
def E2 (T:Za3)(L i j:Nat):Prop:=∀u v,M11.bE L u->M11.bE L v->(M11.walk T u i=M11.walk T v i↔M11.walk T u j=M11.walk T v j)
def FT.Fh (f:FT rs ps L N T){b:Nat->Bool}(E:∀r,r<N->(b r=true↔Lk T L r)):∃k,⇑((List.range N).filter b)* k=N:=by
 obtain⟨rep,D,eq⟩:∃rep:Nat->Nat,(∀i,i<N->rep i<N)/\∀i j,i<N->j<N->(rep i=rep j↔E2 T L i j):=by
  let d:∀i,i<N->(Classical.epsilon λj=>j<N/\E2 T L i j)<N/\E2 T L i (Classical.epsilon λj=>j<N/\E2 T L i j):=λi n=>akb (p:=λj=>j<N/\E2 T L i j) ⟨i,n,λ_ _ _ _=>Iff.rfl⟩
  rwa[⟨λi=>Classical.epsilon λj=>j<N/\E2 T L i j,λi n=>(d i n).1,λi j n t=>⟨λe u v c g=>?_,λe=>ahS Classical.epsilon (funext λa=>propext (and_congr_right λ_=>⟨λq u v c g=>?_,λq u v c g=>?_⟩))⟩⟩]
  ·let e:(Classical.epsilon λa=>a<N/\E2 T L i a)=Classical.epsilon λa=>a<N/\E2 T L j a:=e
   rw[(d i n).2 u v c g,e,(d j t).2 u v c g]
  ·rw[<-e u v c g];rwa[q u v c g]
  ·rw[e u v c g];rwa[q u v c g]
 let lk:∀r,r<N->(Lk T L r↔E2 T L r 0):=λr m=>by
  rwa[⟨λh u v c g=>⟨λe=>?_,h u v c g⟩,λh u v c g e=>(h u v c g).mpr e⟩];obtain⟨W,hW⟩:∃W:Nat->Zg,∀i,i<N->M11.bE L (W i)/\M11.walk T (W i) 0=i:=⟨λi=>Classical.epsilon λu=>M11.bE L u/\M11.walk T u 0=i,λi n=>akb (p:=λu=>M11.bE L u/\M11.walk T u 0=i) (f.c i n)⟩
  let th:∀u,M11.bE L u->M11.walk T (W (M11.walk T u 0)) r=M11.walk T u r:=λu c=>by
   let⟨a,b⟩:=hW _ (f.lt c f.pos);rwa[h _ _ a c b]
  rwa[Ls (f:=λi=>M11.walk T (W i) r) (λj t=>?_) (f.lt c f.pos) (f.lt g f.pos) (by cbv)];let⟨B,z,H⟩:=f.c r m;let⟨J,I,F⟩:=f.c j t;let st:=jD (M11.lH z) I;erw[M11.walk T (M11.back B++J) 0,f.lt st f.pos];show M11.walk T (W _) r=j;have:=(f.bk z f.pos).1;rw[H]at this;rw[th _ st,M11.ip,this,F]
 let cnt:∀i,i<N->((List.range N).map rep).count (rep i)=⇑((List.range N).filter b):=λi n=>by
  let⟨v,d,rfl⟩:=f.c i n;rw[Jn (s0:=rep 0) (f.pm d) λr m=>?_,List.count,List.countP_map,ajq]
  ·congr 1
   rwa[ajF λr m=>?_]
   let m:=ahj.mp m;rw[ahM,E r m,lk r m,<-eq r 0 m f.pos];rwa[ajC]
  ·rw[eq _ _ (f.lt d m) n,eq _ _ m f.pos]
   let key:∀{v r s},M11.bE L v->E2 T L r s->E2 T L (M11.walk T v r) (M11.walk T v s):=λ{v r s} d h u G c o=>by
    have:=h (v++u) (v++G) (jD d c) (jD d o)
    rwa [M11.ip,M11.ip,M11.ip,M11.ip]at this
   rwa[⟨λh=>?_,key d⟩];have:=key (M11.lH d) h
   rwa [(f.bk d m).1,(f.bk d f.pos).1]at this
 haveI:DecidablePred λs=>∃i,i<N/\rep i=s:=λ_=>Classical.propDecidable _
 rwa[⟨_,(cover (C:=(List.range N).filter λs=>∃i,i<N/\rep i=s) (l:=(List.range N).map rep) (ajh.filter _) (λx Q=>?_) λy O=>?_).trans (by cbv)⟩]
 ·cbv
 cbv
end
def PH (K:Za1):Sp:=λe H Q _=>∃(a:Zs) (f:Zg),e=[↑a]/\aD K H a (ao f)/\∀l c o b d,aq H d->d l\.tup [.int ((b:Nat):Int),.str (tx c)]->(c=lL o\/c=[]/\o=0)->o<3->1<=b->b<=24->Q ↑l d
seal L2.PE L2.PS L2.iJ L2.PA L2.PT
def zA (T:Txt K mg A):T.p5.Ok P w base 2 (PH K):=by
 rwa[T.p5.on iZ (λC O r s H N Q E G h=>?_) (len:=by rintro _ _ _ _ ⟨a,u,rfl,_⟩;rfl)]
 ·let⟨a,u,rfl,L,k⟩:=h
  erw[_,(ai (bH 1 iZ.nd (pc T.bM (bG T) G (ae (pv 0) (ae ax aj))))
   (ai (bH 2 iZ.nd (bC bu (bT (ae ax (ae ax (ae ax (ae ax aj g6) g6) g6) g6)) (aP bV (aP dG (pv 1) ax) ax) (λ_ _=>rfl)))
   (ai (bP (bJ (aZ fb (aP bV (pv 1) ax) ax (bh _))
    (au (bH 2 iZ.nd (aP cZ ax (aP bV (aP dG (pv 1) ax) ax))))
    bj))
   (au (bx (cP (ae (pv 2) (ae (bC bu (bT (ae (fA (l:=[114,111,111,109,115]) rfl) (ae (fA (l:=[108,101,116,116,101,114,115]) rfl) (ae (fA (l:=[110,101,119,101,115,116]) rfl) (ae (fA (l:=[]) rfl) aj g6) g6) g6) g6)) (aP bV (aP dG (pv 1) ax) ax) (λ_ _=>rfl)) aj))))))))]
  rwa[gR ?_];intro D M B;rwa[⟨12,a,u,(7),2,L,4,λz=>?_⟩];rwa[⟨by show 4<=sizeLine;decide,λq t=>⟨121122,⟨44⟩,1122,(by show (0:Int)<4;decide),5⟩⟩]
  obtain⟨b,c,j,d⟩:∃b:Nat,iQ [V.int 12,V.int 12,V.int 12,V.int 24] (z / 2 % 4)\.int (b:Int)/\1<=b/\b<=24:=by
   rcases (show z / 2 % 4=0\/z / 2 % 4=1\/z / 2 % 4=2\/z / 2 % 4=3 by omega) with e|e|e|e
   ·rwa[⟨(12),by rw[e];rfl,by decide,by decide⟩]
   ·rwa[⟨(12),by rw[e];rfl,by decide,by decide⟩]
   ·rwa[⟨(12),by rw[e];rfl,by decide,by decide⟩]
   ·rwa[⟨(24),by rw[e];rfl,by decide,by decide⟩]
  rwa[⟨q,_,_,_,rfl,rfl,aD.of ah,c,?_⟩];let s1:=aq.upd (o:=.lst [V.int 12,V.int 12,V.int 12,V.int 24]) t;change upd H q _=F at s1 ⊢;erw[λ g v=>∃b:Nat,g=#v[↑a,.int z,.int b]/\v=F/\1<=b/\b<=24,5]
  ·rwa[⟨121122,(by show (0:Int)<2;decide),212,bW (λ_=>?_) (λ_=>⟨b,22,j,d⟩)⟩];erw[121122,⟨44⟩,1122,(by show (0:Int)<12;decide),1122];let⟨x,I,y⟩:=j2 (z / 2) (n:=12) ⋯;rw[show z / 2 % 12=(x:Int) from I,show (1:Int)+ (x:Int)=((1+ x:Nat):Int) by ext];rwa[1+ x,2233]
  clear j d c;rintro g v ⟨b,rfl,rfl,j,d⟩;rwa[⟨12,by show 4<=sizeLine;decide,λq t=>⟨121122,⟨44⟩,1122,(by show (0:Int)<4;decide),5⟩⟩]
  obtain⟨i,f,c,p,m⟩:∃(i:Zh) (f:Nat),iQ [V.str (tx [114,111,111,109,115]),V.str (tx [108,101,116,116,101,114,115]),V.str (tx [110,101,119,101,115,116]),V.str (tx [])] (z / 48 % 4)\.str (tx i)/\(i=lL f\/i=[]/\f=0)/\f<3:=by
   rcases (show z / 48 % 4=0\/z / 48 % 4=1\/z / 48 % 4=2\/z / 48 % 4=3 by omega) with e|e|e|e
   ·rwa[⟨_,(0),by rw[e];rfl,.inl rfl,by decide⟩]
   ·rwa[⟨_,(1),by rw[e];rfl,.inl rfl,by decide⟩]
   ·rwa[⟨_,(2),by rw[e];rfl,.inl rfl,by decide⟩]
   ·rwa[⟨_,(0),by rw[e];rfl,.inr ⟨rfl,rfl⟩,by decide⟩]
  rwa[⟨q,_,_,_,rfl,rfl,aD.of ah,c,by show 2<=sizeLine;decide,λl J=>?_⟩];rwa[k l i f b _ (s1.trans ((aq.upd t).trans (aq.upd J))) ah p m j d]
unseal L2.PE L2.PS L2.iJ L2.PA L2.PT
def yb {T:Za3}(h:TabAt H a T)(e:M11.Tab n T)(c:i<⇑T):∃(rs:Zn) (r:Zs) (row:Zg),H a\.lst (rs.map V.ref)/\rs[i]?\r/\H r\.lst (ao row)/\⇑row=2* n/\∀k,k<2* n->row[k]?\((M11.nx T k i:Nat):Int):=by
 let⟨rs,l,d⟩:=h;let b:i<⇑rs:=by rw[d.1];rwa[c]
 let f:rs[i]?=some rs[i]:=agG b
 let g:T[i]?=some T[i]:=agG c
 rwa[⟨rs,11,l,f,d.2 i _ _ f g,e.row i _ g,λk j=>?_⟩];let⟨r,m,o⟩:=e.val i k c j
 cbv
def nL {k:Nat}(h:k<2* n):M11.bE n [M12.st k]:=λs a=>[agK.mp a]▸M12.sZ h
structure PI (φ:Nat->Nat) (E:Zg) (N q:Nat) (xs:Zb):Prop where
 l:⇑xs=N
 z:xs[0]?\(.int (φ 0:Nat))
 h:∀(q' j:Nat),q'<q->E[q']?\(j:Int)->xs[j]?\(.int (φ j:Nat))
def PI.set {a:Nat->Nat}{xs:Zb}(h:PI a l n m xs)(e:l[m]?\(j:Int))(d:j<n):PI a l n (m+ 1) (xs.set j (.int (a j:Nat))):=by
 let st:∀i,xs[i]?\V.int (a i:Nat)->(xs.set j (.int (a j:Nat)))[i]?\(V.int (a i:Nat)):=λi f=>by
  cbv
 rwa[⟨by rw[ahb,h.l],st 0 h.z,λb i g c=>?_⟩];rcases aiS b m with r|r
 ·rwa[st i (h.h b i r c)]
 ·have:b=m:=by ext
  rw[this,e]at c;have:j=i:=by have:=Za0 c;ext
  subst this;rw[List.getElem?_set,ag8 rfl,ag8 ([h.l]▸d)]
def PI.get {a:Nat->Nat}{W:Nat}(fc:M12.Fc W l n)(h:PI a l n m L)(d:i<n)(f:i* W<=m):L[i]?\(.int (a i:Nat)):=by
 rcases Nat.eq_zero_or_pos i with r|r
 ·rw[r];rwa[h.z]
 ·let⟨b,e,c,_⟩:=fc.2 i r d;rwa[h.h b i ∅ c]
def PI.end_ {b:Nat->Nat}{W:Nat}(fc:M12.Fc W l n)(h:PI b l n (n* W) L):L=ao (nI ((List.range n).map b)):=by
 rwa[aiF λi=>?_]
 cases c:i<n
 ·rw[h.get fc c (aik _ ∅),bU (gk (n:=b i) (by rw[agY,aip c];rfl))]
 ·rw[aho (by rw[h.l];omega),aho (by rw[aI,bF,agH,ahp];omega)]
inductive Cy (vs:Zb) (H:Hp) (Q:VK) (E_:XK):Prop
 |mk (a ta:Zs) (T rows:Za3) (p:Nat) (φ:Nat->Nat):vs=[↑a,↑ta,.int (φ 0:Nat)]->TabAt H a T->M11.Tab ⇑rows T->M12.Fc (2* ⇑rows) T.flatten ⇑T->TabAt H ta rows->(∀r∈rows,M11.Pm p r)->p<=6->(∀i,i<⇑T->φ i<p/\∀k,k<2* ⇑rows->φ (M11.nx T k i)=sf rows (φ i) (M12.st k))->(∀l H',aq H H'->H' l\.lst (ao (nI ((List.range ⇑T).map φ)))->Q ↑l H')->Cy vs H Q E_
def yc (T:Txt K mg A):T.nU.Ok P w base 2 Cy:=by
 rwa[T.nU.on dN (λcz AA outer s H vs Q E hr h=>?_)]
 ·let⟨a,ta,TT,rows,p,y,rfl,J,tab,fc,hTu,wY,wX,ND,k⟩:=h
  refine⟨_,(ai (bH 3 dN.nd (aP QF (bT (ae du aj)) (bz bf rfl T.cR ahl (ae (pv 0) aj))))
   (ai (jE (pv 2) (oh (pv 3) ax set_list))
   (ai (cK ag9 rfl (uA rfl T.ku (pv 0)) (kz rfl (cF (dz 4 dN.nd) (cF (dz 5 dN.nd) ji)))
    (au (cK ag9 rfl (uA rfl T.ku (pv 5)) (kz rfl (cF (dz 6 dN.nd) (cF (dz 7 dN.nd) ji)))
     (ai (bH 8 dN.nd (aP lU (aP cZ ax (aP dG (pv 6) ax)) (bC bu (bT (ae ax (ae (e8 dE ax) aj))) (aP bV (pv 6) ax) (λ_ _=>rfl))))
     (au (jE (pc T.iE (i3 T) hr (ae (pv 1) (ae (bC bu (pv 3) (pv 4) (λ_ _=>rfl)) (ae (cP (ae (pv 8) aj)) aj)))) (oh (pv 3) (pv 7) set_list)))))))
   (au (bx (pv 3)))))),?_⟩
  rwa[gR ?_];intro jA fX gH;let⟨rs,t,NF⟩:=id J;let N:=tab.pos;let UA:=tab.top;let nF:=tab.Ss;let d:⇑(rs.map V.ref)=⇑TT:=by rw[agH,NF.1]
  rwa[⟨by show 1<=sizeLine;decide,λq nq=>?_⟩];let s1:=aq.upd (o:=.lst [V.non]) nq;rwa[⟨12,a,12,.inl (aD.of (s1^t)),q,1122,ah,3,by rw[d];ext,[d,ahg]▸agT (show 1* ⇑TT<=300 by omega) ⋯,λl nl=>?_⟩];let M:=s1.free nl;let s2:=s1.trans (aq.upd (o:=.lst (List.replicate (((⇑(rs.map V.ref):Nat):Int)).toNat [V.non]).flatten) nl);erw[1212,l,11,(0),22,ah,5]
  ·rw[len_rep,d];unfold qP;rw[ag8 ⋯,ag8 (show (0:Int)<((⇑TT:Int).toNat * [V.non].length:Nat) by show (0:Int)<(_* 1:Nat);omega)];rfl
  let e3:∀{X Y:HO},aq H (upd (upd (upd H q (.lst [V.non])) l X) l Y):=λb o e=>by rw[ak (av e M)];rwa[(s1.trans (aq.upd nl)) _ _ e]
  let P0:PI y TT.flatten ⇑TT 0 ((List.replicate ((⇑(rs.map V.ref):Int)).toNat [V.non]).flatten.set 0 (.int (y 0:Nat))):=by
   let el:⇑((List.replicate ((⇑(rs.map V.ref):Int)).toNat [V.non]).flatten)=⇑TT:=by rw[len_rep,d,ahg];rwa[Nat.mul_one _]
   rwa[by rw[ahb,el],by rw[List.getElem?_set,ag8 rfl,ag8 ([el]▸N)],λq' j h=>∅]
  change (List.replicate ((⇑(rs.map V.ref):Int)).toNat [V.non]).flatten.set 0 (V.int (y 0:Nat))=X0 at P0 ⊢;erw[12,a,2,⟨_,aD.of (e3^t)⟩]
  refine qV (K:=K) (a:=a) (xs:=rs.map V.ref) (λi m C=>∃(X:Zb) (v4 v5 B u x:Zc),m=#v[↑a,↑ta,.int (y 0:Nat),↑l,v4,v5,B,u,x]/\aq H C/\C l\.lst X/\PI y TT.flatten ⇑TT (i* (2* ⇑rows)) X)
   ⟨X0,none,none,none,none,none,2,e3,ah,[Nat.zero_mul]▸P0⟩ (λi m C _ ζ=>by let⟨_,_,_,_,_,_,_,s,_⟩:=ζ;rwa[aD.of (s^t)]) ?_ ?_
  ·clear P0;rintro i v m C p2 hi hp ⟨X,v4,v5,B,u,x,rfl,s2,c,O⟩;let g:i<⇑TT:=by rw[<-d];rwa[(agE.mp hi).1]
   let⟨rs',r,row,I,t2,t3,t4,t5⟩:=yb J tab g;rw[t]at I;injection I with I
   injection I with I
   rw[I,agY,t2]at hi;let ev:V.ref r=v:=Za0 hi;subst ev;let D:=aq.upd (o:=.tup [.int (i:Int),↑r]) hp;let s3:=s2.trans D;replace c:=D^c;erw[p2,12,bN.of ah,21121122];change upd C p2 (.tup [.int (i:Int),↑r])=H3 at s3 c ⊢;erw[12,r,2,⟨_,aD.of (s3^t3)⟩]
   refine qV (K:=K) (a:=r) (xs:=ao row) (λn m F=>∃(X:Zb) (B u x:Zc),m=#v[↑a,↑ta,.int (y 0:Nat),↑l,.int (i:Int),↑r,B,u,x]/\aq H F/\F l\.lst X/\PI y TT.flatten ⇑TT (i* (2* ⇑rows)+ n) X)
    ⟨X,B,u,x,2,s3,c,O⟩ (λn m F _ ζ=>by let⟨_,_,_,_,_,s,_⟩:=ζ;rwa[aD.of (s^t3)]) ?_ ?_
   ·clear O c D;rintro n v m F p4 hn hp4 ⟨X,B,u,x,rfl,s4,c,G⟩;let⟨z,rfl,hz⟩:=cI hn;let f:n<2* ⇑rows:=by rw[<-t4];rwa[(agE.mp hz).1]
    rw[t5 n f]at hz;let ez:=Za0 hz;subst ez
    let e9:TT.flatten[i* (2* ⇑rows)+ n]?\((M11.nx TT n i:Nat):Int):=by
     let⟨r9,x1,x2⟩:=tab.val i n g f;rw[M12.Ef ∅ tab.row x1 f];rwa[x2]
    let Jk:=tab.lt i n g f;let⟨Z,aau⟩:=ND i g;let P5:=G.set e9 Jk;rw[aau n f]at P5;let hXi:=G.get fc g ∅;let hXl:=G.l;let D:=aq.upd (o:=.tup [.int (n:Int),.int ((M11.nx TT n i:Nat):Int)]) hp4;let s5:=s4.trans D;replace c:=D^c;erw[p4,12,bN.of ah,21121122];change upd F p4 (.tup [.int (n:Int),.int ((M11.nx TT n i:Nat):Int)])=H5 at s5 c ⊢
    obtain⟨U,Uz,hsg,XC,hs2⟩:∃U:Int,iQ [V.int 1,V.int (-1)] ((n:Int) % 2)\.int U/\(1+ (n:Int) / 2)* U=M12.st n/\-1<=U/\U<=1:=by
     unfold M12.st;rcases (show n % 2=0\/n % 2=1 by omega) with e|e
     ·rwa[⟨(1),by rw[show (n:Int) % 2=0 by ext];rfl,by rw[ag8 e];ext,by decide,by decide⟩]
     ·rwa[⟨-1,by rw[show (n:Int) % 2=1 by ext];rfl,by rw[ag3 (by omega)];ext,by decide,by decide⟩]
    rwa[⟨_,rfl,_,_,rfl,rfl,⟨by decide,by decide⟩,_,_,rfl,rfl,_,rfl,by show 2<=sizeLine;decide,λq6 nq6=>?_⟩];let S:=aq.upd (o:=.lst [V.int 1,V.int (-1)]) nq6;erw[121122,(by show (0:Int)<2;decide),q6,11122,aD.of ah,Uz,1122,.inr ⟨33⟩];rw[hsg];let L:=S^c;rwa[⟨121212,l,11122,aD.of L,cD hXi,12,by show 1<=sizeLine;decide,λq7 R=>?_⟩];let s7:=s5.trans (S.trans (aq.upd (o:=.tup [V.int (M12.st n)]) R));erw[ta,q7,rows,p,y i,[M12.st n],2,hTu.same s7,wY,Z,3,ah,nL f,3];erw[1212,l,11,M11.nx TT n i,22,(aq.upd R) _ _ L,5]
    ·unfold qP;rw[ag8 ∅,ag8 ∅,ahg]
    rwa[11112,λb o e=>[ak (av e M)]▸s7^e,ah,P5]
   ·rintro m F ⟨X,B,u,x,rfl,s4,c,G⟩;rw[aI,t4,show i* (2* ⇑rows)+ 2* ⇑rows=(i+ 1)* (2* ⇑rows) by rw[aje];ext]at G;rwa[X,111112,s4,c,G]
  ·rintro m C ⟨X,v4,v5,B,u,x,rfl,s2,c,O⟩;rw[d]at O;rw[O.end_ fc]at c;rwa[12,k l C s2 c]
structure LI (T:Za3) (L r:Nat) (kvs:List (Key×V)) (cs:Zh) (τ:Nat->Nat) (n j:Nat):Prop where
 v:∀c:Nat,bB kvs (Sum.inl (c:Int))=if c∈cs then some (.int (τ c:Nat)) else none
 l:⇑kvs<=⇑cs
 u:cs.Nodup
 z:cs[0]?\0
 z':τ 0=r
 w:∀c∈cs,∃u,M11.bE L u/\M11.walk T u 0=c/\M11.walk T u r=τ c
 d:∀i c k,cs[i]?\c->k<2* L->i<n\/i=n/\k<j->M11.nx T k c∈cs/\τ (M11.nx T k c)=M11.nx T k (τ c)
section
variable {T:Za3}{L r n j c:Nat}{kvs:List (Key×V)}{cs:Zh}{τ:Nat->Nat}
def LI.lt (tab:M11.Tab L T)(e:r<⇑T)(h:LI T L r kvs cs τ n j):(∀c∈cs,c<⇑T/\τ c<⇑T)/\⇑cs<=⇑T:=by
 let a:∀c∈cs,c<⇑T/\τ c<⇑T:=λc hc=>by
  let⟨u,b,d,f⟩:=h.w c hc;rw[<-f,<-d];rwa[M11.sY tab b tab.pos,M11.sY tab b e]
 rwa[a,M11.eF _ _ h.u λc hc=>(a c hc).1]
def EJ (u:Zg)(k i:Nat):M11.walk T (u++[M12.st k]) i=M11.nx T k (M11.walk T u i):=by
 rw[M11.ip];show M11.nx T (M11.pl (M12.st k)) _=_;rw[M12.vH]
def LI.wd (h:LI T L r kvs cs τ n j)(hc:c∈cs)(a:j<2* L):∃u,M11.bE L u/\M11.walk T u 0=M11.nx T j c/\M11.walk T u r=M11.nx T j (τ c):=by
 let⟨u,d,b,e⟩:=h.w c hc;rwa[u++[M12.st j],jD d (nL a),by rw[EJ,b],by rw[EJ,e]]
def LI.add (h:LI T L r kvs cs τ n j)(hc:cs[n]?\c)(m:j<2* L)(f:¬M11.nx T j c∈cs):LI T L r (putK kvs (Sum.inl ((M11.nx T j c:Nat):Int)) (.int (M11.nx T j (τ c):Nat))) (cs++[M11.nx T j c]) (λx=>if x=M11.nx T j c then M11.nx T j (τ c) else τ x) n j:=by
 let g:=agC hc;let ne:∀x∈cs,(if x=M11.nx T j c then M11.nx T j (τ c) else τ x)=τ x:=λx d=>ag3 λe=>f (by rw[<-e];rwa[d])
 rwa[⟨λx=>?_,5555,λx d=>?_,λi x k d l p=>?_⟩]
 ·rw[j3,h.v]
  cbv
 ·have:=fP kvs (Sum.inl ((M11.nx T j c:Nat):Int)) (.int (M11.nx T j (τ c):Nat));have:=h.l;rw[agF];show _<=_+ 1;ext
 ·rw[ahz];rwa[h.u,by simp,λa s b t e=>f (by cbv)]
 ·rw[agN (agE.mp h.z).1];rwa[h.z]
 ·rw[ne 0 (agC h.z)];rwa[h.z']
 ·rcases agS.mp d with q|q
  ·rw[ne x q];rwa[h.w x q]
  ·rw[agK.mp q,ag8 rfl];rwa[h.wd g m]
 ·let o:i<⇑cs:=by
   have:=(agE.mp hc).1;ext
  rw[agN o]at d;let⟨a,b⟩:=h.d i x k d l p;rw[ne x (agC d),ne _ a];rwa[ag6 _ a,b]
def LI.step (h:LI T L r kvs cs τ n j)(hc:cs[n]?\c)(b:M11.nx T j c∈cs)(e:τ (M11.nx T j c)=M11.nx T j (τ c)):LI T L r kvs cs τ n (j+ 1):=by
 rwa[⟨h.v,h.l,h.u,h.z,h.z',h.w,λi x k a d f=>?_⟩];cases q:i=n/\k=j
 ·rw[q.1,hc]at a;rw[<-Za0 a,q.2];rwa[b,e]
 ·rwa[h.d i x k a d ∅]
def LI.next (h:LI T L r kvs cs τ n (2* L)):LI T L r kvs cs τ (n+ 1) 0:=⟨h.v,h.l,h.u,h.z,h.z',h.w,λi x k b a d=>h.d i x k b a ∅⟩
def LI.yes (h:LI T L r kvs cs τ n 0)(p:⇑cs<=n):Lk T L r:=by
 let key:∀(u:Zg) (c:Nat),M11.bE L u->c∈cs->τ (M11.walk T u c)=M11.walk T u (τ c):=λu=>by
  induction u with
  |nil=>exact λ_ _ _=>rfl
  |cons s u k=>
   intro c f hc;let⟨i,g⟩:=ahs hc;let⟨a,b⟩:=h.d i c _ g (M11.kl (f s agP)) (.inl (by have:=(agE.mp g).1;omega));have:=k _ (λt m=>f t (ag4 _ m)) a;rw[b]at this;rwa[this]
 intro u v o l e;let d:=key u 0 o (agC h.z);rw[e,key v 0 l (agC h.z),h.z']at d;rwa[d.symm]
def LI.no (h:LI T L r kvs cs τ n j)(hc:c∈cs)(d:j<2* L)(a:M11.nx T j c∈cs)(e:¬ τ (M11.nx T j c)=M11.nx T j (τ c)):¬Lk T L r:=λq=>by
 let⟨u,g,f,i⟩:=h.wd hc d;let⟨v,k1,k2,b⟩:=h.w _ a;have:=q u v g k1 (by rw[f,k2]);rw[i,b]at this;rwa[e this.symm]
end
inductive EK (vs:Zb) (H:Hp) (Q:VK) (E_:XK):Prop
 |mk (a:Zs) (T:Za3) (L r:Nat):vs=[↑a,.int r]->TabAt H a T->M11.Tab L T->r<⇑T->(∀b H',aq H H'->(b=true↔Lk T L r)->Q (.bl b) H')->EK vs H Q E_
def zB (T:Txt K mg A):T.p6.Ok P w base 1 EK:=by
 rwa[T.p6.on dC (λcz AA outer s H vs Q E hr h=>?_)]
 ·let⟨a,TT,L,r,rfl,S,tab,Ya,k⟩:=h;let F:=hV hr
  erw[_,(ai (bH 2 dC.nd (DE (Aj ax (pv 1) DC) rfl rfl (by simp) ⋯))
   (ai (bH 3 dC.nd (bT (ae ax aj)))
   (ai (bH 4 dC.nd ax)
   (ai (bP (eM ag9 (aZ m2 (pv 4) (bz bf rfl T.cR ahl (ae (pv 3) aj)) (bh _))
    (ai (bH 5 dC.nd (bC bu (pv 0) (bC bu (pv 3) (pv 4) (λ_ _=>rfl)) (λ_ _=>rfl)))
    (ai (bH 6 dC.nd (bC bu (pv 0) (sP F (pv 2) (bC bu (pv 3) (pv 4) (λ_ _=>rfl)) (λ_ _=>rfl)) (λ_ _=>rfl)))
    (ai (cK ag9 rfl (jj rfl T.eI (ae (bz bf rfl T.cR ahl (ae (pv 5) aj)) aj)) (dz 7 dC.nd)
     (ai (bP (bJ (Gp (yr F (bC bu (pv 5) (pv 7) (λ_ _=>rfl)) (pv 2)))
      (ai (oq F (pv 2) (bC bu (pv 5) (pv 7) (λ_ _=>rfl)) (bC bu (pv 6) (pv 7) (λ_ _=>rfl)) rfl)
      (au (aV (cH agQ ag0 ag2 bO (pv 3) (ae (bC bu (pv 5) (pv 7) (λ_ _=>rfl)) aj)))))
      bj))
     (au (bJ (aZ lB (sP F (pv 2) (bC bu (pv 5) (pv 7) (λ_ _=>rfl)) (λ_ _=>rfl)) (bC bu (pv 6) (pv 7) (λ_ _=>rfl)) (bh _))
      (au (bx mZ))
      bj))))
    (au (bH 4 dC.nd (aP cZ (pv 4) ax))))))))
   (au (bx mZ))))))]
  rwa[uC ?_];intro nH jA fX gH;let⟨rs,Cz,NF⟩:=id S;let aav:=tab.pos;let UA:=tab.top;let nF:=tab.Ss;intro d nd;rwa[⟨12,ah,[(Sum.inl 0,.int r)],2,by show 1<=15;decide,by show 1<=sizeLine;decide,λv EL=>?_⟩];let sd:∀{X Y:HO},aq H (upd (upd H d X) d Y):=λb o e=>by rw[ak (av e nd)];rwa[(aq.upd nd) _ _ e]
  let aaw:=sd.free EL;let s1:=sd.trans (aq.upd (o:=.lst [V.int 0]) EL);let J:=(aq.upd (o:=.lst [V.int 0]) EL) d _ ah;let mj:upd (upd (upd H d (.dK [])) d (.dK (fF [] [(Sum.inl 0,V.int (r:Int))]))) v (.lst [V.int 0]) v\(.lst (ao (nI [0]))):=ah
  let L0:LI TT L r (fF [] [(Sum.inl 0,V.int (r:Int))]) [0] (λ_=>r) 0 0:=by
   rwa[⟨λc=>?_,agJ _,by simp,22,λc l=>⟨[],λ_ z=>(by ext z),by rw[agK.mp l];rfl,2⟩,λi c k _ _ h=>∅⟩];show bB (putK [] (Sum.inl 0) (V.int (r:Int))) _=_;rw[j3];cases e:c=0
   ·rw[e];rfl
   ·rw[ag3 (λq=>e (by have:=Sum.inl.inj q;omega)),ag3 (by simpa using e)];rfl
  change upd (upd (upd H d (.dK [])) d (.dK (fF [] [(Sum.inl 0,V.int (r:Int))]))) v (.lst [V.int 0])=H1 at s1 J mj ⊢;change fF [] [(Sum.inl 0,V.int (r:Int))]=aax at L0 J
  let' Lv:St->Hp->Prop:=λ D H'=>∃(f:List (Key×V)) (cs:Zh) (g:Nat->Nat) (n:Nat),aq H H'/\LI TT L r f cs g n 0/\⇑cs<=n
  erw[Lv,5]
  ·rwa[mq ?_];intro NK;erw[λm σ H2=>∃(f:List (Key×V)) (cs:Zh) (g:Nat->Nat) (n:Nat) (v5 v6 R:Zc),m=⇑TT - n/\σ=#v[↑a,.int r,↑d,↑v,.int n,v5,v6,R]/\aq H H2/\H2 d\.dK f/\H2 v\.lst (ao (nI cs))/\LI TT L r f cs g n 0,⟨_,aax,[0],_,(0),none,none,none,22,s1,J,mj,L0⟩];clear L0 s1 J mj;intro m σ H2 p;rwa[eR ?_];intro y;let⟨f,cs,g,n,v5,v6,R,rfl,rfl,O,Z,C,L2⟩:=p;dsimp only[y];clear y;let⟨lt,kJ⟩:=L2.lt tab Ya;rwa[⟨1212,v,12,.inl (aD.of C),112212,bW (λh=>?_) λh=>?_⟩]
   ·let hn:n<⇑cs:=by have:=ahn h;rw[aI,bF]at this;ext
    let l:=agG hn;change cs[n]=c at l;let⟨c1,c2⟩:=lt c (agC l);obtain⟨t,x⟩:∃t,g c=t:=⟨12⟩;rw[x]at c2;let⟨_,U,aay,x1,x2,x3,x4,x5⟩:=yb S tab c1;let⟨_,rb,aaz,y1,y2,y3,y4,y5⟩:=yb S tab c2;erw[_,λ D H' h=>h];erw[121212,v,11122,aD.of C,cD (bU (gk l)),a,11122,aD.of (O^x1),dF x2];erw[12121212,v,11122,aD.of C,cD (bU (gk l)),d,125,a,11122,aD.of (O^y1),dF y2]
    ·have:=eQ.k (k:=Sum.inl (c:Int)) Z;rw[L2.v c,ag8 (agC l),x]at this;rwa[this]
    erw[12,U,12,.inl (aD.of (O^x3)),123,by rw[aI,x4];ext];rw[aI,x4,ahg]
    let' Lx:Nat->St->Hp->Prop:=λj σ H3=>∃(f:List (Key×V)) (cs:Zh) (g:Nat->Nat) (R:Zc),σ=#v[↑a,.int r,↑d,↑v,.int n,↑U,↑rb,R]/\aq H H3/\H3 d\.dK f/\H3 v\.lst (ao (nI cs))/\LI TT L r f cs g n j/\cs[n]?\c/\g c=t
    rwa[jk (lo:=0) (n:=2* L) Lx ⟨f,cs,g,R,2,O,Z,C,L2,l,x⟩ ?_ ?_]
    ·clear L2 l C Z O hn x lt kJ h;intro j σ H3 hj p;rwa[eR ?_];intro y;let⟨f,cs,g,R,rfl,N,u,B,M,l,x⟩:=p;dsimp only[y];clear y;let T4:=agC l;let⟨lt,kJ⟩:=M.lt tab Ya;let e1:iQ (ao aay) (0+ (j:Int))\(.int (M11.nx TT j c:Nat)):=by rw[ajX];rwa[cD (bU (x5 j hj))]
     let e2:iQ (ao aaz) (0+ (j:Int))\(.int (M11.nx TT j t:Nat)):=by rw[ajX];rwa[cD (bU (y5 j hj))]
     let' aaA:St->Hp->Prop:=λ D H'=>∃(f:List (Key×V)) (cs:Zh) (g:Nat->Nat),D=#v[↑a,.int r,↑d,↑v,.int n,↑U,↑rb,.int (0+ (j:Int))]/\aq H H'/\H' d\.dK f/\H' v\.lst (ao (nI cs))/\LI TT L r f cs g n j/\cs[n]?\c/\g c=t/\M11.nx TT j c∈cs
     erw[aaA,5]
     ·rwa[mq ?_];intro NK;erw[1212,U,11122,aD.of (N^x3),e1,12,d,12,eQ.k (k:=Sum.inl ((M11.nx TT j c:Nat):Int)) u,12];rw[M.v];cases I:M11.nx TT j c∈cs
      ·rw[ag8 I];rwa[dY ⟨f,cs,g,2,N,u,B,M,l,x,I⟩]
      ·rw[ag3 I];rwa[jI ?_];let L4:=M.add l hj I;rw[x]at L4;let hl:=M.l;erw[1212,rb,11122,aD.of (N^y3),e2,121212,U,11122,aD.of (N^x3),e1,d,12,pJ.k (k:=Sum.inl ((M11.nx TT j c:Nat):Int)) u (agO (show ⇑f<=300 by omega) ⋯)];let Yb:v≠d:=bY B u (by cbv);let s4:∀{X:HO},aq H (upd H3 d X):=λb o e=>by rw[ak (av e nd)];rwa[N^e]
       let G:∀{X:HO},upd H3 d X v\(.lst (ao (nI cs))):=by intro X;rw[ak Yb];rwa[B]
       erw[12,.inl ⟨21,aD.of G⟩,1212,U,11122,aD.of (s4^x3),e1,v,1122,G,[aI,bF]▸agO (show ⇑cs<=300 by omega) ⋯];rwa[⟨1112,λb o e=>[ak (av e aaw)]▸s4^e,by rw[ak Yb.symm,ah],by rw[ah,gn,ints_app];rfl,L4,[agN (agE.mp l).1]▸l,(ag3 λe=>I (by cbv)).trans x,agL _ (agK.mpr rfl)⟩]
     clear M l B u N x lt kJ T4;intro D H4 p;rwa[eR ?_];intro y;let⟨f,cs,g,rfl,s4,Mh,G,L4,l,x,I⟩:=p;dsimp only[y];clear y;erw[121212,U,11122,aD.of (s4^x3),e1,d,.int (g (M11.nx TT j c):Nat),251212,rb,11122,aD.of (s4^y3),e2,212]
     ·have:=eQ.k (k:=Sum.inl ((M11.nx TT j c:Nat):Int)) Mh;rw[L4.v,ag8 I]at this;rwa[this]
     cases e:g (M11.nx TT j c)=M11.nx TT j t
     ·rwa[ki (by rw[e]) ⟨f,cs,g,12,s4,Mh,G,L4.step l I ([x]▸e),l,x⟩]
     ·rwa[bW (λ_=>k false H4 s4 ⟨(λz=>by ext z),λz=>absurd z (L4.no (agC l) hj I ([x]▸e))⟩) λh=>absurd ?_ h]
      cbv
    ·intro σ H3 p;rwa[eR ?_];intro y;let⟨f,cs,g,R,rfl,N,u,B,M,l,x⟩:=p;dsimp only[y];clear y;rwa[⟨121122,⇑TT - (n+ 1),3,f,cs,g,n+ 1,11122,N,u,B,M.next⟩]
   ·rwa[f,cs,g,n,O,L2,by
     rcases aiS n ⇑cs with q|q
     ·rwa[absurd (ahh (by rw[aI,bF];omega)) h]
     ext]
  intro D H2 p;rwa[eR ?_];intro y;let⟨f,cs,g,n,O,L2,hn⟩:=p;dsimp only[y];clear y;rwa[k true H2 O ⟨λ_=>L2.yes hn,λ_=>rfl⟩]
def Kp.tabs {pos:Pos}(k:Kp a H I)(t:dc a pos x H){l:Zs}{T:Za3}(h:TabAt H l T):TabAt I l T:=by
 let⟨e,f,d⟩:=h;rwa[e,k.at t f (by cbv),d.1,λi r row c b=>k.at t (d.2 i r row c b) (by cbv)]
def Kp.words {pos:Pos}(k:Kp a H I)(t:dc a pos x H){l:Zs}{ws:Za3}(h:b8 H l ws):b8 I l ws:=by
 let⟨b,c,d⟩:=h;rwa[b,k.at t c (by cbv),d.keep λp f e=>k.at t e (by cbv)]
def PL (j:Nat):M12.st (M11.flip j)= -M12.st j:=by unfold M11.flip M12.st;split <;> split <;> ext
theorem yd (rows:Za3){L:Nat}:∀(w:Zg) (y:Nat),M11.bE L w->gw (λk y=>sf rows y (M12.st k)) w y=w.foldl (sf rows) y
 |[],_,_=>rfl
 |s::w,y,h=>by
  show gw (λk y=>sf rows y (M12.st k)) w (sf rows y (M12.st (M11.pl s)))=w.foldl (sf rows) (sf rows y s);rw[zJ (h s agP).1];rwa[yd rows w _ λt a=>h t (ag4 _ a)]
def VX {rows R P:Za3}{x:Nat}(d:∀r∈rows,M11.Pm n r)(i:x<n)(h:∀u∈R,Cu rows n u)(g:∀u∈P,Jh rows x u):Mv R P ⇑rows (λy=>y<n) (λk y=>sf rows y (M12.st k)) x:=by
 rwa[⟨i,λy k e f=>?_,λy k e f=>?_,λw c y e=>?_,λw c=>?_⟩]
 ·let⟨a,b⟩:=M12.sZ f;rwa[(tu d e a b).1]
 ·let⟨a,b⟩:=M12.sZ f;show sf rows (sf rows y (M12.st k)) (M12.st (M11.flip k))=y;rw[PL];rwa[(tu d e a b).2]
 ·rw[yd rows w y (h w c).1];rwa[(h w c).2.2 y e]
 ·rw[yd rows w x (g w c).1];rwa[(g w c).2.2]
def vd (l:Zh)(c:Nat):(nI l).count (c:Int)=l.count c:=by
 unfold nI;rw[List.count,List.countP_map,List.count];rwa[akg λr _=>?_]
 cbv
def Dg {j:TT}{Q:VK}(P:Nat->Bool)(p:n<=300)(l:∀(i:Nat) (b:Hp) (d:Bool->Hp->Prop),i<n->aq H b->(∀g,aq b g->d (P i) g)->j (some (.int (0+ (i:Int)))::D) b d)
 (q:∀(i:Nat) (b:Hp) (d:VK),d (.int (0+ (i:Int))) b->r (some (.int (0+ (i:Int)))::D) b d) (k:∀a b,aq H b->b a=none->Q ↑a (upd b a (.lst (ao (nI ((List.range n).filter P)))))):Al j r D Q (tR 0 n) H:=by
 erw[λi m ys b=>m=n - i/\i<=n/\ys=ao (nI ((List.range i).filter P))/\aq H b,⟨n,by simp,ahd _,2,λ_ _ e=>e⟩];rintro i m ys b ⟨rfl,u,rfl,s2⟩
 let hlen:⇑(ao (nI ((List.range i).filter P)))<=i:=by
  rw[aI,bF];rwa[agT (ait _ _) (by cbv)]
 cases c:i<n
 ·rwa[.inr ⟨c,5,λx g h=>?_⟩]
  ·rwa[agO (agT hlen (show i<=300 by omega)) ⋯]
  let⟨rfl,rfl⟩:=h;rwa[l i _ _ c s2 λt f=>?_]
  replace f:=s2.trans f
  cases s:P i with
  |true=>
   rwa[q i _ _ ⟨n - (i+ 1),32,c,5,f⟩];rw[ahR,aj5,ajf s,List.filter_nil,gn,ints_app,ajX];rfl
  |false=>
   rwa[⟨n - (i+ 1),32,c,5,f⟩];rw[ahR,aj5,aj4 (by cbv),List.filter_nil,ahe]
 ·let e:i=n:=∅
  subst e;rwa[.inl ⟨agJ _,agT hlen (agT p ⋯),λa o=>k a _ s2 o⟩]
def UB (T:Txt K mg A)(Ew:j7 mg base):T.law.Ok P w base 13 (zH K A.eD):=by
 rwa[T.law.on df (λcz AA outer s H vs Q E hr h=>?_) (len:=by rintro _ _ _ _ ⟨a,ns,rfl,_⟩;rfl)]
 ·let⟨a,ns,rfl,ha,X5,hP,k⟩:=h;let qG:=hV hr
  erw[_,(ai (jE (pc T.p1 (zz T) hr (ae (pv 0) aj)) (kz rfl (cF (dz 1 df.nd) (cF (dz 2 df.nd) (cF (dz 3 df.nd) (cF (dz 4 df.nd) (cF (dz 5 df.nd) ji)))))))
   (ai (jE (pc T.p5 (zA T) hr (ae (pv 0) aj)) (kz rfl (cF (dz 6 df.nd) (cF (dz 7 df.nd) ji))))
   (ai (jE (pc T.nT (ya T Ew) hr (ae (pv 1) (ae (pv 3) (ae (pv 4) (ae (pv 6) (ae (pv 7) aj)))))) (kz rfl (cF (dz 8 df.nd) (cF (dz 9 df.nd) ji))))
   (ai (bJ (aZ oj (pv 9) du (bh _))
    (au (bx mZ))
    bj)
   (ai (bH 10 df.nd (bC gj (pv 8) ax (λ_ _=>rfl)))
   (ai (bH 11 df.nd (pc T.nU (yc T) hr (ae (pv 10) (ae (pv 2) (ae (pv 5) aj)))))
   (ai (bH 12 df.nd (bT (ae (pv 5) aj)))
   (ai (bH 13 df.nd ax)
   (ai (bP (eM ag9 (aZ m2 (pv 13) (bz bf rfl T.cR ahl (ae (pv 12) aj)) (bh _))
    (ai (cK ag9 rfl (kA rfl T.eI (ae ax (ae (aP cZ (pv 1) ax) aj))) (dz 14 df.nd)
     (au (cK ag9 rfl (cX (bT (ae (pv 14) (ae (e8 dE (pv 14)) aj)))) (dz 15 df.nd)
      (ai (bH 16 df.nd (pc T.iE (i3 T) hr (ae (pv 2) (ae (bC bu (pv 12) (pv 13) (λ_ _=>rfl)) (ae (cP (ae (pv 15) aj)) aj)))))
      (au (bP (bJ (aZ Fm (pv 16) (pv 12) rfl)
       (au (aV (cH agQ ag0 ag2 bO (pv 12) (ae (pv 16) aj))))
       bj)))))))
    (au (bH 13 df.nd (aP cZ (pv 13) ax))))))
   (ai (bH 17 df.nd (cH agQ PySem.F.slot_list_count PySem.F.type_list_count qu (pv 11) (ae (pv 5) aj)))
   (ai (cK ag9 rfl (cX (pv 12)) (dz 16 df.nd)
    (au (bJ (aZ lB (cH agQ PySem.F.slot_list_count PySem.F.type_list_count qu (pv 11) (ae (pv 16) aj)) (pv 17) (bh _))
     (au (bx mZ))
     bj)))
   (ai (bJ (aZ lB (aP lU (pv 17) (bz bf rfl T.cR ahl (ae (pv 12) aj))) (bz bf rfl T.cR ahl (ae (pv 10) aj)) (bh _))
    (au (bx mZ))
    bj)
   (ai (qp (iy:=18) df.nd rfl (Or.inl rfl) (fns:=["_law_table"]) (ixs:=[10]) (cl:=_) rfl (jj rfl T.eI (ae (bz bf rfl T.cR ahl (ae (pv 10) aj)) aj)) (lD rfl rfl ⋯ rfl ⋯ rfl ⋯ ⋯ rfl rfl rfl rfl) (λC s H ex=>(ic (pc T.p6 (zB T) hr (ae (pv 1) (ae (pv 0) aj))))) (λC s H ex=>(pv 0)))
   (ai (bP (bJ (PW.pt (vf (aZ (Ob qG) (pv 4) (bT aj) (bh _)) (sJ (aZ lB (bz bf rfl T.cR ahl (ae (pv 18) aj)) (bz bf rfl T.cR ahl (ae (pv 10) aj)) (bh _)))))
    (au (bx mZ))
    bj))
   (au (bx (P9 (sL Oc ax (pv 18) rfl) (P8 (sL fb (aP bV (bz bf rfl T.cR ahl (ae (pv 10) aj)) (bz bf rfl T.cR ahl (ae (pv 18) aj))) ax (bh _))))))))))))))))))))]
  rwa[Hj ?_];intro afr afs aaq aar aas u_9 WL MG BE qF nH jA fX gH;let ha:aD K H a (ao ns):=ha;rwa[⟨12,a,ns,2,ha,X5,λq ta ra pa rows p x R P_ H1 s1 hq M mU X3 wY wX Yc wR UC NC wP UD X9=>?_⟩];erw[q,12,bN.of hq,21121121121121122];rwa[⟨12,a,ns,2,s1.seq ha,λq2 ot o O H2 s2 BI hot Uw yU aaB=>?_⟩];erw[q2,12,bN.of BI,21121122];replace wR:=wR.same s2;replace wP:=wP.same s2;replace M:=M.same s2;replace s1:=s1.trans s2;let ok:∀u∈R++P_,Nu ⇑rows u:=λu hu=>(agS.mp hu).elim (λh=>⟨agT (UC u h).2.1 ⋯,(UC u h).1⟩) λh=>⟨(UD u h).2.1,(UD u h).1⟩
  let yW:∀u∈R++P_,∀z∈u,z∈bq (2* ⇑rows)/\-z∈bq (2* ⇑rows):=λu hu z hz=>((sF ∅ (ok u hu)).2 z hz).2
  let hT:dc A.eD dU iz H2:=.inl (s1^hP);let fit:O* ⇑R+ ⇑P_<=700:=by have:=ajM aaB NC;ext
  rwa[⟨1212121212,ra,pa,⇑rows,O,o,ot,R,P_,2,hot,Uw,mU,3,yU,3,wR,wP,ok,fit,33,hT,λq t tb pp S N H' k1 t1 f1 g1 a0 a1 a2 a3 _=>?_,λq y dd pp S H' k1 t1 f1 m1 l1 a0 _ _ _=>?_⟩]
  ·let⟨hm,eL⟩:=f1.mL yW yU;rw[eL]at a2 a3;let⟨hNm,ft⟩:=f1.ft yW g1 ∅ mU ∅ a3;erw[q,12,bN.of a0,21121122];replace wP:=k1.words hT wP;replace M:=k1.tabs hT M;change M24.eU (bA S) (2* ⇑rows) (M24.aX (bA S) (2* ⇑rows) 0 N)=TT at a2 ft;let tab:=ft.t;let Yd:=ft.n;let aav:=tab.pos;let UA:=tab.top;clear k1 a0 hT t1 a3 g1 wR yW fit s1 s2 hq BI;let mv:=VX wY Yc UC UD;let⟨φ,h0,ND,cov⟩:=ft.over mv;rwa[⟨12212,bW (λh=>absurd h ⋯) λ_=>?_⟩];erw[12,t,11122,bN.of a1,2];rwa[⟨121212,tb,ta,TT,rows,p,φ,by rw[h0];rfl,a2,tab,ft.f,M,wY,wX,λi hi=>ND i ∅,λlp H3 s3 Y=>?_⟩];replace M:=M.same s3;replace a2:=a2.same s3;replace wP:=wP.same s3;clear s3 a1;rw[Yd]at Y;let⟨rs,Cz,NF⟩:=id a2;let o6:⇑(rs.map V.ref)=N:=by rw[agH,NF.1,Yd]
   rwa[⟨12,by show 1<=sizeLine;decide,λL EL=>?_⟩];let s4:=aq.upd (o:=.lst [V.int (x:Int)]) EL;let UE:upd H3 L (.lst [V.int (x:Int)]) L\(.lst (ao (nI [x]))):=ah;obtain⟨f,hf⟩:∃f:Nat->Nat->Nat,f=λk y=>sf rows y (M12.st k):=⟨12⟩
   let Ye:∀y k,(y<p/\∃v,M11.bE ⇑rows v/\y=gw f v x)->k<2* ⇑rows->f k y<p/\∃v,M11.bE ⇑rows v/\f k y=gw f v x:=λy k ζ hk=>by
    let⟨h1,v,h2,h3⟩:=ζ
    let⟨a,b⟩:=M12.sZ hk;erw[[hf]▸(tu wY h1 a b).1,v++[M12.st k],jD h2 (nL hk)];rw[Jl,<-h3];show _=f (M11.pl (M12.st k)) y;rw[M12.vH]
   let al:=λn=>M24.lQ (P:=λy=>y<p/\∃v,M11.bE ⇑rows v/\y=gw f v x) (f:=f) (k:=2* ⇑rows) (x0:=x) ⟨Yc,[],λ_ z=>(by ext z),2⟩ Ye n
   rw[<-hf]at cov;change upd H3 L (.lst [V.int (x:Int)])=H4 at s4 UE ⊢
   let' Lv:St->Hp->Prop:=λ fm H'=>∃(n:Nat) (l g d:Zc),fm=#v[↑a,.int ⇑rows,↑ta,↑ra,↑pa,.int x,.int O,.str (tx ot),↑t,some .non,↑tb,↑lp,↑L,.int n,l,g,d,none,none]/\aq H3 H'/\H' L\.lst (ao (nI (M24.aX f (2* ⇑rows) x n)))/\⇑(M24.aX f (2* ⇑rows) x n)<=n
   erw[Lv,5]
   ·rwa[mq ?_];intro NK;erw[λm X H5=>∃(n:Nat) (l g d:Zc),m=p - n/\X=#v[↑a,.int ⇑rows,↑ta,↑ra,↑pa,.int x,.int O,.str (tx ot),↑t,some .non,↑tb,↑lp,↑L,.int n,l,g,d,none,none]/\aq H3 H5/\H5 L\.lst (ao (nI (M24.aX f (2* ⇑rows) x n))),⟨_,(0),none,none,none,22,s4,UE⟩];clear s4 UE;intro m X H5 I;rwa[eR ?_];intro U;let⟨n,l,g,d,rfl,rfl,s5,J⟩:=I;dsimp only[U];clear U;let ER:=al n;let nd:=M24.gA f (2* ⇑rows) x n;let os:∀y,(M24.aX f (2* ⇑rows) x n)[n]?\y->M24.aX f (2* ⇑rows) x (n+ 1)=M24.da f y (M24.aX f (2* ⇑rows) x n) (2* ⇑rows):=λy h=>M24.eT h
    generalize hC:M24.aX f (2* ⇑rows) x n=C at J ER nd os;rwa[⟨1212,L,12,.inl (aD.of J),112212,bW (λh=>?_) λh=>?_⟩]
    ·let hn:n<⇑C:=by have:=ahn h;rw[aI,bF]at this;ext
     let hy:=agG hn;change C[n]=y at hy;let hyp:=ER y (agC hy)
     let Yf:∀k,k<=2* ⇑rows->⇑(M24.da f y C k)<=p:=λk hk=>M11.eF p _ (M24.oK nd k) λz hz=>by
      rcases M24.jd.mp hz with q|⟨i,hi,rfl⟩
      ·rwa[(ER z q).1]
      ·rwa[(Ye y i hyp (by omega)).1]
     let hRy:∀k,(M24.da f y C k)[n]?\y:=λk=>by
      let⟨t,e⟩:=M24.mz f y C k;rw[e,agN hn];rwa[hy]
     let Yg:⇑C<=p:=Yf 0 (ahd _);erw[_,λ fm H' h=>h];erw[121122,(1),(⇑rows:Int)+ 1,2,⟨3333⟩]
     let' Lx:Nat->St->Hp->Prop:=λi X H6=>∃l g d:Zc,X=#v[↑a,.int ⇑rows,↑ta,↑ra,↑pa,.int x,.int O,.str (tx ot),↑t,some .non,↑tb,↑lp,↑L,.int n,l,g,d,none,none]/\aq H3 H6/\H6 L\(.lst (ao (nI (M24.da f y C (2* i)))))
     rwa[jk (lo:=1) (n:=((⇑rows:Int)+ 1 - 1).toNat) Lx ⟨l,g,d,2,s5,J⟩ ?_ ?_]
     ·clear J s5 h;intro i X H6 hi I;rwa[eR ?_];intro U;let⟨l,g,d,rfl,s6,Jo⟩:=I;dsimp only[U];clear U;rwa[⟨121212,by show 2<=sizeLine;decide,λq nq=>⟨q,2,⟨_,aD.of ah⟩,5⟩⟩];let Z:=aq.upd (o:=.lst [V.int (1+ (i:Int)),V.int (-(1+ (i:Int)))]) nq
      let' aaC:Nat->St->Hp->Prop:=λj X H7=>∃g d:Zc,X=#v[↑a,.int ⇑rows,↑ta,↑ra,↑pa,.int x,.int O,.str (tx ot),↑t,some .non,↑tb,↑lp,↑L,.int n,.int (1+ (i:Int)),g,d,none,none]/\aq H3 H7/\H7 q\.lst [V.int (1+ (i:Int)),V.int (-(1+ (i:Int)))]/\H7 L\(.lst (ao (nI (M24.da f y C (2* i+ j)))))
      rwa[eP (K:=K) (a:=q) (xs:=[V.int (1+ (i:Int)),V.int (-(1+ (i:Int)))]) aaC ⟨g,d,2,s6.trans Z,ah,Z^Jo⟩ (λj X H7 _ ζ=>by let⟨_,_,_,_,h,_⟩:=ζ;rwa[aD.of h]) ?_ ?_]
      ·clear Z;intro j v X H7 hj I;rwa[eR ?_];intro U;let⟨g,d,rfl,s7,Jp,F⟩:=I;dsimp only[U];clear U;let hj2:j<2:=(agE.mp hj).1
       let ev:v=.int (M12.st (2* i+ j)):=by
        unfold M12.st;rcases (show j=0\/j=1 by omega) with rfl|rfl
        ·rw[ag8 (by omega)];rwa[(Za0 hj).symm.trans (ahS V.int ∅)]
        ·rw[ag3 ∅];rwa[(Za0 hj).symm.trans (ahS V.int ∅)]
       subst ev;let Jk:2* i+ j<2* ⇑rows:=∅
       let C8:=M24.iq f y C (2* i+ j);let Yh:=hRy (2* i+ j);let hCl:=Yf (2* i+ j) ∅;change M24.da f y C (2* i+ j)=B at F C8 Yh hCl;unfold M24.add at C8;rw[hf]at C8;rwa[⟨121212,L,11122,aD.of F,cD (bU (gk Yh)),12,by show 1<=sizeLine;decide,λq8 nq8=>?_⟩];let Z:=aq.upd (o:=.tup [V.int (M12.st (2* i+ j))]) nq8;erw[ta,q8,rows,p,y,[M12.st (2* i+ j)],2,M.same (s7.trans Z),wY,hyp.1,3,ah,nL Jk,3];replace s7:=s7.trans Z;replace Jp:=Z^Jp;replace F:=Z^F;change upd H7 q8 (.tup [V.int (M12.st (2* i+ j))])=H8 at s7 Jp F ⊢;rwa[⟨15,λ_ _ h=>h⟩];erw[12121,L,122,F,12]
       let em:((sf rows y (M12.st (2* i+ j)):Nat):Int)∈nI B↔sf rows y (M12.st (2* i+ j))∈B:=by
        unfold nI;rw[ahu];rwa[λ⟨b,hb,e⟩=>by rw[<-Int.ofNat.inj e];rwa[hb],λh=>⟨_,h,2⟩]
       cases hm:sf rows y (M12.st (2* i+ j))∈B
       ·rw[ag8 hm]at C8;rwa[ki (em.mpr hm) ⟨112,s7,Jp,by rw[<-Nat.add_assoc,hf,C8];rwa[F]⟩]
       ·rw[ag3 hm]at C8;rwa[bW (λ_=>?_) λh=>absurd ?_ h]
        ·erw[12,.inl ⟨21,aD.of F⟩,12,L,1122,F,[aI,bF]▸agO (show ⇑B<=300 by omega) ⋯];rwa[112,λb o e=>[ak (av e EL)]▸s7^e,[ak (λz=>by rw[z,Jo]at nq;ext nq)]▸Jp,by rw[ah,<-Nat.add_assoc,hf,C8,gn,ints_app];rfl]
        ·rw[show decide (((List.foldl (sf rows) y [M12.st (2* i+ j)]:Nat):Int)∈nI B)=false from ahD λz=>hm (em.mp z)];rfl
      ·intro X H7 I;rwa[eR ?_];intro U;let⟨g,d,rfl,s7,_,F⟩:=I;dsimp only[U];clear U;rwa[1112,s7,F]
     ·intro X H6 I;rwa[eR ?_];intro U;let⟨l,g,d,rfl,s6,Jo⟩:=I;dsimp only[U];clear U;rw[show ((⇑rows:Int)+ 1 - 1).toNat=⇑rows by ext,<-os y hy]at Jo;rwa[121122,p - (n+ 1),3,n+ 1,11122,s6,Jo]
    ·rwa[n,l,g,d,2,s5,[hC]▸J,by
      rw[hC];rcases aiS n ⇑C with q|q
      ·rwa[absurd (ahh (by rw[aI,bF];omega)) h]
      ·rwa[q]]
   intro fm H5 I;rwa[eR ?_];intro U;let⟨n,l,g,d,rfl,s5,J,hn⟩:=I;dsimp only[U];clear U;let ER:=al n;let nd:=M24.gA f (2* ⇑rows) x n;let Yg:=M11.eF p _ nd λc hc=>(ER c hc).1
   let⟨ev,all⟩:=cov (M24.aX f (2* ⇑rows) x n) nd (by
    let⟨t,e⟩:=M24.xE f (2* ⇑rows) x 0 n;rw[ajW]at e
    rw[e];rwa[agP]) (λy hy=>(ER y hy).2) λy hy kk hk=>by
    let⟨i,hi⟩:=ahs hy;have:=M24.jN (ahc (agE.mp hi).1 hn) hi hk
    rwa [show f kk y=sf rows y (M12.st kk) by rw[hf]]at this
   change M24.aX f (2* ⇑rows) x n=C at J ev all Yg;replace Y:=s5^Y;replace a2:=a2.same s5;replace wP:=wP.same s5;replace Cz:=s5^Cz;clear cov ND mv s5 M;erw[12,.inl ⟨21,aD.of Y⟩,12,lp,1122,Y];erw[12,L,2,⟨_,aD.of J⟩]
   let' aaD:Nat->St->Hp->Prop:=λj X H7=>∃d:Zc,X=#v[↑a,.int ⇑rows,↑ta,↑ra,↑pa,.int x,.int O,.str (tx ot),↑t,some .non,↑tb,↑lp,↑L,.int n,l,g,d,.int ((nI ((List.range N).map φ)).count (x:Int):Nat),none]/\H7=H5
   rwa[eP (K:=K) (a:=L) (xs:=ao (nI C)) aaD ⟨d,22⟩ (λj X H7 _ ζ=>by let⟨_,_,h⟩:=ζ;rwa[[h]▸aD.of J]) ?_ ?_]
   ·rintro j v X H7 hj ⟨d,rfl,rfl⟩
    try dsimp only[lA]
    rwa[mq ?_];intro NK;let⟨z,rfl,hz⟩:=cI hj;let⟨y,hy,rfl⟩:=Jd hz;rwa[⟨12,.inl ⟨21,aD.of Y⟩,12,lp,1122,Y,12212,ki ?_ ⟨122⟩⟩];rw[vd,vd,ev y (agC hy)]
   rintro X H7 ⟨d,rfl,rfl⟩;rwa[⟨1212,L,12,.inl (aD.of J),1122,.inr ⟨by rw[aI,bF];ext,by rw[aI,bF];ext⟩,12,tb,12,.inl (aD.of Cz),212,ki (by rw[aI,bF,vd,o6,<-Int.natCast_mul,all]) ?_⟩];erw[12,tb,12,.inl (aD.of Cz),(N:Int),by rw[o6],33]
   haveI:DecidablePred (Lk TT ⇑rows):=λ_=>Classical.propDecidable _
   rwa[Dg (n:=N) (λr=>decide (Lk TT ⇑rows r)) ∅ (λi H8 Rr hi s8 hR=>?_) (λi H8 Rr hR=>⟨12,hR⟩) λD H8 s8 nD=>?_]
   ·rwa[⟨1212,tb,TT,⇑rows,i,by rw[ajX];rfl,a2.same s8,tab,3,λb H9 s9 hb=>?_⟩];rw[show b=decide (Lk TT ⇑rows i) from ahM.mpr (hb.trans ahr.symm)];rwa[12,hR H9 s9]
   let Ey:P_=[]->⇑((List.range N).filter λr=>decide (Lk TT ⇑rows r))=N:=λe=>by
    subst e;rw[List.filter_eq_self.mpr λr hr=>ahh (ft.all (ahj.mp hr)),ahp]
   let UG:0∈(List.range N).filter λr=>decide (Lk TT ⇑rows r):=aie.mpr ⟨ahj.mpr ft.pos,ahh λ_ _ _ _ e=>e⟩
   let⟨kk,hk⟩:=ft.Fh (b:=λr=>decide (Lk TT ⇑rows r)) λr _=>ahr
   change (List.range N).filter (λr=>decide (Lk TT ⇑rows r))=G at Ey UG hk ⊢;let s9:=s8.trans (aq.upd (o:=.lst (ao (nI G))) nD);let hG:upd H8 D (.lst (ao (nI G))) D\(.lst (ao (nI G))):=ah;change upd H8 D (.lst (ao (nI G)))=H9 at s9 hG ⊢;let hNp:=ft.pos;let hGp:=List.length_pos_of_mem UG
   let' aaE:St->Hp->Prop:=λ fm H'=>fm=#v[↑a,.int ⇑rows,↑ta,↑ra,↑pa,.int x,.int O,.str (tx ot),↑t,some .non,↑tb,↑lp,↑L,.int n,l,g,d,.int ((nI ((List.range N).map φ)).count (x:Int):Nat),↑D]/\aq H9 H'
   erw[aaE,5]
   ·rwa[mq ?_];intro NK;rwa[⟨12,ahd _,λq nq=>?_⟩];let Z:=aq.upd (o:=.lst []) nq;rwa[⟨pa,q,P_,[],22,(wP.same s9).same Z,⟨[],ah,2,λi p w h=>by simp at h⟩,12,bW (λh=>?_) λ_=>dY ⟨2,Z⟩⟩];rwa[⟨12,D,12,.inl (aD.of (Z^hG)),12,tb,12,.inl (aD.of (Z^s9^Cz)),212,ki (by rw[aI,bF,o6,Ey (ahn h)]) ⟨2,Z⟩⟩]
   rintro fm Ej ⟨rfl,UH⟩;rwa[⟨121,D,122,UH^hG,12,bW (λ_=>?_) λh=>absurd (ahh ?_) h⟩]
   ·erw[12,tb,12,.inl (aD.of (UH^s9^Cz)),12,D,12,.inl (aD.of (UH^hG)),1122,(by rw[aI,bF];omega),2];rw[aI,bF,o6,<-hk,Int.natCast_mul,Int.mul_emod_right,ahh rfl];rwa[k _]
   ·rwa[ahu.mpr ⟨(0),UG,2⟩]
  ·erw[q,12,bN.of a0,21121122];rwa[⟨12212,bW (λ_=>k _) λh=>absurd (by rfl) h⟩]
end
def all_mk {l:PySem.W.OpenLaw}(p:M "law"=some ↑a)
 {b g f m d i j n h:Zs}
 {o k:Zs}
 {f1 f2 f3 f4 f5 f6 f7 f8 f9 Io O D f13 f14 MR x J f18 f19 f20 q f22 S Q f25 f26 E f28 R f30 f31 f32 f33 f34 f35 f36 A f38 F f40 f41 f42 f43 f44 f45 f46 f47 f48 G f50 H V f53:Zs} {d1 d2 d3 d4 d5 d6 d7 d8 d9 d10 C d12 t d14 d15 L d17 u y d20 W d22 d23 d24 d25 d26 d27 d28 d29 Z d31 U d33 d34 I z d37 d38 B d40 d41 P d43 d44 d45 X Y d48 N d50 d51 d52 r:FuncData}
 (T:Txt K M ⟨f1,d1,f2,d2,f3,d3,f4,d4,f5,d5,f6,d6,f7,d7,f8,d8,f9,d9,Io,d10,O,C,D,d12,f13,t,f14,d14,MR,d15,x,L,J,d17,f18,u,f19,y,f20,d20,q,W,f22,d22,S,d23,Q,d24,f25,d25,f26,d26,E,d27,f28,d28,R,d29,f30,Z,f31,d31,f32,U,f33,d33,f34,d34,f35,I,f36,z,A,d37,f38,d38,F,B,f40,d40,f41,d41,f42,P,f43,d43,f44,d44,f45,d45,f46,X,f47,Y,f48,d48,G,N,f50,d50,H,d51,V,d52,f53,r,b,g,f,m,d,i,j,n,h,o,k⟩)
 :∃fd:FuncData,(∃fd2 c,LamAt K fd2 c k)/\(∀(s:Zu) (v:Zt),BindsTo s fd ⟨[v],[]⟩ [("_law_script",v)])/\∀base:Heap,K.In base->base.Ns mainGlobals M->j7 M base->dk l.prog w K M base (c9 l.prog w) 13 a fd ["_law_script"] (zH K k):=by
 let e:=p.symm.trans T.law.m;ext e;let⟨kV,doc,pm,an,cz,ct,e⟩:=T.law.fd;rwa[_,⟨11,T.lam⟩,λs v=>[e]▸.of_eq rfl,λbase _ _ Ew=>UB T Ew]
def walk {l:PySem.W.OpenLaw}{loose:Zp}{XP:(Str->Zl)->Heap->Prop}{j:World->Heap->Prop}{d:DefRec}{K:Params->Za1}(r:l.most\63)(g:d.params.defaults=[])
 (p:∀(w:World) (h:Heap),j w h->(K w.params).In h/\h.get? a\(PySem.W.tabObj #[]))
 (F:∀(w:World) (e:Str->Zl) (i:Zs) (h:Heap),(K w.params).In h->h.Ns mainGlobals e->e d.name\↑i->
  ∃fd:FuncData,(∃fd2 c,LamAt (K w.params) fd2 c a)/\(∀(s:Zu) (u:Zt),BindsTo s fd ⟨[u],[]⟩ [("_law_script",u)])/\∀base:Heap,(K w.params).In base->base.Ns mainGlobals e->j7 e base->dk l.prog w (K w.params) e base (c9 l.prog w) 13 i fd ["_law_script"] (zH (K w.params) a)):
 PySem.W.WalkO P loose XP j l.row.toRowW d [] (λf o=>PySem.call f o):=
 L2.Kg (n:=63) (k:=13) (x:="_law_script") (CX:=λw=>(c9 l.prog w)) (sp:=λw=>zH (K w.params) a) r ⋯ g ⟨244⟩ p F (λ_ _ b m q t v=>⟨b,m,2,v,q,t,λ_=>rfl⟩) λ_ _ _ _ _ z=>Mw z
end K39
end Lake
open PySem PySem.W PyProof.Rows
namespace PySem.W.Fast
universe tw18157211231363465795 tw2903020272763114489 tw6476396184425005086 tw6841611444164561965 tw3954092702758049661 tw6365226346001282473 tw1618342141174304948 tw122619712743772920 tw10855613016862581364 tw16951899615752069784 tw9295049530946242179 tw11281761516306963161 tw4207398361141348647 tw10764424807950941347 tw13541888737283217559 tw164001529171903720 tw2798717301715653092 tw8502724744604084644 tw5291213575020786448 tw8439906763917445638 tw5170704587332186476 tw4551772939988993669 tw14677288365886395241 tw8899744515477530596 tw3062155444011212117 tw15214674865810764153 tw14059640665491702333 tw9266377825648674111 tw12521198738987740092 tw17349473650433209177 tw9554557983462227284 tw4303435361848467961 tw11292622321263158356 tw7456212304433999561 tw4554754034939761817 tw13366257958258395045 tw13784890666580456607 tw5194540928338696906 tw9810525687176993009 tw5630789721447000516 tw10049650675222316083 tw6137739830934428479 tw2310445121654389820 tw7516148714175407901 tw480412891776407293 tw17404509290422203565 tw10829275827425932243 tw11128881620789297650 tw8770349733275755527 tw7458579617497412213 tw18353395429442345861 tw10345121905530509633 tw266950397144745152 tw17261364439316971024 tw18128410055439470778 tw13295760760400091896 tw1095169258647485279 tw7513658065876351760 tw7808732304990903339 tw18057566741259282332 tw7133924443935504655 tw13371149545832768687 tw14644468409738383066 tw12704675532813590941 tw14253053899587085635 tw18167037170194516627 tw5856055324451049933 tw6008334784638363212 tw17132477419119597408 tw11645364708773323943 tw8652391325985981012 tw15616049644856147923 tw4235650889027523998 tw9673980112033088401 tw2311971799413513757 tw14156863883014091510 tw47829246590565575 tw16223666191973480400 tw10382169121737612978 tw9622800366112798091 tw15858139688209495849 tw1920659768934224058 tw3005113145677803724 tw9817642996174398035 tw6394582017661090948 tw5431726248972709753 tw18292506018871748546 tw6168515358282433872 tw7696024805456791488 tw204546863576466100 tw17414037658607437926 tw1585268333673436796 tw13792309196992307362 tw11557303187458128411 tw7784477236367729592 tw6176527607996398032 tw10927383947788700699 tw17928449201507894256 tw6576641176349269790 tw17141580351873591631 tw1966470802544760008 tw4822713416051531975 tw8022520772164660402 tw10548452080567227900 tw11685065932951248261 tw10853521178192461724 tw15922454826014519509 tw10394398094654870129 tw4966872914254684478 tw16394019477039873988 tw2908841990410796672 tw16855594507051986037 tw14779458586800610913 tw11998230041278862989 tw16335224935334364495 tw17789993895947099328 tw17552395290213879257 tw3288348368229130538 tw17444056028688887941 tw15940109592926260005 tw5704129853519117570 tw17673828348744145021 tw1219734665127804624 tw17286616410703855675 tw16326348431245227148 tw3491902842906231083 tw12621058012951338269 tw13956629722334637999 tw14207200337246275270 tw12012831553495851204 tw1848709614720999603 tw11783881674119777812 tw2333195847555204497 tw15843409399488204874 tw12015506324482250442 tw6086998128237782924 tw12240062339263339404 tw9754002422206289798 tw1912048650715911195 tw13070781357669070267 tw13621282335168592937 tw16698592013780874409 tw9964970473744572954 tw9522204335050788997 tw3966627969091565060 tw16419178549036607201 tw8534538485095304069 tw8954997812960897440 tw16361506194836599211 tw14425355411670960838 tw14121930051705696282 tw3573092033783498929 tw9102926374088955551 tw3139689188196370300 tw13523051948780565291 tw17978384963327209490 tw16176485860849798484 tw14166330457085683820 tw13947348969592080111 tw4495473466025429842 tw14669379090812884945 tw11957309964501537576 tw15485417144713269926 tw16914477458280316198 tw16109355162404133092 tw13343115539560978771 tw6253657700245088517 tw9327891460582761126 tw5930237575639455140 tw15275051817826635242 tw8289205590909668014 tw12902459910675988765 tw6595160505595173964 tw16955378536166277731 tw16898267831938197167 tw2090088133263921622 tw456615692488460782 tw13074593323887833107 tw1911969789781300718 tw10597085528692319873 tw3423413259720230330 tw4543825410039683626 tw15622932699573087039 tw739883342100484931 tw10854715801994613302 tw2887609162767527280 tw7296540946009102373 tw14241627355131247225 tw3609075583627858499 tw1583545170539118749 tw17231442375690190252 tw6311205662937864599 tw299741364729449908 tw10260393904333640435 tw16442599988556140060 tw9649583821015366455 tw5888680876072737393 tw8523886492846255167 tw3819831013338318777 tw11104806416845510180 tw10140740626555395834 tw4181539177197130816 tw10571644826503956251 tw12621895462546961433 tw11947788071158789540 tw13599000976981601377 tw15077745647255603844 tw17064043800372050961 tw12935961722314934364 tw2633677322973742572 tw4438508902026849324 tw2700256508816517039 tw667592879694501732 tw8651831290120298247 tw17040343865442767049 tw12941619934045186889 tw9472435318287205019 tw6934221427729518687 tw4871356757850843951 tw17492846572246933921 tw1747750047323593576 tw14963259006418746325 tw10981919371604440077 tw903672234076776173 tw5236769445326587029 tw13736093536449447051 tw2982542886281683 tw16225270252299122357 tw10761020261162681653 tw17737947475195848627 tw10210941966700251626 tw9550394673193848299 tw9492314490973763725 tw9370211779115177296 tw8782737219894105060 tw8351585637498254084 tw6624519154591168400 tw614714952206566354 tw5407275624643063005 tw3879750289990350891 tw2837075352964284836 tw2529870142610133985 tw17813782967940778057 tw17344615035217768693 tw16662488621101322897 tw15372749955697545407 tw14312146229342729898 tw12051260456170827811 tw13748349237788525915 tw17970607714653177886 tw17797665722162583855 tw11745220589554704765 tw187201757368507654 tw17456609463748451009 tw3466803989715728193 tw10914133695690801451 tw10734373985866596258 tw3291839935391593306 tw10390024375498664504 tw13103730181739540160 tw7323642376208593274 tw14673631425904176925 tw12878869757230150836 tw123276768476931598 tw18014888180710321898 tw11683608865706568409 tw9114848700263938544 tw7561837073465415303 tw7553421549131846032 tw4900916394009537454 tw4667467617415811844 tw3610456756679189319 tw2616837092544418024 tw2579432834433849270 tw2507436408030300615 tw18170681559992162566 tw17524922587100457314 tw14867471085285131721 tw13235184306536492239 tw11999175659906777003 tw11947068126772810083 tw8822134664786960663 tw6716342081151818064 tw4721304073613206 tw15117106529841264797 tw17761224720655456621 tw10900332534645444946 tw16076781979437909507 tw3568806406027533894 tw6584578738255665462 tw14225356518525325981 tw13608760734735949851 tw8180442421893612942 tw9304874245284626044 tw16484749747161460245 tw11847730686750288996 tw5365186464412747908 tw9205604988836417017 tw7929347334055557903 tw16627165081517400958 tw12687763629789675876 tw3283969429886874044 tw2879559425289010603 tw16778963395047539413 tw13986788961519872974 tw1345236508887440336 tw10864174057605751721 tw10667671572213355819 tw688342278546849858 tw15350290638694668126
end PySem.W.Fast
end
open Lake
set_option maxRecDepth 100000 in
set_option maxHeartbeats 0 in
theorem PySem.Challenge.cw_cosetyard_k39_whole_over_points_alike_holds : PySem.Challenge.rw_cosetyard_k39_whole_over_points_alike.Holds := by
  w_on; o_law; k_head;(case hw => w_witness2)
  k_fill
  refine K39.walk (l := PySem.Challenge.rw_cosetyard_k39_whole_over_points_alike) rfl rfl (fun w h Y => ⟨PySem.W.km_in_of Y, PySem.W.km_tabs_of Y _ (List.Mem.head _)⟩) ?F
  case F =>
    intro w mg fa h KX G hmg
    refine' K39.all_mk hmg ⟨?D1,?D2,?D3,?D4,?D5,?D6,?D7,?D8,?D9,?D10,?D11,?D12,?D13,?D14,?D15,?D16,?D17,?D18,?D19,?D20,?D21,?D22,?D23,?D24,?D25,?D26,?D27,?D28,?D29,?D30,?D31,?D32,?D33,?D34,?D35,?D36,?D37,?D38,?D39,?D40,?D41,?D42,?D43,?D44,?D45,?D46,?D47,?D48,?D49,?D50,?D51,?D52,?D53,?z1,?z2,?z3,?z4,?z5,?z6,?z7,?z8,?z9,?z10,?z11,?z12,?z13,?y_YardError,?y_NoOrder,?y_TooMany,?y_Order,?y_ByLetters,?y_Newest,?y_Rooms,?y_Going,?y_Closing,_,_,_,_,_,_,_,_,_,_,_,_,_,_,_,_,_,_,_,_,_,_,_,_,_,_,_,_,_,_,_,_,_,_,_,_,_,_,_,_,_,_,_,_,_,_,_,_,_,_,_,_,_,_,_,_,_,_,_,_,_,_,_,_,_,_,_,_,_,_,_,_,_,_,_,_,_,_,_,_,_,?w_lam⟩
    all_goals try dsimp only
    (case y_YardError|y_NoOrder|y_TooMany|y_Order|y_ByLetters|y_Newest|y_Rooms|y_Going|y_Closing => refine' PySem.W.mg_of KX G ?a;(case a => k_is))
    (case D1|D13|D14|D15|D21 => refine' L2.Def.of KX G ?_ ?_ ?_ ?_ (fun _ _ _ _ _ _ _ hl => by obtain ⟨_, _, _, rfl⟩ := L2.args_is3 hl; rfl);all_goals try k_is)
    (case D2|D3|D4|D5|D6|D8|D9|D18|D20|D23 => refine' L2.Def.of KX G ?_ ?_ ?_ ?_ (fun _ _ _ _ _ _ _ hl => by obtain ⟨_, rfl⟩ := L2.args_is1 hl; rfl);all_goals try k_is)
    (case D7|D11|D12|D22 => refine' L2.Def.of KX G ?_ ?_ ?_ ?_ (fun _ _ _ _ _ _ _ hl => by obtain ⟨_, _, rfl⟩ := L2.args_is2 hl; rfl);all_goals try k_is)
    (case D10 => refine' L2.DDef.of KX G ?_ ?_ ?_ ?_ ?_ (fun _ _ _ _ _ _ _ hl => by obtain ⟨_, _, _, _, _, rfl⟩ := L2.args_is5 hl; exact ⟨_, rfl, rfl⟩) (fun _ _ _ _ _ _ _ hl => by obtain ⟨_, _, _, _, rfl⟩ := L2.args_is4 (Nat.succ.inj hl); exact ⟨_, rfl, rfl⟩);all_goals try k_is)
    (case D16|D17 => refine' L2.Def.of KX G ?_ ?_ ?_ ?_ (fun _ _ _ _ _ _ _ hl => by obtain ⟨_, _, _, _, rfl⟩ := L2.args_is4 hl; rfl);all_goals try k_is)
    (case D19 => refine' L2.Def.of KX G ?_ ?_ ?_ ?_ (fun _ _ _ _ _ _ _ hl => by obtain ⟨_, _, _, _, _, rfl⟩ := L2.args_is5 hl; rfl);all_goals try k_is)
    (case D24|D27|D29|D33|D50 => refine' L2.MDef.of ?_ ?_ ?_ ?_ ?_ (fun _ _ _ _ _ _ _ hl => by obtain ⟨_, _, _, _, rfl⟩ := L2.args_is4 hl; rfl);all_goals try k_is)
    (case D25|D26|D28|D32|D34|D37|D39|D40|D41|D42|D46|D49 => refine' L2.MDef.of ?_ ?_ ?_ ?_ ?_ (fun _ _ _ _ _ _ _ hl => by obtain ⟨_, _, rfl⟩ := L2.args_is2 hl; rfl);all_goals try k_is)
    (case D30|D36|D47|D48 => refine' L2.MDef.of ?_ ?_ ?_ ?_ ?_ (fun _ _ _ _ _ _ _ hl => by obtain ⟨_, rfl⟩ := L2.args_is1 hl; rfl);all_goals try k_is)
    (case D31|D35|D38|D43|D45|D51|D53 => refine' L2.MDef.of ?_ ?_ ?_ ?_ ?_ (fun _ _ _ _ _ _ _ hl => by obtain ⟨_, _, _, rfl⟩ := L2.args_is3 hl; rfl);all_goals try k_is)
    (case D44 => refine' L2.MDef.of ?_ ?_ ?_ ?_ ?_ (fun _ _ _ _ _ _ _ hl => by obtain ⟨_, _, _, _, _, rfl⟩ := L2.args_is5 hl; rfl);all_goals try k_is)
    (case D52 => refine' L2.MDef.of ?_ ?_ ?_ ?_ ?_ (fun _ _ _ _ _ _ _ hl => by obtain ⟨_, _, _, _, _, _, rfl⟩ := L2.args_is6 hl; rfl);all_goals try k_is)
    (case z1|z2|z3|z4|z5|z6|z7|z8|z9|z10|z11|z12|z13 => refine' PySem.W.mg_none_of KX G ?a;(case a => k_is))
    (case w_lam => refine' L2.LamAt.mk ?e ?h ?n;(case e => rfl);(case h => kernel_rfl);(case n => kernel_rfl))
    all_goals first|k_is|kit_is|kts_exm|kernel_rfl
